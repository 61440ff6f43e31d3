import Derived.Test.YtekekhgjobahaaaGreatDoorD7
set_option maxRecDepth 100000
namespace Go.Proofs.YtekekhgjobahaaaGreatDoor.scr
open Go.RowKit words cal


theorem Jwa {a b:OpB} (h:a.m=b.m):a=b:=by
 obtain⟨k,p,o,n,i,g⟩:=a;obtain⟨k',p',o',n',i',g'⟩:=b;unfold OpB.m opM at h;injection h with e1 e2 e3 e4 e5 e6;simp only at e1 e2 e3 e4 e5 e6;subst e1 e3 e4 e5;rw [Jbd e2,Jbd e6]
theorem Ji2 {α β:Type} {f:α→β} (hf:∀a b,f a=f b→a=b):∀{l l':List α},l.map f=l'.map f→l=l'
 |[],[],_=>rfl
 |[],_::_,h=>by cases h
 |_::_,[],h=>by cases h
 |a::l,b::l',h=>by
  simp only [List.map_cons,List.cons.injEq] at h;rw [hf a b h.1,Ji2 hf h.2]
theorem Jqv {S T:ScB} (h:S.m=T.m):S=T:=by
 obtain⟨a,b,c,d,e,f⟩:=S;obtain⟨a',b',c',d',e',f'⟩:=T;unfold ScB.m at h;injection h with e1 e2 e3 e4 e5 e6;simp only at e1 e2 e3 e4 e5 e6;subst e1 e2 e3 e6;rw [Ji2 (fun x y=>Jbd) e4,Ji2 (fun x y hxy=>Ji2 (fun _ _=>Jwa) hxy) e5]
def o1:OpB:=⟨7,⟨#[]⟩,0,0,5,⟨#[]⟩⟩
def scb1:ScB:=⟨1,2,3,[],[[o1]],[]⟩
def st1:ByteArray:=⟨#[114,111,111,109,32,49,32,50,32,51,10,99,108,105,101,110,116,10,99,108,111,115,101,32,53,10]⟩
def st2:ByteArray:=⟨#[114,111,111,109,32,49,32,50,32,51,10,99,108,105,101,110,116,10,99,108,111,115,101,10]⟩
theorem fits1:Fits scb1.m:=⟨by decide,by decide,by decide,fun _ h=>(by cases h),fun ops ho o hm=>by
  obtain rfl:ops=[o1.m]:=by simpa [scb1,ScB.m] using ho
  obtain rfl:o=o1.m:=by simpa using hm
  exact⟨by decide,by decide,by decide⟩,fun ops ho o hm=>by
  obtain rfl:ops=[o1.m]:=by simpa [scb1,ScB.m] using ho
  obtain rfl:o=o1.m:=by simpa using hm
  decide+kernel⟩
theorem room1:roomL scb1.m=[114,111,111,109,32,49,32,50,32,51]:=by
 unfold roomL scb1 ScB.m;simp only [List.map_cons,List.map_nil];rw [Jam (by decide) (by decide),Jam (by decide) (by decide),Jam (by decide) (by decide)];rfl
theorem Jqh:textM o1.m=[99,108,111,115,101,32,53]:=by
 unfold textM;rw [if_neg (by decide)];unfold restM o1 OpB.m opM;simp only;rw [if_neg (by decide),if_neg (by decide),if_pos (by decide),Jam (by decide) (by decide)];rfl
theorem Jym:parseS st1.data.toList= .inl scb1.m:=by
 have h:printM scb1.m=st1.data.toList:=by
  unfold printM linesM;rw [room1];show textT ([114,111,111,109,32,49,32,50,32,51]::([]++[clientW,textM o1.m]++[]))=_;rw [Jqh];rfl
 rw [←h];exact Jdu fits1
theorem Jyi:parseS st2.data.toList= .inr 3:=by
 have h1:takeM rd0 (roomL scb1.m)=some ⟨{sc0 with sh:=1,rm:=2,cu:=3},1⟩:=Jjg scb1.m fits1;rw [room1] at h1;have h2:takeM ⟨{sc0 with sh:=1,rm:=2,cu:=3},1⟩ clientW=some ⟨{sc0 with sh:=1,rm:=2,cu:=3,cl:=[[]]},2⟩:=Jge _ (.inl rfl);have h3:takeM ⟨{sc0 with sh:=1,rm:=2,cu:=3,cl:=[[]]},2⟩ [99,108,111,115,101]=none:=by
  have hc:cutL [99,108,111,115,101]=([99,108,111,115,101],[],false):=Jf9 (by decide);unfold takeM;rw [if_neg (show ¬(2:Nat)=0 by decide),if_neg (show ¬(2:Nat)=3 by decide),hc,if_neg (by decide),if_neg (by decide),if_neg (by decide),if_pos rfl];unfold parseM;rw [hc];rfl
 have hs:spl 10 st2.data.toList=[[114,111,111,109,32,49,32,50,32,51],clientW]++[[99,108,111,115,101],[]]:=by decide+kernel
 unfold parseS;rw [hs,Jl7 (ls:=[[114,111,111,109,32,49,32,50,32,51],clientW]) (by simp only [takesM,h1,h2]) h3];rfl
end Go.Proofs.YtekekhgjobahaaaGreatDoor.scr
