import Derived.Test.YtcoimjbhoiipoaaGreatDoorG48
set_option maxHeartbeats 6400000
set_option maxRecDepth 100000
open Go.Lib (hid)
open Go.Proofs.Tryz
namespace Go.Proofs.YtcoimjbhoiipoaaGreatDoor.scr
open Go.RowKit words cal

theorem Jrj {a b:OpB} (h:a.m=b.m):a=b:=by
 obtain⟨k,p,o,n,i,g⟩:=a;obtain⟨k',p',o',n',i',g'⟩:=b;unfold OpB.m opM at h;injection h with e1 e2 e3 e4 e5 e6;simp only at e1 e2 e3 e4 e5 e6;subst e1 e3 e4 e5;rw [Jcx e2,Jcx e6]
theorem Jgj {α β:Type} {f:α→β} (hf:∀a b,f a=f b→a=b):∀{l l':List α},l.map f=l'.map f→l=l'
 |[],[],_=>rfl
 |[],_::_,h=>by cases h
 |_::_,[],h=>by cases h
 |a::l,b::l',h=>by
  simp only [List.map_cons,List.cons.injEq] at h;rw [hf a b h.1,Jgj hf h.2]
theorem Jra {S T:ScB} (h:S.m=T.m):S=T:=by
 obtain⟨a,b,c,d,e,f⟩:=S;obtain⟨a',b',c',d',e',f'⟩:=T;unfold ScB.m at h;injection h with e1 e2 e3 e4 e5 e6;simp only at e1 e2 e3 e4 e5 e6;subst e1 e2 e3 e6;rw [Jgj (fun x y=>Jcx) e4,Jgj (fun x y hxy=>Jgj (fun _ _=>Jrj) hxy) e5]
def o1:OpB:=⟨7,⟨#[]⟩,0,0,5,⟨#[]⟩⟩
def scb1:ScB:=⟨1,2,3,[],[[o1]],[]⟩
def st1:ByteArray:=⟨#[114,111,111,109,32,49,32,50,32,51,10,99,108,105,101,110,116,10,99,108,111,115,101,32,53,10]⟩
def st2:ByteArray:=⟨#[114,111,111,109,32,49,32,50,32,51,10,99,108,105,101,110,116,10,99,108,111,115,101,10]⟩
theorem fits1:Fits scb1.m:=⟨by decide,by decide,by decide,fun _ h=>(by cases h),fun ops ho o hm=>by
  obtain rfl:ops=[o1.m]:=by simpa [scb1,ScB.m] using ho
  obtain rfl:o=o1.m:=by simpa using hm
  exact⟨by decide,by decide,by decide⟩,fun ops ho o hm=>by
  obtain rfl:ops=[o1.m]:=by simpa [scb1,ScB.m] using ho
  obtain rfl:o=o1.m:=by simpa using hm
  decide+kernel⟩
theorem room1:roomL scb1.m=[114,111,111,109,32,49,32,50,32,51]:=by
 unfold roomL scb1 ScB.m;simp only [List.map_cons,List.map_nil];rw [Je1 (by decide) (by decide),Je1 (by decide) (by decide),Je1 (by decide) (by decide)];rfl
theorem Jre:textM o1.m=[99,108,111,115,101,32,53]:=by
 unfold textM;rw [if_neg (by decide)];unfold restM o1 OpB.m opM;simp only;rw [if_neg (by decide),if_neg (by decide),if_pos (by decide),Je1 (by decide) (by decide)];rfl
theorem Jh0:parseS st1.data.toList= .inl scb1.m:=by
 have h:printM scb1.m=st1.data.toList:=by
  unfold printM linesM;rw [room1];show textT ([114,111,111,109,32,49,32,50,32,51]::([]++[clientW,textM o1.m]++[]))=_;rw [Jre];rfl
 rw [←h];exact Jjt fits1
theorem Jiv:parseS st2.data.toList= .inr 3:=by
 have h1:takeM rd0 (roomL scb1.m)=some ⟨{sc0 with sh:=1,rm:=2,cu:=3},1⟩:=Jhp scb1.m fits1;rw [room1] at h1;have h2:takeM ⟨{sc0 with sh:=1,rm:=2,cu:=3},1⟩ clientW=some ⟨{sc0 with sh:=1,rm:=2,cu:=3,cl:=[[]]},2⟩:=Jfs _ (.inl rfl);have h3:takeM ⟨{sc0 with sh:=1,rm:=2,cu:=3,cl:=[[]]},2⟩ [99,108,111,115,101]=none:=by
  have hc:cutL [99,108,111,115,101]=([99,108,111,115,101],[],false):=Jig (by decide);unfold takeM;rw [if_neg (show ¬(2:Nat)=0 by decide),if_neg (show ¬(2:Nat)=3 by decide),hc,if_neg (by decide),if_neg (by decide),if_neg (by decide),if_pos rfl];unfold parseM;rw [hc];rfl
 have hs:spl 10 st2.data.toList=[[114,111,111,109,32,49,32,50,32,51],clientW]++[[99,108,111,115,101],[]]:=by decide+kernel
 unfold parseS;rw [hs,Jmv (ls:=[[114,111,111,109,32,49,32,50,32,51],clientW]) (by simp only [takesM,h1,h2]) h3];rfl
theorem Jl3 (m:Int) (w:World) (hE:Env m w):Calls prog 4 #[] w (AnsB true w):=by
 have HE:=hid hE;have HP1:=hid (Jgc m st1 w (by decide) hE);clear hE;unfold st1 at HP1;go_enter func4,ntmps4
 go_wp2_with fail
 refine HP1.out.mono ?_;rintro e w2 ⟨ho,hb2⟩;rcases ho with⟨S,vi,vc,vp,hp,rfl,hown,_⟩ |⟨b,hp,_⟩
 rotate_left 1
 ·rw [show (⟨#[114,111,111,109,32,49,32,50,32,51,10,99,108,105,101,110,116,10,99,108,111,115,101,32,53,10]⟩:ByteArray)=st1 from rfl,Jh0] at hp
  cases hp
 rw [show (⟨#[114,111,111,109,32,49,32,50,32,51,10,99,108,105,101,110,116,10,99,108,111,115,101,32,53,10]⟩:ByteArray)=st1 from rfl,Jh0] at hp;injection hp with hp;have hS:=Jra hp;subst hS;obtain⟨Ai,ci,Ac,cc,Ap,cp,rfl,rfl,rfl,hsc⟩:=hown.form;obtain⟨b,off,A2,c2,rfl,h2,h3,h4⟩:=hsc.cl 0 [o1] rfl;obtain⟨b2,off2,rfl,h5,h6⟩:=h4 0 o1 rfl;have k0:=h6 0 _ rfl;have k1:=h6 1 _ rfl;have k2:=h6 2 _ rfl;have k3:=h6 3 _ rfl;have k4:=h6 4 _ rfl;have k5:=h6 5 _ rfl;simp only [Nat.zero_mul,Nat.add_zero] at k0 k1 k2 k3 k4 k5 h3;obtain⟨W3,hW3⟩:=words.nm (w2.alloc (.cells #[.int .i64 1,.int .i64 2,.int .i64 3,.slice Ai 0 ci,.slice (some ⟨b,off,none⟩) 1 cc,.slice Ap 0 cp] 46));have hb3:Below w2.heap.size w2 W3:=words.b1 hW3;obtain⟨g,hg⟩:=words.nm (w2.heap.size);have x3:W3.heap[g]?=some (.cells #[.int .i64 1,.int .i64 2,.int .i64 3,.slice Ai 0 ci,.slice (some ⟨b,off,none⟩) 1 cc,.slice Ap 0 cp] 46 (0,0)):=by rw [hW3,hg];exact heap_alloc_new w2 _
 have HB3:=hid (hb2.trans (hb3.mono hb2.size));have HX:=hid x3;have HP2:=hid (Jgc m st2 W3 (by decide) (HE.out.later HB3.out));have HK:Hid (∀w',Below W3.heap.size W3 w'→w'.cell? ⟨b,off,none⟩=some (.slice (some ⟨b2,off2,none⟩) 1 c2)∧w'.cell? ⟨b2,off2,none⟩=some (.int .i64 7)∧w'.cell? ⟨b2,off2+1,none⟩=some (.string ⟨#[]⟩)∧w'.cell? ⟨b2,off2+2,none⟩=some (.int .i64 0)∧w'.cell? ⟨b2,off2+3,none⟩=some (.int .i64 0)∧w'.cell? ⟨b2,off2+4,none⟩=some (.int .i64 5)∧w'.cell? ⟨b2,off2+5,none⟩=some (.string ⟨#[]⟩)):=hid fun w' hb=>by
  have q1:∀{o:Nat} {v:Value},w2.cell? ⟨b,o,none⟩=some v→w'.cell? ⟨b,o,none⟩=some v:=fun {o v} hv=>((hb3.trans (hb.mono hb3.size)).cell (p:=⟨b,o,none⟩) h2).trans hv;have q2:∀{o:Nat} {v:Value},w2.cell? ⟨b2,o,none⟩=some v→w'.cell? ⟨b2,o,none⟩=some v:=fun {o v} hv=>((hb3.trans (hb.mono hb3.size)).cell (p:=⟨b2,o,none⟩) h5).trans hv;exact⟨q1 h3,q2 k0,q2 k1,q2 k2,q2 k3,q2 k4,q2 k5⟩
 have HW3:=hid hW3;have HG:=hid hg;clear hW3 hb3 hg x3 h2 h3 h4 h5 h6 k0 k1 k2 k3 k4 k5 hsc hown hb2 hp HP1;unfold st2 at HP2;unfold scV;go_upto_region 2 with fail
 simp only [scb1,List.length_nil,List.length_cons,Nat.zero_add];rw [←HW3.out];simp only [←HG.out];clear HW3;go_wp2_with fail
 refine HP2.out.mono ?_;rintro e w4 ⟨ho,hb4⟩;have e2:(⟨#[114,111,111,109,32,49,32,50,32,51,10,99,108,105,101,110,116,10,99,108,111,115,101,10]⟩:ByteArray)=st2:=rfl;rcases ho with⟨S,vi,vc,vp,hp,_⟩ |⟨n,hp,rfl⟩
 ·rw [e2,Jiv] at hp
  cases hp
 rw [e2,Jiv] at hp;injection hp with hp;subst hp;obtain⟨W5,hW5⟩:=words.nm (w4.alloc (.cells #[.int .i64 0,.int .i64 0,.int .i64 0,.slice none 0 0,.slice none 0 0,.slice none 0 0] 46));have hb5:Below W3.heap.size W3 W5:=by rw [hW5];exact hb4.trans (((Below.refl _ _).alloc (Nat.le_refl _) _).mono hb4.size)
 obtain⟨d3,k0,k1,k2,k3,k4,k5⟩:=HK.out W5 hb5;have x5:=(hb5.block _ (lt_of_some HX.out)).trans HX.out;have y0:=Jaa x5 0;have y1:=Jaa x5 1;have y2:=Jaa x5 2;have y3:=Jaa x5 3;have y4:=Jaa x5 4;have y5:=Jaa x5 5;have HFin:Hid (AnsB true w (.returned (.bool true)) W5):=hid ⟨rfl,HB3.out.trans (hb5.mono HB3.out.size)⟩;have HW5:=hid hW5;clear hW5 hb4 hb5 x5 HP2 e2;unfold scV scb0;go_upto_region 3 with fail
 rw [←HW5.out];clear HW5;go_wp2_with fail
 go_ret
 exact HFin.out
end Go.Proofs.YtcoimjbhoiipoaaGreatDoor.scr
