import Derived.Test.YtkjpgheealfedaaGreatDoorJH
set_option maxHeartbeats 800000
set_option maxRecDepth 100000
open Go.Proofs.Tryz
namespace Go.Proofs.YtkjpgheealfedaaGreatDoor.tre
open Go.RowKit words ext name
theorem Jp7 (t:ByteArray) (w:World) (ht:t.size≤140737488355328):Calls prog 18 #[.string t] w (Built (linkN t) w):=by
 go_enter func18,ntmps18
 go_wp2_with fail
 obtain⟨Wd,hWd⟩:=words.nm (w.alloc (.cells (rawCells (linkN t) raw0) 70));have hB:=words.b1 hWd;have hX:Box Wd w.heap.size (linkN t) raw0:=by rw [hWd];exact Box.new w (linkN t) raw0
 obtain⟨p0,p1,p2,p3,p4,p5,p6⟩:=hX.cells;have hWd':w.alloc (.cells #[.int .i64 3,.bool false,.slice none 0 0,.slice none 0 0,.int .i64 0,.slice none 0 0,.string t] 70)=Wd:=hWd.symm;rw [hWd'];exact bodyPost_ret (v:=ndV (linkN t) raw0) (by unfold ndV rawCells;simp [results,results18,go_sem,p0,p1,p2,p3,p4,p5,p6]) rfl ⟨raw0,rfl,Jrl _ _ _ _ (fit0 3 t (by decide) (by decide) ht),hB⟩

end Go.Proofs.YtkjpgheealfedaaGreatDoor.tre
