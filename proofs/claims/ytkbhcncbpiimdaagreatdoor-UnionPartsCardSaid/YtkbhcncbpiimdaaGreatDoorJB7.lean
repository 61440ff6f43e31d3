/- What extent's lay does: the bytes of an extent stand in the buffer at their places. Conditions: the buffer is a row of the call's own; the extent begins ahead of its end. -/
import Derived.Test.YtkbhcncbpiimdaaGreatDoorJB6
import Derived.Lib.BufferWrite
import Derived.Laws.CopyOwn
namespace Go.Proofs.YtkbhcncbpiimdaaGreatDoor.ext
set_option maxRecDepth 100000
open Go.RowKit Go.Proofs.YtkbhcncbpiimdaaGreatDoor.words

/-- copy(dst, s), s a text, dst in a row that is known whole: as many bytes as fit go over. -/
theorem run_copy_str {P : Program} (w : World) (dT sT ty elem : TypeId) (g o dLen dCap : Nat) (s : ByteArray) (cur : Array Value) (t : TypeId)
    (hu : P.underlying dT = some (.slice elem)) (hs : (P.info? elem).map (·.size) = some 1) (hg : w.heap[g]? = some (.cells cur t (0, 0))) (hfit : o + Nat.min s.size dLen ≤ cur.size) :
    (Builtin.copy_ #[dT, sT] ty #[.slice (some ⟨g, o, none⟩) dLen dCap, .string s]).run P w =
      .ok (goInt (Nat.min s.size dLen)) (w.setRow g (cur.toList.take o ++ Lib.byteCells (s.data.toList.take (Nat.min s.size dLen)) ++ cur.toList.drop (o + Nat.min s.size dLen)).toArray) := by
  obtain ⟨n, hn⟩ : ∃ n, n = Nat.min s.size dLen := ⟨_, rfl⟩
  have hns : n ≤ s.size := by rw [hn]; exact Nat.min_le_left _ _
  rw [← hn] at hfit ⊢
  have hlen : (Lib.byteCells (s.data.toList.take n)).length = n := by rw [Lib.byteCells_length, List.length_take, size_list]; omega
  have hst := run_storeCells_at P g o t (Lib.byteCells (s.data.toList.take n)) 0 cur w hg (by rw [hlen]; simpa using hfit) (Lib.byteCells_one _)
  have htk : List.take n (List.map (fun b : UInt8 => Value.int IntKind.u8 (b.toNat : Int)) s.data.toList) = Lib.byteCells (s.data.toList.take n) := by
    simp [Lib.byteCells, List.map_take]
  rw [hlen] at hst
  simp only [Nat.add_zero] at hst
  cases hq : P.info? elem with
  | none => simp [hq] at hs
  | some i =>
    simp [Builtin.copy_, run_underlying hu, Builtin.lenOf, Builtin.firstCells, sizeOf, typeInfo, hq, ← hn]
    rw [htk, hst]
    simp [Result.andThen]

theorem wpList_copy_str {P : Program} {w : World} {ops : Array Oper} {rest : List Oper} {o : Oper} {a : Act} {Q : Exit → Act → World → Prop} (hgd : o.guard = none) (d s : Operand) (dT sT : TypeId)
    (ho : o.op = .call { callee := .builtin .copy, args := #[d, s], argTypes := #[dT, sT] }) (elem : TypeId) (hu : P.underlying dT = some (.slice elem)) (hsz : (P.info? elem).map (·.size) = some 1)
    (g off dLen dCap : Nat) (src : ByteArray) (hd : a.eval d = .slice (some ⟨g, off, none⟩) dLen dCap) (hs : a.eval s = .string src)
    (cur : Array Value) (t : TypeId) (hg : w.heap[g]? = some (.cells cur t (0, 0))) (hfit : off + Nat.min src.size dLen ≤ cur.size)
    (h : ∀ w', w' = w.setRow g (cur.toList.take off ++ Lib.byteCells (src.data.toList.take (Nat.min src.size dLen)) ++ cur.toList.drop (off + Nat.min src.size dLen)).toArray → wpList P ops Q rest (a.put o.dst (goInt (Nat.min src.size dLen))) w') :
    wpList P ops Q (o :: rest) a w := by
  refine wpList_plain hgd fun K hK => ?_
  have hrun := run_copy_str (P := P) w dT sT o.type elem g off dLen dCap src cur t hu hsz hg hfit
  unfold Oper.wp
  simp only [ho, execOp, resolve, invoke, builtin, Sem.run_bind, Sem.run_pure, Result.andThen_ok, List.map_toArray, List.map_cons, List.map_nil, hd, hs, hrun]
  exact hK _ _ (h _ rfl)

/-- The buffer with an extent laid in. -/
def layB (l : List UInt8) (off : Int) (x : Ex) : List UInt8 := (List.range l.length).map fun i : Nat => if Cov x (off + (i : Int)) then byteOf x (off + (i : Int)) else l.getD i 0
theorem layB_length (l : List UInt8) (off : Int) (x : Ex) : (layB l off x).length = l.length := by simp [layB]
theorem layB_at {l : List UInt8} {off : Int} {x : Ex} {i : Nat} (h : i < l.length) : (layB l off x)[i]? = some (if Cov x (off + (i : Int)) then byteOf x (off + (i : Int)) else l.getD i 0) := by
  simp [layB, List.getElem?_range h]
/-- A piece of the extent's bytes, from place q on, laid from place o on. -/
theorem layB_splice (l : List UInt8) (off : Int) (x : Ex) (o q n : Nat) (h1 : off + (o : Int) = x.O + (q : Int)) (h0 : o = 0 ∨ q = 0) (hq : q ≤ x.D.size) (ho : o ≤ l.length) (hn : n = Nat.min (x.D.size - q) (l.length - o)) :
    l.take o ++ (x.D.data.toList.drop q).take n ++ l.drop (o + n) = layB l off x := by
  have hn1 : n ≤ x.D.size - q := by rw [hn]; exact Nat.min_le_left _ _
  have hn2 : n ≤ l.length - o := by rw [hn]; exact Nat.min_le_right _ _
  have hn3 : n = x.D.size - q ∨ n = l.length - o := by
    rw [hn]
    rcases Nat.le_total (x.D.size - q) (l.length - o) with h | h
    · exact .inl (Nat.min_eq_left h)
    · exact .inr (Nat.min_eq_right h)
  have hD := size_list x.D
  have hl1 : (l.take o).length = o := by rw [List.length_take]; omega
  have hl2 : ((x.D.data.toList.drop q).take n).length = n := by rw [List.length_take, List.length_drop, hD]; omega
  refine List.ext_getElem? fun i => ?_
  by_cases hi : i < l.length
  · rw [layB_at hi]
    by_cases c1 : i < o
    · rw [List.getElem?_append_left (by rw [List.length_append, hl1]; omega), List.getElem?_append_left (by omega), List.getElem?_take_of_lt c1, if_neg (by unfold Cov; omega), List.getD_eq_getElem?_getD, List.getElem?_eq_getElem hi]
      rfl
    · by_cases c2 : i < o + n
      · rw [List.getElem?_append_left (by rw [List.length_append, hl1, hl2]; omega), List.getElem?_append_right (by omega), hl1, List.getElem?_take_of_lt (by omega), List.getElem?_drop, if_pos (by unfold Cov; omega)]
        unfold byteOf
        rw [List.getD_eq_getElem?_getD, show (off + (i : Int) - x.O).toNat = q + (i - o) by omega, List.getElem?_eq_getElem (by omega)]
        rfl
      · rw [List.getElem?_append_right (by rw [List.length_append, hl1, hl2]; omega), List.length_append, hl1, hl2, List.getElem?_drop, show o + n + (i - (o + n)) = i by omega, if_neg (by unfold Cov; omega), List.getD_eq_getElem?_getD, List.getElem?_eq_getElem hi]
        rfl
  · rw [List.getElem?_eq_none (by rw [List.length_append, List.length_append, hl1, hl2, List.length_drop]; omega), List.getElem?_eq_none (by rw [layB_length]; omega)]
theorem layB_none {l : List UInt8} {off : Int} {x : Ex} (h : x.O + (x.D.size : Int) ≤ off) : layB l off x = l := by
  refine List.ext_getElem? fun i => ?_
  by_cases hi : i < l.length
  · rw [layB_at hi, if_neg (by unfold Cov; omega), List.getD_eq_getElem?_getD, List.getElem?_eq_getElem hi]
    rfl
  · rw [List.getElem?_eq_none (by rw [layB_length]; omega), List.getElem?_eq_none (by omega)]

/-- The buffer's block. -/
def Buf (w : World) (g : Nat) (l : List UInt8) : Prop := w.heap[g]? = some (.cells (Lib.byteCells l).toArray 5 (0, 0))
theorem Buf.row {w : World} {g : Nat} {l : List UInt8} {cs : List UInt8} (h : Buf w g l) : Buf (w.setRow g (Lib.byteCells cs).toArray) g cs := setRow_heap w g _ _ _ _ h
theorem grown_setRow (w : World) (g : Nat) (cs : Array Value) : w.grownBy (w.setRow g cs) (some g) :=
  ⟨rfl, rfl, rfl, by simp [World.setRow], fun k _ hne => setRow_other w g k cs (fun e => hne (by rw [e]))⟩
theorem grown_trans {a b c : World} {row : Option Nat} (h : a.grownBy b row) (k : b.grownBy c row) : a.grownBy c row :=
  ⟨k.os.trans h.os, k.tape.trans h.tape, k.output.trans h.output, Nat.le_trans h.size k.size, fun i hi hne => (k.block i (Nat.lt_of_lt_of_le hi h.size) hne).trans (h.block i hi hne)⟩
theorem grown_of_below {a w : World} (h : Below a.heap.size a w) (row : Option Nat) : a.grownBy w row := ⟨h.os, h.tape, h.output, h.size, fun i hi _ => h.block i hi⟩
theorem Buf.below {w w' : World} {g : Nat} {l : List UInt8} (h : Buf w g l) (hb : Below w.heap.size w w') : Buf w' g l := (hb.block g (lt_of_some h)).trans h

theorem row_cells {w w' : World} {g : Nat} {l l' : List UInt8} {cs : List Value} (h : Buf w g l) (hcs : cs = Lib.byteCells l') (hw : w' = w.setRow g cs.toArray) : Buf w' g l' ∧ w.grownBy w' (some g) := by
  subst hw hcs
  exact ⟨h.row, grown_setRow _ _ _⟩
theorem splice_cells (l p : List UInt8) (o n : Nat) : (Lib.byteCells l).toArray.toList.take o ++ Lib.byteCells p ++ (Lib.byteCells l).toArray.toList.drop (o + n) = Lib.byteCells (l.take o ++ p ++ l.drop (o + n)) := by
  simp [Lib.byteCells, List.map_take, List.map_drop]

theorem byte1 : (Tryz.prog.info? 5).map (·.size) = some 1 := by kernel_rfl

set_option maxHeartbeats 1600000 in
theorem lay_any (g m : Nat) (l : List UInt8) (off : Int) (x : Ex) (w : World) (hl : l.length = m) (hb : Buf w g l) (ho0 : 0 ≤ off) (ho1 : off ≤ 1048576) (hm : m ≤ 1048576) (hx0 : 0 ≤ x.O) (hx1 : x.O + (x.D.size : Int) ≤ 1048576) (hx2 : x.O < off + (m : Int)) :
    Calls Tryz.prog 167 #[.slice (some ⟨g, 0, none⟩) m m, .int .i64 off, .agg #[.int .i64 x.O, .string x.D]] w fun e w' => e = .returned (.tuple #[]) ∧ Buf w' g (layB l off x) ∧ w.grownBy w' (some g) := by
  have hz : x.D.size ≤ 140737488355328 := by omega
  obtain ⟨W0, hW0⟩ : ∃ W0, W0 = w.alloc (.cells #[.int .i64 x.O, .string x.D] 199) := ⟨_, rfl⟩
  have hB0 : Buf W0 g l := by rw [hW0]; exact (Below.heap_alloc _ _ _ (lt_of_some hb)).trans hb
  have hG0 : w.grownBy W0 (some g) := by rw [hW0]; exact World.grownBy_alloc _ _ _
  have HB0 := Lib.hid hB0
  have HG0 := Lib.hid hG0
  have HLn := Lib.hid hl
  rw [hW0] at HB0 HG0
  have hcl : (Lib.byteCells l).toArray.size = m := by rw [List.size_toArray, Lib.byteCells_length]; exact hl
  have HCL := Lib.hid hcl
  clear hB0 hG0 hW0 hb hl hcl
  by_cases h1 : off ≤ x.O
  · obtain ⟨o, ho⟩ : ∃ o : Nat, (o : Int) = x.O - off := ⟨(x.O - off).toNat, by omega⟩
    have g1 : decide (off ≤ x.O) = true := by simpa using h1
    have hw1 : IntKind.i64.wrap (x.O - off) = (o : Int) := by rw [IntWalk.i64_in _ ⟨by omega, by omega⟩]; omega
    have q0 : (0 : Int) ≤ (o : Int) := by omega
    have q1 : (o : Int) ≤ (m : Int) := by omega
    have q2 : o < m := by omega
    have q3 : ¬ m = o := by omega
    have HS := Lib.hid (layB_splice l off x o 0 (Nat.min x.D.size (m - o)) (by omega) (.inr rfl) (Nat.zero_le _) (by rw [HLn.out]; omega) (by rw [HLn.out, Nat.sub_zero]))
    have HO := Lib.hid ho
    have HF := Lib.hid (show o + Nat.min x.D.size (m - o) ≤ (Lib.byteCells l).toArray.size by
      rw [HCL.out]
      exact Nat.le_trans (Nat.add_le_add_left (Nat.min_le_right _ _) o) (by omega))
    clear ho
    go_enter Tryz.func167, Tryz.ntmps167
    go_wp2_with fail
    obtain ⟨W1, hW1⟩ : ∃ W1, W1 = w.alloc (.cells #[.int .i64 x.O, .string x.D] 199) := ⟨_, rfl⟩
    rw [← hW1] at HB0 HG0 ⊢
    have c0 : W1.cell? ⟨w.heap.size, 0, none⟩ = some (.int .i64 x.O) := by rw [hW1]; simp
    have c1 : W1.cell? ⟨w.heap.size, 1, none⟩ = some (.string x.D) := by rw [hW1]; simp
    clear hW1
    go_still_tail 8, (by kernel_rfl)
    change wpList _ _ _ _ _ (World.drew _)
    generalize hW2 : W1.drew = W2
    have HB2 : Hid (Buf W2 g l) := by rw [← hW2]; exact Lib.hid HB0.out
    have HG2 : Hid (w.grownBy W2 (some g)) := by rw [← hW2]; exact Lib.hid (grown_trans HG0.out (grown_of_below (Below.refl _ _).drew _))
    clear hW2 c0 c1 HB0 HG0
    go_wp2_with ((with_reducible show wpList _ _ _ _ _ _); refine wpList_copy_str (o := ⟨some 18, _, _, _, _, _⟩) rfl (.tmp 15) (.tmp 17) 85 9 rfl 5 Tryz.underlying85 byte1 g o (m - o) (m - o) x.D rfl rfl _ 5 HB2.out HF.out ?_; intro w3 hw3'; have HW3 := Lib.hid hw3'; clear hw3')
    have hw3 := HW3.out
    rw [splice_cells] at hw3
    have hS := HS.out
    rw [List.drop_zero] at hS
    rw [hS] at hw3
    obtain ⟨b3, g3⟩ := row_cells HB2.out rfl hw3
    have H3 := Lib.hid (show Buf w3 g (layB l off x) ∧ w.grownBy w3 (some g) from ⟨b3, grown_trans HG2.out g3⟩)
    clear hw3 hS b3 g3
    go_wp2_with fail
    refine bodyPost_ret (results_none rfl _ _ _) rfl ?_
    exact ⟨rfl, H3.out⟩
  · have g1 : decide (off ≤ x.O) = false := by simp; omega
    by_cases h2 : off < x.O + (x.D.size : Int)
    · obtain ⟨q, hq⟩ : ∃ q : Nat, (q : Int) = off - x.O := ⟨(off - x.O).toNat, by omega⟩
      have hw1 : IntKind.i64.wrap (off - x.O) = (q : Int) := by rw [IntWalk.i64_in _ ⟨by omega, by omega⟩]; omega
      have hw2 : off - x.O = (q : Int) := by omega
      have q0 : (0 : Int) ≤ (q : Int) := by omega
      have q1 : (q : Int) ≤ (x.D.size : Int) := by omega
      have HS := Lib.hid (layB_splice l off x 0 q (Nat.min (x.D.size - q) m) (by omega) (.inl rfl) (by omega) (Nat.zero_le _) (by rw [HLn.out, Nat.sub_zero]))
      have HE := Lib.hid (ends_is x off true (w.alloc (.cells #[.int .i64 x.O, .string x.D] 199)) (by omega) (by omega) hz (decide_eq_true h2))
      have HF := Lib.hid (show 0 + Nat.min (x.D.extract q x.D.size).size m ≤ (Lib.byteCells l).toArray.size by
        rw [HCL.out, Nat.zero_add]
        exact Nat.min_le_right _ _)
      clear hq h2
      go_enter Tryz.func167, Tryz.ntmps167
      go_wp2_with fail
      refine HE.out.mono ?_
      rintro e w2 ⟨rfl, hb2⟩
      have c2 : w2.cell? ⟨w.heap.size, 0, none⟩ = some (.int .i64 x.O) := (hb2.cell (p := ⟨w.heap.size, 0, none⟩) (by simp)).trans (by simp)
      have c3 : w2.cell? ⟨w.heap.size, 1, none⟩ = some (.string x.D) := (hb2.cell (p := ⟨w.heap.size, 1, none⟩) (by simp)).trans (by simp)
      have HB2 := Lib.hid (HB0.out.below hb2)
      have HG2 := Lib.hid (grown_trans HG0.out (grown_of_below hb2 _))
      clear hb2 HE
      go_wp2_with ((with_reducible show wpList _ _ _ _ _ _); refine wpList_copy_str (o := ⟨some 30, _, _, _, _, _⟩) rfl (.tmp 22) (.tmp 29) 85 9 rfl 5 Tryz.underlying85 byte1 g 0 m m (x.D.extract q x.D.size) rfl rfl _ 5 HB2.out HF.out ?_; intro w3 hw3'; have HW3 := Lib.hid hw3'; clear hw3')
      have hw3 := HW3.out
      rw [splice_cells] at hw3
      have hS := HS.out
      have he : (x.D.extract q x.D.size).size = x.D.size - q := by rw [size_piece _ (by omega) (Nat.le_refl _)]
      have hd : (x.D.extract q x.D.size).data.toList = x.D.data.toList.drop q := by rw [extract_list, List.take_of_length_le (by rw [size_list]; exact Nat.le_refl _)]
      rw [he, hd, hS] at hw3
      obtain ⟨b3, g3⟩ := row_cells HB2.out rfl hw3
      have H3 := Lib.hid (show Buf w3 g (layB l off x) ∧ w.grownBy w3 (some g) from ⟨b3, grown_trans HG2.out g3⟩)
      clear hw3 hS b3 g3 he hd
      go_wp2_with fail
      go_end0
      exact ⟨rfl, H3.out⟩
    · have HE := Lib.hid (ends_is x off false (w.alloc (.cells #[.int .i64 x.O, .string x.D] 199)) (by omega) (by omega) hz (decide_eq_false h2))
      have HN := Lib.hid (layB_none (l := l) (off := off) (x := x) (by omega))
      clear h2
      go_enter Tryz.func167, Tryz.ntmps167
      go_wp2_with fail
      refine HE.out.mono ?_
      rintro e w2 ⟨rfl, hb2⟩
      have HB2 := Lib.hid (HB0.out.below hb2)
      have HG2 := Lib.hid (grown_trans HG0.out (grown_of_below hb2 _))
      clear hb2 HE
      go_wp2_with fail
      go_end0
      exact ⟨rfl, by rw [HN.out]; exact HB2.out, HG2.out⟩
end Go.Proofs.YtkbhcncbpiimdaaGreatDoor.ext
