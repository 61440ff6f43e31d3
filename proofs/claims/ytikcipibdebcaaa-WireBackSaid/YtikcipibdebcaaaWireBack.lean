/- The walk of WireBack: at any slice of items it returns true and leaves all that was as it was. Condition: the slice's length is one. -/
import Derived.Test.YtikcipibdebcaaaWireReads
namespace Go.Proofs.Ytikcipibdebcaaa.wire
open Go.RowKit Go.Proofs.Ytikcipibdebcaaa.words

theorem info28 : (Try.prog.info? 28).map (fun i => (i.zero, i.size, i.bytes)) = some (some (.agg #[.int .i64 0, .int .i64 0, .string ⟨#[]⟩, .bool false]), 4, 40) := by kernel_rfl

/-! Bytes of items, there and back -/
theorem num_be (n : Int) (s : Nat) (h1 : 1 ≤ s) (h2 : s ≤ 4) (h3 : 0 ≤ n) (h4 : n < 2 ^ (8 * s)) : (num (be n s) : Int) = n := by
  have b : ∀ e, ((byteAt n e).toNat : Int) = n / 2 ^ (8 * e) % 256 := fun e => by
    have a1 : 0 ≤ n / 2 ^ (8 * e) % 256 := Int.emod_nonneg _ (by omega)
    have a2 : n / 2 ^ (8 * e) % 256 < 256 := Int.emod_lt_of_pos _ (by omega)
    rw [byteAt, UInt8.toNat_ofNat']
    omega
  have b0 := b 0
  have b1 := b 1
  have b2 := b 2
  have b3 := b 3
  obtain rfl | rfl | rfl | rfl : s = 1 ∨ s = 2 ∨ s = 3 ∨ s = 4 := by omega
  all_goals
    simp only [be, num, List.range, List.range.loop, List.map_cons, List.map_nil, List.foldl_cons, List.foldl_nil]
    simp at b0 b1 b2 b3 h4 ⊢
    omega
/-- How long an item's number is, as its length's number or its own. -/
def It.val (x : It) : Int := if x.Is then (x.S.size : Int) else x.N
def It.ok (x : It) : Prop := fits x.val x.Z = true ∧ x.S.size ≤ 1000
def It.enc (x : It) : List UInt8 := if x.Is then be (x.S.size : Int) x.Z.toNat ++ x.S.data.toList else be x.N x.Z.toNat
def It.cells (x : It) : List Value := [.int .i64 x.N, .int .i64 x.Z, .string x.S, .bool x.Is]
def wireOf (Q : List It) : List UInt8 := Q.flatMap It.enc
def cellsOf (Q : List It) : List Value := Q.flatMap It.cells
theorem wire_snoc (Q : List It) (x : It) : wireOf (Q ++ [x]) = wireOf Q ++ x.enc := by simp [wireOf]
theorem cells_snoc (Q : List It) (x : It) : cellsOf (Q ++ [x]) = cellsOf Q ++ x.cells := by simp [cellsOf]
theorem cells_length (Q : List It) : (cellsOf Q).length = Q.length * 4 := by
  induction Q with
  | nil => rfl
  | cons x Q ih => simp only [cellsOf, List.flatMap_cons, List.length_append, List.length_cons] at ih ⊢; rw [ih]; simp [It.cells]; omega
theorem enc_length (x : It) (h : x.ok) : x.enc.length ≤ 1004 := by
  have h4 := fits_size h.1
  unfold It.enc
  split
  · rw [List.length_append, be_length, size_list]; have := h.2; omega
  · rw [be_length]; omega
theorem wire_length (Q : List It) (h : ∀ x ∈ Q, x.ok) : (wireOf Q).length ≤ Q.length * 1004 := by
  induction Q with
  | nil => simp [wireOf]
  | cons x Q ih =>
    have a := enc_length x (h x (by simp))
    have b := ih (fun y hy => h y (by simp [hy]))
    simp only [wireOf, List.flatMap_cons, List.length_append, List.length_cons] at b ⊢
    omega
theorem cells_at : ∀ (Q : List It) (k j : Nat) (x : It), Q[k]? = some x → j < 4 → (cellsOf Q)[k * 4 + j]? = x.cells[j]?
  | [], k, j, x, h, _ => by simp at h
  | y :: Q, 0, j, x, h, hj => by
    simp at h
    subst h
    simp only [cellsOf, List.flatMap_cons, Nat.zero_mul, Nat.zero_add]
    exact List.getElem?_append_left (by simp [It.cells]; omega)
  | y :: Q, k + 1, j, x, h, hj => by
    have ih := cells_at Q k j x (by simpa using h) hj
    simp only [cellsOf, List.flatMap_cons] at ih ⊢
    rw [show (k + 1) * 4 + j = (It.cells y).length + (k * 4 + j) from by simp [It.cells]; omega, List.getElem?_append_right (by omega)]
    rw [← ih]
    congr 1
    omega
theorem wire_drop (Q : List It) (k : Nat) (x : It) (h : Q[k]? = some x) : wireOf (Q.drop k) = x.enc ++ wireOf (Q.drop (k + 1)) := by
  obtain ⟨hlt, rfl⟩ := List.getElem?_eq_some_iff.1 h
  simp only [wireOf]
  rw [List.drop_eq_getElem_cons hlt, List.flatMap_cons]

theorem own_form {w : World} {base : Nat} {e : TypeId} {size n : Nat} {v : Value} {xs : List Value} (h : w.ownsRow base e size v n xs) : ∃ A c, v = .slice A n c := by
  rcases h.2 with ⟨rfl, rfl⟩ | ⟨g, cap, cur, rfl, _⟩
  · exact ⟨_, _, rfl⟩
  · exact ⟨_, _, rfl⟩
/-- What an owned row of items says of item k. -/
theorem row_at {w : World} {B c : Nat} {A : Option Addr} {Q : List It} {k : Nat} {x : It} (h : w.ownsRow B 28 4 (.slice A Q.length c) Q.length (cellsOf Q)) (hx : Q[k]? = some x) :
    ∃ g, A = some ⟨g, 0, none⟩ ∧ g < w.heap.size ∧ w.cell? ⟨g, k * 4, none⟩ = some (.int .i64 x.N) ∧ w.cell? ⟨g, k * 4 + 1, none⟩ = some (.int .i64 x.Z) ∧ w.cell? ⟨g, k * 4 + 2, none⟩ = some (.string x.S) ∧ w.cell? ⟨g, k * 4 + 3, none⟩ = some (.bool x.Is) := by
  obtain ⟨hlt, _⟩ := List.getElem?_eq_some_iff.1 hx
  obtain ⟨g, cap, hv, _⟩ := h.form (by omega)
  injection hv with hA _ hc
  subst hA hc
  have at_ : ∀ j, j < 4 → w.cell? ⟨g, k * 4 + j, none⟩ = x.cells[j]? := fun j hj => by
    rw [h.cellAt (k * 4 + j) (by omega), cells_at Q k j x hx hj]
  exact ⟨g, rfl, World.block_lt_of_cell? w _ (at_ 0 (by omega)), at_ 0 (by omega), at_ 1 (by omega), at_ 2 (by omega), at_ 3 (by omega)⟩

/-! What is read again -/
theorem rtext_back (g : Nat) (t S : ByteArray) (Z : Int) (rest : List UInt8) (w : World) (hr : Rd g t w) (h : t.data.toList = (be (S.size : Int) Z.toNat ++ S.data.toList) ++ rest) (hf : fits (S.size : Int) Z = true) (hts : t.size ≤ 9223372036854775807) :
    Calls Try.prog 15 #[.pointer (some ⟨g, 0, none⟩), .int .i64 Z] w fun e w' => ∃ s' : ByteArray, e = .returned (.tuple #[.string S, .bool true]) ∧ s'.data.toList = rest ∧ Rd g s' w' ∧ Kept Rs g w w' := by
  obtain ⟨z, rfl, h1, h2, h3, h4⟩ := fits_yes hf
  rw [Int.toNat_natCast] at h
  have hl : t.size = z + S.size + rest.length := by rw [← size_list, h, List.length_append, List.length_append, be_length, size_list]
  have hn : num (t.data.toList.take z) = S.size := by
    rw [h, List.append_assoc, List.take_append_of_le_length (by rw [be_length]; exact Nat.le_refl _), List.take_of_length_le (by rw [be_length]; exact Nat.le_refl _)]
    have := num_be (S.size : Int) z h1 h2 h3 h4
    omega
  refine (rtext_yes g g t z w hr (Nat.le_refl _) h1 h2 (by omega) (by unfold maxLen; omega) (by omega)).mono ?_
  rintro e w' ⟨x, s', he, hx, hs', hr', hk⟩
  rw [hn] at hx hs'
  have hx2 : x = S := same_text (by
    rw [hx, h, List.append_assoc, List.drop_append_of_le_length (by rw [be_length]; exact Nat.le_refl _), List.drop_of_length_le (by rw [be_length]; exact Nat.le_refl _), List.nil_append,
      List.take_append_of_le_length (by rw [size_list]; exact Nat.le_refl _), List.take_of_length_le (by rw [size_list]; exact Nat.le_refl _)])
  refine ⟨s', by rw [he, hx2], ?_, hr', hk⟩
  rw [hs', h, List.drop_append_of_le_length (by rw [List.length_append, be_length, size_list]; exact Nat.le_refl _), List.drop_of_length_le (by rw [List.length_append, be_length, size_list]; exact Nat.le_refl _), List.nil_append]
theorem take_back (g : Nat) (t : ByteArray) (N Z : Int) (rest : List UInt8) (w : World) (hr : Rd g t w) (h : t.data.toList = be N Z.toNat ++ rest) (hf : fits N Z = true) (hts : t.size ≤ 9223372036854775807) :
    Calls Try.prog 14 #[.pointer (some ⟨g, 0, none⟩), .int .i64 Z] w fun e w' => ∃ s' : ByteArray, e = .returned (.tuple #[.int .i64 N, .bool true]) ∧ s'.data.toList = rest ∧ Rd g s' w' ∧ Kept Rs g w w' := by
  obtain ⟨z, rfl, h1, h2, h3, h4⟩ := fits_yes hf
  rw [Int.toNat_natCast] at h
  have hl : t.size = z + rest.length := by rw [← size_list, h, List.length_append, be_length]
  have hn : (num (t.data.toList.take z) : Int) = N := by
    rw [h, List.take_append_of_le_length (by rw [be_length]; exact Nat.le_refl _), List.take_of_length_le (by rw [be_length]; exact Nat.le_refl _)]
    exact num_be N z h1 h2 h3 h4
  refine (take_ok g g t z w hr (Nat.le_refl _) h1 h2 (by omega) (by unfold maxLen; omega)).mono ?_
  rintro e w' ⟨s', he, hs', hr', hk⟩
  refine ⟨s', by rw [he, hn], ?_, hr', hk⟩
  rw [hs', h, List.drop_append_of_le_length (by rw [be_length]; exact Nat.le_refl _), List.drop_of_length_le (by rw [be_length]; exact Nat.le_refl _), List.nil_append]

/-- What one item more does to the row of items. -/
theorem row_more {B gg gc : Nat} {A : Option Addr} {qc : Nat} {Q : List It} {x : It} {w3 w4 : World} {o : Obj} {bs : List UInt8} (hown : w3.ownsRow B 28 4 (.slice A Q.length qc) Q.length (cellsOf Q))
    (hw : Wr 26 5 B B bs w3) (hok : ∀ y ∈ Q, y.ok) (hx : x.ok) (he : bs = wireOf Q ++ x.enc)
    (hown4 : w4.ownsRow B 28 4 (.slice (some ⟨gg, 0, none⟩) (Q.length + 1) gc) (Q.length + 1) (cellsOf Q ++ x.cells)) (hgrow : (w3.alloc o).grownBy w4 (Value.slice A Q.length qc).ownBlock) :
    (Q ++ [x]).length = Q.length + 1 ∧ (∀ y ∈ Q ++ [x], y.ok) ∧ w4.ownsRow B 28 4 (.slice (some ⟨gg, 0, none⟩) (Q.length + 1) gc) (Q ++ [x]).length (cellsOf (Q ++ [x])) ∧ Wr 26 5 B B (wireOf (Q ++ [x])) w4 ∧ (B ≤ w3.heap.size → Below B w3 w4) := by
  have hl : (Q ++ [x]).length = Q.length + 1 := by simp
  have K4 : Kept (fun t => t = 28) B w3 w4 := ((Kept.refl _ B w3).alloc o).grown hgrow (hown.alloc o) (Nat.le_refl _) rfl
  refine ⟨hl, fun y hy => ?_, by rw [hl, cells_snoc]; exact hown4, ?_, fun hB => K4.below hB⟩
  · rcases List.mem_append.1 hy with hy | hy
    · exact hok y hy
    · rw [List.mem_singleton.1 hy]; exact hx
  · rw [wire_snoc, ← he]
    exact hw.kept K4 (by decide) (by decide)

set_option maxRecDepth 100000 in
set_option maxHeartbeats 12800000 in
theorem back_walk (A : Option Addr) (len cap : Nat) (L : List It) (w : World) (hL : L.length = len) (hI : Items w w.heap.size A L) (hlen : len ≤ 9223372036854775807) :
    Calls Try.prog 5 #[.slice A len cap] w fun e w' => e = .returned (.bool true) ∧ Below w.heap.size w w' := by
  obtain ⟨i0, hi, hz0, hz1, hz2⟩ := info_parts info28
  have HLe := Lib.hid hL
  have HI := Lib.hid hI
  clear hL hI
  by_cases hbig : 50 < len
  · go_enter Try.func5, Try.ntmps5
    go_wp2_with (go_at_call 6; refine (speaks_any _).mono ?_; rintro e w1 ⟨rfl, hb1⟩)
    go_ret
    exact ⟨rfl, hb1⟩
  · have d2 : decide (50 < (len : Int)) = false := by simp; omega
    go_enter Try.func5, Try.ntmps5
    go_wp2_with fail
    refine (speaks_any _).mono ?_
    rintro e w1 ⟨rfl, hb1⟩
    have B1 := Lib.hid hb1
    clear hb1
    go_wp2_with fail
    clear d2
    have I1 := Lib.hid (((HI.out).keep B1.out).more B1.out.size)
    go_loopw [4, 21] (fun v c wr => ∃ (k : Nat) (Q : List It), k ≤ len ∧ c = .int .i64 k ∧ Q.length ≤ k ∧ (∀ x ∈ Q, x.ok) ∧ wr.ownsRow w1.heap.size 28 4 v Q.length (cellsOf Q) ∧
        Wr 26 5 w1.heap.size w1.heap.size (wireOf Q) wr ∧ Below w1.heap.size w1 wr)
      (fun _ c _ => len - (intOf c).toNat)
    case atStart => exact ⟨0, [], Nat.zero_le _, rfl, Nat.le_refl _, by simp, World.ownsRow_nil _ _ _ _, Wr.start (Nat.le_refl _), (Below.refl _ _).alloc (Nat.le_refl _) _⟩
    case round =>
      obtain ⟨k, Q, hk, rfl, hQ, hok, hown, hwr, hbel⟩ := hrel
      obtain ⟨QA, qc, rfl⟩ := own_form hown
      have hwl := wire_length Q hok
      have hwl' : (wireOf Q).length ≤ 50200 := by omega
      have hQl : Q.length ≤ 50 := by omega
      have HOK := Lib.hid hok
      have HO := Lib.hid hown
      have HW := Lib.hid hwr
      have HB := Lib.hid hbel
      have HBX := Lib.hid (fun o => hbel.alloc hbel.size o)
      clear hok hown hwr hbel hwl
      by_cases hlt : k < len
      · have I2 := I1.out.keep HB.out
        obtain ⟨x, hx⟩ : ∃ x, L[k]? = some x := ⟨_, List.getElem?_eq_getElem (by rw [HLe.out]; exact hlt)⟩
        obtain ⟨⟨b, off, rfl, hB, c0, c1, c2, c3⟩, hN, hS⟩ := I2 k x hx
        obtain ⟨N, Z, S, Is⟩ := x
        simp only at c0 c1 c2 c3 hN hS
        clear hx I2
        by_cases hS1 : 1000 < S.size
        · go_wp2_with fail
          go_ret
          exact ⟨rfl, B1.out.trans ((HBX.out _).mono B1.out.size)⟩
        · cases Is
          · by_cases hfit : fits N Z = true
            · have HF := Lib.hid hfit
              clear hfit
              go_wp2_with fail
              refine (put_yes _ _ _ _ _ _ (HW.out.alloc _) HF.out (by omega)).mono ?_
              rintro e w3 ⟨rfl, hw3, hk3⟩
              have hx3 := hk3.blk (heap_alloc_new wr _) (by decide)
              obtain ⟨f0, f1, f2, f3⟩ := x_cells hx3
              have ho3 := hk3.own (HO.out.alloc _) (by decide)
              have hb3 := (HBX.out _).trans (hk3.below (HBX.out _).size)
              have HW3 := Lib.hid hw3
              have HO3 := Lib.hid ho3
              have HB3 := Lib.hid hb3
              clear hw3 hk3 hx3 c0 c1 c2 c3 ho3 hb3
              go_wp2_with (at_builtin; refine wpList_append_lies _ rfl (.tmp 50) (.tmp 52) _ rfl w1.heap.size 28 i0 _ 4 40 Try.underlying22 hi hz0 hz1 hz2 rfl (by omega) _ _ _ rfl (HO3.out.alloc _) ⟨w3.heap.size, 0, none⟩ 1 1 (It.cells ⟨N, Z, S, false⟩) rfl rfl (World.news_of_block (cs := #[.int .i64 N, .int .i64 Z, .string S, .bool false]) (t := 28) (fr := (0, 0)) (heap_alloc_new w3 _)) (by simp [It.cells, Value.oneCell']) (by omega) (by simp only [maxLen]; omega) (by omega) (by have := HB3.out.size; simp; omega) (w3.heap.size + 1) (by simp) ?_; intro gg gc w4 hown4 hgrow hat hlt4)
              have P := row_more (x := ⟨N, Z, S, false⟩) HO3.out HW3.out HOK.out ⟨HF.out, show S.size ≤ 1000 by omega⟩ rfl hown4 hgrow
              go_roundw
              case rel => exact ⟨k + 1, Q ++ [⟨N, Z, S, false⟩], by omega, by go_num, by rw [P.1]; omega, P.2.1, P.2.2.1, P.2.2.2.1, HB3.out.trans (P.2.2.2.2 HB3.out.size)⟩
              case measure => simp [intOf]; omega
            · have HF := Lib.hid (Bool.eq_false_iff.2 hfit)
              clear hfit
              go_wp2_with fail
              refine (put_no _ _ _ _ HF.out).mono ?_
              rintro e w' ⟨rfl, rfl⟩
              go_wp2_with fail
              go_roundw
              case rel => exact ⟨k + 1, Q, by omega, by go_num, by omega, HOK.out, HO.out.alloc _, HW.out.alloc _, HBX.out _⟩
              case measure => simp [intOf]; omega
          · by_cases hfit : fits (S.size : Int) Z = true
            · have HF := Lib.hid hfit
              clear hfit
              go_wp2_with fail
              refine (text_yes _ _ _ _ _ _ (HW.out.alloc _) HF.out (by omega) (by omega)).mono ?_
              rintro e w3 ⟨rfl, hw3, hk3⟩
              have hx3 := hk3.blk (heap_alloc_new wr _) (by decide)
              obtain ⟨f0, f1, f2, f3⟩ := x_cells hx3
              have ho3 := hk3.own (HO.out.alloc _) (by decide)
              have hb3 := (HBX.out _).trans (hk3.below (HBX.out _).size)
              have HW3 := Lib.hid hw3
              have HO3 := Lib.hid ho3
              have HB3 := Lib.hid hb3
              clear hw3 hk3 hx3 c0 c1 c2 c3 ho3 hb3
              go_wp2_with (at_builtin; refine wpList_append_lies _ rfl (.tmp 50) (.tmp 52) _ rfl w1.heap.size 28 i0 _ 4 40 Try.underlying22 hi hz0 hz1 hz2 rfl (by omega) _ _ _ rfl (HO3.out.alloc _) ⟨w3.heap.size, 0, none⟩ 1 1 (It.cells ⟨N, Z, S, true⟩) rfl rfl (World.news_of_block (cs := #[.int .i64 N, .int .i64 Z, .string S, .bool true]) (t := 28) (fr := (0, 0)) (heap_alloc_new w3 _)) (by simp [It.cells, Value.oneCell']) (by omega) (by simp only [maxLen]; omega) (by omega) (by have := HB3.out.size; simp; omega) (w3.heap.size + 1) (by simp) ?_; intro gg gc w4 hown4 hgrow hat hlt4)
              have P := row_more (x := ⟨N, Z, S, true⟩) HO3.out HW3.out HOK.out ⟨HF.out, show S.size ≤ 1000 by omega⟩ (by rw [List.append_assoc]; rfl) hown4 hgrow
              go_roundw
              case rel => exact ⟨k + 1, Q ++ [⟨N, Z, S, true⟩], by omega, by go_num, by rw [P.1]; omega, P.2.1, P.2.2.1, P.2.2.2.1, HB3.out.trans (P.2.2.2.2 HB3.out.size)⟩
              case measure => simp [intOf]; omega
            · have HF := Lib.hid (Bool.eq_false_iff.2 hfit)
              clear hfit
              go_wp2_with fail
              refine (text_no _ _ _ _ HF.out).mono ?_
              rintro e w' ⟨rfl, rfl⟩
              go_wp2_with fail
              go_roundw
              case rel => exact ⟨k + 1, Q, by omega, by go_num, by omega, HOK.out, HO.out.alloc _, HW.out.alloc _, HBX.out _⟩
              case measure => simp [intOf]; omega
      · go_wp2_with fail
        refine (bytes_any _ _ _ _ HW.out).mono ?_
        rintro e w' ⟨rfl, rfl⟩
        go_wp2_with fail
        refine (read_any _ _).mono ?_
        rintro e w2 ⟨rfl, rfl⟩
        go_wp2_with fail
        rename World => wo
        have R := fun j x (hx : Q[j]? = some x) => row_at HO.out hx
        have HRw := Lib.hid R
        clear R
        have RS : ∀ j, (wireOf (Q.drop j)).length ≤ 50200 := fun j => by
          have h1 := wire_length (Q.drop j) (fun y hy => HOK.out y (List.mem_of_mem_drop hy))
          have h2 : (Q.drop j).length ≤ 50 := by rw [List.length_drop]; omega
          omega
        have HRS := Lib.hid RS
        clear RS
        go_loopw [59] (fun c wr => ∃ (j : Nat) (t : ByteArray), j ≤ Q.length ∧ c = .int .i64 j ∧ t.data.toList = wireOf (Q.drop j) ∧ Rd wo.heap.size t wr ∧ Below wo.heap.size wo wr)
          (fun c _ => Q.length - (intOf c).toNat)
        case atStart => exact ⟨0, ⟨(wireOf Q).toArray⟩, Nat.zero_le _, rfl, by simp, heap_alloc_new wo _, (Below.refl _ _).alloc (Nat.le_refl _) _⟩
        case round =>
          obtain ⟨j, t, hj, rfl, ht, hrd, hbel⟩ := hrel
          have HR := Lib.hid hrd
          have HBY := Lib.hid (fun o => hbel.alloc hbel.size o)
          have HBZ := Lib.hid hbel
          by_cases hlt2 : j < Q.length
          · obtain ⟨x, hx⟩ : ∃ x, Q[j]? = some x := ⟨_, List.getElem?_eq_getElem hlt2⟩
            have hxok := HOK.out x (List.mem_of_getElem? hx)
            obtain ⟨g, rfl, hg, c0', c1', c2', c3'⟩ := HRw.out j x hx
            have c0 := (hbel.cell (p := ⟨g, j * 4, none⟩) hg).trans c0'
            have c1 := (hbel.cell (p := ⟨g, j * 4 + 1, none⟩) hg).trans c1'
            have c2 := (hbel.cell (p := ⟨g, j * 4 + 2, none⟩) hg).trans c2'
            have c3 := (hbel.cell (p := ⟨g, j * 4 + 3, none⟩) hg).trans c3'
            have hgl : wo.heap.size < wr.heap.size := lt_of_some hrd
            have HA := Lib.hid (fun o => show Rd wo.heap.size t (wr.alloc o) from (Below.heap_alloc wr o _ hgl).trans hrd)
            have ht2 := ht.trans (wire_drop Q j x hx)
            have htl : t.size ≤ 9223372036854775807 := by have := HRS.out j; rw [← ht, size_list] at this; omega
            obtain ⟨N, Z, S, Is⟩ := x
            simp only at c0 c1 c2 c3
            clear c0' c1' c2' c3' hx ht hrd hbel
            cases Is
            · have HT := Lib.hid (show t.data.toList = be N Z.toNat ++ wireOf (Q.drop (j + 1)) from ht2)
              have HF := Lib.hid (show fits N Z = true from hxok.1)
              clear ht2 hxok
              go_wp2_with fail
              refine (take_back _ _ _ _ _ _ (HA.out _) HT.out HF.out htl).mono ?_
              rintro e w5 ⟨s', rfl, hs', hr5, hk5⟩
              have hx5 := hk5.blk (heap_alloc_new wr _) (by decide)
              obtain ⟨f0, f1, f2, f3⟩ := x_cells hx5
              have HS := Lib.hid hs'
              have HR5 := Lib.hid hr5
              have HB5 := Lib.hid ((HBY.out _).trans (hk5.below (HBY.out _).size))
              clear hs' hr5 hk5 hx5 c0 c1 c2 c3
              go_wp2_with fail
              go_roundw
              case rel => exact ⟨j + 1, s', by omega, by go_num, HS.out, HR5.out, HB5.out⟩
              case measure => simp [intOf]; omega
            · have HT := Lib.hid (show t.data.toList = (be (S.size : Int) Z.toNat ++ S.data.toList) ++ wireOf (Q.drop (j + 1)) from ht2)
              have HF := Lib.hid (show fits (S.size : Int) Z = true from hxok.1)
              clear ht2 hxok
              go_wp2_with fail
              refine (rtext_back _ _ _ _ _ _ (HA.out _) HT.out HF.out htl).mono ?_
              rintro e w5 ⟨s', rfl, hs', hr5, hk5⟩
              have hx5 := hk5.blk (heap_alloc_new wr _) (by decide)
              obtain ⟨f0, f1, f2, f3⟩ := x_cells hx5
              have HS := Lib.hid hs'
              have HR5 := Lib.hid hr5
              have HB5 := Lib.hid ((HBY.out _).trans (hk5.below (HBY.out _).size))
              clear hs' hr5 hk5 hx5 c0 c1 c2 c3
              go_wp2_with fail
              go_roundw
              case rel => exact ⟨j + 1, s', by omega, by go_num, HS.out, HR5.out, HB5.out⟩
              case measure => simp [intOf]; omega
          · have ht0 : t.size = 0 := by
              rw [← size_list, ht, List.drop_of_length_le (by omega)]
              rfl
            have ht1 : ((t.size : Int) == 0) = true := by rw [ht0]; rfl
            clear ht hrd hbel ht0
            go_wp2_with fail
            refine (left_any _ _ _ HR.out).mono ?_
            rintro e w' ⟨rfl, rfl⟩
            go_wp2_with fail
            go_ret
            exact ⟨rfl, B1.out.trans ((HB.out.trans (HBZ.out.mono HB.out.size)).mono B1.out.size)⟩
end Go.Proofs.Ytikcipibdebcaaa.wire
