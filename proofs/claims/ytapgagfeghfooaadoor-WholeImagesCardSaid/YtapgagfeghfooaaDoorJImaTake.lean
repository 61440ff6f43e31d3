/- What the image's writer does with numbers and texts that fit: their bytes are put behind those that are there. Condition: the writer has at most a billion bytes, the text too. What the reference's Fits, Put and Get answer: whether a number fits, its bytes, the number of bytes. Conditions: numbers within int64, at most four bytes. What Read, Reader.Take, Reader.Text and Reader.Left do, at any bytes and any size. -/
import Derived.Test.YtapgagfeghfooaaDoorProg
import Derived.Test.YtapgagfeghfooaaDoorJA
import Derived.WalkKit
import Derived.WalkSpells
import Derived.Deep.RegionHeld3
import Derived.Deep.RegionLaw
import Derived.Deep.LoopGhost
import Derived.Lib.Hide
import Derived.IntWalk
import Derived.Lib.BufferRead
import Derived.Lib.AppendStr
import Derived.KernelRfl
import Derived.Laws.BitsLemmas
namespace Go.Proofs.YtapgagfeghfooaaDoor.ima
set_option maxRecDepth 100000
open Go.RowKit Go.Proofs.YtapgagfeghfooaaDoor.words

/-- The writer's block: its bytes, owned from block B on, and the cells R behind them. -/
def Wx (R : List Value) (B g : Nat) (bs : List UInt8) (w : World) : Prop :=
  B ≤ g ∧ ∃ v, w.heap[g]? = some (.cells (v :: R).toArray 63 (0, 0)) ∧ w.ownsRow B 5 1 v bs.length (Lib.byteCells bs)
theorem blk_setR {w : World} {g : Nat} {t : TypeId} {v : Value} {R : List Value} (h : w.heap[g]? = some (.cells (v :: R).toArray t (0, 0))) (u : Value) : (w.setCell ⟨g, 0, none⟩ u).heap[g]? = some (.cells (u :: R).toArray t (0, 0)) := by
  simp [World.setCell, Array.getElem?_modify, h]
theorem Wx.put {R : List Value} {B g : Nat} {bs bs' : List UInt8} {w w1 : World} {v v' : Value} (hB : B ≤ g) (hb : w.heap[g]? = some (.cells (v :: R).toArray 63 (0, 0))) (ho : w.ownsRow B 5 1 v bs.length (Lib.byteCells bs))
    (ho' : w1.ownsRow B 5 1 v' bs'.length (Lib.byteCells bs')) (hg : w.grownBy w1 v.ownBlock) :
    Wx R B g bs' (w1.setCell ⟨g, 0, none⟩ v') ∧ Kept (fun t => t = 63 ∨ t = 5) B w (w1.setCell ⟨g, 0, none⟩ v') := by
  have h1 : w1.heap[g]? = some (.cells (v :: R).toArray 63 (0, 0)) := (hg.block g (lt_of_some hb) (fun e => own_ne ho hb (by decide) e.symm)).trans hb
  refine ⟨⟨hB, v', blk_setR h1 v', own_setCell ho' (own_ne ho' h1 (by decide)) v'⟩, ?_⟩
  exact ((Kept.refl _ B w).grown hg ho (Nat.le_refl _) (.inr rfl)).setCell hB ⟨_, _, _, h1, .inl rfl⟩ v'

theorem info5 : (Tryd.prog.info? 5).map (fun i => (i.zero, i.size, i.bytes)) = some (some (.int .u8 0), 1, 1) := by kernel_rfl

def sz (size : Int) : Bool := decide (1 ≤ size ∧ size ≤ 4)
theorem sized_yes (size : Int) (w : World) (h1 : 1 ≤ size) (h2 : size ≤ 4) : Calls Tryd.prog 77 #[.int .i64 size] w fun e w' => e = .returned (.bool true) ∧ w = w' := by
  go_enter Tryd.func77, Tryd.ntmps77
  go_wp2
  go_ret
  exact ⟨rfl, rfl⟩
theorem sized_no (size : Int) (w : World) (h : size < 1 ∨ 4 < size) : Calls Tryd.prog 77 #[.int .i64 size] w fun e w' => e = .returned (.bool false) ∧ w = w' := by
  rcases h with h | h
  · go_enter Tryd.func77, Tryd.ntmps77
    go_wp2
    go_ret
    exact ⟨rfl, rfl⟩
  · have h1 : 1 ≤ size := by omega
    have h2 : decide (size ≤ 4) = false := by simp; omega
    · go_enter Tryd.func77, Tryd.ntmps77
      go_wp2
      go_ret
      exact ⟨rfl, rfl⟩
set_option maxHeartbeats 400000 in
theorem put_size (n size : Int) (b : Nat) (w : World) (h : size < 1 ∨ 4 < size) : Calls Tryd.prog 68 #[.pointer (some ⟨b, 0, none⟩), .int .i64 n, .int .i64 size] w fun e w' => e = .returned (.bool false) ∧ w = w' := by
  go_enter Tryd.func68, Tryd.ntmps68
  go_wp2_with (go_at_call 77; refine (sized_no _ _ h).mono ?_; rintro e w' ⟨rfl, rfl⟩)
  go_ret
  exact ⟨rfl, rfl⟩
set_option maxHeartbeats 400000 in
theorem put_big (n size : Int) (b : Nat) (w : World) (h1 : 1 ≤ size) (h2 : size ≤ 4) (h : n < 0 ∨ 2 ^ (8 * size).toNat ≤ n) : Calls Tryd.prog 68 #[.pointer (some ⟨b, 0, none⟩), .int .i64 n, .int .i64 size] w fun e w' => e = .returned (.bool false) ∧ w = w' := by
  rcases h with h | h
  · go_enter Tryd.func68, Tryd.ntmps68
    go_wp2_with (go_at_call 77; refine (sized_yes _ _ h1 h2).mono ?_; rintro e w' ⟨rfl, rfl⟩)
    go_ret
    exact ⟨rfl, rfl⟩
  · have hp : (0 : Int) < 2 ^ (8 * size).toNat := Int.pow_pos (by omega)
    have h0 : decide (n < 0) = false := by simp; omega
    have hq : (n / 2 ^ (8 * size).toNat != 0) = true := by
      have : 1 ≤ n / 2 ^ (8 * size).toNat := Int.le_ediv_of_mul_le hp (by omega)
      rw [bne_iff_ne]; omega
    clear hp h
    go_enter Tryd.func68, Tryd.ntmps68
    go_wp2_with (go_at_call 77; refine (sized_yes _ _ h1 h2).mono ?_; rintro e w' ⟨rfl, rfl⟩)
    go_ret
    exact ⟨rfl, rfl⟩

/-- The byte at the e-th place of a number, the lowest first. -/
def byteAt (n : Int) (e : Nat) : UInt8 := UInt8.ofNat ((n / 2 ^ (8 * e)) % 256).toNat
/-- A number in so many bytes, the highest first. -/
def be (n : Int) (size : Nat) : List UInt8 := (List.range size).map fun k => byteAt n (size - 1 - k)
theorem be_length (n : Int) (size : Nat) : (be n size).length = size := by simp [be]
theorem be_take (n : Int) (size k : Nat) (h : k < size) : (be n size).take (k + 1) = (be n size).take k ++ [byteAt n (size - 1 - k)] := by
  rw [List.take_succ_eq_append_getElem (by rw [be_length]; exact h)]
  simp [be]

theorem shift_of (n : Int) (E : Nat) (h : E ≤ 3) : Op.shift .shr .i64 n .i64 (8 * (E : Int)) = pure (.int .i64 (n / 2 ^ (8 * E))) := by
  have h := shift_shr .i64 .i64 n (8 * (E : Int)) (by omega) (by simp [IntKind.bits]; omega)
  have e8 : (8 * (E : Int)).toNat = 8 * E := by omega
  rw [e8] at h
  exact h

theorem blk_grown {w w1 : World} {o : Obj} {b : Nat} {x : Obj} {row : Option Nat} (hb : w.heap[b]? = some x) (hg : (w.alloc o).drew.grownBy w1 row) (hne : row ≠ some b) : w1.heap[b]? = some x := by
  have h1 : (w.alloc o).drew.heap[b]? = some x := (Below.heap_alloc w o b (lt_of_some hb)).trans hb
  exact (hg.block b (lt_of_some h1) (Ne.symm hne)).trans h1
theorem byte_value (n : Int) (E : Nat) : [Value.int .u8 (IntKind.u8.wrap (n / 2 ^ (8 * E)))] = Lib.byteCells [byteAt n E] := by
  simp only [Lib.byteCells, List.map_cons, List.map_nil, byteAt, IntKind.wrap_u8]
  have h1 : 0 ≤ n / 2 ^ (8 * E) % 256 := Int.emod_nonneg _ (by omega)
  have h2 : n / 2 ^ (8 * E) % 256 < 256 := Int.emod_lt_of_pos _ (by omega)
  have h3 : ((UInt8.ofNat (n / 2 ^ (8 * E) % 256).toNat).toNat : Int) = n / 2 ^ (8 * E) % 256 := by
    rw [UInt8.toNat_ofNat']; omega
  rw [h3]

/-- What one round does to the bytes. -/
theorem put_step {R : List Value} {B b gg cap : Nat} {cs : List UInt8} {n : Int} {E : Nat} {v : Value} {wr w1 : World} {o : Obj} (hB : B ≤ b) (hb : wr.heap[b]? = some (.cells (v :: R).toArray 63 (0, 0))) (ho : wr.ownsRow B 5 1 v cs.length (Lib.byteCells cs))
    (hown1 : w1.ownsRow B 5 1 (.slice (some ⟨gg, 0, none⟩) (cs.length + 1) cap) (cs.length + 1) (Lib.byteCells cs ++ [.int .u8 (IntKind.u8.wrap (n / 2 ^ (8 * E)))])) (hg : (wr.alloc o).drew.grownBy w1 v.ownBlock) :
    Wx R B b (cs ++ [byteAt n E]) (w1.setCell ⟨b, 0, none⟩ (.slice (some ⟨gg, 0, none⟩) (cs.length + 1) cap)) ∧ Kept (fun t => t = 63 ∨ t = 5) B wr (w1.setCell ⟨b, 0, none⟩ (.slice (some ⟨gg, 0, none⟩) (cs.length + 1) cap)) := by
  have hb' : (wr.alloc o).drew.heap[b]? = some (.cells (v :: R).toArray 63 (0, 0)) := (Below.heap_alloc wr o b (lt_of_some hb)).trans hb
  have ho' : (wr.alloc o).drew.ownsRow B 5 1 v cs.length (Lib.byteCells cs) := (ho.alloc o).drew
  have P := Wx.put (R := R) (bs' := cs ++ [byteAt n E]) (v' := .slice (some ⟨gg, 0, none⟩) (cs.length + 1) cap) hB hb' ho' (by
    rw [byte_value] at hown1
    have e1 : Lib.byteCells (cs ++ [byteAt n E]) = Lib.byteCells cs ++ Lib.byteCells [byteAt n E] := by simp [Lib.byteCells]
    have e2 : (cs ++ [byteAt n E]).length = cs.length + 1 := by simp
    rw [e1, e2]
    exact hown1) hg
  exact ⟨P.1, (((Kept.refl _ B wr).alloc o).drew).trans P.2⟩

set_option maxHeartbeats 1600000 in
theorem put_fits (R : List Value) (n : Int) (s b B : Nat) (bs : List UInt8) (w : World) (hw : Wx R B b bs w) (h1 : 1 ≤ s) (h2 : s ≤ 4) (h3 : 0 ≤ n) (h4 : n < 2 ^ (8 * s)) (hlen : bs.length ≤ 1000000000) :
    Calls Tryd.prog 68 #[.pointer (some ⟨b, 0, none⟩), .int .i64 n, .int .i64 (s : Int)] w fun e w' => e = .returned (.bool true) ∧ Wx R B b (bs ++ be n s) w' ∧ Kept (fun t => t = 63 ∨ t = 5) B w w' := by
  obtain ⟨i0, hi, hz0, hz1, hz2⟩ := info_parts info5
  have h0 : decide (n < 0) = false := by simp; omega
  have hq : (n / 2 ^ (8 * s) != 0) = false := by
    have : n / 2 ^ (8 * s) = 0 := Int.ediv_eq_zero_of_lt h3 h4
    rw [bne_eq_false_iff_eq]; exact this
  have HW := Lib.hid hw
  clear h4 hw
  go_enter Tryd.func68, Tryd.ntmps68
  go_wp2_with (go_at_call 77; refine (sized_yes _ _ (by omega) (by omega)).mono ?_; rintro e w' ⟨rfl, rfl⟩)
  clear hq h0
  go_loopw [7, 23] (fun _ c wr => ∃ k : Nat, k ≤ s ∧ c = .int .i64 k ∧ Wx R B b (bs ++ (be n s).take k) wr ∧ Kept (fun t => t = 63 ∨ t = 5) B w wr)
    (fun _ c _ => s - (intOf c).toNat)
  case atStart => exact ⟨0, Nat.zero_le _, rfl, by simpa using HW.out, Kept.refl _ _ _⟩
  case round =>
    obtain ⟨k, hk, rfl, hWr, hkeep⟩ := hrel
    have HK := Lib.hid hkeep
    clear hkeep
    by_cases hlt : k < s
    · obtain ⟨cs, hcs⟩ : ∃ cs, cs = bs ++ (be n s).take k := ⟨_, rfl⟩
      rw [← hcs] at hWr
      have hcl : cs.length ≤ 1000000004 := by
        rw [hcs, List.length_append, List.length_take, be_length]; omega
      have HCS := Lib.hid hcs
      obtain ⟨hB, v, hb, ho⟩ := hWr
      have hcell : wr.cell? ⟨b, 0, none⟩ = some v := cell_of_blk hb 0
      have HB := Lib.hid hb
      have HO := Lib.hid ho
      obtain ⟨E, hE⟩ : ∃ E, E = s - 1 - k := ⟨_, rfl⟩
      have HE := Lib.hid hE
      have q1 : IntKind.i64.wrap ((s : Int) - 1) = (s : Int) - 1 := IntWalk.i64_in _ (by omega)
      have q2 : IntKind.i64.wrap ((s : Int) - 1 - (k : Int)) = (E : Int) := by rw [IntWalk.i64_in _ (by omega)]; omega
      have q3 : IntKind.i64.wrap (8 * (E : Int)) = 8 * (E : Int) := IntWalk.i64_in _ (by omega)
      have q4 : Op.shift .shr .i64 n .i64 (8 * (E : Int)) = pure (.int .i64 (n / 2 ^ (8 * E))) := shift_of n E (by omega)
      clear hE hcs hb ho
      have hbl := lt_of_some HB.out
      have hne := own_ne HO.out HB.out (by decide)
      go_wp2_with fail
      go_region_law
        ((refine step_append_lies _ (by rfl) _ _ _ (by rfl) B 5 i0 _ 1 1 Tryd.underlying59 hi hz0 hz1 hz2 rfl (by omega) v _ _ (by rfl) ((HO.out.alloc _).drew)
            ⟨wr.heap.size, 0, none⟩ 1 1 [.int .u8 (IntKind.u8.wrap (n / 2 ^ (8 * E)))] (by rfl) (by rfl) (World.news_of_block (cs := #[.int .u8 (IntKind.u8.wrap (n / 2 ^ (8 * E)))]) (t := 5) (fr := (0, 0)) (heap_alloc_new wr _)) (by simp [Value.oneCell'])
            (by omega) (by simp [maxLen]; omega) (by simp; omega) (by have := lt_of_some HB.out; simp; omega) (wr.heap.size + 1) (by simp) ?_; intro gg cap w1 hown1 hgrow hat hlt1; have hc1 := cell_of_blk (blk_grown HB.out hgrow hne) 0; have hf1 := free_of_blk (blk_grown HB.out hgrow hne) 0))
      all_goals
        have P := put_step hB HB.out HO.out hown1 hgrow
        have HP := Lib.hid P
        clear P hown1 hgrow hat hlt1 hc1 hf1 hcell q1 q2 q3 q4
        go_wp2
        go_roundw
        case rel =>
          have e1 : bs ++ (be n s).take (k + 1) = cs ++ [byteAt n E] := by
            rw [be_take n s k hlt, HCS.out, HE.out, List.append_assoc]
          exact ⟨k + 1, by omega, by go_num, by rw [e1]; exact HP.out.1, HK.out.trans HP.out.2⟩
        case measure => simp [intOf]; omega
    · have HR := Lib.hid hWr
      clear hWr
      go_wp2
      go_ret
      refine ⟨rfl, ?_, HK.out⟩
      have := HR.out
      rwa [List.take_of_length_le (by rw [be_length]; omega)] at this
/-- Does a number fit so many bytes? -/
def fits (n size : Int) : Bool := decide (1 ≤ size ∧ size ≤ 4 ∧ 0 ≤ n ∧ n < 2 ^ (8 * size.toNat))
theorem fits_yes {n size : Int} (h : fits n size = true) : ∃ s : Nat, size = (s : Int) ∧ 1 ≤ s ∧ s ≤ 4 ∧ 0 ≤ n ∧ n < 2 ^ (8 * s) := by
  have h := of_decide_eq_true h
  exact ⟨size.toNat, by omega, by omega, by omega, h.2.2.1, h.2.2.2⟩
theorem fits_mk {n : Int} {s : Nat} (h1 : 1 ≤ s) (h2 : s ≤ 4) (h3 : 0 ≤ n) (h4 : n < 2 ^ (8 * s)) : fits n (s : Int) = true :=
  decide_eq_true ⟨by omega, by omega, h3, by simpa using h4⟩
abbrev Ws : TypeId → Prop := fun t => t = 63 ∨ t = 5
theorem put_yes (R : List Value) (n size : Int) (b B : Nat) (bs : List UInt8) (w : World) (hw : Wx R B b bs w) (h : fits n size = true) (hlen : bs.length ≤ 1000000000) :
    Calls Tryd.prog 68 #[.pointer (some ⟨b, 0, none⟩), .int .i64 n, .int .i64 size] w fun e w' => e = .returned (.bool true) ∧ Wx R B b (bs ++ be n size.toNat) w' ∧ Kept Ws B w w' := by
  obtain ⟨s, rfl, h1, h2, h3, h4⟩ := fits_yes h
  exact put_fits R n s b B bs w hw h1 h2 h3 h4 hlen
theorem put_no (n size : Int) (b : Nat) (w : World) (h : fits n size = false) :
    Calls Tryd.prog 68 #[.pointer (some ⟨b, 0, none⟩), .int .i64 n, .int .i64 size] w fun e w' => e = .returned (.bool false) ∧ w = w' := by
  have h := of_decide_eq_false h
  by_cases hs : 1 ≤ size ∧ size ≤ 4
  · refine put_big n size b w hs.1 hs.2 ?_
    by_cases hn : n < 0
    · exact .inl hn
    · refine .inr ?_
      have e : (8 * size).toNat = 8 * size.toNat := by omega
      rw [e]
      omega
  · exact put_size n size b w (by omega)

/-- A row's bytes as a string. -/
theorem conv_of {B e src dst : Nat} {v : Value} {bs : List UInt8} {w : World} {P : Program} (ho : w.ownsRow B e 1 v bs.length (Lib.byteCells bs)) (hs : P.underlying src = some (.slice e)) (he : P.underlying e = some (.int .u8)) (hd : P.underlying dst = some .string) :
    (convert src dst v).run P w = .ok (.string ⟨bs.toArray⟩) w := by
  rcases ho.2 with ⟨rfl, h0⟩ | ⟨g, cap, cur, rfl, _⟩
  · have : bs = [] := List.eq_nil_of_length_eq_zero h0
    subst this
    exact Lib.run_convert_nil_bytes w src dst e 0 hs he hd
  · refine run_convert_bytes_back w src dst e ⟨g, 0, none⟩ cap bs hs he hd fun j hj => ?_
    exact ho.cells (g := g) rfl j _ (by simp [Lib.byteCells, hj])

theorem bytes_any (R : List Value) (b B : Nat) (bs : List UInt8) (w : World) (hw : Wx R B b bs w) :
    Calls Tryd.prog 26 #[.pointer (some ⟨b, 0, none⟩)] w fun e w' => e = .returned (.string ⟨bs.toArray⟩) ∧ w = w' := by
  obtain ⟨_, v, hb, ho⟩ := hw
  have hc : w.cell? ⟨b, 0, none⟩ = some v := cell_of_blk hb 0
  have hv := conv_of ho Tryd.underlying59 Tryd.underlying5 Tryd.underlying9
  clear ho hb
  go_enter Tryd.func26, Tryd.ntmps26
  go_wp2
  go_ret
  exact ⟨rfl, rfl⟩

theorem text_no (s : ByteArray) (size : Int) (b : Nat) (w : World) (h : fits (s.size : Int) size = false) :
    Calls Tryd.prog 70 #[.pointer (some ⟨b, 0, none⟩), .string s, .int .i64 size] w fun e w' => e = .returned (.bool false) ∧ w = w' := by
  have H := Lib.hid h
  clear h
  go_enter Tryd.func70, Tryd.ntmps70
  go_wp2_with (go_at_call 68; refine (put_no _ _ _ _ H.out).mono ?_; rintro e w' ⟨rfl, rfl⟩)
  go_ret
  exact ⟨rfl, rfl⟩

theorem text_step {R : List Value} {B b : Nat} {cs : List UInt8} {s : ByteArray} {v v' : Value} {wr w1 : World} (hB : B ≤ b) (hb : wr.heap[b]? = some (.cells (v :: R).toArray 63 (0, 0))) (ho : wr.ownsRow B 5 1 v cs.length (Lib.byteCells cs))
    (hown1 : w1.ownsRow B 5 1 v' (cs.length + s.size) (Lib.byteCells cs ++ Lib.strCells s)) (hg : wr.grownBy w1 v.ownBlock) :
    Wx R B b (cs ++ s.data.toList) (w1.setCell ⟨b, 0, none⟩ v') ∧ Kept Ws B wr (w1.setCell ⟨b, 0, none⟩ v') := by
  refine Wx.put (R := R) (bs' := cs ++ s.data.toList) hB hb ho ?_ hg
  have e1 : Lib.byteCells (cs ++ s.data.toList) = Lib.byteCells cs ++ Lib.strCells s := by rw [Lib.strCells_eq]; simp only [Lib.byteCells, List.map_append]
  have e3 : s.data.toList.length = s.size := by rw [Array.length_toList]; rfl
  have e2 : (cs ++ s.data.toList).length = cs.length + s.size := by rw [List.length_append, e3]
  rw [e1, e2]
  exact hown1

set_option maxHeartbeats 400000 in
theorem text_yes (R : List Value) (s : ByteArray) (size : Int) (b B : Nat) (bs : List UInt8) (w : World) (hw : Wx R B b bs w) (h : fits (s.size : Int) size = true) (hlen : bs.length ≤ 1000000000) (hs : s.size ≤ 1000000000) :
    Calls Tryd.prog 70 #[.pointer (some ⟨b, 0, none⟩), .string s, .int .i64 size] w fun e w' => e = .returned (.bool true) ∧ Wx R B b (bs ++ be (s.size : Int) size.toNat ++ s.data.toList) w' ∧ Kept Ws B w w' := by
  obtain ⟨i0, hi, hz0, hz1, hz2⟩ := info_parts info5
  have H := Lib.hid h
  have HW := Lib.hid hw
  have hsz : size.toNat ≤ 4 := by have := of_decide_eq_true h; omega
  clear h hw
  go_enter Tryd.func70, Tryd.ntmps70
  go_wp2_with fail
  refine (put_yes R _ _ _ _ _ _ HW.out H.out hlen).mono ?_
  rintro e w1 ⟨rfl, hw1, hk⟩
  have HK := Lib.hid hk
  obtain ⟨cs, hcs⟩ : ∃ cs, cs = bs ++ be (s.size : Int) size.toNat := ⟨_, rfl⟩
  have hcl : cs.length ≤ 1000000004 := by rw [hcs, List.length_append, be_length]; omega
  rw [← hcs] at hw1
  have HCS := Lib.hid hcs
  obtain ⟨hB, v, hb, ho⟩ := hw1
  have hc : w1.cell? ⟨b, 0, none⟩ = some v := cell_of_blk hb 0
  have hbl := lt_of_some hb
  have hne := own_ne ho hb (by decide)
  have HB := Lib.hid hb
  have HO := Lib.hid ho
  clear hb ho hk hcs
  go_wp2_with (at_builtin; refine Lib.wpList_append_own_string _ rfl (.tmp 17) (.tmp 18) _ _ rfl B 5 i0 Tryd.underlying59 Tryd.underlying9 hi hz0 hz1 hz2 v _ _ rfl HO.out s rfl (by simp only [maxLen]; omega) (by omega) (by omega) ?_; intro v' w2 hown2 hgrow _; obtain ⟨A2, l2, c2, rfl⟩ := own_slice hown2; have hb2 := (hgrow.block b hbl (Ne.symm hne)).trans HB.out; have hc2 := cell_of_blk hb2 0; have hf2 := free_of_blk hb2 0)
  have HP := Lib.hid (text_step hB HB.out HO.out hown2 hgrow)
  clear hown2 hgrow hb2 hc2 hf2 hc
  go_wp2
  go_ret
  refine ⟨rfl, ?_, HK.out.trans HP.out.2⟩
  rw [← HCS.out]
  exact HP.out.1
end Go.Proofs.YtapgagfeghfooaaDoor.ima

namespace Go.Proofs.YtapgagfeghfooaaDoor.ima
set_option maxRecDepth 100000
open Go.RowKit Go.Proofs.YtapgagfeghfooaaDoor.words

/-- The number that bytes are, the highest first. -/
def num (l : List UInt8) : Nat := l.foldl (fun n b => n * 256 + b.toNat) 0
theorem num_snoc (l : List UInt8) (b : UInt8) : num (l ++ [b]) = num l * 256 + b.toNat := by simp [num]
theorem num_lt : ∀ (k : Nat) (l : List UInt8), l.length = k → num l < 256 ^ k
  | 0, l, h => by
    have : l = [] := List.eq_nil_of_length_eq_zero h
    subst this
    simp [num]
  | k + 1, l, h => by
    obtain ⟨init, b, rfl⟩ : ∃ init b, l = init ++ [b] := ⟨l.dropLast, l.getLast (by intro e; subst e; simp at h), (List.dropLast_concat_getLast _).symm⟩
    have hi := num_lt k init (by simpa using h)
    have hb := b.toNat_lt
    rw [num_snoc, Nat.pow_succ]
    omega
theorem size_list (s : ByteArray) : s.data.toList.length = s.size := by rw [Array.length_toList]; rfl
theorem take_snoc (s : ByteArray) (k : Nat) (h : k < s.size) : s.data.toList.take (k + 1) = s.data.toList.take k ++ [s[k]] := by
  rw [List.take_succ_eq_append_getElem (by simpa using h)]; rfl
theorem num_take (s : ByteArray) (k : Nat) (h : k < s.size) : num (s.data.toList.take (k + 1)) = num (s.data.toList.take k) * 256 + s[k].toNat := by
  rw [take_snoc s k h, num_snoc]

/-! Fits -/
theorem quo_pow (n : Int) (k : Nat) : n / 2 ^ (8 * k) / 256 = n / 2 ^ (8 * (k + 1)) := by
  rw [Int.ediv_ediv_of_nonneg (Int.pow_nonneg (by omega))]
  rw [show 8 * (k + 1) = 8 * k + 8 from by omega, Int.pow_add]
  rfl
/-! Get -/
set_option maxHeartbeats 400000 in
theorem get_any (s : ByteArray) (w : World) (hs : s.size ≤ 4) : Calls Tryd.prog 67 #[.string s] w fun e w' => e = .returned (.int .i64 (num s.data.toList : Int)) ∧ w = w' := by
  go_enter Tryd.func67, Tryd.ntmps67
  go_wp2
  go_loop [3, 4] (fun v c => ∃ k : Nat, k ≤ s.size ∧ c = .int .i64 k ∧ v = .int .i64 (num (s.data.toList.take k) : Int)) (fun _ c => s.size - (intOf c).toNat)
  case atStart => exact ⟨0, Nat.zero_le _, rfl, by simp [num]⟩
  case round =>
    obtain ⟨k, hk, rfl, rfl⟩ := hrel
    have hn := num_lt k (s.data.toList.take k) (by rw [List.length_take, size_list]; omega)
    have hp : 256 ^ k ≤ 256 ^ 4 := Nat.pow_le_pow_right (by omega) (by omega)
    obtain ⟨m, hm⟩ : ∃ m, m = num (s.data.toList.take k) := ⟨_, rfl⟩
    rw [← hm] at hn ⊢
    have hm4 : m < 4294967296 := by omega
    by_cases hlt : k < s.size
    · have HM := Lib.hid (num_take s k hlt)
      have HN := Lib.hid hm
      have hb1 : (s[k].toNat : Int) ≤ 255 := by have := s[k].toNat_lt; omega
      have hb0 : 0 ≤ (s[k].toNat : Int) := by omega
      clear hn hp hm
      go_wp2
      go_round
      case rel => exact ⟨k + 1, by omega, by go_num, by rw [HM.out, ← HN.out]; go_num⟩
      case measure => simp [intOf]; omega
    · have HN := Lib.hid hm
      clear hn hp hm
      go_wp2
      go_ret
      refine ⟨?_, rfl⟩
      have := HN.out
      rw [List.take_of_length_le (by rw [size_list]; omega)] at this
      show Ending.returned (Value.int .i64 (m : Int)) = _
      rw [this]

/-! Put of the reference -/
theorem info5' : (Tryd.prog.info? 5).map (fun i => (i.zero, i.size, i.bytes)) = some (some (.int .u8 0), 1, 1) := by kernel_rfl
theorem be_drop (n : Int) (s m : Nat) (h : m < s) : (be n s).drop m = byteAt n (s - 1 - m) :: (be n s).drop (m + 1) := by
  rw [List.drop_eq_getElem_cons (by rw [be_length]; exact h)]
  simp [be]
theorem drop_set (cs : List Value) (m : Nat) (v : Value) (h : m < cs.length) : (cs.set m v).drop m = v :: cs.drop (m + 1) := by
  rw [List.drop_eq_getElem_cons (by simpa using h), List.getElem_set_self, List.drop_set_of_lt (by omega)]
theorem byte_one (q : Int) (n : Int) (e : Nat) (h : q = n / 2 ^ (8 * e)) : Value.int .u8 (q % 256) = Value.int .u8 ((byteAt n e).toNat : Int) := by
  have h1 : 0 ≤ n / 2 ^ (8 * e) % 256 := Int.emod_nonneg _ (by omega)
  have h2 : n / 2 ^ (8 * e) % 256 < 256 := Int.emod_lt_of_pos _ (by omega)
  have h3 : ((UInt8.ofNat (n / 2 ^ (8 * e) % 256).toNat).toNat : Int) = n / 2 ^ (8 * e) % 256 := by
    rw [UInt8.toNat_ofNat']; omega
  rw [byteAt, h3, h]
theorem ref_step {w wr : World} {s m : Nat} {cs : List Value} {n q : Int} (hm : m < s) (hq : q = n / 2 ^ (8 * (s - 1 - m))) (hcl : cs.length = s) (hb : wr.heap[w.heap.size]? = some (.cells cs.toArray 5 (0, 0)))
    (hd : cs.drop (m + 1) = Lib.byteCells ((be n s).drop (m + 1))) (hbel : Below w.heap.size w wr) :
    (cs.set m (.int .u8 (q % 256))).length = s ∧ (wr.setCell ⟨w.heap.size, m, none⟩ (.int .u8 (q % 256))).heap[w.heap.size]? = some (.cells (cs.set m (.int .u8 (q % 256))).toArray 5 (0, 0)) ∧
      (cs.set m (.int .u8 (q % 256))).drop m = Lib.byteCells ((be n s).drop m) ∧ Below w.heap.size w (wr.setCell ⟨w.heap.size, m, none⟩ (.int .u8 (q % 256))) := by
  refine ⟨by simpa using hcl, by simp [World.setCell, Array.getElem?_modify, hb], ?_, hbel.setCell (p := ⟨w.heap.size, m, none⟩) (Nat.le_refl _) _⟩
  rw [drop_set _ _ _ (by omega), be_drop n s m hm, hd, byte_one q n _ hq]
  simp [Lib.byteCells]

end Go.Proofs.YtapgagfeghfooaaDoor.ima

namespace Go.Proofs.YtapgagfeghfooaaDoor.ima
set_option maxRecDepth 100000
open Go.RowKit Go.Proofs.YtapgagfeghfooaaDoor.words

/-- Block g is a reader that has the bytes s ahead. -/
def Rd (g : Nat) (s : ByteArray) (w : World) : Prop := w.heap[g]? = some (.cells #[.string s] 82 (0, 0))
abbrev Rs : TypeId → Prop := fun t => t = 82
theorem rd_set {g B : Nat} {s t : ByteArray} {w : World} (h : Rd g s w) (hB : B ≤ g) : Rd g t (w.setCell ⟨g, 0, none⟩ (.string t)) ∧ Kept Rs B w (w.setCell ⟨g, 0, none⟩ (.string t)) :=
  ⟨blk_set h _, (Kept.refl Rs B w).setCell (p := ⟨g, 0, none⟩) hB ⟨_, _, _, h, rfl⟩ _⟩

theorem read_any (s : ByteArray) (w : World) : Calls Tryd.prog 19 #[.string s] w fun e w' => e = .returned (.pointer (some ⟨w.heap.size, 0, none⟩)) ∧ w.alloc (.cells #[.string s] 82) = w' := by
  go_enter Tryd.func19, Tryd.ntmps19
  go_wp2
  go_ret
  exact ⟨rfl, rfl⟩
theorem left_any (g : Nat) (s : ByteArray) (w : World) (h : Rd g s w) : Calls Tryd.prog 21 #[.pointer (some ⟨g, 0, none⟩)] w fun e w' => e = .returned (.int .i64 (s.size : Int)) ∧ w = w' := by
  have hc : w.cell? ⟨g, 0, none⟩ = some (.string s) := cell_of_blk h 0
  clear h
  go_enter Tryd.func21, Tryd.ntmps21
  go_wp2
  go_ret
  exact ⟨rfl, rfl⟩

theorem take_size (g : Nat) (size : Int) (w : World) (hs : size < 1 ∨ 4 < size) :
    Calls Tryd.prog 59 #[.pointer (some ⟨g, 0, none⟩), .int .i64 size] w fun e w' => e = .returned (.tuple #[.int .i64 0, .bool false]) ∧ w = w' := by
  go_enter Tryd.func59, Tryd.ntmps59
  go_wp2_with (go_at_call 77; refine (sized_no _ _ hs).mono ?_; rintro e w' ⟨rfl, rfl⟩)
  go_ret2
  exact ⟨rfl, rfl⟩
theorem take_few (g : Nat) (s : ByteArray) (size : Int) (w : World) (h : Rd g s w) (h1 : 1 ≤ size) (h2 : size ≤ 4) (h3 : (s.size : Int) < size) :
    Calls Tryd.prog 59 #[.pointer (some ⟨g, 0, none⟩), .int .i64 size] w fun e w' => e = .returned (.tuple #[.int .i64 0, .bool false]) ∧ w = w' := by
  have hc : w.cell? ⟨g, 0, none⟩ = some (.string s) := cell_of_blk h 0
  clear h
  go_enter Tryd.func59, Tryd.ntmps59
  go_wp2_with (go_at_call 77; refine (sized_yes _ _ h1 h2).mono ?_; rintro e w' ⟨rfl, rfl⟩)
  go_ret2
  exact ⟨rfl, rfl⟩
theorem or_byte (m b : Nat) (hm : m < 4294967296) (hb : b < 256) : bits .or .i64 ((m : Int) * 256) (b : Int) = (m : Int) * 256 + b :=
  bits_join .i64 62 (by decide) (fun n h0 h1 => by rw [IntKind.wrap_i64]; omega) 8 _ _ (by omega) (by omega) (by omega) (by omega) (by omega) (by omega)
set_option maxHeartbeats 800000 in
theorem take_yes (g : Nat) (s : ByteArray) (size : Nat) (w : World) (h : Rd g s w) (h1 : 1 ≤ size) (h2 : size ≤ 4) (h3 : size ≤ s.size) (hs : s.size ≤ maxLen) :
    Calls Tryd.prog 59 #[.pointer (some ⟨g, 0, none⟩), .int .i64 (size : Int)] w fun e w' => e = .returned (.tuple #[.int .i64 (num (s.data.toList.take size) : Int), .bool true]) ∧
      w.setCell ⟨g, 0, none⟩ (.string (s.extract size s.size)) = w' := by
  unfold maxLen at hs
  have hc : w.cell? ⟨g, 0, none⟩ = some (.string s) := cell_of_blk h 0
  have hf : w.frozen? ⟨g, 0, none⟩ = false := free_of_blk h 0
  have d3 : decide ((s.size : Int) < (size : Int)) = false := by simp; omega
  clear h
  go_enter Tryd.func59, Tryd.ntmps59
  go_wp2_with (go_at_call 77; refine (sized_yes _ _ (by omega) (by omega)).mono ?_; rintro e w' ⟨rfl, rfl⟩)
  clear d3
  go_loop [6, 7, 21] (fun v _ c => ∃ k : Nat, k ≤ size ∧ c = .int .i64 k ∧ v = .int .i64 (num (s.data.toList.take k) : Int)) (fun _ _ c => size - (intOf c).toNat)
  case atStart => exact ⟨0, Nat.zero_le _, rfl, by simp [num]⟩
  case round =>
    obtain ⟨k, hk, rfl, rfl⟩ := hrel
    have hn := num_lt k (s.data.toList.take k) (by rw [List.length_take, size_list]; omega)
    have hp : 256 ^ k ≤ 256 ^ 4 := Nat.pow_le_pow_right (by omega) (by omega)
    obtain ⟨m, hm⟩ : ∃ m, m = num (s.data.toList.take k) := ⟨_, rfl⟩
    rw [← hm] at hn ⊢
    have hm4 : m < 4294967296 := by omega
    by_cases hlt : k < size
    · have hks : k < s.size := by omega
      have HM := Lib.hid (num_take s k hks)
      have HN := Lib.hid hm
      have hb1 : (s[k].toNat : Int) ≤ 255 := by have := s[k].toNat_lt; omega
      have hb0 : 0 ≤ (s[k].toNat : Int) := by omega
      have hor := or_byte m s[k].toNat hm4 (by omega)
      clear hn hp hm
      go_wp2
      go_round
      case rel => exact ⟨k + 1, by omega, by go_num, by rw [HM.out, ← HN.out]; go_num⟩
      case measure => simp [intOf]; omega
    · have HN := Lib.hid hm
      obtain rfl : k = size := by omega
      clear hn hp hm
      go_wp2
      go_ret2
      refine ⟨?_, rfl⟩
      show Ending.returned (.tuple #[Value.int .i64 (m : Int), .bool true]) = _
      rw [HN.out]

/-- What is ahead behind a reading of k bytes. -/
theorem drop_of (s : ByteArray) (k : Nat) : (s.extract k s.size).data.toList = s.data.toList.drop k := by
  rw [Lib.extract_data, List.take_of_length_le (by rw [List.length_drop, size_list]; exact Nat.le_refl _)]
theorem take_no (g : Nat) (s : ByteArray) (size : Int) (w : World) (h : Rd g s w) (hs : size < 1 ∨ 4 < size ∨ (s.size : Int) < size) :
    Calls Tryd.prog 59 #[.pointer (some ⟨g, 0, none⟩), .int .i64 size] w fun e w' => e = .returned (.tuple #[.int .i64 0, .bool false]) ∧ w = w' := by
  by_cases h1 : size < 1 ∨ 4 < size
  · exact take_size g size w h1
  · exact take_few g s size w h (by omega) (by omega) (by omega)

/-! Text -/
theorem rtext_no (g : Nat) (s : ByteArray) (size : Int) (w : World) (h : Rd g s w) (hs : size < 1 ∨ 4 < size ∨ (s.size : Int) < size) :
    Calls Tryd.prog 61 #[.pointer (some ⟨g, 0, none⟩), .int .i64 size] w fun e w' => e = .returned (.tuple #[.string ⟨#[]⟩, .bool false]) ∧ w = w' := by
  have hc : w.cell? ⟨g, 0, none⟩ = some (.string s) := cell_of_blk h 0
  have H := Lib.hid h
  clear h
  go_enter Tryd.func61, Tryd.ntmps61
  go_wp2_with (go_at_call 59; refine (take_no _ _ _ _ H.out hs).mono ?_; rintro e w' ⟨rfl, rfl⟩)
  go_ret2
  exact ⟨rfl, rfl⟩
set_option maxHeartbeats 800000 in
theorem rtext_few (g B : Nat) (s : ByteArray) (size : Nat) (w : World) (h : Rd g s w) (hB : B ≤ g) (h1 : 1 ≤ size) (h2 : size ≤ 4) (h3 : size ≤ s.size) (hs : s.size ≤ maxLen) (h4 : s.size < size + num (s.data.toList.take size)) :
    Calls Tryd.prog 61 #[.pointer (some ⟨g, 0, none⟩), .int .i64 (size : Int)] w fun e w' => e = .returned (.tuple #[.string ⟨#[]⟩, .bool false]) ∧ Rd g s w' ∧ Kept Rs B w w' := by
  have hc : w.cell? ⟨g, 0, none⟩ = some (.string s) := cell_of_blk h 0
  have hn := num_lt size (s.data.toList.take size) (by rw [List.length_take, size_list]; omega)
  have hp : 256 ^ size ≤ 256 ^ 4 := Nat.pow_le_pow_right (by omega) (by omega)
  have P := rd_set (t := s.extract size s.size) h hB
  have P2 := rd_set (t := s) P.1 hB
  have hf2 : (w.setCell ⟨g, 0, none⟩ (.string (s.extract size s.size))).frozen? ⟨g, 0, none⟩ = false := free_of_blk P.1 0
  have hc2 : (w.setCell ⟨g, 0, none⟩ (.string (s.extract size s.size))).cell? ⟨g, 0, none⟩ = some (.string (s.extract size s.size)) := cell_of_blk P.1 0
  obtain ⟨m, hm⟩ : ∃ m, m = num (s.data.toList.take size) := ⟨_, rfl⟩
  have T := take_yes g s size w h h1 h2 h3 hs
  rw [← hm] at hn h4 T
  have hm4 : m < 4294967296 := by omega
  have hes : (s.extract size s.size).size = s.size - size := by rw [ByteArray.size_extract]; omega
  have hlt : ((s.extract size s.size).size : Int) < (m : Int) := by rw [hes]; omega
  obtain ⟨t, ht⟩ : ∃ t, t = s.extract size s.size := ⟨_, rfl⟩
  rw [← ht] at T P P2 hf2 hc2 hlt
  have HT := Lib.hid T
  have HP := Lib.hid P
  have HP2 := Lib.hid P2
  clear hn hp hm h T P P2 ht hes
  go_enter Tryd.func61, Tryd.ntmps61
  go_wp2_with (go_at_call 59; refine HT.out.mono ?_; rintro e w' ⟨rfl, rfl⟩)
  go_ret2
  exact ⟨rfl, HP2.out.1, HP.out.2.trans HP2.out.2⟩
set_option maxHeartbeats 800000 in
theorem rtext_yes (g B : Nat) (s : ByteArray) (size : Nat) (w : World) (h : Rd g s w) (hB : B ≤ g) (h1 : 1 ≤ size) (h2 : size ≤ 4) (h3 : size ≤ s.size) (hs : s.size ≤ maxLen) (h4 : size + num (s.data.toList.take size) ≤ s.size) :
    Calls Tryd.prog 61 #[.pointer (some ⟨g, 0, none⟩), .int .i64 (size : Int)] w fun e w' => ∃ x s' : ByteArray, e = .returned (.tuple #[.string x, .bool true]) ∧
      x.data.toList = (s.data.toList.drop size).take (num (s.data.toList.take size)) ∧ s'.data.toList = s.data.toList.drop (size + num (s.data.toList.take size)) ∧ Rd g s' w' ∧ Kept Rs B w w' := by
  have hc : w.cell? ⟨g, 0, none⟩ = some (.string s) := cell_of_blk h 0
  have hn := num_lt size (s.data.toList.take size) (by rw [List.length_take, size_list]; omega)
  have hp : 256 ^ size ≤ 256 ^ 4 := Nat.pow_le_pow_right (by omega) (by omega)
  obtain ⟨m, hm⟩ : ∃ m, m = num (s.data.toList.take size) := ⟨_, rfl⟩
  have T := take_yes g s size w h h1 h2 h3 hs
  rw [← hm] at hn h4 T ⊢
  have hm4 : m < 4294967296 := by omega
  obtain ⟨t, ht⟩ : ∃ t, t = s.extract size s.size := ⟨_, rfl⟩
  have hes : t.size = s.size - size := by rw [ht, ByteArray.size_extract]; omega
  have hmt : m ≤ t.size := by omega
  have P := rd_set (t := t) h hB
  have P2 := rd_set (t := t.extract m t.size) P.1 hB
  have hf2 : (w.setCell ⟨g, 0, none⟩ (.string t)).frozen? ⟨g, 0, none⟩ = false := free_of_blk P.1 0
  have hc2 : (w.setCell ⟨g, 0, none⟩ (.string t)).cell? ⟨g, 0, none⟩ = some (.string t) := cell_of_blk P.1 0
  rw [← ht] at T
  have e1 : (t.extract 0 m).data.toList = (s.data.toList.drop size).take m := by rw [Lib.extract_data, ht, drop_of]; simp
  have e2 : (t.extract m t.size).data.toList = s.data.toList.drop (size + m) := by rw [drop_of, ht, drop_of, List.drop_drop]
  have E1 := Lib.hid e1
  have E2 := Lib.hid e2
  have HT := Lib.hid T
  have HP := Lib.hid P
  have HP2 := Lib.hid P2
  clear hn hp hm h T P P2 ht hes e1 e2
  go_enter Tryd.func61, Tryd.ntmps61
  go_wp2_with (go_at_call 59; refine HT.out.mono ?_; rintro e w' ⟨rfl, rfl⟩)
  go_ret2
  exact ⟨_, _, rfl, E1.out, E2.out, HP2.out.1, HP.out.2.trans HP2.out.2⟩
end Go.Proofs.YtapgagfeghfooaaDoor.ima
