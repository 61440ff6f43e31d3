/- What Writer.Put does, at any number and any size: a number that fits is written, the highest byte first; else nothing is. Condition: the writer has at most a billion bytes. -/
import Derived.Test.YtikcipibdebcaaaChecked
import Derived.Test.YtikcipibdebcaaaWords
import Derived.WalkKit
import Derived.WalkSpells
import Derived.Deep.RegionHeld3
import Derived.Deep.RegionLaw
import Derived.Deep.LoopGhost
import Derived.Lib.Hide
import Derived.IntWalk
import Derived.KernelRfl
namespace Go.Proofs.Ytikcipibdebcaaa.wire
open Go.RowKit Go.Proofs.Ytikcipibdebcaaa.words

theorem info5 : (Try.prog.info? 5).map (fun i => (i.zero, i.size, i.bytes)) = some (some (.int .u8 0), 1, 1) := by kernel_rfl

def sz (size : Int) : Bool := decide (1 ≤ size ∧ size ≤ 4)
theorem sized_yes (size : Int) (w : World) (h1 : 1 ≤ size) (h2 : size ≤ 4) : Calls Try.prog 17 #[.int .i64 size] w fun e w' => e = .returned (.bool true) ∧ w = w' := by
  go_enter Try.func17, Try.ntmps17
  go_wp2
  go_ret
  exact ⟨rfl, rfl⟩
theorem sized_no (size : Int) (w : World) (h : size < 1 ∨ 4 < size) : Calls Try.prog 17 #[.int .i64 size] w fun e w' => e = .returned (.bool false) ∧ w = w' := by
  rcases h with h | h
  · go_enter Try.func17, Try.ntmps17
    go_wp2
    go_ret
    exact ⟨rfl, rfl⟩
  · have h1 : 1 ≤ size := by omega
    have h2 : decide (size ≤ 4) = false := by simp; omega
    · go_enter Try.func17, Try.ntmps17
      go_wp2
      go_ret
      exact ⟨rfl, rfl⟩
set_option maxHeartbeats 400000 in
theorem put_size (n size : Int) (b : Nat) (w : World) (h : size < 1 ∨ 4 < size) : Calls Try.prog 10 #[.pointer (some ⟨b, 0, none⟩), .int .i64 n, .int .i64 size] w fun e w' => e = .returned (.bool false) ∧ w = w' := by
  go_enter Try.func10, Try.ntmps10
  go_wp2_with (go_at_call 17; refine (sized_no _ _ h).mono ?_; rintro e w' ⟨rfl, rfl⟩)
  go_ret
  exact ⟨rfl, rfl⟩
set_option maxHeartbeats 400000 in
theorem put_big (n size : Int) (b : Nat) (w : World) (h1 : 1 ≤ size) (h2 : size ≤ 4) (h : n < 0 ∨ 2 ^ (8 * size).toNat ≤ n) : Calls Try.prog 10 #[.pointer (some ⟨b, 0, none⟩), .int .i64 n, .int .i64 size] w fun e w' => e = .returned (.bool false) ∧ w = w' := by
  rcases h with h | h
  · go_enter Try.func10, Try.ntmps10
    go_wp2_with (go_at_call 17; refine (sized_yes _ _ h1 h2).mono ?_; rintro e w' ⟨rfl, rfl⟩)
    go_ret
    exact ⟨rfl, rfl⟩
  · have hp : (0 : Int) < 2 ^ (8 * size).toNat := Int.pow_pos (by omega)
    have h0 : decide (n < 0) = false := by simp; omega
    have hq : (n / 2 ^ (8 * size).toNat != 0) = true := by
      have : 1 ≤ n / 2 ^ (8 * size).toNat := Int.le_ediv_of_mul_le hp (by omega)
      rw [bne_iff_ne]; omega
    clear hp h
    go_enter Try.func10, Try.ntmps10
    go_wp2_with (go_at_call 17; refine (sized_yes _ _ h1 h2).mono ?_; rintro e w' ⟨rfl, rfl⟩)
    go_ret
    exact ⟨rfl, rfl⟩

/-- The byte at the e-th place of a number, the lowest first. -/
def byteAt (n : Int) (e : Nat) : UInt8 := UInt8.ofNat ((n / 2 ^ (8 * e)) % 256).toNat
/-- A number in so many bytes, the highest first. -/
def be (n : Int) (size : Nat) : List UInt8 := (List.range size).map fun k => byteAt n (size - 1 - k)
theorem be_length (n : Int) (size : Nat) : (be n size).length = size := by simp [be]
theorem be_take (n : Int) (size k : Nat) (h : k < size) : (be n size).take (k + 1) = (be n size).take k ++ [byteAt n (size - 1 - k)] := by
  rw [List.take_succ_eq_append_getElem (by rw [be_length]; exact h)]
  simp [be]

theorem shift_of (n : Int) (E : Nat) (h : E ≤ 3) : Op.shift .shr .i64 n .i64 (8 * (E : Int)) = pure (.int .i64 (n / 2 ^ (8 * E))) := by
  have h := shift_shr .i64 .i64 n (8 * (E : Int)) (by omega) (by simp [IntKind.bits]; omega)
  have e8 : (8 * (E : Int)).toNat = 8 * E := by omega
  rw [e8] at h
  exact h

theorem blk_grown {w w1 : World} {o : Obj} {b : Nat} {x : Obj} {row : Option Nat} (hb : w.heap[b]? = some x) (hg : (w.alloc o).drew.grownBy w1 row) (hne : row ≠ some b) : w1.heap[b]? = some x := by
  have h1 : (w.alloc o).drew.heap[b]? = some x := (Below.heap_alloc w o b (lt_of_some hb)).trans hb
  exact (hg.block b (lt_of_some h1) (Ne.symm hne)).trans h1
theorem byte_value (n : Int) (E : Nat) : [Value.int .u8 (IntKind.u8.wrap (n / 2 ^ (8 * E)))] = Lib.byteCells [byteAt n E] := by
  simp only [Lib.byteCells, List.map_cons, List.map_nil, byteAt, IntKind.wrap_u8]
  have h1 : 0 ≤ n / 2 ^ (8 * E) % 256 := Int.emod_nonneg _ (by omega)
  have h2 : n / 2 ^ (8 * E) % 256 < 256 := Int.emod_lt_of_pos _ (by omega)
  have h3 : ((UInt8.ofNat (n / 2 ^ (8 * E) % 256).toNat).toNat : Int) = n / 2 ^ (8 * E) % 256 := by
    rw [UInt8.toNat_ofNat']; omega
  rw [h3]

/-- What one round does to the bytes. -/
theorem put_step {B b gg cap : Nat} {cs : List UInt8} {n : Int} {E : Nat} {v : Value} {wr w1 : World} {o : Obj} (hB : B ≤ b) (hb : wr.heap[b]? = some (.cells #[v] 26 (0, 0))) (ho : wr.ownsRow B 5 1 v cs.length (Lib.byteCells cs))
    (hown1 : w1.ownsRow B 5 1 (.slice (some ⟨gg, 0, none⟩) (cs.length + 1) cap) (cs.length + 1) (Lib.byteCells cs ++ [.int .u8 (IntKind.u8.wrap (n / 2 ^ (8 * E)))])) (hg : (wr.alloc o).drew.grownBy w1 v.ownBlock) :
    Wr 26 5 B b (cs ++ [byteAt n E]) (w1.setCell ⟨b, 0, none⟩ (.slice (some ⟨gg, 0, none⟩) (cs.length + 1) cap)) ∧ Kept (fun t => t = 26 ∨ t = 5) B wr (w1.setCell ⟨b, 0, none⟩ (.slice (some ⟨gg, 0, none⟩) (cs.length + 1) cap)) := by
  have hb' : (wr.alloc o).drew.heap[b]? = some (.cells #[v] 26 (0, 0)) := (Below.heap_alloc wr o b (lt_of_some hb)).trans hb
  have ho' : (wr.alloc o).drew.ownsRow B 5 1 v cs.length (Lib.byteCells cs) := (ho.alloc o).drew
  have P := Wr.put (T := 26) (E := 5) (bs' := cs ++ [byteAt n E]) (v' := .slice (some ⟨gg, 0, none⟩) (cs.length + 1) cap) (by decide) hB hb' ho' (by
    rw [byte_value] at hown1
    have e1 : Lib.byteCells (cs ++ [byteAt n E]) = Lib.byteCells cs ++ Lib.byteCells [byteAt n E] := by simp [Lib.byteCells]
    have e2 : (cs ++ [byteAt n E]).length = cs.length + 1 := by simp
    rw [e1, e2]
    exact hown1) hg
  exact ⟨P.1, (((Kept.refl _ B wr).alloc o).drew).trans P.2⟩

set_option maxHeartbeats 1600000 in
theorem put_fits (n : Int) (s b B : Nat) (bs : List UInt8) (w : World) (hw : Wr 26 5 B b bs w) (h1 : 1 ≤ s) (h2 : s ≤ 4) (h3 : 0 ≤ n) (h4 : n < 2 ^ (8 * s)) (hlen : bs.length ≤ 1000000000) :
    Calls Try.prog 10 #[.pointer (some ⟨b, 0, none⟩), .int .i64 n, .int .i64 (s : Int)] w fun e w' => e = .returned (.bool true) ∧ Wr 26 5 B b (bs ++ be n s) w' ∧ Kept (fun t => t = 26 ∨ t = 5) B w w' := by
  obtain ⟨i0, hi, hz0, hz1, hz2⟩ := info_parts info5
  have h0 : decide (n < 0) = false := by simp; omega
  have hq : (n / 2 ^ (8 * s) != 0) = false := by
    have : n / 2 ^ (8 * s) = 0 := Int.ediv_eq_zero_of_lt h3 h4
    rw [bne_eq_false_iff_eq]; exact this
  have HW := Lib.hid hw
  clear h4 hw
  go_enter Try.func10, Try.ntmps10
  go_wp2_with (go_at_call 17; refine (sized_yes _ _ (by omega) (by omega)).mono ?_; rintro e w' ⟨rfl, rfl⟩)
  clear hq h0
  go_loopw [7, 23] (fun _ c wr => ∃ k : Nat, k ≤ s ∧ c = .int .i64 k ∧ Wr 26 5 B b (bs ++ (be n s).take k) wr ∧ Kept (fun t => t = 26 ∨ t = 5) B w wr)
    (fun _ c _ => s - (intOf c).toNat)
  case atStart => exact ⟨0, Nat.zero_le _, rfl, by simpa using HW.out, Kept.refl _ _ _⟩
  case round =>
    obtain ⟨k, hk, rfl, hWr, hkeep⟩ := hrel
    have HK := Lib.hid hkeep
    clear hkeep
    by_cases hlt : k < s
    · obtain ⟨cs, hcs⟩ : ∃ cs, cs = bs ++ (be n s).take k := ⟨_, rfl⟩
      rw [← hcs] at hWr
      have hcl : cs.length ≤ 1000000004 := by
        rw [hcs, List.length_append, List.length_take, be_length]; omega
      have HCS := Lib.hid hcs
      obtain ⟨hB, v, hb, ho⟩ := hWr
      have hcell : wr.cell? ⟨b, 0, none⟩ = some v := cell_of_blk hb 0
      have HB := Lib.hid hb
      have HO := Lib.hid ho
      obtain ⟨E, hE⟩ : ∃ E, E = s - 1 - k := ⟨_, rfl⟩
      have HE := Lib.hid hE
      have q1 : IntKind.i64.wrap ((s : Int) - 1) = (s : Int) - 1 := IntWalk.i64_in _ (by omega)
      have q2 : IntKind.i64.wrap ((s : Int) - 1 - (k : Int)) = (E : Int) := by rw [IntWalk.i64_in _ (by omega)]; omega
      have q3 : IntKind.i64.wrap (8 * (E : Int)) = 8 * (E : Int) := IntWalk.i64_in _ (by omega)
      have q4 : Op.shift .shr .i64 n .i64 (8 * (E : Int)) = pure (.int .i64 (n / 2 ^ (8 * E))) := shift_of n E (by omega)
      clear hE hcs hb ho
      have hbl := lt_of_some HB.out
      have hne := own_ne HO.out HB.out (by decide)
      go_wp2_with fail
      go_region_law
        ((refine step_append_lies _ (by rfl) _ _ _ (by rfl) B 5 i0 _ 1 1 Try.underlying24 hi hz0 hz1 hz2 rfl (by omega) v _ _ (by rfl) ((HO.out.alloc _).drew)
            ⟨wr.heap.size, 0, none⟩ 1 1 [.int .u8 (IntKind.u8.wrap (n / 2 ^ (8 * E)))] (by rfl) (by rfl) (World.news_of_block (cs := #[.int .u8 (IntKind.u8.wrap (n / 2 ^ (8 * E)))]) (t := 5) (fr := (0, 0)) (heap_alloc_new wr _)) (by simp [Value.oneCell'])
            (by omega) (by simp [maxLen]; omega) (by simp; omega) (by have := lt_of_some HB.out; simp; omega) (wr.heap.size + 1) (by simp) ?_; intro gg cap w1 hown1 hgrow hat hlt1; have hc1 := cell_of_blk (blk_grown HB.out hgrow hne) 0; have hf1 := free_of_blk (blk_grown HB.out hgrow hne) 0))
      all_goals
        have P := put_step hB HB.out HO.out hown1 hgrow
        have HP := Lib.hid P
        clear P hown1 hgrow hat hlt1 hc1 hf1 hcell q1 q2 q3 q4
        go_wp2
        go_roundw
        case rel =>
          have e1 : bs ++ (be n s).take (k + 1) = cs ++ [byteAt n E] := by
            rw [be_take n s k hlt, HCS.out, HE.out, List.append_assoc]
          exact ⟨k + 1, by omega, by go_num, by rw [e1]; exact HP.out.1, HK.out.trans HP.out.2⟩
        case measure => simp [intOf]; omega
    · have HR := Lib.hid hWr
      clear hWr
      go_wp2
      go_ret
      refine ⟨rfl, ?_, HK.out⟩
      have := HR.out
      rwa [List.take_of_length_le (by rw [be_length]; omega)] at this
end Go.Proofs.Ytikcipibdebcaaa.wire
