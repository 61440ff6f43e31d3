/- What container/heap's Push and Pop, and the heads' put, leave of the heads. Conditions: the heads, and the texts that come in, lie in memory. -/
import Derived.Test.YtnokmhoaaancgaaGreatDoorJW6
import Derived.StillTailTactics
namespace Go.Proofs.YtnokmhoaaancgaaGreatDoor.heap
set_option maxRecDepth 100000
open Go.RowKit Go.Proofs.YtnokmhoaaancgaaGreatDoor.words
open scoped List

set_option maxHeartbeats 1600000 in
theorem hpush_heap (B g : Nat) (K : List Hd) (x : Hd) (w : World) (h : Heaps w B g K) (hB : B ≤ w.heap.size) (hp : Hp ltH K K.length) (hlen : K.length ≤ 90000) :
    Calls Tryz.prog 142 #[.iface 174 (.pointer (some ⟨g, 0, none⟩)), .iface 178 (hdV x)] w (Done (Heaped B g (K ++ [x]) w)) := by
  have hm1 := fun w => m_push ⟨g, 0, none⟩ w
  have hm2 := fun w => m_len ⟨g, 0, none⟩ w
  have HC := Lib.hid (hpush_any B g K x w h hB (by omega))
  have HP := Lib.hid hp
  unfold hdV at HC ⊢
  clear h hp
  go_enter Tryz.func142, Tryz.ntmps142
  go_wp2_with fail
  refine HC.out.mono ?_
  rintro e w2 ⟨⟨u, rfl⟩, hs2, hk2⟩
  have hl : (K ++ [x]).length = K.length + 1 := by simp
  have HS2 := Lib.hid hs2
  have HK2 := Lib.hid hk2
  have HL := Lib.hid (show Calls Tryz.prog 117 #[.pointer (some ⟨g, 0, none⟩)] w2 fun e w' => e = .returned (.int .i64 ((K.length : Int) + 1)) ∧ w2 = w' from (hlen_any B g _ w2 hs2).mono fun e w' ⟨h1, h2⟩ => ⟨by rw [h1, hl]; rfl, h2⟩)
  have HU := Lib.hid (up_any B g K.length (K ++ [x]) w2 hs2 (by omega) (by rw [hl]; exact Up.push HP.out x) (by omega))
  have k0 : (0 : Int) ≤ (K.length : Int) := by omega
  have k1 : (K.length : Int) ≤ 100000 := by omega
  clear hs2 hk2 HC hl
  go_wp2_with fail
  refine HL.out.mono ?_
  rintro e w3 ⟨rfl, rfl⟩
  go_wp2_with fail
  refine HU.out.mono ?_
  rintro e w3 ⟨⟨u, rfl⟩, L, hl3⟩
  have HE : Hid (Heaped B g (K ++ [x]) w w3) := Lib.hid ⟨L, hl3.hs, hl3.perm, hl3.hp, HK2.out.trans hl3.kept⟩
  clear hl3 HU HL
  go_wp2_with fail
  go_end0
  exact ⟨⟨_, rfl⟩, HE.out⟩

/-- The least head comes out. -/
structure PopIn (B g : Nat) (K : List Hd) (w : World) (x : Hd) (L : List Hd) (w' : World) : Prop where
  hs : Heaps w' B g L
  perm : K ~ x :: L
  least : ∀ y ∈ K, ¬ ltH y x
  hp : Hp ltH L L.length
  kept : Kept HS B w w'
def LeastOut (B g : Nat) (K : List Hd) (w : World) (e : Ending) (w' : World) : Prop := ∃ x L, e = .returned (.iface 178 (hdV x)) ∧ PopIn B g K w x L w'
set_option maxHeartbeats 1600000 in
theorem hpop_heap (B g n : Nat) (K : List Hd) (w : World) (h : Heaps w B g K) (hn : K.length = n + 1) (hp : Hp ltH K K.length) (hlen : K.length ≤ 100000) :
    Calls Tryz.prog 118 #[.iface 174 (.pointer (some ⟨g, 0, none⟩))] w (LeastOut B g K w) := by
  have hm1 := fun w => m_pop ⟨g, 0, none⟩ w
  have hm2 := fun w => m_len ⟨g, 0, none⟩ w
  have hm3 := fun w => m_swap ⟨g, 0, none⟩ w
  have HL := Lib.hid (show Calls Tryz.prog 117 #[.pointer (some ⟨g, 0, none⟩)] w fun e w' => e = .returned (.int .i64 ((n : Int) + 1)) ∧ w = w' from (hlen_any B g _ w h).mono fun e w' ⟨h1, h2⟩ => ⟨by rw [h1, hn]; rfl, h2⟩)
  have hi0 : 0 < K.length := by omega
  have hnl : n < K.length := by omega
  have HC1 := Lib.hid (hswap_int B g 0 n 0 (n : Int) K w h hi0 hnl rfl rfl)
  obtain ⟨x, hx⟩ : ∃ x, x = K[0]'hi0 := ⟨_, rfl⟩
  have hleast : ∀ y ∈ K, ¬ ltH y x := fun y hy => by
    obtain ⟨k, hk, rfl⟩ := List.mem_iff_getElem.1 hy
    rw [hx]
    exact hp.least ltH_ord k hk hk
  have hdn : Down ltH (swapL K 0 n hi0 hnl) n 0 := Down.start (n := n) (by rw [← hn]; exact hp) (by omega)
  have hlast : (swapL K 0 n hi0 hnl)[n]? = some x := by
    rw [List.getElem?_eq_getElem (by rw [swapL_length]; omega), swapL_get, if_pos rfl, hx]
  have k0 : (0 : Int) ≤ (n : Int) := by omega
  have k1 : (n : Int) ≤ 100000 := by omega
  have Hn := Lib.hid hn
  have HX := Lib.hid hlast
  have HLe := Lib.hid hleast
  have HDn := Lib.hid hdn
  clear h hp hx hleast hdn hlast hn
  go_enter Tryz.func118, Tryz.ntmps118
  go_wp2_with fail
  refine HL.out.mono ?_
  rintro e w2 ⟨rfl, rfl⟩
  go_wp2_with fail
  refine HC1.out.mono ?_
  rintro e w2 ⟨⟨u, rfl⟩, hs2, hk2⟩
  have HD := Lib.hid (down_any B g n _ w2 hs2 (by rw [swapL_length, Hn.out]; omega) HDn.out (by rw [swapL_length]; omega))
  have HK2 := Lib.hid hk2
  clear hs2 hk2 HC1 HL
  go_wp2_with fail
  refine HD.out.mono ?_
  rintro e w3 ⟨⟨bb, rfl⟩, L, hl3⟩
  have hlen3 : L.length = n + 1 := by rw [hl3.perm.length_eq, swapL_length, Hn.out]
  have hLn : L[n]? = some x := hl3.last.trans HX.out
  have hsplit : L = L.take n ++ [x] := by
    obtain ⟨hlt, hxx⟩ := List.getElem?_eq_some_iff.1 hLn
    rw [← hxx, ← List.take_succ_eq_append_getElem hlt, List.take_of_length_le (by omega)]
  have hs3 := hl3.hs
  rw [hsplit] at hs3
  have HP := Lib.hid (hpop_any B g (L.take n) x w3 hs3 (by rw [List.length_take]; omega))
  have hperm : K ~ x :: L.take n := by
    refine (swapL_perm K 0 n hi0 hnl).symm.trans (hl3.perm.symm.trans ?_)
    rw [hsplit]
    rw [List.take_left' (by rw [List.length_take]; omega)]
    exact List.perm_append_comm
  have hhp : Hp ltH (L.take n) (L.take n).length := by
    rw [List.length_take, Nat.min_eq_left (by omega)]
    exact hl3.hp.take n (Nat.le_refl _)
  have HPm := Lib.hid hperm
  have HHp := Lib.hid hhp
  have HK3 := Lib.hid (HK2.out.trans hl3.kept)
  clear hl3 hlen3 hLn hsplit hs3 hperm hhp HD HK2
  go_wp2_with fail
  refine HP.out.mono ?_
  rintro e w4 ⟨rfl, hs4, hk4⟩
  have HE : Hid (PopIn B g K w x (L.take n) w4) := Lib.hid ⟨hs4, HPm.out, HLe.out, HHp.out, HK3.out.trans hk4⟩
  clear hs4 hk4 HP
  go_wp2_with fail
  go_ret
  exact ⟨x, L.take n, rfl, HE.out⟩

theorem infoStr : (Tryz.prog.info? 9).map (fun i => (i.zero, i.size, i.bytes)) = some (some (.string ⟨#[]⟩), 1, 16) := by kernel_rfl
theorem cut_texts (A : Option Addr) (n cap i : Nat) (h : i ≤ n) (wx : World) :
    (Instr.slice 44 (.slice A n cap) (some (.int .i64 (i : Int))) none none).run Tryz.prog wx = .ok (.slice (if cap = i then A else A.map (·.add (i * 1))) (n - i) (cap - i)) wx := by
  obtain ⟨i0, hi, hz0, hz1, hz2⟩ := info_three infoStr
  have he : Tryz.prog.elem 44 = 9 := by kernel_rfl
  rw [run_slice_l (P := Tryz.prog) wx 44 A n cap (by kernel_rfl) .i64 (i : Int) (by omega) (by omega), he]
  simp [sizeOf, typeInfo, hi, hz1, Result.andThen, sliced]
theorem add_one (b off : Nat) : (⟨b, off, none⟩ : Addr).add (1 * 1) = ⟨b, off + 1, none⟩ := by unfold Addr.add; split <;> simp_all
/-- The heads' texts lie below B. -/
def Tails (w : World) (B : Nat) (K : List Hd) : Prop := ∀ h ∈ K, Row w B h.A h.t ∧ h.t.length ≤ h.c ∧ h.c ≤ maxLen ∧ Ris (h.s :: h.t)
def PutIn (w0 : World) (B g r : Nat) (N : List ByteArray) (K : List Hd) (w w' : World) : Prop :=
  ∃ E : List Hd, E.flatMap Hd.its = N.map (fun s => (s, r)) ∧ E.length ≤ 1 ∧ Tails w0 B E ∧ Heaped B g (K ++ E) w w'
set_option maxHeartbeats 1600000 in
theorem put_any (w0 : World) (B g r c : Nat) (A : Option Addr) (N : List ByteArray) (K : List Hd) (w : World) (hN : Row w0 B A N) (hc : N.length ≤ c) (hcm : c ≤ maxLen) (hR : Ris N) (h0 : Below B w0 w) (h : Heaps w B g K) (hB : B ≤ w.heap.size) (hp : Hp ltH K K.length) (hlen : K.length ≤ 90000) :
    Calls Tryz.prog 116 #[.pointer (some ⟨g, 0, none⟩), .int .i64 (r : Int), .slice A N.length c] w (Done (PutIn w0 B g r N K w)) := by
  unfold maxLen at hcm
  rcases N with _ | ⟨s, t⟩
  · have HE : Hid (PutIn w0 B g r [] K w w) := Lib.hid ⟨[], rfl, by simp, fun h hh => (by cases hh), K, h, (by rw [List.append_nil]), hp, Kept.refl _ _ _⟩
    clear h hp hN h0
    go_enter Tryz.func116, Tryz.ntmps116
    go_wp2_with fail
    go_end0
    exact ⟨⟨_, rfl⟩, HE.out⟩
  · obtain ⟨b, off, rfl, hb, c0⟩ := hN 0 s rfl
    have cw : w.cell? ⟨b, off, none⟩ = some (.string s) := (h0.cell (p := ⟨b, off, none⟩) hb).trans c0
    have e1 : (s :: t).length = t.length + 1 := rfl
    rw [e1] at hc ⊢
    have i1 : (0 : Int) < (t.length : Int) + 1 := by omega
    have i2 : (0 : Nat) < t.length + 1 := by omega
    have i3 : ((t.length : Int) + 1) ≤ (c : Int) := by omega
    obtain ⟨A', hA'⟩ : ∃ A' : Option Addr, A' = if c = 1 then some ⟨b, off, none⟩ else (some ⟨b, off, none⟩ : Option Addr).map (·.add (1 * 1)) := ⟨_, rfl⟩
    have hr : Row w0 B A' t := by
      rw [hA']
      by_cases hc1 : c = 1
      · have ht : t = [] := List.eq_nil_of_length_eq_zero (by omega)
        rw [ht]
        exact Row.nil _ _ _
      · rw [if_neg hc1, Option.map_some, add_one]
        exact hN.tail
    have hsl : ∀ W : World, (Instr.slice 44 (.slice (some ⟨b, off, none⟩) (t.length + 1) c) (some (.int .i64 1)) none none).run Tryz.prog W = .ok (.slice A' t.length (c - 1)) W := fun W => by
      rw [hA']
      exact cut_texts _ _ _ 1 (by omega) W
    obtain ⟨x, hx⟩ : ∃ x : Hd, x = ⟨s, r, A', c - 1, t⟩ := ⟨_, rfl⟩
    have hC := hpush_heap B g K x w.drew h.drew (by exact hB) hp hlen
    have hE : ∀ w', Heaped B g (K ++ [x]) w.drew w' → PutIn w0 B g r (s :: t) K w w' := fun w' ⟨L, q1, q2, q3, q4⟩ =>
      ⟨[x], by rw [hx]; simp [Hd.its, Hd.it], by simp, fun y hy => by
        obtain rfl : y = x := by simpa using hy
        rw [hx]
        exact ⟨hr, (by show t.length ≤ c - 1; omega), (by show c - 1 ≤ maxLen; unfold maxLen; omega), hR⟩, L, q1, q2, q3, (Kept.refl HS B w).drew.trans q4⟩
    unfold hdV at hC
    rw [hx] at hC hE
    have HC := Lib.hid hC
    have HE := Lib.hid hE
    clear hC hE hx h hp hN h0 c0 hA' hr
    go_enter Tryz.func116, Tryz.ntmps116
    go_wp2_with fail
    go_still_tail 11, (by kernel_rfl)
    change wpList _ _ _ _ _ w.drew
    generalize hw : w.drew = w2
    rw [hw] at HC HE
    clear hw cw
    go_wp2_with fail
    refine HC.out.mono ?_
    rintro e w3 ⟨⟨u, rfl⟩, h3⟩
    have H3 := Lib.hid (HE.out w3 h3)
    clear h3 HC HE
    go_wp2_with fail
    go_end0
    exact ⟨⟨_, rfl⟩, H3.out⟩
end Go.Proofs.YtnokmhoaaancgaaGreatDoor.heap
