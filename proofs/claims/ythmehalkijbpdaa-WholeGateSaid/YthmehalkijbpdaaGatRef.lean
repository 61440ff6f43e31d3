/- The reference's rows of ints: has, without, In. Condition: the rows lie in memory. -/
import Derived.Test.YthmehalkijbpdaaGatLeave
import Derived.Laws.AppendOwnNone
namespace Go.Proofs.Ythmehalkijbpdaa.gat
set_option maxRecDepth 100000
open Go.RowKit Go.Proofs.Ythmehalkijbpdaa.words Go.Proofs.Ythmehalkijbpdaa.lru Go.Proofs.Ythmehalkijbpdaa.mpi

def iC (L : List Int) : List Value := L.map (Value.int .i64)
/-- A row of ints. -/
def Rw (w : World) (B : Nat) (v : Value) (L : List Int) : Prop := w.ownsRow B 3 1 v L.length (iC L)
theorem iC_len (L : List Int) : (iC L).length = L.length := List.length_map ..
theorem iC_one (L : List Int) : ∀ u ∈ iC L, u.oneCell' = true := fun u hu => by
  obtain ⟨x, _, rfl⟩ := List.mem_map.1 hu
  rfl
theorem Rw.at_ {w : World} {B c : Nat} {A : Option Addr} {L : List Int} (h : Rw w B (.slice A L.length c) L) {j : Nat} {x : Int} (hj : L[j]? = some x) : ∃ b, A = some ⟨b, 0, none⟩ ∧ B ≤ b ∧ b < w.heap.size ∧ w.cell? ⟨b, j, none⟩ = some (.int .i64 x) := by
  obtain ⟨g, c', h1, h2, h3, h4⟩ := own_at h (j := j) (u := .int .i64 x) (by unfold iC; rw [List.getElem?_map, hj]; rfl)
  injection h1 with h1
  exact ⟨g, h1, h2, h3, h4⟩
theorem Rw.slice {w : World} {B : Nat} {v : Value} {L : List Int} (h : Rw w B v L) : ∃ A c, v = .slice A L.length c := by
  obtain ⟨A, c, h, _⟩ := own_facts h
  exact ⟨A, c, h⟩
theorem Rw.tn {S : Nat → Prop} {w w' : World} {B : Nat} {v : Value} {L : List Int} (h : Rw w B v L) (ht : Tn S w w') (hS : ∀ k, v.ownBlock = some k → ¬ S k) : Rw w' B v L := ht.own h hS
theorem Rw.later {w w' : World} {B : Nat} {v : Value} {L : List Int} (h : Rw w B v L) (hb : Below w.heap.size w w') : Rw w' B v L := ownL h hb
theorem Rw.mono {w : World} {B B' : Nat} {v : Value} {L : List Int} (h : Rw w B v L) (hB : B' ≤ B) : Rw w B' v L := own_mono h hB
def hasB (L : List Int) (x : Int) : Bool := L.contains x
set_option maxHeartbeats 800000 in
theorem has_any (B : Nat) (v : Value) (L : List Int) (x : Int) (w : World) (h : Rw w B v L) (hl : L.length ≤ 1000) :
    Calls Try.prog 30 #[v, .int .i64 x] w fun e w' => e = .returned (.bool (hasB L x)) ∧ w = w' := by
  obtain ⟨A, c, rfl⟩ := h.slice
  have H := Lib.hid h
  clear h
  go_enter Try.func30, Try.ntmps30
  go_wp2_with fail
  go_loop [5] (fun v => ∃ j : Nat, j ≤ L.length ∧ v = .int .i64 (j : Int) ∧ Hid (∀ i : Nat, i < j → L[i]? ≠ some x)) (fun v => L.length - (intOf v).toNat)
  case atStart => exact ⟨0, Nat.zero_le _, rfl, Lib.hid fun i hi => by omega⟩
  case round =>
    obtain ⟨j, hj, rfl, HJ⟩ := hrel
    have j0 : (0 : Int) ≤ (j : Int) := by omega
    by_cases hjl : j < L.length
    · obtain ⟨p, hp⟩ : ∃ p, L[j]? = some p := ⟨_, List.getElem?_eq_getElem hjl⟩
      obtain ⟨b, hA, _, _, cb⟩ := H.out.at_ hp
      subst hA
      have j1 : (j : Int) < (L.length : Int) := by omega
      by_cases e : p = x
      · subst e
        have hc : hasB L p = true := List.contains_iff_mem.2 (List.mem_of_getElem? hp)
        have HC := Lib.hid hc
        have he : (p == p) = true := by simp
        clear hp hc
        go_wp2_with fail
        go_ret
        exact ⟨by rw [HC.out]; rfl, rfl⟩
      · have he : (p == x) = false := by simpa using e
        have HJ' : Hid (∀ i : Nat, i < j + 1 → L[i]? ≠ some x) := Lib.hid fun i hi hx => by
          by_cases e2 : i < j
          · exact HJ.out i e2 hx
          · have : i = j := by omega
            subst this
            rw [hp] at hx
            injection hx with hx
            exact e hx
        clear hp e
        go_wp2_with fail
        go_round
        case rel => exact ⟨j + 1, by omega, by go_num, HJ'⟩
        case measure => simp [intOf]; omega
    · have hc : hasB L x = false := by
        rcases hc : hasB L x with _ | _
        · rfl
        · obtain ⟨i, hi⟩ := List.mem_iff_getElem?.1 (List.contains_iff_mem.1 hc)
          have := (List.getElem?_eq_some_iff.1 hi).1
          exact absurd hi (HJ.out i (by omega))
      have HC := Lib.hid hc
      clear hc
      go_wp2_with fail
      go_ret
      exact ⟨by rw [HC.out]; rfl, rfl⟩

theorem infoInt : (Try.prog.info? 3).map (fun i => (i.zero, i.size, i.bytes)) = some (some (.int .i64 0), 1, 8) := by kernel_rfl
theorem less_snoc (L : List Int) (x : Int) {j : Nat} {p : Int} (hp : L[j]? = some p) : less (L.take (j + 1)) x = less (L.take j) x ++ (if p = x then [] else [p]) := by
  obtain ⟨hj, hx⟩ := List.getElem?_eq_some_iff.1 hp
  rw [List.take_succ_eq_append_getElem hj, hx]
  unfold less
  rw [List.filter_append]
  congr 1
  by_cases h : p = x <;> simp [h]
theorem less_le (L : List Int) (x : Int) : (less L x).length ≤ L.length := List.length_filter_le _ _
def RowIn (w : World) (L : List Int) (e : Ending) (w' : World) : Prop := ∃ v, e = .returned v ∧ Rw w' w.heap.size v L ∧ Below w.heap.size w w'
set_option maxHeartbeats 1600000 in
theorem without_any (B : Nat) (v : Value) (L : List Int) (x : Int) (w : World) (h : Rw w B v L) (hl : L.length ≤ 1000) :
    Calls Try.prog 31 #[v, .int .i64 x] w (RowIn w (less L x)) := by
  obtain ⟨A, c, rfl⟩ := h.slice
  obtain ⟨iE, hiE, zE0, zE1, zE2⟩ := info_three infoInt
  obtain ⟨W1, hW1⟩ : ∃ W1, W1 = w.alloc (.cells #[] 3) := ⟨_, rfl⟩
  have hb1 : Below w.heap.size w W1 := by rw [hW1]; exact (Below.refl _ _).alloc (Nat.le_refl _) _
  have ho1 : Rw W1 w.heap.size (.slice (some ⟨w.heap.size, 0, none⟩) 0 0) [] := by
    rw [hW1]
    exact own_full w w.heap.size 1 0 3 [] (Nat.le_refl _) (by decide) rfl
  have H := Lib.hid h
  have HB1 := Lib.hid hb1
  have HO1 := Lib.hid ho1
  have HW1 := Lib.hid hW1
  clear h hb1 ho1 hW1
  go_enter Try.func31, Try.ntmps31
  go_upto_region 2 with fail
  rw [← HW1.out]
  go_wp2_with fail
  go_loopw [6, 5] (fun v v5 wr => ∃ j : Nat, v = .int .i64 (j : Int) ∧ j ≤ L.length ∧ Hid (Rw wr w.heap.size v5 (less (L.take j) x)) ∧ Hid (Below w.heap.size w wr)) (fun v _ _ => L.length - (intOf v).toNat)
  case atStart => exact ⟨0, rfl, Nat.zero_le _, HO1, HB1⟩
  case round =>
    obtain ⟨j, rfl, hj, HO, HB⟩ := hrel
    obtain ⟨Ar, cr, rfl⟩ := HO.out.slice
    have j0 : (0 : Int) ≤ (j : Int) := by omega
    by_cases hjl : j < L.length
    · obtain ⟨p, hp⟩ : ∃ p, L[j]? = some p := ⟨_, List.getElem?_eq_getElem hjl⟩
      obtain ⟨b, hA, _, hbl, cb⟩ := H.out.at_ hp
      subst hA
      have j1 : (j : Int) < (L.length : Int) := by omega
      have c0 : wr.cell? ⟨b, j, none⟩ = some (.int .i64 p) := (HB.out.cell (p := ⟨b, j, none⟩) hbl).trans cb
      by_cases e : p = x
      · subst e
        have he : (p != p) = false := by simp
        have he2 : (!(p == p)) = false := by simp
        have HO' : Hid (Rw wr w.heap.size (.slice Ar (less (L.take j) p).length cr) (less (L.take (j + 1)) p)) := Lib.hid (by
          rw [less_snoc L p hp, if_pos rfl, List.append_nil]; exact HO.out)
        clear hp HO cb
        go_wp2_with fail
        go_roundw
        case rel => exact ⟨j + 1, by go_num, by omega, HO', HB⟩
        case measure => simp [intOf]; omega
      · have he : (p != x) = true := by simpa using e
        have he2 : (!(p == x)) = true := by simpa using e
        have hs : less (L.take (j + 1)) x = less (L.take j) x ++ [p] := by rw [less_snoc L x hp, if_neg e]
        have HS := Lib.hid hs
        have hll := less_le (L.take j) x
        have htl : (L.take j).length ≤ L.length := by rw [List.length_take]; omega
        obtain ⟨Wc, hWc⟩ : ∃ Wc, Wc = wr.alloc (.cells #[.int .i64 p] 3) := ⟨_, rfl⟩
        have hbc : Below wr.heap.size wr Wc := by rw [hWc]; exact (Below.refl _ _).alloc (Nat.le_refl _) _
        have HNc : Hid (∀ (i : Nat) (u : Value), (iC [p])[i]? = some u → Wc.cell? ((⟨wr.heap.size, 0, none⟩ : Addr).add i) = some u) := Lib.hid fun i u hi => by rw [hWc, new_cell]; simpa [iC] using hi
        have HOc := Lib.hid (HO.out.later hbc)
        have HBc := Lib.hid (HB.out.trans (hbc.mono HB.out.size))
        have HONE := Lib.hid (iC_one [p])
        have HWc := Lib.hid hWc.symm
        clear hp HO HB cb hWc hbc hs
        go_wp2_with (at_builtin; rw [HWc.out]; refine wpList_append_own _ rfl (.tmp 20) (.tmp 25) 28 rfl w.heap.size 3 iE _ 1 8 Try.underlying28 hiE zE0 zE1 zE2 rfl (by omega) (.slice Ar (less (L.take j) x).length cr) (less (L.take j) x).length (iC (less (L.take j) x)) rfl HOc.out ⟨wr.heap.size, 0, none⟩ 1 1 (iC [p]) rfl rfl HNc.out HONE.out (by simp only [maxLen]; omega) (by omega) HBc.out.size ?_; intro v5' wq hownq hgrowq hnilq)
        have HBq := Lib.hid (keep_grown HBc.out HOc.out hgrowq (Nat.le_refl _) (Nat.le_refl _))
        have HOq : Hid (Rw wq w.heap.size v5' (less (L.take (j + 1)) x)) := Lib.hid (by
          rw [HS.out]
          unfold Rw iC
          rw [List.length_append, List.map_append]
          exact hownq)
        clear hownq hgrowq hnilq
        go_roundw
        case rel => exact ⟨j + 1, by go_num, by omega, HOq, HBq⟩
        case measure => simp [intOf]; omega
    · obtain rfl : j = L.length := by omega
      have HE : Hid (RowIn w (less L x) (.returned (.slice Ar (less (L.take L.length) x).length cr)) wr) := Lib.hid ⟨_, rfl, by
        have h := HO.out
        rw [List.take_length] at h ⊢
        exact h, HB.out⟩
      clear HO HB
      go_wp2_with fail
      go_ret
      exact HE.out

/-- Append of a row of the call's own: it may be none. -/
theorem wpList_append_row {P : Program} {w : World} {ops : Array Oper} {rest : List Oper} {o : Oper} {a : Act} {Q : Exit → Act → World → Prop} (hgd : o.guard = none) (s x : Operand) (t : TypeId)
    (ho : o.op = .call { callee := .builtin .append, args := #[s, x], argTypes := #[t, t] })
    (base : Nat) (e : TypeId) (i : TypeInfo) (z : Value) (size bytes : Nat) (ht : P.underlying t = some (.slice e)) (hi : P.info? e = some i) (hz : i.zero = some z)
    (hsize : i.size = size) (hby : i.bytes = bytes) (hzs : z.cells.size = size) (hsz : 0 < size)
    (v : Value) (n : Nat) (xs : List Value) (hs : a.eval s = v) (hown : w.ownsRow base e size v n xs)
    (base2 : Nat) (u : Value) (m : Nat) (news : List Value) (hx : a.eval x = u) (hu : w.ownsRow base2 e size u m news) (h1 : ∀ u ∈ news, u.oneCell' = true)
    (h63 : n + m ≤ maxLen) (hbytes : (n + m) * bytes ≤ 140737488355328) (hbase : base ≤ w.heap.size)
    (h : ∀ v' w', w'.ownsRow base e size v' (n + m) (xs ++ news) → w.grownBy w' v.ownBlock → wpList P ops Q rest (a.put o.dst v') w') : wpList P ops Q (o :: rest) a w := by
  have hu' := hu
  rcases hu.2 with ⟨rfl, rfl⟩ | ⟨g, cap, cur, rfl, hb, hh, k1, k2, k3, k4⟩
  · have hn : news = [] := List.eq_nil_of_length_eq_zero (by rw [hu.1, Nat.zero_mul])
    refine wpList_append_own_none hgd s x t ho base e i size ht hi v n xs hs hown hx (h v w ?_ ⟨rfl, rfl, rfl, Nat.le_refl _, fun _ _ _ => rfl⟩)
    rw [hn, List.append_nil, Nat.add_zero]
    exact hown
  · refine wpList_append_own w hgd s x t ho base e i z size bytes ht hi hz hsize hby hzs hsz v n xs hs hown ⟨g, 0, none⟩ m cap news hx hu.1 (fun j q hj => ?_) h1 h63 hbytes hbase fun v' w' k1 k2 _ => h v' w' k1 k2
    obtain ⟨g', c', e1, _, _, e4⟩ := own_at hu' hj
    injection e1 with e1
    injection e1 with e1
    injection e1 with e1
    subst e1
    rw [add_place, Nat.zero_add]
    exact e4
end Go.Proofs.Ythmehalkijbpdaa.gat
