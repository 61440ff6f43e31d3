/- What call's page answers. Condition: at most a hundred names, each of at most a thousand bytes. -/
import Derived.Test.YtblhicfllomdlaaDoorCalText
namespace Go.Proofs.YtblhicfllomdlaaDoor.cal
set_option maxRecDepth 100000
open Go.RowKit Go.Proofs.YtblhicfllomdlaaDoor.words

/-- An answer, as it lies in slots, and in memory. -/
def resV (e k z h d : Int) (t : ByteArray) (A : Option Addr) (N : List ByteArray) (c : Nat) (en : Bool) : Value := .agg #[.int .i64 e, .int .i64 k, .int .i64 z, .int .i64 h, .int .i64 d, .string t, .slice A N.length c, .bool en]
def resB (e k z h d : Int) (t : ByteArray) (A : Option Addr) (N : List ByteArray) (c : Nat) (en : Bool) : Obj := .cells #[.int .i64 e, .int .i64 k, .int .i64 z, .int .i64 h, .int .i64 d, .string t, .slice A N.length c, .bool en] 40 (0, 0)
def endL : List UInt8 := [101, 110, 100]
def pageM (en : Bool) (N : List (List UInt8)) : List (List UInt8) := (if en then [endL] else []) ++ N.map hexL
def Few (N : List ByteArray) : Prop := N.length ≤ 100 ∧ ∀ x ∈ N, x.size ≤ 1000
theorem pageM_snoc (en : Bool) (N : List (List UInt8)) (x : List UInt8) : pageM en (N ++ [x]) = pageM en N ++ [hexL x] := by simp [pageM, List.append_assoc]
theorem take_one {α : Type} {L : List α} {i : Nat} {x : α} (h : L[i]? = some x) : L.take (i + 1) = L.take i ++ [x] := by
  obtain ⟨hi, rfl⟩ := List.getElem?_eq_some_iff.1 h
  exact List.take_succ_eq_append_getElem hi
/-- What is gathered. -/
structure Got (w : World) (L : List (List UInt8)) (v : Value) (Q : List ByteArray) (wr : World) : Prop where
  row : wr.ownsRow w.heap.size 9 1 v Q.length (Q.map Value.string)
  data : dataL Q = L
  low : Below w.heap.size w wr
theorem Got.later {w : World} {L : List (List UInt8)} {v : Value} {Q : List ByteArray} {wr w' : World} (h : Got w L v Q wr) (hb : Below wr.heap.size wr w') : Got w L v Q w' := ⟨own_later h.row hb, h.data, h.low.trans (hb.mono h.low.size)⟩
theorem Got.val {w : World} {L : List (List UInt8)} {v : Value} {Q : List ByteArray} {wr : World} (h : Got w L v Q wr) : ∃ A c, v = .slice A Q.length c ∧ Sl wr A Q ∧ (A = none → Q.length = 0 ∧ c = 0) := by
  rcases h.row.2 with ⟨rfl, h0⟩ | ⟨g, cap, cur, rfl, _, hg, _⟩
  · refine ⟨none, 0, by rw [h0], fun i x hx => ?_, fun _ => ⟨h0, rfl⟩⟩
    have := (List.getElem?_eq_some_iff.1 hx).1
    omega
  · refine ⟨_, _, rfl, fun i x hx => ⟨g, 0, rfl, lt_of_some hg, ?_⟩, fun h => by cases h⟩
    have := h.row.cells (g := g) rfl i (.string x) (by rw [List.getElem?_map, hx]; rfl)
    rw [add_place] at this
    exact this
theorem Got.more {w : World} {L : List (List UInt8)} {v v' : Value} {Q : List ByteArray} {wr w1 w2 : World} (h : Got w L v Q wr) (hb : Below wr.heap.size wr w1) (r : ByteArray) (hg : w1.grownBy w2 v.ownBlock) (ho : w2.ownsRow w.heap.size 9 1 v' (Q.length + 1) (Q.map Value.string ++ [.string r])) : Got w (L ++ [r.data.toList]) v' (Q ++ [r]) w2 := by
  have h1 := h.later hb
  refine ⟨?_, by rw [← h.data]; simp [dataL], keep_grown h1.low h1.row hg (Nat.le_refl _)⟩
  rw [List.length_append, List.map_append]
  exact ho
set_option maxHeartbeats 6400000 in
theorem page_any (e k z h d : Int) (t : ByteArray) (A : Option Addr) (N : List ByteArray) (c : Nat) (en : Bool) (w : World) (hN : Sl w A N) (hF : Few N) :
    Calls Tryd.prog 48 #[resV e k z h d t A N c en] w fun e w' => ∃ v Q, e = .returned v ∧ Got w (pageM en (dataL N)) v Q w' := by
  obtain ⟨i0, hi, hz0, hz1, hz2⟩ := info_parts info9
  obtain ⟨W1, hW1⟩ : ∃ W1, W1 = w.alloc (.cells #[.int .i64 e, .int .i64 k, .int .i64 z, .int .i64 h, .int .i64 d, .string t, .slice A N.length c, .bool en] 40) := ⟨_, rfl⟩
  have hb1 : Below w.heap.size w W1 := by rw [hW1]; exact (Below.refl _ _).alloc (Nat.le_refl _) _
  have hx : W1.heap[w.heap.size]? = some (resB e k z h d t A N c en) := by rw [hW1]; exact heap_alloc_new w _
  have HX := Lib.hid hx
  unfold resB at hx
  have HS := Lib.hid hN
  have HFw := Lib.hid hF
  have HB1 := Lib.hid hb1
  have HW := Lib.hid hW1.symm
  have c7 : W1.cell? ⟨w.heap.size, 7, none⟩ = some (.bool en) := cell_of_blk hx 7
  have c6 : W1.cell? ⟨w.heap.size, 6, none⟩ = some (.slice A N.length c) := cell_of_blk hx 6
  have hl : N.length ≤ 100 := hF.1
  clear hW1 hb1 hx hN hF
  unfold resV
  go_enter Tryd.func48, Tryd.ntmps48
  go_upto_region 1 with fail
  rw [HW.out]
  clear HW
  cases en with
  | false =>
    have H0 : Hid (Got w (pageM false (dataL (N.take 0))) (.slice none 0 0) [] W1) := Lib.hid ⟨World.ownsRow_nil _ _ _ _, rfl, HB1.out⟩
    go_wp2_with fail
    go_loopw [14, 3] (fun v14 v3 wr => ∃ (j : Nat) (Q : List ByteArray), j ≤ N.length ∧ v14 = .int .i64 (j : Int) ∧ Q.length ≤ j + 1 ∧ Hid (Got w (pageM false (dataL (N.take j))) v3 Q wr)) (fun v _ _ => N.length - (intOf v).toNat)
    case atStart => exact ⟨0, _, Nat.zero_le _, rfl, by simp, H0⟩
    case round =>
      clear H0
      obtain ⟨j, Q, hj, rfl, hq, hH⟩ := hrel
      have j0 : (0 : Int) ≤ (j : Int) := by omega
      by_cases hjs : j < N.length
      · have j1 : (j : Int) < (N.length : Int) := by omega
        obtain ⟨x, hxj⟩ : ∃ x, N[j]? = some x := ⟨_, List.getElem?_eq_getElem hjs⟩
        obtain ⟨b, off, hA, hb, hcx⟩ := (HS.out.later hH.out.low) j x hxj
        subst hA
        have HC := Lib.hid (hex_any x wr (by have := HFw.out.2 x (List.mem_of_getElem? hxj); omega))
        have HXj := Lib.hid (show pageM false (dataL (N.take (j + 1))) = pageM false (dataL (N.take j)) ++ [hexL x.data.toList] by rw [take_one hxj, dataL, List.map_append]; exact pageM_snoc _ _ _)
        obtain ⟨A3, c3, rfl, _, _⟩ := hH.out.val
        clear hxj hb
        go_wp2_with fail
        refine HC.out.mono ?_
        rintro en2 w3 ⟨⟨r, rfl, hr⟩, hb3⟩
        have HG := Lib.hid (hH.out.later hb3)
        have HO := Lib.hid (fun o : Obj => (own_later (HG.out.row) ((Below.refl w3.heap.size w3).alloc (Nat.le_refl _) o) : (w3.alloc o).ownsRow w.heap.size 9 1 (.slice A3 Q.length c3) Q.length (Q.map Value.string)))
        have HR := Lib.hid hr
        have HZ := Lib.hid HG.out.low.size
        clear hr hb3 HC hH hcx
        go_wp2_with (at_builtin; refine wpList_append_own _ rfl (.tmp 18) (.tmp 21) 38 rfl w.heap.size 9 i0 _ 1 16 Tryd.underlying38 hi hz0 hz1 hz2 rfl (by decide) (.slice A3 Q.length c3) Q.length (Q.map Value.string) rfl (HO.out _) ⟨w3.heap.size, 0, none⟩ 1 1 [.string r] rfl rfl (World.news_of_block (cs := #[.string r]) (heap_alloc_new w3 _)) (by simp [Value.oneCell']) (by unfold maxLen; omega) (by omega) (by have := HZ.out; simp; omega) ?_; intro v4 w4 hown4 hgrow4 _; have hg4 := HG.out.more ((Below.refl w3.heap.size w3).alloc (Nat.le_refl _) _) r hgrow4 hown4; obtain ⟨A4, c4, rfl, _, _⟩ := hg4.val; rw [HR.out, ← HXj.out] at hg4; have hlen4 : (Q ++ [r]).length = Q.length + 1 := (by simp); rw [hlen4] at hg4; clear hlen4; have H4 := Lib.hid hg4; clear hown4 hgrow4 hg4)
        go_wp2_with fail
        go_roundw
        case rel => exact ⟨j + 1, Q ++ [r], by omega, by go_num, by rw [List.length_append]; simp; omega, H4⟩
        case measure => simp [intOf]; omega
      · obtain rfl : j = N.length := by omega
        have j1 : ¬ (N.length : Int) < (N.length : Int) := by omega
        have h1 := hH.out
        rw [List.take_length] at h1
        have HF := Lib.hid h1
        clear h1 hH
        go_wp2_with fail
        go_ret
        exact ⟨_, rfl, Q, HF.out⟩
  | true =>
    have HO : Hid (∀ o : Obj, (W1.alloc o).ownsRow w.heap.size 9 1 (.slice none 0 0) 0 []) := Lib.hid fun o => World.ownsRow_nil _ _ _ _
    have hz := HB1.out.size
    have HXl := Lib.hid (lt_of_some HX.out)
    go_wp2_with (at_builtin; refine wpList_append_own _ rfl (.tmp 8) (.tmp 9) 38 rfl w.heap.size 9 i0 _ 1 16 Tryd.underlying38 hi hz0 hz1 hz2 rfl (by decide) (.slice none 0 0) 0 [] rfl (HO.out _) ⟨W1.heap.size, 0, none⟩ 1 1 [.string ⟨#[101, 110, 100]⟩] rfl rfl (World.news_of_block (cs := #[.string ⟨#[101, 110, 100]⟩]) (heap_alloc_new W1 _)) (by simp [Value.oneCell']) (by unfold maxLen; omega) (by omega) (by simp; omega) ?_; intro v2 w2 hown2 hgrow2 _; have hg2 := (⟨World.ownsRow_nil _ _ _ _, rfl, HB1.out⟩ : Got w [] (.slice none 0 0) [] W1).more ((Below.refl W1.heap.size W1).alloc (Nat.le_refl _) _) ⟨#[101, 110, 100]⟩ hgrow2 hown2; have hk2 := (hgrow2.block w.heap.size (by have := HXl.out; simp; omega) (by simp [Value.ownBlock])).trans ((Lib.alloc_old W1 _ w.heap.size HXl.out).trans HX.out); unfold resB at hk2; obtain ⟨A2, c2, rfl, _, _⟩ := hg2.val; have e6 : w2.cell? ⟨w.heap.size, 6, none⟩ = some (.slice A N.length c) := cell_of_blk hk2 6; have H0 : Hid (Got w (pageM true (dataL (N.take 0))) (.slice A2 1 c2) [⟨#[101, 110, 100]⟩] w2) := Lib.hid hg2; clear hown2 hgrow2 hg2 hk2 c6 c7 HO)
    go_wp2_with fail
    go_loopw [14, 3] (fun v14 v3 wr => ∃ (j : Nat) (Q : List ByteArray), j ≤ N.length ∧ v14 = .int .i64 (j : Int) ∧ Q.length ≤ j + 1 ∧ Hid (Got w (pageM true (dataL (N.take j))) v3 Q wr)) (fun v _ _ => N.length - (intOf v).toNat)
    case atStart => exact ⟨0, _, Nat.zero_le _, rfl, by simp, H0⟩
    case round =>
      clear H0
      obtain ⟨j, Q, hj, rfl, hq, hH⟩ := hrel
      have j0 : (0 : Int) ≤ (j : Int) := by omega
      by_cases hjs : j < N.length
      · have j1 : (j : Int) < (N.length : Int) := by omega
        obtain ⟨x, hxj⟩ : ∃ x, N[j]? = some x := ⟨_, List.getElem?_eq_getElem hjs⟩
        obtain ⟨b, off, hA, hb, hcx⟩ := (HS.out.later hH.out.low) j x hxj
        subst hA
        have HC := Lib.hid (hex_any x wr (by have := HFw.out.2 x (List.mem_of_getElem? hxj); omega))
        have HXj := Lib.hid (show pageM true (dataL (N.take (j + 1))) = pageM true (dataL (N.take j)) ++ [hexL x.data.toList] by rw [take_one hxj, dataL, List.map_append]; exact pageM_snoc _ _ _)
        obtain ⟨A3, c3, rfl, _, _⟩ := hH.out.val
        clear hxj hb
        go_wp2_with fail
        refine HC.out.mono ?_
        rintro en2 w3 ⟨⟨r, rfl, hr⟩, hb3⟩
        have HG := Lib.hid (hH.out.later hb3)
        have HO := Lib.hid (fun o : Obj => (own_later (HG.out.row) ((Below.refl w3.heap.size w3).alloc (Nat.le_refl _) o) : (w3.alloc o).ownsRow w.heap.size 9 1 (.slice A3 Q.length c3) Q.length (Q.map Value.string)))
        have HR := Lib.hid hr
        have HZ := Lib.hid HG.out.low.size
        clear hr hb3 HC hH hcx
        go_wp2_with (at_builtin; refine wpList_append_own _ rfl (.tmp 18) (.tmp 21) 38 rfl w.heap.size 9 i0 _ 1 16 Tryd.underlying38 hi hz0 hz1 hz2 rfl (by decide) (.slice A3 Q.length c3) Q.length (Q.map Value.string) rfl (HO.out _) ⟨w3.heap.size, 0, none⟩ 1 1 [.string r] rfl rfl (World.news_of_block (cs := #[.string r]) (heap_alloc_new w3 _)) (by simp [Value.oneCell']) (by unfold maxLen; omega) (by omega) (by have := HZ.out; simp; omega) ?_; intro v4 w4 hown4 hgrow4 _; have hg4 := HG.out.more ((Below.refl w3.heap.size w3).alloc (Nat.le_refl _) _) r hgrow4 hown4; obtain ⟨A4, c4, rfl, _, _⟩ := hg4.val; rw [HR.out, ← HXj.out] at hg4; have hlen4 : (Q ++ [r]).length = Q.length + 1 := (by simp); rw [hlen4] at hg4; clear hlen4; have H4 := Lib.hid hg4; clear hown4 hgrow4 hg4)
        go_wp2_with fail
        go_roundw
        case rel => exact ⟨j + 1, Q ++ [r], by omega, by go_num, by rw [List.length_append]; simp; omega, H4⟩
        case measure => simp [intOf]; omega
      · obtain rfl : j = N.length := by omega
        have j1 : ¬ (N.length : Int) < (N.length : Int) := by omega
        have h1 := hH.out
        rw [List.take_length] at h1
        have HF := Lib.hid h1
        clear h1 hH
        go_wp2_with fail
        go_ret
        exact ⟨_, rfl, Q, HF.out⟩
end Go.Proofs.YtblhicfllomdlaaDoor.cal
