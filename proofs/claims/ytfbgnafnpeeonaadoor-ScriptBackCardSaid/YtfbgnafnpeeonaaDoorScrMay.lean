/- Whether a script can be told, as the document says. Condition: the script lies in memory. -/
import Derived.Test.YtfbgnafnpeeonaaDoorScrView
namespace Go.Proofs.YtfbgnafnpeeonaaDoor.scr
set_option maxRecDepth 100000
open Go.RowKit Go.Proofs.YtfbgnafnpeeonaaDoor.words Go.Proofs.YtfbgnafnpeeonaaDoor.cal

def opsB (l : List OpB) : Bool := l.all fun o => onlyM o.m
def mayB (S : ScB) : Bool := S.cl.all opsB
theorem all_take {α : Type} {f : α → Bool} {l : List α} {i : Nat} {x : α} (h : l[i]? = some x) : (l.take (i + 1)).all f = ((l.take i).all f && f x) := by
  rw [List.take_add_one, h]
  simp
theorem all_false {α : Type} {f : α → Bool} {l : List α} {x : α} (h : x ∈ l) (hf : f x = false) : l.all f = false := by
  rw [List.all_eq_false]
  exact ⟨x, h, by simp [hf]⟩
theorem sc_at {w W1 : World} {S : ScB} {vi vc vp : Value} {T : TypeId} (hW : W1 = w.alloc (.cells #[.int .i64 S.sh, .int .i64 S.rm, .int .i64 S.cu, vi, vc, vp] T)) :
    Below w.heap.size w W1 ∧ W1.heap[w.heap.size]? = some (.cells #[.int .i64 S.sh, .int .i64 S.rm, .int .i64 S.cu, vi, vc, vp] T (0, 0)) := by
  subst hW
  exact ⟨(Below.refl _ _).alloc (Nat.le_refl _) _, heap_alloc_new w _⟩
set_option maxHeartbeats 6400000 in
theorem may_any (S : ScB) (Ai Ac Ap : Option Addr) (ci cc cp : Nat) (w : World) (hS : Scr w S Ai Ac Ap) (hn : S.cl.length ≤ 1000000) (hno : ∀ l ∈ S.cl, l.length ≤ 1000000) (hf : ∀ l ∈ S.cl, ∀ o ∈ l, o.P.size ≤ 9223372036854775807) :
    Calls Tryd.prog 7 #[scV S (.slice Ai S.im.length ci) (.slice Ac S.cl.length cc) (.slice Ap S.pk.length cp)] w (AnsB (mayB S) w) := by
  obtain ⟨W1, hW1⟩ : ∃ W1, W1 = w.alloc (.cells #[.int .i64 S.sh, .int .i64 S.rm, .int .i64 S.cu, .slice Ai S.im.length ci, .slice Ac S.cl.length cc, .slice Ap S.pk.length cp] 33) := ⟨_, rfl⟩
  obtain ⟨hb1, x1⟩ := sc_at hW1
  obtain ⟨g, hg⟩ : ∃ g, g = w.heap.size := ⟨_, rfl⟩
  rw [← hg] at x1
  have HX := Lib.hid x1
  have HS := Lib.hid (hS.later hb1)
  have HB1 := Lib.hid hb1
  have HF := Lib.hid (And.intro hf hno)
  have HW1 := Lib.hid hW1
  have HG := Lib.hid hg
  clear hW1 hb1 x1 hg hS hf hno
  unfold scV
  go_enter Tryd.func7, Tryd.ntmps7
  go_upto_region 1 with fail
  rw [← HW1.out]
  simp only [← HG.out]
  clear HW1
  go_wp2_with fail
  go_loopw [3, 4] (fun v3 v4 wr => ∃ (i : Nat), v3 = .int .i64 (i : Int) ∧ i ≤ S.cl.length ∧ Hid ((S.cl.take i).all opsB = true) ∧ Hid (Below W1.heap.size W1 wr)) (fun v3 _ _ => S.cl.length - (intOf v3).toNat)
  case atStart => exact ⟨0, rfl, Nat.zero_le _, Lib.hid (by simp), Lib.hid (Below.refl _ _)⟩
  case round =>
    obtain ⟨i, rfl, hi, HT, HB⟩ := hrel
    obtain ⟨wq, hwq⟩ : ∃ wq, wq = wr := ⟨_, rfl⟩
    subst hwq
    have xr := (HB.out.block _ (lt_of_some HX.out)).trans HX.out
    have y4 := cell_of_blk xr 4
    by_cases hlt : i < S.cl.length
    · obtain ⟨l, hl⟩ : ∃ l, S.cl[i]? = some l := ⟨_, List.getElem?_eq_getElem hlt⟩
      have hlm : l ∈ S.cl := List.mem_of_getElem? hl
      obtain ⟨b, off, A2, c2, rfl, h2, h3, h4⟩ := (HS.out.later HB.out).cl i l hl
      have hln := HF.out.2 l hlm
      have i0 : (0 : Int) ≤ (i : Int) := by omega
      have i1 : (i : Int) < (S.cl.length : Int) := by omega
      have HL := Lib.hid (And.intro hl hlm)
      have H4 := Lib.hid h4
      have HC := Lib.hid (And.intro h2 h3)
      clear hl hlm h4 xr
      go_wp2_with fail
      go_loopw [4] (fun v4 wr => ∃ (j : Nat), v4 = .int .i64 (j : Int) ∧ j ≤ l.length ∧ Hid ((l.take j).all (fun o => onlyM o.m) = true) ∧ Hid (Below wq.heap.size wq wr)) (fun v4 _ => l.length - (intOf v4).toNat)
      case atStart => exact ⟨0, rfl, Nat.zero_le _, Lib.hid (by simp), Lib.hid (Below.refl _ _)⟩
      case round =>
        obtain ⟨j, rfl, hj, HTj, HBj⟩ := hrel
        have HB2 := Lib.hid (HB.out.trans (HBj.out.mono HB.out.size))
        have xo := (HB2.out.block _ (lt_of_some HX.out)).trans HX.out
        have z4 := cell_of_blk xo 4
        have zc := (HBj.out.cell (p := ⟨b, off + i, none⟩) HC.out.1).trans HC.out.2
        clear y4 h3 xo
        by_cases hlj : j < l.length
        · obtain ⟨o, ho⟩ : ∃ o, l[j]? = some o := ⟨_, List.getElem?_eq_getElem hlj⟩
          obtain ⟨b2, off2, rfl, h6, h7⟩ := H4.out j o ho
          have k : ∀ (q : Nat) (u : Value), o.c[q]? = some u → wr.cell? ⟨b2, off2 + j * 6 + q, none⟩ = some u := fun q u hu => (HBj.out.cell (p := ⟨b2, off2 + j * 6 + q, none⟩) h6).trans (h7 q u hu)
          have u0 := k 0 _ rfl
          have u1 := k 1 _ rfl
          have u2 := k 2 _ rfl
          have u3 := k 3 _ rfl
          have u4 := k 4 _ rfl
          have u5 := k 5 _ rfl
          rw [Nat.add_zero] at u0
          have j0 : (0 : Int) ≤ (j : Int) := by omega
          have j1 : (j : Int) < (l.length : Int) := by omega
          have HOn := Lib.hid (only_any o.K o.P o.O o.N o.I o.G wr (HF.out.1 l HL.out.2 o (List.mem_of_getElem? ho)))
          have HO := Lib.hid ho
          clear ho h6 h7 k
          unfold opV at HOn
          go_wp2_with fail
          refine HOn.out.mono ?_
          rintro e w5 ⟨rfl, hb5⟩
          have HB5 := Lib.hid (HBj.out.trans (hb5.mono HBj.out.size))
          obtain ⟨q, hq⟩ : ∃ q, q = onlyM (opM o.K o.P o.O o.N o.I o.G) := ⟨_, rfl⟩
          rw [← hq]
          have HQ := Lib.hid hq
          clear hb5 hq HOn
          cases q with
          | false =>
            have HFin : Hid (AnsB (mayB S) w (.returned (.bool false)) w5) := Lib.hid ⟨by
              have h1 : opsB l = false := all_false (List.mem_of_getElem? HO.out) HQ.out.symm
              have h2 : mayB S = false := all_false HL.out.2 h1
              rw [h2], HB1.out.trans ((HB.out.trans (HB5.out.mono HB.out.size)).mono HB1.out.size)⟩
            go_wp2_with fail
            go_ret
            exact HFin.out
          | true =>
            go_wp2_with fail
            go_roundw
            case rel => exact ⟨j + 1, by go_num, by omega, Lib.hid (by rw [all_take HO.out, HTj.out]; exact HQ.out.symm), HB5⟩
            case measure => simp [intOf]; omega
        · obtain rfl : j = l.length := by omega
          have HTl : Hid (opsB l = true) := Lib.hid (by have := HTj.out; rw [List.take_length] at this; exact this)
          go_wp2_with fail
          go_roundw
          case rel => exact ⟨i + 1, by go_num, by omega, Lib.hid (by rw [all_take HL.out.1, HT.out, HTl.out]; rfl), HB2⟩
          case measure => simp [intOf]; omega
    · obtain rfl : i = S.cl.length := by omega
      have HFin : Hid (AnsB (mayB S) w (.returned (.bool true)) wq) := Lib.hid ⟨by
        have h1 := HT.out
        rw [List.take_length] at h1
        rw [show mayB S = true from h1], HB1.out.trans (HB.out.mono HB1.out.size)⟩
      clear xr
      go_wp2_with fail
      go_ret
      exact HFin.out
end Go.Proofs.YtfbgnafnpeeonaaDoor.scr
