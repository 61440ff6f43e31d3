/- What rising, isTarget and the reference's entries answer. Conditions: texts as they are read; the library's MaxLen holds a number. -/
import Derived.Test.YtniklphdnakehaaDoorTreName
namespace Go.Proofs.YtniklphdnakehaaDoor.tre
set_option maxRecDepth 100000
open Go.RowKit Go.Proofs.YtniklphdnakehaaDoor.words Go.Proofs.YtniklphdnakehaaDoor.ext Go.Proofs.YtniklphdnakehaaDoor.name

/-- The text ahead of place k. -/
def prevOf (N : List ByteArray) : Nat → Option ByteArray
  | 0 => none
  | k + 1 => N[k]?
theorem riseFrom_cons (p : Option ByteArray) (s : ByteArray) (L : List ByteArray) : riseFrom p (s :: L) = ((right s.data.toList && (match p with | none => true | some q => lessB q s)) && riseFrom (some s) L) := rfl
def Rises (N : List ByteArray) (k : Nat) : Prop := riseB N = riseFrom (prevOf N k) (N.drop k)
theorem Rises.start (N : List ByteArray) : Rises N 0 := rfl
theorem Rises.next {N : List ByteArray} {k : Nat} {s : ByteArray} (h : Rises N k) (hs : N[k]? = some s) (h1 : right s.data.toList = true) (h2 : ∀ q, prevOf N k = some q → lessB q s = true) : Rises N (k + 1) := by
  unfold Rises at h ⊢
  rw [h, drop_at hs, riseFrom_cons, h1]
  rcases hp : prevOf N k with _ | q
  · rw [show prevOf N (k + 1) = some s from hs]; rfl
  · show ((true && lessB q s) && _) = _
    rw [h2 q hp, show prevOf N (k + 1) = some s from hs]; rfl
theorem Rises.no1 {N : List ByteArray} {k : Nat} {s : ByteArray} (h : Rises N k) (hs : N[k]? = some s) (h1 : right s.data.toList = false) : riseB N = false := by
  unfold Rises at h
  rw [h, drop_at hs, riseFrom_cons, h1, Bool.false_and, Bool.false_and]
theorem Rises.no2 {N : List ByteArray} {k : Nat} {s q : ByteArray} (h : Rises N k) (hs : N[k]? = some s) (hq : prevOf N k = some q) (h2 : lessB q s = false) : riseB N = false := by
  unfold Rises at h
  rw [h, drop_at hs, riseFrom_cons, hq]
  show ((_ && lessB q s) && _) = false
  rw [h2, Bool.and_false, Bool.false_and]
theorem Rises.done {N : List ByteArray} {k : Nat} (h : Rises N k) (hk : N.length ≤ k) : riseB N = true := by
  unfold Rises at h
  rw [h, List.drop_of_length_le hk]
  rfl

set_option maxHeartbeats 3200000 in
theorem rising_any (A : Option Addr) (cap : Nat) (N : List ByteArray) (w : World) (hI : Txts w w.heap.size A N) (hlen : N.length ≤ 4611686018427387904) :
    Calls Tryd.prog 117 #[.slice A N.length cap] w fun e w' => e = .returned (.bool (riseB N)) ∧ w = w' := by
  have HI := Lib.hid hI
  clear hI
  go_enter Tryd.func117, Tryd.ntmps117
  go_wp2_with fail
  go_loop [7] (fun c => ∃ (k : Nat), k ≤ N.length ∧ c = .int .i64 k ∧ Rises N k) (fun c => N.length - (intOf c).toNat)
  case atStart => exact ⟨0, Nat.zero_le _, rfl, Rises.start N⟩
  case round =>
    obtain ⟨k, hk, rfl, hr⟩ := hrel
    have HR := Lib.hid hr
    clear hr
    by_cases hlt : k < N.length
    · obtain ⟨s, hs⟩ : ∃ s, N[k]? = some s := ⟨_, List.getElem?_eq_getElem hlt⟩
      obtain ⟨⟨b, off, hA, hB, c0⟩, hz⟩ := HI.out k s hs
      have HS := Lib.hid hs
      have i0 : (0 : Int) ≤ (k : Int) := by omega
      have i1 : (k : Int) < (N.length : Int) := by omega
      rcases hrt : right s.data.toList with _ | _
      · have HN := Lib.hid (HR.out.no1 hs hrt)
        have HT := Lib.hid hrt
        subst hA
        clear hs hrt
        go_wp2_with fail
        refine (right_no s _ (by omega) HT.out).mono ?_
        rintro e w' ⟨rfl, rfl⟩
        go_wp2_with fail
        go_ret
        exact ⟨ret_bool HN.out.symm, rfl⟩
      · have HT := Lib.hid hrt
        rcases k with _ | j
        · have HN := Lib.hid (HR.out.next hs hrt (fun q hq => by cases hq))
          subst hA
          have c0' : w.cell? ⟨b, off, none⟩ = some (.string s) := c0
          clear hs hrt c0
          go_wp2_with fail
          refine (right_yes s _ (by omega) HT.out).mono ?_
          rintro e w' ⟨rfl, rfl⟩
          go_wp2_with fail
          go_round
          case rel => exact ⟨0 + 1, by omega, by go_num, HN.out⟩
          case measure => simp [intOf]; omega
        · obtain ⟨q, hq⟩ : ∃ q, N[j]? = some q := ⟨_, List.getElem?_eq_getElem (by omega)⟩
          obtain ⟨⟨b', off', hA', _, c1⟩, hz'⟩ := HI.out j q hq
          have HL := Lib.hid (lessB_three s q)
          subst hA
          injection hA' with e1
          injection e1 with e2 e3
          subst e2 e3
          rcases hb1 : Op.bytesLess s.toList q.toList with _ | _
          · rcases hb2 : (s.toList == q.toList) with _ | _
            · have HN := Lib.hid (HR.out.next hs hrt (fun q' hq' => by
                obtain rfl : q = q' := by
                  have : N[j]? = some q' := hq'
                  rw [hq] at this
                  exact Option.some.inj this
                rw [HL.out, hb1, hb2]; rfl))
              clear hs hrt hq
              go_wp2_with fail
              refine (right_yes s _ (by omega) HT.out).mono ?_
              rintro e w' ⟨rfl, rfl⟩
              go_wp2_with fail
              go_round
              case rel => exact ⟨j + 1 + 1, by omega, by go_num, HN.out⟩
              case measure => simp [intOf]; omega
            · have HN := Lib.hid (HR.out.no2 hs hq (by rw [HL.out, hb1, hb2]; rfl))
              clear hs hrt hq
              go_wp2_with fail
              refine (right_yes s _ (by omega) HT.out).mono ?_
              rintro e w' ⟨rfl, rfl⟩
              go_wp2_with fail
              go_ret
              exact ⟨ret_bool HN.out.symm, rfl⟩
          · have HN := Lib.hid (HR.out.no2 hs hq (by rw [HL.out, hb1]; rfl))
            clear hs hrt hq
            go_wp2_with fail
            refine (right_yes s _ (by omega) HT.out).mono ?_
            rintro e w' ⟨rfl, rfl⟩
            go_wp2_with fail
            go_ret
            exact ⟨ret_bool HN.out.symm, rfl⟩
    · have HD := Lib.hid (HR.out.done (by omega))
      go_wp2_with fail
      go_ret
      exact ⟨ret_bool HD.out.symm, rfl⟩

set_option maxHeartbeats 800000 in
theorem target_any (s : ByteArray) (m : Int) (w : World) (hs : s.size ≤ 140737488355328) (hm : w.cell? ⟨0, 0, none⟩ = some (.int .i64 m)) :
    Calls Tryd.prog 118 #[.string s] w fun e w' => e = .returned (.bool (pathB s)) ∧ Below w.heap.size w w' := by
  have HM := Lib.hid hm
  clear hm
  go_enter Tryd.func118, Tryd.ntmps118
  go_wp2_with fail
  refine (split_any s m _ (by omega) HM.out).mono ?_
  rintro e w2 ⟨hsp, hb2⟩
  have HB2 := Lib.hid hb2
  clear hb2
  rcases hsp with ⟨hp, rfl⟩ | ⟨v, Q, hp, rfl, _⟩
  · have HF := Lib.hid (show false = pathB s by unfold pathB; rw [hp]; rfl)
    clear hp
    go_wp2_with fail
    go_ret
    exact ⟨ret_bool HF.out, HB2.out⟩
  · by_cases hz : s.size ≤ 256
    · have HF := Lib.hid (show true = pathB s by unfold pathB; rw [hp, decide_eq_true hz]; rfl)
      have g : (s.size : Int) ≤ 256 := by omega
      clear hp
      go_wp2_with fail
      go_ret
      exact ⟨ret_bool HF.out, HB2.out⟩
    · have HF := Lib.hid (show false = pathB s by unfold pathB; rw [hp, decide_eq_false hz]; rfl)
      have g : ¬ (s.size : Int) ≤ 256 := by omega
      clear hp
      go_wp2_with fail
      go_ret
      exact ⟨ret_bool ((decide_eq_false (by omega)).trans HF.out), HB2.out⟩
end Go.Proofs.YtniklphdnakehaaDoor.tre
