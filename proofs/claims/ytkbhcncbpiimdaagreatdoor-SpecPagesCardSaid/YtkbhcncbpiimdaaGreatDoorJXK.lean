/- Paths of names as a plain function on bytes, of any length. No program's call, no condition. What the reference's Join answers of names on a way, and that it is the way's text. Condition: the names lie in memory. That the path that a path leads to leads there, too, in plain words. No program's call, no condition. -/
import Derived.Test.YtkbhcncbpiimdaaGreatDoorJXJ
import Derived.Lib.Join
namespace Go.Proofs.YtkbhcncbpiimdaaGreatDoor.wlk
set_option maxRecDepth 100000
open Go.RowKit Go.Proofs.YtkbhcncbpiimdaaGreatDoor.words Go.Proofs.YtkbhcncbpiimdaaGreatDoor.ext Go.Proofs.YtkbhcncbpiimdaaGreatDoor.name Go.Proofs.YtkbhcncbpiimdaaGreatDoor.tre Go.Proofs.YtkbhcncbpiimdaaGreatDoor.stk Go.Proofs.YtkbhcncbpiimdaaGreatDoor.seen

def path (ps : List (List UInt8)) : List UInt8 := 47 :: Lib.join ps [47]
theorem join_snoc (p : List UInt8) : ∀ ps : List (List UInt8), ps ≠ [] → Lib.join (ps ++ [p]) [47] = Lib.join ps [47] ++ 47 :: p
  | [], h => absurd rfl h
  | [q], _ => by simp [Lib.join, List.intercalate, List.intersperse]
  | q :: r :: ps, _ => by
    have ih := join_snoc p (r :: ps) (by simp)
    simp only [Lib.join, List.intercalate, List.cons_append, List.intersperse_cons_cons, List.flatten_cons] at ih ⊢
    rw [ih]
    simp [List.append_assoc]
theorem path_one (p : List UInt8) : path [p] = 47 :: p := by simp [path, Lib.join, List.intercalate, List.intersperse]
theorem path_snoc (ps : List (List UInt8)) (p : List UInt8) (h : ps ≠ []) : path (ps ++ [p]) = path ps ++ 47 :: p := by
  rw [path, join_snoc p ps h]; rfl
theorem cut_join : ∀ ps : List (List UInt8), ps ≠ [] → (∀ p ∈ ps, (47 : UInt8) ∉ p) → cut (Lib.join ps [47]) = ps
  | [], h, _ => absurd rfl h
  | [q], _, hc => by
    have e : Lib.join [q] [47] = q := by simp [Lib.join, List.intercalate, List.intersperse]
    rw [e]
    exact cut_single q (hc q (by simp))
  | q :: r :: ps, _, hc => by
    have ih := cut_join (r :: ps) (by simp) (fun p hp => hc p (List.mem_cons_of_mem _ hp))
    have e : Lib.join (q :: r :: ps) [47] = q ++ 47 :: Lib.join (r :: ps) [47] := by
      simp [Lib.join, List.intercalate, List.intersperse_cons_cons]
    rw [e, cut_pre _ q (hc q (by simp)), ih]
theorem parts_path (ps : List (List UInt8)) (h : ∀ p ∈ ps, idle p = false ∧ bad p = false ∧ (47 : UInt8) ∉ p) (hl : (path ps).length ≤ 1024) : parts (path ps) = some ps := by
  have hc : cut (path ps) = [] :: (if ps = [] then [[]] else ps) := by
    rw [path, cut, if_pos rfl]
    split
    · rename_i e; rw [e]; rfl
    · rename_i e; rw [cut_join ps e (fun p hp => (h p hp).2.2)]
  have h1 : 1 ≤ (path ps).length := by simp [path]
  unfold parts
  rw [hc, if_neg]
  · congr 1
    have e0 : idle [] = true := rfl
    split
    · rename_i e
      rw [e]
      rfl
    · rw [List.filter_cons, e0]
      simp only [Bool.not_true, Bool.false_eq_true, if_false]
      exact List.filter_eq_self.2 fun p hp => by rw [(h p hp).1]; rfl
  · rintro (h' | h' | h')
    · omega
    · omega
    · rw [List.any_cons] at h'
      have e0 : bad [] = false := rfl
      rw [e0, Bool.false_or] at h'
      split at h'
      · cases h'
      · rw [List.any_eq_true] at h'
        obtain ⟨p, hp, hb⟩ := h'
        rw [(h p hp).2.1] at hb
        cases hb
/-! The reference's Join -/
def bytesOf (Q : List ByteArray) : List (List UInt8) := Q.map fun x => x.data.toList
end Go.Proofs.YtkbhcncbpiimdaaGreatDoor.wlk

namespace Go.Proofs.YtkbhcncbpiimdaaGreatDoor.wlk
set_option maxRecDepth 100000
open Go.RowKit Go.Proofs.YtkbhcncbpiimdaaGreatDoor.words Go.Proofs.YtkbhcncbpiimdaaGreatDoor.ext Go.Proofs.YtkbhcncbpiimdaaGreatDoor.name Go.Proofs.YtkbhcncbpiimdaaGreatDoor.tre Go.Proofs.YtkbhcncbpiimdaaGreatDoor.stk Go.Proofs.YtkbhcncbpiimdaaGreatDoor.seen

theorem path_of : ∀ (k : Nat) (ns : List ByteArray), ns.length = k → (∀ n ∈ ns, NmD n) → (pathOf ns).data.toList = path (bytesOf ns)
  | 0, ns, hl, _ => by
    rw [List.eq_nil_of_length_eq_zero hl]
    rfl
  | k + 1, ns, hl, h => by
    have hne : ns ≠ [] := fun e => by rw [e] at hl; cases hl
    have e := List.dropLast_concat_getLast hne
    have hl2 : ns.dropLast.length = k := by rw [List.length_dropLast, hl]; rfl
    have ih := path_of k ns.dropLast hl2 fun n hn => h n (List.dropLast_subset _ hn)
    obtain ⟨q, hq⟩ : ∃ q, q = ns.getLast hne := ⟨_, rfl⟩
    obtain ⟨ms, hms⟩ : ∃ ms, ms = ns.dropLast := ⟨_, rfl⟩
    rw [← hq, ← hms] at e
    rw [← hms] at ih hl2
    rw [← e, pathOf_snoc]
    have hb : bytesOf (ms ++ [q]) = bytesOf ms ++ [q.data.toList] := by unfold bytesOf; rw [List.map_append]; rfl
    rw [hb]
    unfold childS
    simp only
    rcases ms with _ | ⟨a, ms⟩
    · rw [if_pos (show (pathOf []).data.toList = [47] from rfl)]
      exact (path_one q.data.toList).symm
    · have hb2 : bytesOf (a :: ms) ≠ [] := by unfold bytesOf; simp
      rw [path_snoc _ _ hb2, if_neg, ih]
      rw [ih]
      intro e2
      unfold path at e2
      injection e2 with _ e2
      have ha := h a (by rw [← e]; simp)
      have hi := ha.1.2.1
      have hj : a.data.toList = [] := by
        rcases ms with _ | ⟨b, ms⟩
        · simpa [bytesOf, Lib.join, List.intercalate, List.intersperse] using e2
        · have e3 : Lib.join (bytesOf (a :: b :: ms)) [47] = a.data.toList ++ 47 :: Lib.join (bytesOf (b :: ms)) [47] := by
            simp [bytesOf, Lib.join, List.intercalate, List.intersperse_cons_cons]
          rw [e3] at e2
          simp at e2
      rw [hj] at hi
      cases hi
end Go.Proofs.YtkbhcncbpiimdaaGreatDoor.wlk

namespace Go.Proofs.YtkbhcncbpiimdaaGreatDoor.wlk
set_option maxRecDepth 100000
open Go.RowKit Go.Proofs.YtkbhcncbpiimdaaGreatDoor.words Go.Proofs.YtkbhcncbpiimdaaGreatDoor.ext Go.Proofs.YtkbhcncbpiimdaaGreatDoor.name Go.Proofs.YtkbhcncbpiimdaaGreatDoor.tre Go.Proofs.YtkbhcncbpiimdaaGreatDoor.stk Go.Proofs.YtkbhcncbpiimdaaGreatDoor.seen

def OwnW (R : List Nd) (ns : List ByteArray) : Prop := ∀ k, k ≤ ns.length → ∀ (rest : List ByteArray) (h : Nat) (o : AtO), Leads R false (ns.take k) rest h o → Leads R false [] (ns.take k ++ rest) h o
theorem own_nil (R : List Nd) : OwnW R [] := fun k hk rest h o hL => by
  rw [List.take_nil] at hL ⊢
  exact hL
theorem OwnW.take {R : List Nd} {ns : List ByteArray} (h : OwnW R ns) (n : Nat) : OwnW R (ns.take n) := fun k hk rest h' o hL => by
  rw [List.length_take] at hk
  rw [List.take_take] at hL ⊢
  exact h (min k n) (by omega) rest h' o hL
theorem OwnW.snoc {R : List Nd} {ns : List ByteArray} (h : OwnW R ns) {p : ByteArray} {D Q : List Nd} {d : Nd} {S : List Nd} (hp : p ≠ dd) (hD : Along (D0 R) ns D) (hQ : EntN p D Q) (hs : seenOf Q = d :: S) (hK : d.K = 2) : OwnW R (ns ++ [p]) := fun k hk rest h' o hL => by
  rw [List.length_append, List.length_singleton] at hk
  rcases Nat.lt_or_ge k (ns.length + 1) with hlt | hge
  · rw [List.take_append_of_le_length (by omega)] at hL ⊢
    exact h k (by omega) rest h' o hL
  · obtain rfl : k = ns.length + 1 := by omega
    rw [List.take_of_length_le (by simp)] at hL ⊢
    have h1 := h ns.length (Nat.le_refl _) (p :: rest) h' o (by rw [List.take_length]; exact .dir hp hD hQ hs hK hL)
    rw [List.take_length] at h1
    rw [List.append_assoc]
    exact h1
theorem OwnW.all {R : List Nd} {ns : List ByteArray} (h : OwnW R ns) {rest : List ByteArray} {h' : Nat} {o : AtO} (hL : Leads R false ns rest h' o) : Leads R false [] (ns ++ rest) h' o := by
  have h1 := h ns.length (Nat.le_refl _) rest h' o (by rw [List.take_length]; exact hL)
  rw [List.take_length] at h1
  exact h1
theorem own_leads {R : List Nd} {f : Bool} {ns0 ps : List ByteArray} {h : Nat} {o : AtO} (hL : Leads R f ns0 ps h o) : OwnW R ns0 → ∀ (ns : List ByteArray) (E : List Nd) (h' : Nat), o = .ok ns E → Leads R false [] ns h' (.ok ns E) := by
  induction hL with
  | done a =>
    intro hw ns E h' e
    injection e with e1 e2
    subst e1
    subst e2
    have h1 := hw.all (rest := []) (h' := h') (.done a)
    rw [List.append_nil] at h1
    exact h1
  | up _ ih => intro hw ns E h' e; exact ih (hw.take _) ns E h' e
  | none _ _ _ _ => intro _ ns E h' e; cases e
  | dir n a e s k _ ih => intro hw ns E h' eo; exact ih (hw.snoc n a e s k) ns E h' eo
  | loop _ _ _ _ _ _ => intro _ ns E h' e; cases e
  | hop _ _ _ _ _ _ _ _ ih =>
    intro hw ns E h' e
    refine ih ?_ ns E h' e
    split
    · exact own_nil R
    · exact hw
  | not _ _ _ _ _ _ _ => intro _ ns E h' e; cases e
  | leaf n a e s k _ =>
    intro hw ns E h' eo
    injection eo with e1 e2
    subst e1
    subst e2
    exact hw.all (.leaf n a e s k (fun h => by rcases h.2 with h | h <;> simp at h))
end Go.Proofs.YtkbhcncbpiimdaaGreatDoor.wlk
