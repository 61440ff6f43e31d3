/- A region that draws its order: a load may be taken first where what it reads stays until the stores come up, and each store waits for that load. No condition. (For seats without XImaRDir, which holds the same.) -/
import Derived.Test.YtkigkdiphhecaaaGreatProg
import Derived.OrdersHeld
import Derived.Deep.RegionHeld
import Derived.BigRegion
namespace Go.Proofs.YtkigkdiphhecaaaGreat.held
open Go
variable {P : Program} {ops : Array Oper} {Q : Exit → Act → World → Prop} {md : Region.Mode} {S : World → Prop} {T : Nat → Bool}

/-- Whatever comes up next: S stays behind it, but for those in T, and so it goes on. -/
def wpT (P : Program) (md : Region.Mode) (ops : Array Oper) (Q : Exit → Act → World → Prop) (S : World → Prop) (T : Nat → Bool) : Nat → Array Bool → Act → World → Prop
  | 0, L, a, w => Region.ready md ops L = [] ∧ Q .normal a w
  | n + 1, L, a, w => (Region.ready md ops L = [] → Q .normal a w) ∧ ∀ i ∈ Region.ready md ops L, wpOp P ops Q i (fun a' w' => (T i = false → S w → S w') ∧ wpT P md ops Q S T n (L.setIfInBounds i true) a' w') a w
theorem wpT_any : ∀ (n : Nat) (L : Array Bool) (a : Act) (w : World), wpT P md ops Q S T n L a w → wpAny P md ops Q n L a w
  | 0, _, _, _, h => h
  | n + 1, _, _, _, h => ⟨h.1, fun i hi => wpOp_mono (fun a' w' k => wpT_any n _ a' w' k.2) (h.2 i hi)⟩
theorem unlisted {i : Nat} {L : Array Bool} (h : L.getD i true = false) : ¬ L.getD i false = true := by
  rcases Nat.lt_or_ge i L.size with k | k
  · simp [k] at h ⊢
    exact h
  · simp [Array.getElem?_eq_none k] at h
/-- What yields its value may be taken first, if its value's ground S0 holds behind whatever may come up ahead of it. -/
theorem wpT_first {S0 : World → Prop} {i : Nat} {oi : Oper} {v : Value} (hi : ops[i]? = some oi) (hsel : ∀ (j : Nat) (o : Oper) cs b, ops[j]? = some o → o.op ≠ .select cs b)
    (hQ : ∀ c a w, Q (.panic c) (a.put oi.dst v) w → Q (.panic c) a w)
    (h0 : ∀ (L : Array Bool) (j : Nat), j ∈ Region.ready md ops L → L.getD i true = false → ∀ w w', S0 w → (T j = false → S w → S w') → S0 w') :
    ∀ (n : Nat) (L : Array Bool) (a : Act) (w : World),
      (∀ j oj, ops[j]? = some oj → j ≠ i → L.getD j true = false → (∀ e ∈ oj.after, Region.binds md e = true → e.on ≠ i) → oi.apart ops oj = true) →
      i ∈ Region.ready md ops L → YieldsIf P ops S0 oi v a → S0 w →
      wpT P md ops Q S T n (L.setIfInBounds i true) (a.put oi.dst v) w → wpT P md ops Q S T (n + 1) L a w := by
  intro n
  induction n with
  | zero =>
    intro L a w _ hr hy hs H
    refine ⟨fun h => absurd (h ▸ hr) (by simp), fun j hj => ?_⟩
    by_cases e : j = i
    · subst e
      exact hy.wpOp hi hs ⟨fun _ h => h, H⟩
    · have k := ready_mono hj e
      rw [H.1] at k
      cases k
  | succ n ih =>
    intro L a w hfree hr hy hs H
    refine ⟨fun h => absurd (h ▸ hr) (by simp), fun j hj => ?_⟩
    by_cases e : j = i
    · subst e
      exact hy.wpOp hi hs ⟨fun _ h => h, H⟩
    · have k := H.2 j (ready_mono hj e)
      obtain ⟨hjl, oj, hoj, hall⟩ := mem_ready.1 hj
      have hil : L.getD i true = false := (mem_ready.1 hr).1
      have hno : ∀ x ∈ oj.after, Region.binds md x = true → x.on ≠ i := fun x hx hb he => by
        have := hall x hx hb
        rw [he] at this
        exact unlisted hil this
      have k2 := wpOp_putIf hoj (hfree j oj hoj e hjl hno) (fun cs b => hsel i oi cs b hi) (fun cs b => hsel j oj cs b hoj) hQ hy k
      have hfree' : ∀ q oq, ops[q]? = some oq → q ≠ i → (L.setIfInBounds j true).getD q true = false → (∀ x ∈ oq.after, Region.binds md x = true → x.on ≠ i) → oi.apart ops oq = true := fun q oq hq hqi hun hn => by
        refine hfree q oq hq hqi ?_ hn
        by_cases hjq : j = q
        · subst hjq
          exact hjl
        · rw [getD_set_ne true hjq] at hun
          exact hun
      refine wpOp_mono (fun a' w' k3 => ⟨k3.2.1, ?_⟩) k2
      have hs' : S0 w' := h0 L j hj hil w w' hs k3.2.1
      refine ih (L.setIfInBounds j true) a' w' hfree' (ready_mono hr (Ne.symm e)) k3.1 hs' ?_
      rw [Array.setIfInBounds_comm _ _ e]
      exact k3.2.2
/-- What yields its value in whatever world. -/
theorem wpT_take {i : Nat} {oi : Oper} {v : Value} {n : Nat} {L : Array Bool} {a : Act} {w : World} (hi : ops[i]? = some oi) (hs : Region.noSelect ops = true) (hf : Region.free md ops L i = true) (hr : (Region.ready md ops L).contains i = true)
    (hQ : ∀ c a w, Q (.panic c) (a.put oi.dst v) w → Q (.panic c) a w) (hy : YieldsIf P ops (fun _ => True) oi v a)
    (h : wpT P md ops Q S T n (L.setIfInBounds i true) (a.put oi.dst v) w) : wpT P md ops Q S T (n + 1) L a w :=
  wpT_first (S0 := fun _ => True) hi (Region.noSelect_spec hs) hQ (fun _ _ _ _ _ _ _ _ => trivial) n L a w (Region.free_spec hi hf) (by simpa using hr) hy trivial h
/-- Each store waits for this operation. -/
def waits (md : Region.Mode) (ops : Array Oper) (T : Nat → Bool) (i : Nat) : Bool := (List.range ops.size).all fun j => !T j || match ops[j]? with | some o => o.after.any (fun e => Region.binds md e && e.on == i) | none => true
/-- What yields its value where S holds, if each store waits for it. -/
theorem wpT_load {i : Nat} {oi : Oper} {v : Value} {n : Nat} {L : Array Bool} {a : Act} {w : World} (hi : ops[i]? = some oi) (hs : Region.noSelect ops = true) (hf : Region.free md ops L i = true) (hr : (Region.ready md ops L).contains i = true)
    (hQ : ∀ c a w, Q (.panic c) (a.put oi.dst v) w → Q (.panic c) a w) (hw : waits md ops T i = true) (hy : YieldsIf P ops S oi v a) (hS : S w)
    (h : wpT P md ops Q S T n (L.setIfInBounds i true) (a.put oi.dst v) w) : wpT P md ops Q S T (n + 1) L a w := by
  refine wpT_first (S0 := S) hi (Region.noSelect_spec hs) hQ (fun L j hj hil w w' hs hk => ?_) n L a w (Region.free_spec hi hf) (by simpa using hr) hy hS h
  rcases hTj : T j with _ | _
  · exact hk hTj hs
  · exfalso
    obtain ⟨_, oj, hoj, hall⟩ := mem_ready.1 hj
    have hlt : j < ops.size := (Array.getElem?_eq_some_iff.1 hoj).1
    have k := List.all_eq_true.1 hw j (List.mem_range.2 hlt)
    rw [hTj, hoj] at k
    have k2 : oj.after.any (fun e => Region.binds md e && e.on == i) = true := by simpa using k
    obtain ⟨x, hx, hb⟩ := Array.any_eq_true'.1 k2
    rw [Bool.and_eq_true, beq_iff_eq] at hb
    have := hall x hx hb.1
    rw [hb.2] at this
    exact unlisted hil this
theorem wpT_done {L : Array Bool} {a : Act} {w : World} (hr : Region.ready md ops L = []) (h : Q .normal a w) : ∀ n, wpT P md ops Q S T n L a w
  | 0 => ⟨hr, h⟩
  | _ + 1 => ⟨fun _ => h, by rw [hr]; simp⟩
theorem wpT_one {i : Nat} {o : Oper} {n : Nat} {L : Array Bool} {a : Act} {w0 : World} (hr : Region.ready md ops L = [i]) (ho : ops[i]? = some o)
    (h : ∀ K' : Act → World → Prop, Shut (∀ a w, (T i = false → S w0 → S w) → wpT P md ops Q S T n (L.setIfInBounds i true) a w → K' a w) → if Region.wanted o (yielded ops a.tmps) = true then Oper.wp P o a w0 K' Q else K' (a.put o.dst undef) w0) : wpT P md ops Q S T (n + 1) L a w0 := by
  refine ⟨fun h0 => (by rw [hr] at h0; cases h0), fun j hj => ?_⟩
  rw [hr] at hj
  obtain rfl := List.mem_singleton.1 hj
  exact wpOp_step ho fun K' hK => h K' fun a w h1 h2 => hK a w ⟨h1, h2⟩
theorem wpT_two {i j : Nat} {o p : Oper} {n : Nat} {L : Array Bool} {a : Act} {w0 : World} (hr : Region.ready md ops L = [i, j]) (ho : ops[i]? = some o) (hp : ops[j]? = some p)
    (h : ∀ K' : Act → World → Prop, Shut (∀ a w, (T i = false → S w0 → S w) → wpT P md ops Q S T n (L.setIfInBounds i true) a w → K' a w) → if Region.wanted o (yielded ops a.tmps) = true then Oper.wp P o a w0 K' Q else K' (a.put o.dst undef) w0)
    (k : ∀ K' : Act → World → Prop, Shut (∀ a w, (T j = false → S w0 → S w) → wpT P md ops Q S T n (L.setIfInBounds j true) a w → K' a w) → if Region.wanted p (yielded ops a.tmps) = true then Oper.wp P p a w0 K' Q else K' (a.put p.dst undef) w0) : wpT P md ops Q S T (n + 1) L a w0 := by
  refine ⟨fun h0 => (by rw [hr] at h0; cases h0), fun q hq => ?_⟩
  rw [hr] at hq
  rcases List.mem_cons.1 hq with rfl | hq
  · exact wpOp_step ho fun K' hK => h K' fun a w h1 h2 => hK a w ⟨h1, h2⟩
  · obtain rfl := List.mem_singleton.1 hq
    exact wpOp_step hp fun K' hK => k K' fun a w h1 h2 => hK a w ⟨h1, h2⟩
/-- The beginning. -/
theorem wpT_start {id : Nat} {a : Act} {w : World} (hm : P.follows .mixedOrders = true) (h : wpT P .any ops Q S T ops.size (Array.replicate ops.size false) a w.drew) : (Code.region id ops true).wp P Q a w :=
  wp_region_any hm (wpT_any _ _ _ _ h)
end Go.Proofs.YtkigkdiphhecaaaGreat.held
