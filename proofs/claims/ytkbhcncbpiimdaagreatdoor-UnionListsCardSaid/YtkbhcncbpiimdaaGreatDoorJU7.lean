/- What union's Do and the reference's answer to whatever is asked. Conditions: the stack, the trees lie in memory; the trees may be; the library's MaxLen holds a number. -/
import Derived.Test.YtkbhcncbpiimdaaGreatDoorJU6
namespace Go.Proofs.YtkbhcncbpiimdaaGreatDoor.uni
set_option maxRecDepth 100000
open Go.RowKit Go.Proofs.YtkbhcncbpiimdaaGreatDoor.words Go.Proofs.YtkbhcncbpiimdaaGreatDoor.ext Go.Proofs.YtkbhcncbpiimdaaGreatDoor.name Go.Proofs.YtkbhcncbpiimdaaGreatDoor.tre Go.Proofs.YtkbhcncbpiimdaaGreatDoor.stk Go.Proofs.YtkbhcncbpiimdaaGreatDoor.seen Go.Proofs.YtkbhcncbpiimdaaGreatDoor.wlk

/-- Where something is seen, it is along the names. -/
def Here (R : List Nd) (ns : List ByteArray) (E : List Nd) : Prop := Along (D0 R) ns E ∧ (ns ≠ [] → E ≠ [])
theorem Here.up {R : List Nd} {ns : List ByteArray} {E : List Nd} (h : Here R ns E) : ∃ F, Here R (ns.take (ns.length - 1)) F := by
  rcases List.eq_nil_or_concat ns with rfl | ⟨ms, p, rfl⟩
  · exact ⟨E, h⟩
  · rw [List.concat_eq_append] at h ⊢
    obtain ⟨h1, h2⟩ := h
    obtain ⟨F, Q, g1, g2, rfl⟩ := h1.pre
    have e : (ms ++ [p]).take ((ms ++ [p]).length - 1) = ms := by simp
    rw [e]
    refine ⟨F, g1, fun _ hF => ?_⟩
    subst hF
    have hQ : Q = [] := g2
    subst hQ
    exact h2 (by simp) rfl
theorem leads_ok {R : List Nd} (hg : ∀ t ∈ R, allB t = true) {f : Bool} {ns ps : List ByteArray} {h : Nat} {o : AtO} (H : Leads R f ns ps h o) : (∃ D, Here R ns D) → ∀ ns' E, o = .ok ns' E → Here R ns' E := by
  induction H with
  | done a =>
    rintro ⟨D, h1, h2⟩ ns' E he
    injection he with e1 e2
    subst e1
    subst e2
    obtain rfl := a.uniq (wlk.Good.root hg) h1
    exact ⟨a, h2⟩
  | up _ ih =>
    rintro ⟨D, h1⟩
    exact ih h1.up
  | none => intro _ ns' E he; cases he
  | dir _ hD hQ hs _ _ ih =>
    intro _
    refine ih ⟨_, hD.snoc hQ, fun _ => ?_⟩
    rw [hs]
    simp
  | loop => intro _ ns' E he; cases he
  | @hop ns _ _ _ D _ d _ _ _ _ hD _ _ _ _ _ _ ih =>
    rintro ⟨F, h1⟩
    refine ih ?_
    split
    · exact ⟨D0 R, rfl, fun h => absurd rfl h⟩
    · exact ⟨F, h1⟩
  | not => intro _ ns' E he; cases he
  | leaf _ hD hQ hs _ _ =>
    intro _ ns' E he
    injection he with e1 e2
    subst e1
    subst e2
    have h1 := hD.snoc hQ
    rw [hs] at h1
    exact ⟨h1, fun _ => by simp⟩
theorem goes_ok {R : List Nd} (hg : ∀ t ∈ R, allB t = true) {f : Bool} {s : ByteArray} {ns : List ByteArray} {E : List Nd} (h : Goes R f s (.ok ns E)) : Here R ns E := by
  rcases h with ⟨_, h⟩ | ⟨_, _, h⟩
  · cases h
  · exact leads_ok hg h ⟨D0 R, rfl, fun h => absurd rfl h⟩ ns E rfl
theorem Here.good {R : List Nd} (hg : ∀ t ∈ R, allB t = true) {ns : List ByteArray} {E : List Nd} (h : Here R ns E) (hne : E ≠ []) : allB (hdN E) = true := by
  obtain ⟨d, E', rfl⟩ := List.exists_cons_of_ne_nil hne
  exact h.1.good (wlk.Good.root hg) d (List.mem_cons_self ..)
theorem Here.len {R : List Nd} (hk : ∀ d ∈ R, depth d < 100) {ns : List ByteArray} {E : List Nd} (h : Here R ns E) : ns.length ≤ 100 := by
  rcases Nat.eq_zero_or_pos ns.length with h0 | h0
  · omega
  · obtain ⟨d, E', rfl⟩ := List.exists_cons_of_ne_nil (h.2 (fun e => by rw [e] at h0; simp at h0))
    have := h.1.deep (k := 100) (fun d hd => hk d (List.mem_of_mem_take hd)) d (List.mem_cons_self ..)
    omega
theorem ansM_no {n l : Int} {O : AtO} {k o m : Int} (h : isB k = false ∨ badB k o m = true) : ansM n l O k o m = ⟨1, 0, 0, 0, []⟩ := by unfold ansM; rw [if_pos h]
theorem ansM_yes {n l : Int} {O : AtO} {k o m : Int} (h1 : isB k = true) (h2 : badB k o m = false) : ansM n l O k o m = ansO n l O k o m := by unfold ansM; rw [if_neg (by rw [h1, h2]; simp)]
theorem do_all {R : List Nd} (hg : ∀ t ∈ R, allB t = true) (hK : ∀ t ∈ R, t.K = 2) (hk : ∀ d ∈ R, depth d < 100) (hR : R.length ≤ 64) (A : Option Addr) (c : Nat) (ad : Int) (L : List (Nat × Int)) (mx : Int) (k : Int) (p : ByteArray) (o m id : Int) (img : ByteArray) (w : World) (hst : StkM w A L (tabs R)) (hL : Falls L)
    (hmx : w.cell? ⟨0, 0, none⟩ = some (.int .i64 mx)) (hp : p.size ≤ 1000000) (ho1 : -9223372036854775808 ≤ o) (ho2 : o ≤ 9223372036854775807) (hm1 : -9223372036854775808 ≤ m) (hm2 : m ≤ 9223372036854775807) {O : AtO} (hO : Goes R (folB k) p O) {l : Int} (hl : ∀ ns E, O = .ok ns E → LevI R ns l) :
    Calls Tryz.prog 16 #[stkV A L.length c ad, opV k p o m id img] w fun e w' => Res (ansM (R.length : Int) l O k o m) e ∧ Below w.heap.size w w' := by
  have no : ∀ (x : ByteArray), x = ⟨#[]⟩ → (isB k = false ∨ badB k o m = true) → Res (ansM (R.length : Int) l O k o m) (.returned (resV 1 0 0 0 x)) := fun x hx h => by
    rw [ansM_no h, hx]
    exact ⟨_, rfl, rfl⟩
  rcases hi : isB k with _ | _
  · exact (do_no A L.length c ad k p o m id img w hi).mono fun e w' ⟨h1, h2⟩ => ⟨by rw [h1]; exact no _ rfl (.inl hi), h2⟩
  · rcases hb : badB k o m with _ | _
    · exact do_yes hg hK hk hR A c ad L mx k p o m id img w hst hL hmx hp ho1 ho2 hm1 hm2 hO hl hi hb
    · exact (do_bad A L.length c ad k p o m id img w hi hb).mono fun e w' ⟨h1, h2⟩ => ⟨by rw [h1]; exact no _ rfl (.inr hb), h2⟩
end Go.Proofs.YtkbhcncbpiimdaaGreatDoor.uni
