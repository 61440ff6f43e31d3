/- How rows of texts that came in are read. No condition. What the reference's Less and Rises answer. Condition: texts as they are read. -/
import Derived.Test.YtkbhcncbpiimdaaGreatDoorRows
import Derived.Test.YtkbhcncbpiimdaaGreatDoorJW3
import Derived.ProofKit
import Derived.OpenShut
import Derived.Deep.Slices
import Derived.SizedLaws
namespace Go.Proofs.YtkbhcncbpiimdaaGreatDoor.heap
set_option maxRecDepth 100000
open Go.ChangeShapes Go.WideShapes Go.RowKit Go.Proofs.YtkbhcncbpiimdaaGreatDoor.words

theorem cellsStr : Tryz.prog.cellsOf 9 = 1 := by kernel_rfl
theorem cellsStrs : Tryz.prog.cellsOf 34 = 1 := by kernel_rfl
theorem bytesStr : Tryz.prog.bytesOf 9 = 16 := by kernel_rfl
theorem add_plain (b off i : Nat) : (⟨b, off, none⟩ : Addr).add i = ⟨b, off + i, none⟩ := by unfold Addr.add; split <;> simp_all
theorem size_text (s : ByteArray) : s.data.toList.length = s.size := by rw [Array.length_toList]; rfl
/-- No text in it is longer than a process holds. -/
def Sized {H : Type} (t : TypeId) (d : DataW H) : Prop := ∀ n ∈ d.weights Tryz.prog t, n ≤ reachBytes
theorem Sized.of_each {H : Type} {ts : List TypeId} {ds : List (DataW H)} (h : (DataW.weightsEach Tryz.prog ts ds).all (· ≤ reachBytes) = true) {j : Nat} {t : TypeId} {d : DataW H} (ht : ts[j]? = some t) (hd : ds[j]? = some d) : Sized t d := fun n hn => by
  have := List.all_eq_true.1 h _ (DataW.weights_mem_each ht hd n hn)
  simpa using this
section
variable {H : Type} {enc : TypeId × Value → H} {W : World} {base : Nat} {spare : Nat → Bool} {held : Bool}
theorem weights_of_all {P : Program} {e : TypeId} : ∀ {l : List (DataW H)} {d : DataW H}, d ∈ l → ∀ n ∈ d.weights P e, n ∈ DataW.weightsAll P e l
  | [], _, h, _, _ => by cases h
  | x :: l, d, h, n, hn => by
    simp only [DataW.weightsAll, List.mem_append]
    rcases List.mem_cons.1 h with rfl | h
    · exact .inl hn
    · exact .inr (weights_of_all h n hn)
theorem slice_facts {t e : TypeId} (hu : Tryz.prog.underlying t = some (.slice e)) {fuel : Nat} {a0 : Option Addr} {len cap : Nat} {x : DataW H × List MemPlace} (h : DataW.trod enc Tryz.prog W base spare held fuel t [.slice a0 len cap] = some x) (hs : Sized t x.1) :
    len * Tryz.prog.bytesOf e ≤ 140737488355328 ∧ len ≤ cap ∧ cap ≤ maxLen ∧ (a0 = none → len = 0 ∧ cap = 0) := by
  rcases DataW.trod_slice hu h with ⟨hc, _⟩ | ⟨a, l, c, elems, rest, n, _, hc, hx, _, hl, hm, hlen, _⟩
  · simp at hc
    obtain ⟨rfl, rfl, rfl⟩ := hc
    exact ⟨by omega, Nat.le_refl _, by unfold maxLen; omega, fun _ => ⟨rfl, rfl⟩⟩
  · simp at hc
    obtain ⟨rfl, rfl, rfl⟩ := hc
    subst hx
    have hw := hs _ (by
      simp only [DataW.weights, hu]
      exact List.mem_cons_self ..)
    rw [List.length_map, List.length_map, hlen] at hw
    have hr := reachBytes_lt
    have : len * Tryz.prog.bytesOf e ≤ (len + rest.length) * Tryz.prog.bytesOf e := Nat.mul_le_mul_right _ (Nat.le_add_right _ _)
    exact ⟨by omega, hl, hm, fun h => by cases h⟩
theorem text_size {s : ByteArray} {x : DataW H × List MemPlace} (hx : x.1 = .lit (.string s.data.toList)) (hs : Sized 9 x.1) : s.size ≤ 140737488355328 := by
  have := hs s.data.toList.length (by rw [hx]; simp [DataW.weights])
  rw [size_text] at this
  have hr := reachBytes_lt
  omega
theorem slice_each {t e : TypeId} (hu : Tryz.prog.underlying t = some (.slice e)) {fuel : Nat} {a : Addr} {len cap : Nat} {x : DataW H × List MemPlace} (h : DataW.trod enc Tryz.prog W base spare held fuel t [.slice (some a) len cap] = some x) (hs : Sized t x.1) :
    ∃ n, fuel = n + 1 ∧ ∀ i, i < len → ∃ cs d, W.cells? base (a.add (i * Tryz.prog.cellsOf e)) (Tryz.prog.cellsOf e) = some cs ∧ DataW.trod enc Tryz.prog W base spare held n e cs = some d ∧ Sized e d.1 := by
  rcases DataW.trod_slice hu h with ⟨hc, _⟩ | ⟨a', l, c, elems, rest, n, hfu, hc, hx, _, _, _, hlen, hel, _⟩
  · simp at hc
  · simp at hc
    obtain ⟨rfl, rfl, rfl⟩ := hc
    subst hx
    refine ⟨n, hfu, fun i hi => ?_⟩
    have key := hel i hi
    rw [List.getElem?_eq_getElem (by omega)] at key
    obtain ⟨cs, h1, h2⟩ := Option.bind_eq_some_iff.1 key
    refine ⟨cs, _, h1, h2, fun k hk => hs k ?_⟩
    simp only [DataW.weights, hu]
    exact List.mem_cons_of_mem _ (List.mem_append_left _ (weights_of_all (List.mem_map.2 ⟨_, List.getElem_mem (by omega), rfl⟩) k hk))
theorem slice_is {t e : TypeId} (hu : Tryz.prog.underlying t = some (.slice e)) {fuel : Nat} {c : Value} {x : DataW H × List MemPlace} (h : DataW.trod enc Tryz.prog W base spare held fuel t [c] = some x) : ∃ a len cap, c = .slice a len cap := by
  rcases DataW.trod_slice hu h with ⟨hc, _⟩ | ⟨a, l, c', _, _, _, _, hc, _⟩
  · exact ⟨_, _, _, by simpa using hc⟩
  · exact ⟨_, _, _, by simpa using hc⟩
instance : Inhabited (Option Addr × Nat × List ByteArray) := ⟨none, 0, []⟩
end
end Go.Proofs.YtkbhcncbpiimdaaGreatDoor.heap

namespace Go.Proofs.YtkbhcncbpiimdaaGreatDoor.heap
set_option maxRecDepth 100000
open Go.RowKit Go.Proofs.YtkbhcncbpiimdaaGreatDoor.words

theorem drop_byte (s : ByteArray) (k : Nat) (h : k < s.size) : s.toList.drop k = s[k] :: s.toList.drop (k + 1) := by
  rw [ByteArray.toList_eq]
  have : s[k] = s.data.toList[k]'(by rw [size_text]; exact h) := rfl
  rw [this]
  exact List.drop_eq_getElem_cons _
theorem quiet_mk {w : World} {a b : Nat} : ∃ n, w.drewN n = (w.drewN a).drewN b := ⟨a + b, (World.drewN_drewN ..).symm⟩
theorem quiet_drew {P : Program} {f : FuncId} {args : Array Value} {w : World} {n : Nat} {v : Value}
    (h : Calls P f args (w.drewN n) fun e w' => e = .returned v ∧ ∃ q, (w.drewN n).drewN q = w') : Calls P f args (w.drewN n) fun e w' => e = .returned v ∧ ∃ m, w' = w.drewN m :=
  h.mono fun _ _ ⟨he, q, hm⟩ => ⟨he, n + q, by rw [← hm, World.drewN_drewN]⟩

end Go.Proofs.YtkbhcncbpiimdaaGreatDoor.heap
