/- How rows of texts that came in are read. No condition. What the reference's Less and Rises answer. Condition: texts as they are read. -/
import Derived.Test.YtnokmhoaaancgaaGreatDoorRows
import Derived.Test.YtnokmhoaaancgaaGreatDoorJW9
import Derived.ProofKit
import Derived.OpenShut
import Derived.Deep.Slices
import Derived.SizedLaws
import Derived.Test.YtnokmhoaaancgaaGreatDoorJW10
namespace Go.Proofs.YtnokmhoaaancgaaGreatDoor.heap
set_option maxRecDepth 100000
open Go.ChangeShapes Go.WideShapes Go.RowKit Go.Proofs.YtnokmhoaaancgaaGreatDoor.words

def Sml (l : List ByteArray) : Prop := ∀ s ∈ l, s.size ≤ 140737488355328
theorem cellsStr : Tryz.prog.cellsOf 9 = 1 := by kernel_rfl
theorem cellsStrs : Tryz.prog.cellsOf 44 = 1 := by kernel_rfl
theorem bytesStr : Tryz.prog.bytesOf 9 = 16 := by kernel_rfl
theorem bytesStrs : Tryz.prog.bytesOf 44 = 24 := by kernel_rfl
theorem add_plain (b off i : Nat) : (⟨b, off, none⟩ : Addr).add i = ⟨b, off + i, none⟩ := by unfold Addr.add; split <;> simp_all
theorem size_text (s : ByteArray) : s.data.toList.length = s.size := by rw [Array.length_toList]; rfl
/-- No text in it is longer than a process holds. -/
def Sized {H : Type} (t : TypeId) (d : DataW H) : Prop := ∀ n ∈ d.weights Tryz.prog t, n ≤ reachBytes
theorem Sized.of_each {H : Type} {ts : List TypeId} {ds : List (DataW H)} (h : (DataW.weightsEach Tryz.prog ts ds).all (· ≤ reachBytes) = true) {j : Nat} {t : TypeId} {d : DataW H} (ht : ts[j]? = some t) (hd : ds[j]? = some d) : Sized t d := fun n hn => by
  have := List.all_eq_true.1 h _ (DataW.weights_mem_each ht hd n hn)
  simpa using this
section
variable {H : Type} {enc : TypeId × Value → H} {W : World} {base : Nat} {spare : Nat → Bool} {held : Bool}
theorem weights_of_all {P : Program} {e : TypeId} : ∀ {l : List (DataW H)} {d : DataW H}, d ∈ l → ∀ n ∈ d.weights P e, n ∈ DataW.weightsAll P e l
  | [], _, h, _, _ => by cases h
  | x :: l, d, h, n, hn => by
    simp only [DataW.weightsAll, List.mem_append]
    rcases List.mem_cons.1 h with rfl | h
    · exact .inl hn
    · exact .inr (weights_of_all h n hn)
theorem slice_facts {t e : TypeId} (hu : Tryz.prog.underlying t = some (.slice e)) {fuel : Nat} {a0 : Option Addr} {len cap : Nat} {x : DataW H × List MemPlace} (h : DataW.trod enc Tryz.prog W base spare held fuel t [.slice a0 len cap] = some x) (hs : Sized t x.1) :
    len * Tryz.prog.bytesOf e ≤ 140737488355328 ∧ len ≤ cap ∧ cap ≤ maxLen ∧ (a0 = none → len = 0 ∧ cap = 0) := by
  rcases DataW.trod_slice hu h with ⟨hc, _⟩ | ⟨a, l, c, elems, rest, n, _, hc, hx, _, hl, hm, hlen, _⟩
  · simp at hc
    obtain ⟨rfl, rfl, rfl⟩ := hc
    exact ⟨by omega, Nat.le_refl _, by unfold maxLen; omega, fun _ => ⟨rfl, rfl⟩⟩
  · simp at hc
    obtain ⟨rfl, rfl, rfl⟩ := hc
    subst hx
    have hw := hs _ (by
      simp only [DataW.weights, hu]
      exact List.mem_cons_self ..)
    rw [List.length_map, List.length_map, hlen] at hw
    have hr := reachBytes_lt
    have : len * Tryz.prog.bytesOf e ≤ (len + rest.length) * Tryz.prog.bytesOf e := Nat.mul_le_mul_right _ (Nat.le_add_right _ _)
    exact ⟨by omega, hl, hm, fun h => by cases h⟩
theorem text_size {s : ByteArray} {x : DataW H × List MemPlace} (hx : x.1 = .lit (.string s.data.toList)) (hs : Sized 9 x.1) : s.size ≤ 140737488355328 := by
  have := hs s.data.toList.length (by rw [hx]; simp [DataW.weights])
  rw [size_text] at this
  have hr := reachBytes_lt
  omega
theorem slice_each {t e : TypeId} (hu : Tryz.prog.underlying t = some (.slice e)) {fuel : Nat} {a : Addr} {len cap : Nat} {x : DataW H × List MemPlace} (h : DataW.trod enc Tryz.prog W base spare held fuel t [.slice (some a) len cap] = some x) (hs : Sized t x.1) :
    ∃ n, fuel = n + 1 ∧ ∀ i, i < len → ∃ cs d, W.cells? base (a.add (i * Tryz.prog.cellsOf e)) (Tryz.prog.cellsOf e) = some cs ∧ DataW.trod enc Tryz.prog W base spare held n e cs = some d ∧ Sized e d.1 := by
  rcases DataW.trod_slice hu h with ⟨hc, _⟩ | ⟨a', l, c, elems, rest, n, hfu, hc, hx, _, _, _, hlen, hel, _⟩
  · simp at hc
  · simp at hc
    obtain ⟨rfl, rfl, rfl⟩ := hc
    subst hx
    refine ⟨n, hfu, fun i hi => ?_⟩
    have key := hel i hi
    rw [List.getElem?_eq_getElem (by omega)] at key
    obtain ⟨cs, h1, h2⟩ := Option.bind_eq_some_iff.1 key
    refine ⟨cs, _, h1, h2, fun k hk => hs k ?_⟩
    simp only [DataW.weights, hu]
    exact List.mem_cons_of_mem _ (List.mem_append_left _ (weights_of_all (List.mem_map.2 ⟨_, List.getElem_mem (by omega), rfl⟩) k hk))
theorem slice_is {t e : TypeId} (hu : Tryz.prog.underlying t = some (.slice e)) {fuel : Nat} {c : Value} {x : DataW H × List MemPlace} (h : DataW.trod enc Tryz.prog W base spare held fuel t [c] = some x) : ∃ a len cap, c = .slice a len cap := by
  rcases DataW.trod_slice hu h with ⟨hc, _⟩ | ⟨a, l, c', _, _, _, _, hc, _⟩
  · exact ⟨_, _, _, by simpa using hc⟩
  · exact ⟨_, _, _, by simpa using hc⟩
theorem row_of {fuel : Nat} {a0 : Option Addr} {len cap : Nat} {x : DataW H × List MemPlace} (h : DataW.trod enc Tryz.prog W base spare held fuel 44 [.slice a0 len cap] = some x) (hs : Sized 44 x.1) :
    ∃ Q : List ByteArray, Q.length = len ∧ Row W W.heap.size a0 Q ∧ Sml Q ∧ len ≤ cap ∧ cap ≤ maxLen ∧ len ≤ 140737488355328 := by
  obtain ⟨f1, f2, f3, f4⟩ := slice_facts Tryz.underlying44 h hs
  rw [bytesStr] at f1
  rcases a0 with _ | a
  · obtain ⟨rfl, _⟩ := f4 rfl
    exact ⟨[], rfl, fun i x hx => by simp at hx, fun s hs => by simp at hs, f2, f3, by omega⟩
  · obtain ⟨n, _, hel⟩ := slice_each Tryz.underlying44 h hs
    have each : ∀ i, i < len → ∃ y : ByteArray, y.size ≤ 140737488355328 ∧ W.cell? (a.add i) = some (.string y) := fun i hlt => by
      obtain ⟨cs, d, hcs, ht, hsd⟩ := hel i hlt
      rw [cellsStr, Nat.mul_one] at hcs
      obtain ⟨s, rfl, hd, _⟩ := DataW.trod_string Tryz.underlying9 ht
      obtain ⟨_, _, hat⟩ := World.cells?_some hcs
      have h0 := hat 0 (by omega)
      have e : (a.add i).add 0 = a.add i := by simp [Addr.add]
      rw [e] at h0
      exact ⟨s, text_size (by rw [hd]) hsd, h0⟩
    obtain ⟨f, hfl⟩ := Deep.choose_lt each
    have key : ∀ (i : Nat) (x : ByteArray), ((List.range len).map f)[i]? = some x → i < len ∧ x = f i := fun i x hx => by
      have hlt : i < len := by
        have := (List.getElem?_eq_some_iff.1 hx).1
        simpa using this
      rw [List.getElem?_map, List.getElem?_range hlt] at hx
      exact ⟨hlt, by simpa using hx.symm⟩
    refine ⟨(List.range len).map f, by simp, fun i x hx => ?_, fun s hs => ?_, f2, f3, by omega⟩
    · obtain ⟨hlt, rfl⟩ := key i x hx
      obtain ⟨b, off, spot⟩ := a
      have h0 := (hfl 0 (by omega)).2
      have hspot : spot = none := by simpa [Addr.add] using World.cell?_spot h0
      subst hspot
      have hcell := (hfl i hlt).2
      rw [add_plain] at hcell
      exact ⟨b, off, rfl, World.block_lt_of_cell? W _ hcell, hcell⟩
    · obtain ⟨i, hi2, rfl⟩ := List.mem_map.1 hs
      exact (hfl i (List.mem_range.1 hi2)).1
instance : Inhabited (Option Addr × Nat × List ByteArray) := ⟨none, 0, []⟩
theorem rows_of {fuel : Nat} {a0 : Option Addr} {len cap : Nat} {x : DataW H × List MemPlace} (h : DataW.trod enc Tryz.prog W base spare held fuel 155 [.slice a0 len cap] = some x) (hs : Sized 155 x.1) :
    ∃ L : List (List ByteArray), L.length = len ∧ Rws W W.heap.size a0 L ∧ (∀ l ∈ L, Sml l ∧ l.length ≤ 4611686018427387904) ∧ len ≤ 140737488355328 ∧ len ≤ cap ∧ cap ≤ maxLen := by
  obtain ⟨f1, f2, f3, f4⟩ := slice_facts Tryz.underlying155 h hs
  rw [bytesStrs] at f1
  rcases a0 with _ | a
  · obtain ⟨rfl, _⟩ := f4 rfl
    exact ⟨[], rfl, fun i x hx => by simp at hx, fun s hs => by simp at hs, by omega, f2, f3⟩
  · obtain ⟨n, _, hel⟩ := slice_each Tryz.underlying155 h hs
    have each : ∀ i, i < len → ∃ y : Option Addr × Nat × List ByteArray, (Row W W.heap.size y.1 y.2.2 ∧ Sml y.2.2 ∧ y.2.2.length ≤ y.2.1 ∧ y.2.1 ≤ maxLen ∧ y.2.2.length ≤ 4611686018427387904) ∧ W.cell? (a.add i) = some (.slice y.1 y.2.2.length y.2.1) := fun i hlt => by
      obtain ⟨cs, d, hcs, ht, hsd⟩ := hel i hlt
      rw [cellsStrs, Nat.mul_one] at hcs
      obtain ⟨_, hl, hat⟩ := World.cells?_some hcs
      obtain ⟨c, rfl⟩ := List.length_eq_one_iff.1 hl
      obtain ⟨A1, l1, c1, rfl⟩ := slice_is Tryz.underlying44 ht
      obtain ⟨Q, rfl, q1, q2, q3, q4, q5⟩ := row_of ht hsd
      have h0 := hat 0 (by omega)
      have e : (a.add i).add 0 = a.add i := by simp [Addr.add]
      rw [e] at h0
      exact ⟨(A1, c1, Q), ⟨q1, q2, q3, q4, by show Q.length ≤ _; omega⟩, h0⟩
    obtain ⟨f, hfl⟩ := Deep.choose_lt each
    have key : ∀ (i : Nat) (x : List ByteArray), ((List.range len).map fun i => (f i).2.2)[i]? = some x → i < len ∧ x = (f i).2.2 := fun i x hx => by
      have hlt : i < len := by
        have := (List.getElem?_eq_some_iff.1 hx).1
        simpa using this
      rw [List.getElem?_map, List.getElem?_range hlt] at hx
      exact ⟨hlt, by simpa using hx.symm⟩
    refine ⟨(List.range len).map fun i => (f i).2.2, by simp, fun i x hx => ?_, fun l hl => ?_, by omega, f2, f3⟩
    · obtain ⟨hlt, rfl⟩ := key i x hx
      obtain ⟨b, off, spot⟩ := a
      have h0 := (hfl 0 (by omega)).2
      have hspot : spot = none := by simpa [Addr.add] using World.cell?_spot h0
      subst hspot
      obtain ⟨⟨q1, _, q3, q4, _⟩, hcell⟩ := hfl i hlt
      rw [add_plain] at hcell
      exact ⟨b, off, _, _, rfl, World.block_lt_of_cell? W _ hcell, hcell, q1, q3, q4⟩
    · obtain ⟨i, hi2, rfl⟩ := List.mem_map.1 hl
      obtain ⟨⟨_, q2, _, _, q5⟩, _⟩ := hfl i (List.mem_range.1 hi2)
      exact ⟨q2, q5⟩
end
end Go.Proofs.YtnokmhoaaancgaaGreatDoor.heap

namespace Go.Proofs.YtnokmhoaaancgaaGreatDoor.heap
set_option maxRecDepth 100000
open Go.RowKit Go.Proofs.YtnokmhoaaancgaaGreatDoor.words

theorem drop_byte (s : ByteArray) (k : Nat) (h : k < s.size) : s.toList.drop k = s[k] :: s.toList.drop (k + 1) := by
  rw [ByteArray.toList_eq]
  have : s[k] = s.data.toList[k]'(by rw [size_text]; exact h) := rfl
  rw [this]
  exact List.drop_eq_getElem_cons _
theorem quiet_mk {w : World} {a b : Nat} : ∃ n, w.drewN n = (w.drewN a).drewN b := ⟨a + b, (World.drewN_drewN ..).symm⟩
theorem quiet_mk3 {w : World} {a b c : Nat} : ∃ n, w.drewN n = ((w.drewN a).drewN b).drewN c := ⟨a + b + c, by rw [World.drewN_drewN, World.drewN_drewN, Nat.add_assoc]⟩
theorem quiet_drew {P : Program} {f : FuncId} {args : Array Value} {w : World} {n : Nat} {v : Value}
    (h : Calls P f args (w.drewN n) fun e w' => e = .returned v ∧ ∃ q, (w.drewN n).drewN q = w') : Calls P f args (w.drewN n) fun e w' => e = .returned v ∧ ∃ m, w' = w.drewN m :=
  h.mono fun _ _ ⟨he, q, hm⟩ => ⟨he, n + q, by rw [← hm, World.drewN_drewN]⟩

theorem quiet_drew2 {P : Program} {f : FuncId} {args : Array Value} {w : World} {d n : Nat} {v : Value}
    (h : Calls P f args (w.drewN (d + n)) fun e w' => e = .returned v ∧ ∃ q, (w.drewN (d + n)).drewN q = w') : Calls P f args (w.drewN (d + n)) fun e w' => e = .returned v ∧ ∃ m, w' = w.drewN (d + m) :=
  h.mono fun _ _ ⟨he, q, hm⟩ => ⟨he, n + q, by rw [← hm, World.drewN_drewN, Nat.add_assoc]⟩

set_option maxHeartbeats 1600000 in
theorem rless_any (a b : ByteArray) (w : World) (ha : a.size ≤ 140737488355328) :
    Calls Tryz.prog 119 #[.string a, .string b] w fun e w' => e = .returned (.bool (ltB a b)) ∧ ∃ n, w.drewN n = w' := by
  go_enter Tryz.func119, Tryz.ntmps119
  go_wp2_with fail
  go_loopw [5] (fun c wr => ∃ (k n : Nat), k ≤ a.size ∧ k ≤ b.size ∧ c = .int .i64 k ∧ Hid (ltB a b = Op.bytesLess (a.toList.drop k) (b.toList.drop k)) ∧ wr = w.drewN n)
    (fun c _ => a.size - (intOf c).toNat)
  case atStart => exact ⟨0, 0, Nat.zero_le _, Nat.zero_le _, rfl, Lib.hid rfl, rfl⟩
  case round =>
    obtain ⟨k, nd, hk, hk2, rfl, HL, rfl⟩ := hrel
    by_cases h1 : k < a.size
    · by_cases h2 : k < b.size
      · have i0 : (0 : Int) ≤ (k : Int) := by omega
        have i1 : (k : Int) < (a.size : Int) := by omega
        have i2 : (k : Int) < (b.size : Int) := by omega
        have HD := Lib.hid (show ltB a b = (decide (a[k] < b[k]) || (a[k] == b[k] && Op.bytesLess (a.toList.drop (k + 1)) (b.toList.drop (k + 1)))) by rw [HL.out, drop_byte a k h1, drop_byte b k h2, less_cons])
        by_cases he : a[k] = b[k]
        · have g1 : ((a[k].toNat : Int) != (b[k].toNat : Int)) = false := by rw [he]; simp
          have HN := Lib.hid (show ltB a b = Op.bytesLess (a.toList.drop (k + 1)) (b.toList.drop (k + 1)) by rw [HD.out, he]; simp)
          have HE := Lib.hid he
          clear he
          go_wp2_with fail
          go_quiet (fail)
          go_wp2_with fail
          go_roundw
          case rel => exact ⟨k + 1, _, by omega, by omega, by go_num, HN, rfl⟩
          case measure => simp [intOf]; omega
        · have g1 : ((a[k].toNat : Int) != (b[k].toNat : Int)) = true := by
            rw [bne_iff_ne]
            intro e
            exact he (UInt8.toNat_inj.1 (by simpa using Int.ofNat_inj.1 e))
          have HF := Lib.hid (show decide (a[k].toNat < b[k].toNat) = ltB a b by
            rw [HD.out, show (a[k] == b[k]) = false by rw [beq_eq_false_iff_ne]; exact he, Bool.false_and, Bool.or_false]
            rfl)
          have HE := Lib.hid he
          clear he
          go_wp2_with fail
          go_quiet (fail)
          go_wp2_with fail
          go_quiet (fail)
          go_wp2_with fail
          go_ret
          exact ⟨ret_bool HF.out, by first | exact quiet_mk | exact quiet_mk3⟩
      · have HF := Lib.hid (show false = ltB a b by rw [HL.out, List.drop_of_length_le (l := b.toList) (by rw [ByteArray.toList_eq, size_text]; omega), less_nil])
        have g : ¬ (a.size : Int) < (b.size : Int) := by omega
        have g3 : ¬ a.size < b.size := by omega
        go_wp2_with fail
        go_ret
        exact ⟨ret_bool HF.out, nd, rfl⟩
    · obtain rfl : k = a.size := by omega
      by_cases h2 : a.size < b.size
      · have HF := Lib.hid (show true = ltB a b by
          rw [HL.out, List.drop_of_length_le (l := a.toList) (by rw [ByteArray.toList_eq, size_text]; omega), drop_byte b _ h2]; rfl)
        go_wp2_with fail
        go_ret
        exact ⟨ret_bool HF.out, nd, rfl⟩
      · have HF := Lib.hid (show false = ltB a b by rw [HL.out, List.drop_of_length_le (l := b.toList) (by rw [ByteArray.toList_eq, size_text]; omega), less_nil])
        go_wp2_with fail
        go_ret
        exact ⟨ret_bool HF.out, nd, rfl⟩
theorem rless_is (a b : ByteArray) (r : Bool) (w : World) (ha : a.size ≤ 140737488355328) (h : ltB a b = r) :
    Calls Tryz.prog 119 #[.string a, .string b] w fun e w' => e = .returned (.bool r) ∧ ∃ n, w.drewN n = w' := by
  rw [← h]
  exact rless_any a b w ha

def RisesIn (l : List ByteArray) (w : World) (e : Ending) (w' : World) : Prop := (∃ b, e = .returned (.bool b) ∧ (b = true ↔ Ris l)) ∧ ∃ n, w.drewN n = w'
theorem ris_take {l : List ByteArray} {k : Nat} {a b : ByteArray} (h : Ris (l.take (k + 1))) (ha : l[k]? = some a) (hb : l[k + 1]? = some b) (hl : ltB a b = true) : Ris (l.take (k + 1 + 1)) := by
  obtain ⟨hk, hbb⟩ := List.getElem?_eq_some_iff.1 hb
  obtain ⟨hk', haa⟩ := List.getElem?_eq_some_iff.1 ha
  rw [List.take_succ_eq_append_getElem hk, hbb]
  refine h.next b fun q hq => ?_
  rw [List.take_succ_eq_append_getElem hk', haa, List.getLast?_concat] at hq
  rw [← Option.some.inj hq]
  exact hl
end Go.Proofs.YtnokmhoaaancgaaGreatDoor.heap
