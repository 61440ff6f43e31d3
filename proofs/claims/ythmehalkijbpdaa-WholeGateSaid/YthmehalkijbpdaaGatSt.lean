/- A gate that lies apart ('St'), call by call; rows of numbers one behind the other ('up'). Condition: the gate lies in memory. -/
import Derived.Test.YthmehalkijbpdaaGatLeave
namespace Go.Proofs.Ythmehalkijbpdaa.gat
set_option maxRecDepth 100000
open Go.RowKit Go.Proofs.Ythmehalkijbpdaa.words Go.Proofs.Ythmehalkijbpdaa.lru Go.Proofs.Ythmehalkijbpdaa.mpi

/-- Behind w's blocks a gate, at g. -/
def St (w : World) (g : Nat) (wr : World) (R : List Int) (o : Option Int) (W : List Int) (q : Int) : Prop := ∃ v1 v2, Gt wr w.heap.size g v1 v2 R o W q ∧ Below w.heap.size w wr
theorem St.later {w wr w' : World} {g : Nat} {R W : List Int} {o : Option Int} {q : Int} (h : St w g wr R o W q) (hb : Below wr.heap.size wr w') : St w g w' R o W q := by
  obtain ⟨v1, v2, h1, h2⟩ := h
  exact ⟨v1, v2, h1.later hb, h2.trans (hb.mono h2.size)⟩
theorem St.left {w wr w' : World} {g : Nat} {v1 v2 : Value} {R R' W W' : List Int} {o o' : Option Int} {q q' : Int} (h : Gt wr w.heap.size g v1 v2 R o W q) (hb : Below w.heap.size w wr) (hl : Left wr w.heap.size g v1 v2 R' o' W' q' w') : St w g w' R' o' W' q' := by
  obtain ⟨u1, u2, h1, _⟩ := hl.ex
  exact ⟨u1, u2, h1, hb.trans (left_below hl h hb.size)⟩
section
variable {w wr : World} {g : Nat} {R W : List Int} {o : Option Int} {q x : Int}
theorem St.read_yes (h : St w g wr R none [] q) (hx : Fits x) (hR : R.contains x = false) (hl : R.length ≤ 1000) :
    Calls Try.prog 9 #[.pointer (some ⟨g, 0, none⟩), .int .i64 x] wr fun e w' => e = .returned (.bool true) ∧ St w g w' (R ++ [x]) none [] q := by
  obtain ⟨v1, v2, h1, h2⟩ := h
  exact (gat.read_yes _ _ _ _ R q x wr h1 hx hR hl h2.size).mono fun e w' ⟨he, hl⟩ => ⟨he, St.left h1 h2 hl⟩
theorem St.read_no (h : St w g wr R o W q) (hx : Fits x) (hno : inB R o x = true ∨ o.isSome = true ∨ W ≠ []) :
    Calls Try.prog 9 #[.pointer (some ⟨g, 0, none⟩), .int .i64 x] wr fun e w' => e = .returned (.bool false) ∧ wr = w' := by
  obtain ⟨v1, v2, h1, h2⟩ := h
  exact gat.read_no _ _ _ _ R o W q x wr h1 hx hno
theorem St.in_ (h : St w g wr R o W q) (hx : Fits x) :
    Calls Try.prog 18 #[.pointer (some ⟨g, 0, none⟩), .int .i64 x] wr fun e w' => e = .returned (.bool (inB R o x)) ∧ wr = w' := by
  obtain ⟨v1, v2, h1, h2⟩ := h
  exact in_any _ _ _ _ R o W q x wr h1 hx
theorem St.readers (h : St w g wr R o W q) :
    Calls Try.prog 15 #[.pointer (some ⟨g, 0, none⟩)] wr fun e w' => e = .returned (.int .i64 (R.length : Int)) ∧ wr = w' := by
  obtain ⟨v1, v2, h1, h2⟩ := h
  exact readers_any _ _ _ _ R o W q wr h1
theorem St.waiting (h : St w g wr R o W q) :
    Calls Try.prog 17 #[.pointer (some ⟨g, 0, none⟩)] wr fun e w' => e = .returned (.int .i64 (W.length : Int)) ∧ wr = w' := by
  obtain ⟨v1, v2, h1, h2⟩ := h
  exact waiting_any _ _ _ _ R o W q wr h1
theorem St.write_wait {W' : List Int} (h : St w g wr R o W q) (hx : Fits x) (hin : inB R o x = false) (hW : addW W x = W') (hno : W'.head? ≠ some x ∨ o.isSome = true ∨ R ≠ []) (hq : 0 ≤ q) (hl : q + (W.length : Int) ≤ 1000000) :
    Calls Try.prog 11 #[.pointer (some ⟨g, 0, none⟩), .int .i64 x] wr fun e w' => e = .returned (.bool false) ∧ St w g w' R o W' q := by
  subst hW
  obtain ⟨v1, v2, h1, h2⟩ := h
  exact (gat.write_wait _ _ _ _ R o W q x wr h1 hx hin hno hq hl h2.size).mono fun e w' ⟨he, hl⟩ => ⟨he, St.left h1 h2 hl⟩
theorem St.write_in (h : St w g wr R o W q) (hx : Fits x) (hin : inB R o x = true) :
    Calls Try.prog 11 #[.pointer (some ⟨g, 0, none⟩), .int .i64 x] wr fun e w' => e = .returned (.bool false) ∧ wr = w' := by
  obtain ⟨v1, v2, h1, h2⟩ := h
  exact gat.write_in _ _ _ _ R o W q x wr h1 hx hin
theorem St.write_go {Wn : List Int} (h : St w g wr [] none W q) (hx : Fits x) (hW : addW W x = x :: Wn) (hq : 0 ≤ q) (hl : q + (W.length : Int) ≤ 1000000) :
    Calls Try.prog 11 #[.pointer (some ⟨g, 0, none⟩), .int .i64 x] wr fun e w' => e = .returned (.bool true) ∧ St w g w' [] (some x) Wn (q + 1) := by
  obtain ⟨v1, v2, h1, h2⟩ := h
  exact (gat.write_go _ _ _ _ W q x wr Wn h1 hx hW hq hl h2.size).mono fun e w' ⟨he, hl⟩ => ⟨he, St.left h1 h2 hl⟩
theorem St.leave_yes {R' : List Int} (h : St w g wr R o W q) (hx : Fits x) (hin : inB R o x = true) (hR : less R x = R') :
    Calls Try.prog 13 #[.pointer (some ⟨g, 0, none⟩), .int .i64 x] wr fun e w' => e = .returned (.bool true) ∧ St w g w' R' none W q := by
  subst hR
  obtain ⟨v1, v2, h1, h2⟩ := h
  exact (gat.leave_yes _ _ _ _ R o W q x wr h1 hx hin).mono fun e w' ⟨he, hl⟩ => ⟨he, St.left h1 h2 hl⟩
theorem St.leave_no (h : St w g wr R o W q) (hx : Fits x) (hin : inB R o x = false) :
    Calls Try.prog 13 #[.pointer (some ⟨g, 0, none⟩), .int .i64 x] wr fun e w' => e = .returned (.bool false) ∧ wr = w' := by
  obtain ⟨v1, v2, h1, h2⟩ := h
  exact gat.leave_no _ _ _ _ R o W q x wr h1 hx hin
end

def up : Int → Nat → List Int
  | _, 0 => []
  | a, m + 1 => a :: up (a + 1) m
theorem up_snoc : ∀ (m : Nat) (a : Int), up a (m + 1) = up a m ++ [a + (m : Int)]
  | 0, a => by simp [up]
  | m + 1, a => by
    show a :: up (a + 1) (m + 1) = (a :: up (a + 1) m) ++ [a + ((m + 1 : Nat) : Int)]
    rw [up_snoc m (a + 1), List.cons_append]
    congr 3
    push_cast
    omega
theorem up_mem {x : Int} : ∀ {m : Nat} {a : Int}, x ∈ up a m ↔ a ≤ x ∧ x < a + (m : Int)
  | 0, a => by simp [up]
  | m + 1, a => by
    unfold up
    rw [List.mem_cons, up_mem (m := m)]
    push_cast
    omega
theorem up_len : ∀ (m : Nat) (a : Int), (up a m).length = m
  | 0, _ => rfl
  | m + 1, a => by unfold up; rw [List.length_cons, up_len m]
theorem up_has (a x : Int) (m : Nat) : (up a m).contains x = decide (a ≤ x ∧ x < a + (m : Int)) := by
  rw [Bool.eq_iff_iff, List.contains_iff_mem, up_mem]
  simp
theorem up_no {a x : Int} {m : Nat} (h : ¬ (a ≤ x ∧ x < a + (m : Int))) : (up a m).contains x = false := by rw [up_has]; simpa using h
theorem up_yes {a x : Int} {m : Nat} (h : a ≤ x ∧ x < a + (m : Int)) : (up a m).contains x = true := by rw [up_has]; simpa using h
theorem up_less (a : Int) (m : Nat) : less (up a (m + 1)) a = up (a + 1) m := by
  unfold less
  rw [show up a (m + 1) = a :: up (a + 1) m from rfl, List.filter_cons_of_neg (by simp), List.filter_eq_self]
  intro y hy
  have := (up_mem.1 hy).1
  have : y ≠ a := by omega
  simpa using this
theorem up_ne {a : Int} {m : Nat} (h : 0 < m) : up a m ≠ [] := by
  rcases m with _ | m
  · omega
  · simp [up]
end Go.Proofs.Ythmehalkijbpdaa.gat
