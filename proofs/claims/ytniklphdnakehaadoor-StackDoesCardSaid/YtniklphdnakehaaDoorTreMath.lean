/- Plain words for trees of nodes: how many, how deep, whether they may be, whether two are one, and whether they are looked at. No program, no condition. -/
import Derived.Test.YtniklphdnakehaaDoorExtMath
import Derived.Test.YtniklphdnakehaaDoorNameCut
namespace Go.Proofs.YtniklphdnakehaaDoor.tre
set_option maxRecDepth 100000
open Go.RowKit Go.Proofs.YtniklphdnakehaaDoor.ext Go.Proofs.YtniklphdnakehaaDoor.name

/-- A node. -/
inductive Nd where
  | mk (K : Int) (O : Bool) (N : List ByteArray) (I : List Nd) (S : Int) (E : List Ex) (T : ByteArray)
def Nd.K : Nd → Int | .mk K _ _ _ _ _ _ => K
def Nd.O : Nd → Bool | .mk _ O _ _ _ _ _ => O
def Nd.N : Nd → List ByteArray | .mk _ _ N _ _ _ _ => N
def Nd.I : Nd → List Nd | .mk _ _ _ I _ _ _ => I
def Nd.S : Nd → Int | .mk _ _ _ _ S _ _ => S
def Nd.E : Nd → List Ex | .mk _ _ _ _ _ E _ => E
def Nd.T : Nd → ByteArray | .mk _ _ _ _ _ _ T => T
theorem Nd.eta (n : Nd) : n = .mk n.K n.O n.N n.I n.S n.E n.T := by cases n; rfl

mutual
def count : Nd → Nat
  | .mk _ _ _ I _ _ _ => 1 + countL I
def countL : List Nd → Nat
  | [] => 0
  | x :: L => count x + countL L
end
mutual
def depth : Nd → Nat
  | .mk _ _ _ I _ _ _ => depthL I
def depthL : List Nd → Nat
  | [] => 0
  | x :: L => max (depth x + 1) (depthL L)
end
theorem count_eq (n : Nd) : count n = 1 + countL n.I := by cases n; rw [count]; rfl
theorem depth_eq (n : Nd) : depth n = depthL n.I := by cases n; rw [depth]; rfl
theorem countL_cons (x : Nd) (L : List Nd) : countL (x :: L) = count x + countL L := by rw [countL]
theorem countL_nil : countL [] = 0 := by rw [countL]
theorem depthL_cons (x : Nd) (L : List Nd) : depthL (x :: L) = max (depth x + 1) (depthL L) := by rw [depthL]
theorem depthL_nil : depthL [] = 0 := by rw [depthL]
theorem depth_at : ∀ {L : List Nd} {i : Nat} {x : Nd}, L[i]? = some x → depth x + 1 ≤ depthL L
  | [], i, x, h => by simp at h
  | y :: L, 0, x, h => by
    obtain rfl : y = x := by simpa using h
    rw [depthL_cons]
    exact Nat.le_max_left _ _
  | y :: L, i + 1, x, h => by
    have := depth_at (L := L) (i := i) (x := x) (by simpa using h)
    rw [depthL_cons]
    exact Nat.le_trans this (Nat.le_max_right _ _)
theorem depthL_le : ∀ {L : List Nd} {d : Nat}, (∀ x ∈ L, depth x + 1 ≤ d) → depthL L ≤ d
  | [], _, _ => by rw [depthL_nil]; exact Nat.zero_le _
  | x :: L, d, h => by
    rw [depthL_cons]
    exact Nat.max_le.2 ⟨h x (List.mem_cons_self ..), depthL_le fun y hy => h y (List.mem_cons_of_mem _ hy)⟩

/-! Going through a tree, a node ahead of what is in it -/
section
variable (st : Nd → Int → Int → Bool × Int)
mutual
def eachS : Nd → Int → Int → Bool × Int
  | .mk K O N I S E T, d, c => if (st (.mk K O N I S E T) d c).1 = true then eachL I (d + 1) (st (.mk K O N I S E T) d c).2 else (false, (st (.mk K O N I S E T) d c).2)
def eachL : List Nd → Int → Int → Bool × Int
  | [], _, c => (true, c)
  | x :: L, d, c => if (eachS x d c).1 = true then eachL L d (eachS x d c).2 else (false, (eachS x d c).2)
end
theorem eachS_eq (n : Nd) (d c : Int) : eachS st n d c = if (st n d c).1 = true then eachL st n.I (d + 1) (st n d c).2 else (false, (st n d c).2) := by cases n; rw [eachS]; rfl
theorem eachL_nil (d c : Int) : eachL st [] d c = (true, c) := by rw [eachL]
theorem eachL_cons (x : Nd) (L : List Nd) (d c : Int) : eachL st (x :: L) d c = if (eachS st x d c).1 = true then eachL st L d (eachS st x d c).2 else (false, (eachS st x d c).2) := by rw [eachL]
end

/-! A tree that is looked at -/
def spend (l : Int) (n : Nd) : Int := wrap64 (n.E.foldl (fun a x => wrap64 (a - (x.D.size : Int))) (wrap64 (l - (1 + (n.N.length : Int) + (n.E.length : Int)))) - (n.T.size : Int))
mutual
def smallS : Nd → Int → Int → Bool × Int
  | .mk K O N I S E T, d, l => if spend l (.mk K O N I S E T) < 0 ∨ d < 0 then (false, spend l (.mk K O N I S E T)) else smallL I (d - 1) (spend l (.mk K O N I S E T))
def smallL : List Nd → Int → Int → Bool × Int
  | [], _, l => (true, l)
  | x :: L, d, l => if (smallS x d l).1 = true then smallL L d (smallS x d l).2 else (false, (smallS x d l).2)
end
theorem smallS_eq (n : Nd) (d l : Int) : smallS n d l = if spend l n < 0 ∨ d < 0 then (false, spend l n) else smallL n.I (d - 1) (spend l n) := by cases n; rw [smallS]; rfl
theorem smallL_nil (d l : Int) : smallL [] d l = (true, l) := by rw [smallL]
theorem smallL_cons (x : Nd) (L : List Nd) (d l : Int) : smallL (x :: L) d l = if (smallS x d l).1 = true then smallL L d (smallS x d l).2 else (false, (smallS x d l).2) := by rw [smallL]
def smallB (n : Nd) : Bool := (smallS n 30 400).1

/-! Which trees may be -/
def lessB (a b : ByteArray) : Bool := Op.bytesLess a.toList b.toList
def riseFrom : Option ByteArray → List ByteArray → Bool
  | _, [] => true
  | p, s :: L => (right s.data.toList && (match p with | none => true | some q => lessB q s)) && riseFrom (some s) L
def riseB (N : List ByteArray) : Bool := riseFrom none N
def pathB (s : ByteArray) : Bool := (parts s.data.toList).isSome && decide (s.size ≤ 256)
def noneB (n : Nd) : Bool := !n.O && n.N.length == 0 && n.I.length == 0
def emptyB (n : Nd) : Bool := n.S == 0 && n.E.length == 0
def oneB (n : Nd) : Bool :=
  if n.K = 1 then noneB n && n.T.size == 0 && rightB n.S n.E
  else if n.K = 2 then emptyB n && n.T.size == 0 && (n.N.length == n.I.length && riseB n.N)
  else if n.K = 3 then noneB n && emptyB n && pathB n.T
  else if n.K = 4 then noneB n && emptyB n && n.T.size == 0
  else false
mutual
def allB : Nd → Bool
  | .mk K O N I S E T => allL I && oneB (.mk K O N I S E T)
def allL : List Nd → Bool
  | [] => true
  | x :: L => allB x && allL L
end
theorem allB_eq (n : Nd) : allB n = (allL n.I && oneB n) := by cases n; rw [allB]; rfl
theorem allL_nil : allL [] = true := by rw [allL]
theorem allL_cons (x : Nd) (L : List Nd) : allL (x :: L) = (allB x && allL L) := by rw [allL]
def stR (n : Nd) (d c : Int) : Bool × Int := (decide (wrap64 (c + 1) ≤ 4096) && decide (d ≤ 15) && oneB n, wrap64 (c + 1))
def stC (_ : Nd) (d c : Int) : Bool × Int := (decide (d ≤ 65536), wrap64 (c + 1))
def stE (_ : Nd) (d c : Int) : Bool × Int := (decide (d ≤ 65536), c)
def treeB (n : Nd) : Bool := n.K == 2 && (eachS stR n 0 0).1
def refB (n : Nd) : Bool := n.K == 2 && allB n && decide (wrap64 (count n : Int) ≤ 4096) && decide (depth n ≤ 15)

/-! Whether two are one -/
mutual
def sameB : Nd → Nd → Bool
  | .mk K O N I S E T, .mk K' O' N' I' S' E' T' => (K == K' && O == O' && S == S' && decide (T = T') && decide (N = N') && decide (E.map (fun x => (x.O, x.D)) = E'.map (fun x => (x.O, x.D)))) && sameL I I'
def sameL : List Nd → List Nd → Bool
  | [], [] => true
  | x :: L, y :: M => sameB x y && sameL L M
  | _, _ => false
end
theorem wrap_in {n : Int} (h : -9223372036854775808 ≤ n ∧ n ≤ 9223372036854775807) : wrap64 n = n := by rw [← IntWalk.i64_left]; exact IntWalk.i64_in n h
end Go.Proofs.YtniklphdnakehaaDoor.tre
