/- Plain words for the law TreeMakes: a directory of whiteouts is small; directories in one another may be down to fifteen. No condition. -/
import Derived.Test.YthpnmkfgodmnfaaDoorTreAb
namespace Go.Proofs.YthpnmkfgodmnfaaDoor.tre
set_option maxRecDepth 100000
open Go.RowKit Go.Proofs.YthpnmkfgodmnfaaDoor.words Go.Proofs.YthpnmkfgodmnfaaDoor.ext Go.Proofs.YthpnmkfgodmnfaaDoor.name

def whites (k : Nat) : List Nd := List.replicate k whiteN
theorem whites_length (k : Nat) : (whites k).length = k := List.length_replicate
theorem whites_at {k i : Nat} {x : Nd} (h : (whites k)[i]? = some x) : x = whiteN := by
  unfold whites at h
  rw [List.getElem?_replicate] at h
  split at h
  · exact (Option.some.inj h).symm
  · cases h
theorem whites_more (k : Nat) : whites k ++ [whiteN] = whites (k + 1) := by
  unfold whites
  rw [← List.replicate_succ']
theorem white_small (d : Int) (l : Int) (hd : 0 ≤ d) (h1 : 1 ≤ l) (h2 : l ≤ 400) : smallS whiteN d l = (true, l - 1) := by
  have hs : spend l whiteN = l - 1 := by
    show wrap64 (wrap64 (l - (1 + (0 : Nat) + (0 : Nat))) - ((⟨#[]⟩ : ByteArray).size : Int)) = l - 1
    rw [show ((⟨#[]⟩ : ByteArray).size : Int) = 0 from rfl]
    unfold wrap64
    omega
  rw [smallS_eq, hs, if_neg (by omega)]
  exact smallL_nil _ _
theorem whites_small : ∀ (k : Nat) (d l : Int), 0 ≤ d → (k : Int) ≤ l → l ≤ 400 → smallL (whites k) d l = (true, l - k)
  | 0, d, l, _, _, _ => by
    rw [show whites 0 = [] from rfl, smallL_nil]
    simp
  | k + 1, d, l, hd, h1, h2 => by
    rw [show whites (k + 1) = whiteN :: whites k from rfl, smallL_cons, white_small d l hd (by omega) h2, if_pos rfl, whites_small k d (l - 1) hd (by omega) (by omega)]
    rw [show l - 1 - (k : Int) = l - ((k + 1 : Nat) : Int) by omega]
theorem dir_small (N : List ByteArray) (k : Nat) (hN : N.length ≤ 20) (hk : k ≤ 20) : smallB (dirN N (whites k)) = true := by
  unfold smallB
  have hs : spend 400 (dirN N (whites k)) = 399 - (N.length : Int) := by
    show wrap64 (wrap64 (400 - (1 + (N.length : Int) + (0 : Nat))) - ((⟨#[]⟩ : ByteArray).size : Int)) = 399 - (N.length : Int)
    rw [show ((⟨#[]⟩ : ByteArray).size : Int) = 0 from rfl]
    unfold wrap64
    omega
  rw [smallS_eq, hs, if_neg (by omega)]
  rw [show (dirN N (whites k)).I = whites k from rfl, whites_small k _ _ (by decide) (by omega) (by omega)]

def nest : Nat → Nd
  | 0 => dirN [] []
  | k + 1 => dirN [ab] [nest k]
theorem nest_right : ∀ k < 24, treeB (nest k) = decide (k ≤ 15) := by decide +kernel
theorem nest_count : ∀ k < 24, countC (nest k) = (k : Int) + 1 := by decide +kernel
theorem nest_depth : ∀ k < 24, depth (nest k) ≤ 1000 := by decide +kernel
end Go.Proofs.YthpnmkfgodmnfaaDoor.tre
