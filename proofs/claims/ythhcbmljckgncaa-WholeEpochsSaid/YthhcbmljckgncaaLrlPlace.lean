/- Where one more pair may be put. Condition: the cache lies in memory. -/
import Derived.Test.YthhcbmljckgncaaLrlAhead
import Derived.Deep.AppendLies
import Derived.BigQuiet
import Derived.Deep.QuietTactic
namespace Go.Proofs.Ythhcbmljckgncaa.lrl
set_option maxRecDepth 100000
open Go.RowKit Go.Proofs.Ythhcbmljckgncaa.words Go.Proofs.Ythhcbmljckgncaa.lru

set_option maxHeartbeats 1600000 in
theorem place_full (B g n : Nat) (bo : Option Nat) (L : List (ByteArray × Lst)) (p : ByteArray × Lst) (w : World) (h : Lru w B g bo (n + 1) L) (hn : L.length = n + 1) (hp : L[n]? = some p) (hl : L.length ≤ 1000) :
    Calls Try.prog 70 #[.pointer (some ⟨g, 0, none⟩)] w fun e w' => e = .returned (.tuple #[.int .i64 (n : Int), .string (p.1), .bool true]) ∧ Tn (fun _ => False) w w' := by
  obtain ⟨A, c, hc⟩ := h.cells
  obtain ⟨b, hA, _, cb, _⟩ := hc.at_ n p hp
  subst hA
  have c0 := hc.c0
  have c1 := hc.c1
  rw [hn] at c1
  have hs : IntKind.i64.wrap (((n + 1 : Nat) : Int) - 1) = (n : Int) := by rw [IntWalk.i64_in _ (by omega)]; omega
  have i0 : (0 : Int) ≤ (n : Int) := by omega
  have i1 : (n : Int) < ((n + 1 : Nat) : Int) := by omega
  have hs2 : IntKind.i64.wrap (n : Int) = (n : Int) := IntWalk.i64_in _ (by omega)
  have i2 : (n : Int) < (n : Int) + 1 := by omega
  have ht : (((n + 1 : Nat) : Int) == ((n + 1 : Nat) : Int)) = true := by simp
  have HN := Lib.hid hn
  clear hc h hp hn
  go_enter Try.func70, Try.ntmps70
  go_wp2_with fail
  go_region
  all_goals
    go_wp2_with fail
    go_ret3
    exact ⟨rfl, (Tn.refl _ w).drew⟩

theorem infoPr : (Try.prog.info? 136).map (fun i => (i.zero, i.size, i.bytes)) = some (some (.agg #[.string ⟨#[]⟩, .int .i64 0, .slice none 0 0]), 3, 48) := by kernel_rfl
/-- The world behind the append and the store. -/
theorem more_left {w W1 w2 : World} {B g r b c : Nat} {bo : Option Nat} {v : Value} {L : List (ByteArray × Lst)} {p : ByteArray × Lst} (hB : B ≤ g) (hvo : v.ownBlock = bo) (hg : W1.heap[g]? = some (.cells #[.int .i64 (r : Int), v] 129 (0, 0))) (ho : W1.ownsRow B 136 3 v L.length (L.flatMap pC))
    (hW : Tn (fun _ => False) w W1) (ho' : w2.ownsRow B 136 3 (.slice (some ⟨b, 0, none⟩) (L.length + 1) c) (L.length + 1) (L.flatMap pC ++ pC p)) (hgr : W1.grownBy w2 v.ownBlock) (hat : v.ownBlock = some b ∨ b = W1.heap.size) :
    Left w B g r bo (L ++ [p]) (w2.setCell ⟨g, 1, none⟩ (.slice (some ⟨b, 0, none⟩) (L.length + 1) c)) := by
  have hgv : v.ownBlock ≠ some g := own_ne ho hg (by decide)
  have hg2 : w2.heap[g]? = some (.cells #[.int .i64 (r : Int), v] 129 (0, 0)) := (hgr.block g (lt_of_some hg) (fun e => hgv e.symm)).trans hg
  refine ⟨⟨some b, ⟨hB, .slice (some ⟨b, 0, none⟩) (L.length + 1) c, rfl, heap_setCell_same w2 g 1 _ _ _ hg2, ?_⟩, fun b' hb' => ?_⟩, ?_⟩
  · rw [List.length_append, List.flatMap_append, List.flatMap_singleton]
    exact own_setCell ho' (own_ne ho' hg2 (by decide)) _
  · injection hb' with hb'
    subst hb'
    rcases hat with hat | hat
    · exact .inl (hvo ▸ hat)
    · right
      rw [hat]
      exact hW.size
  · refine ((hW.mono fun _ hc => hc.elim).grown hgr fun k hk => .inr (.inr ?_)).setCell (p := ⟨g, 1, none⟩) (.inr (.inl rfl)) _
    rw [← hvo, hk]
def Placed (w : World) (B g r : Nat) (bo : Option Nat) (L : List (ByteArray × Lst)) (e : Ending) (w' : World) : Prop :=
  e = .returned (.tuple #[.int .i64 (L.length : Int), .string ⟨#[]⟩, .bool false]) ∧ Left w B g r bo (L ++ [((⟨#[]⟩ : ByteArray), e0)]) w'
set_option maxHeartbeats 3200000 in
theorem place_new (B g : Nat) (bo : Option Nat) (r : Nat) (L : List (ByteArray × Lst)) (w : World) (h : Lru w B g bo r L) (hr : L.length < r) (hl : L.length ≤ 1000) (hB : B ≤ w.heap.size) :
    Calls Try.prog 70 #[.pointer (some ⟨g, 0, none⟩)] w (Placed w B g r bo L) := by
  obtain ⟨i1, hi', hw0, hw1, hw2⟩ := info_three infoPr
  obtain ⟨hBg, v, hvo, hg, ho⟩ := h
  obtain ⟨A, l, c, rfl⟩ := own_slice ho
  obtain rfl : l = L.length := by
    rcases ho.2 with ⟨he, h0⟩ | ⟨_, _, _, he, _⟩
    · injection he with _ he _; omega
    · injection he
  obtain ⟨W1, hW1⟩ : ∃ W1, W1 = w.alloc (.cells #[.string ⟨#[]⟩, .int .i64 0, .slice none 0 0] 136) := ⟨_, rfl⟩
  have hb1 : Below w.heap.size w W1 := by rw [hW1]; exact (Below.refl _ _).alloc (Nat.le_refl _) _
  have hT := Tn.of_below hb1 (fun _ => False)
  have hg1 := (hb1.block _ (lt_of_some hg)).trans hg
  have ho1 : W1.ownsRow B 136 3 (.slice A L.length c) L.length (L.flatMap pC) := hT.own ho fun _ _ hc => hc
  have hn1 : ∀ j u, (pC (((⟨#[]⟩ : ByteArray), e0) : ByteArray × Lst))[j]? = some u → W1.cell? ((⟨w.heap.size, 0, none⟩ : Addr).add j) = some u := by
    rw [hW1]
    exact World.news_of_block (cs := #[.string ⟨#[]⟩, .int .i64 0, .slice none 0 0]) (heap_alloc_new w _)
  have hz1 : W1.heap.size = w.heap.size + 1 := by rw [hW1]; simp
  have c0 : w.cell? ⟨g, 0, none⟩ = some (.int .i64 (r : Int)) := cell_of_blk hg 0
  have c1 : w.cell? ⟨g, 1, none⟩ = some (.slice A L.length c) := cell_of_blk hg 1
  have hne : ((L.length : Int) == (r : Int)) = false := by simp; omega
  have hne2 : (L.length == r) = false := by simp; omega
  have hB1 : B ≤ W1.heap.size := by omega
  have hone := pC_one (((⟨#[]⟩ : ByteArray), e0) : ByteArray × Lst)
  have HW1 := Lib.hid hW1
  have HO := Lib.hid ho1
  have HG := Lib.hid hg1
  have HN := Lib.hid hn1
  have HT := Lib.hid hT
  have HONE := Lib.hid hone
  have HVO := Lib.hid hvo
  clear hW1 ho hg1 ho1 hn1 hT hb1 hone hvo hg
  go_enter Try.func70, Try.ntmps70
  go_wp2_with (at_builtin; rw [← HW1.out]; refine wpList_append_lies _ rfl (.tmp 32) (.tmp 34) 127 rfl B 136 i1 _ 3 48 Try.underlying127 hi' hw0 hw1 hw2 rfl (by omega) (.slice A L.length c) L.length (L.flatMap pC) rfl HO.out ⟨w.heap.size, 0, none⟩ 1 1 (pC (((⟨#[]⟩ : ByteArray), e0) : ByteArray × Lst)) rfl rfl HN.out HONE.out (by omega) (by simp only [maxLen]; omega) (by omega) hB1 W1.heap.size rfl ?_; intro gb cap w5 hown5 hgrow5 hat5 hlt5; have hE := more_left (r := r) hBg HVO.out HG.out HO.out HT.out hown5 hgrow5 hat5; have hg5 := (hgrow5.block g (lt_of_some HG.out) (fun e => own_ne HO.out HG.out (by decide) e.symm)).trans HG.out; have hc5 := cell_of_blk hg5 1; have hf5 := free_of_blk hg5 1; have HE := Lib.hid hE; clear hE hg5 hown5 hgrow5 hat5)
  go_ret3
  exact ⟨rfl, HE.out⟩
end Go.Proofs.Ythhcbmljckgncaa.lrl
