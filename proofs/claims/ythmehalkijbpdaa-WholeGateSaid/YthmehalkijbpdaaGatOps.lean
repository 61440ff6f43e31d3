/- A gate's Read, Write, Leave. Condition: the gate lies in memory. -/
import Derived.Test.YthmehalkijbpdaaGatMem
import Derived.Maps.RangeWalk
import Derived.Carry
namespace Go.Proofs.Ythmehalkijbpdaa.gat
set_option maxRecDepth 100000
open Go.RowKit Go.Proofs.Ythmehalkijbpdaa.words Go.Proofs.Ythmehalkijbpdaa.lru Go.Proofs.Ythmehalkijbpdaa.mpi

section
variable {w w2 w3 : World} {B g b : Nat} {v1 v2 : Value} {R W : List Int} {o : Option Int} {q x : Int}
theorem Gt.moreR (h : Gt w2 B g (.map (some b)) v2 R o W q) (hm : MapL w3 Try.prog 3 b (rR R ++ [(x, .bool true)])) (ht : Tn (fun j => j = b) w2 w3) : Gt w3 B g (.map (some b)) v2 (R ++ [x]) o W q := by
  obtain ⟨h0, ⟨y, hb, hy⟩, h1, h2, h3⟩ := h
  have hBb := h1.lt b rfl
  have hgb : g ≠ b := fun e => hBb.2.2 _ _ _ (e ▸ hb)
  refine ⟨h0, ⟨y, (ht.block g (lt_of_some hb) hgb).trans hb, hy⟩, .inr ⟨b, rfl, hBb.1, ?_⟩, h2.tn ht fun j hj e => h3 b rfl (e ▸ hj), h3⟩
  rw [rR_snoc]
  exact hm
theorem Gt.moreW (h : Gt w2 B g v1 (.map (some b)) R o W q) (hm : MapL w3 Try.prog 3 b (tR q W ++ [(x, .int .i64 (q + (W.length : Int)))])) (ht : Tn (fun j => j = b) w2 w3) : Gt w3 B g v1 (.map (some b)) R o (W ++ [x]) q := by
  obtain ⟨h0, ⟨y, hb, hy⟩, h1, h2, h3⟩ := h
  have hBb := h2.lt b rfl
  have hgb : g ≠ b := fun e => hBb.2.2 _ _ _ (e ▸ hb)
  refine ⟨h0, ⟨y, (ht.block g (lt_of_some hb) hgb).trans hb, hy⟩, h1.tn ht fun j hj e => h3 j hj (e ▸ rfl), .inr ⟨b, rfl, hBb.1, ?_⟩, h3⟩
  rw [tR_snoc]
  exact hm
theorem Gt.mapR (h : Gt w B g (.map none) v2 R o W q) (hB : B ≤ w.heap.size) (hw : w2 = (w.alloc (.map #[] 0)).setCell ⟨g, 0, none⟩ (.map (some w.heap.size))) : Gt w2 B g (.map (some w.heap.size)) v2 R o W q ∧ Tn (fun j => j = g) w w2 ∧ MapL w2 Try.prog 3 w.heap.size (rR R) := by
  obtain ⟨h0, ⟨y, hb, hy⟩, h1, h2, h3⟩ := h
  have ht1 : Tn (fun _ => False) w (w.alloc (.map #[] 0)) := (Tn.refl _ _).alloc _
  have hg : g < w.heap.size := lt_of_some hb
  have hb1 := (ht1.block g hg (fun h => h)).trans hb
  have ht : Tn (fun j => j = g) w w2 := by rw [hw]; exact (ht1.mono (S' := fun j => j = g) fun _ h => h.elim).setCell (p := ⟨g, _, none⟩) (.inr rfl) _
  have hR : rR R = [] := by
    rcases h1 with ⟨_, h⟩ | ⟨b, hc, _⟩
    · exact h
    · cases hc
  have hm : MapL w2 Try.prog 3 w.heap.size (rR R) := by
    rw [hR]
    refine (MapL.made w Try.prog 3).of_block ?_
    rw [hw]
    exact Below.heap_setCell _ _ _ _ (by simp; omega)
  refine ⟨⟨h0, ⟨y, ?_, hy⟩, .inr ⟨_, rfl, hB, hm⟩, h2.tn ht fun j hj e => (h2.lt j hj).2.2 _ _ _ (e ▸ hb), fun j hj hk => ?_⟩, ht, hm⟩
  · rw [hw]
    exact heap_setCell_same _ g 0 _ _ _ hb1
  · unfold At at hj
    injection hj with hj
    injection hj with hj
    have := (h2.lt j hk).2.1
    omega
theorem Gt.mapW (h : Gt w B g v1 (.map none) R o W q) (hB : B ≤ w.heap.size) (hw : w2 = (w.alloc (.map #[] 0)).setCell ⟨g, 3, none⟩ (.map (some w.heap.size))) : Gt w2 B g v1 (.map (some w.heap.size)) R o W q ∧ Tn (fun j => j = g) w w2 ∧ MapL w2 Try.prog 3 w.heap.size (tR q W) := by
  obtain ⟨h0, ⟨y, hb, hy⟩, h1, h2, h3⟩ := h
  have ht1 : Tn (fun _ => False) w (w.alloc (.map #[] 0)) := (Tn.refl _ _).alloc _
  have hg : g < w.heap.size := lt_of_some hb
  have hb1 := (ht1.block g hg (fun h => h)).trans hb
  have ht : Tn (fun j => j = g) w w2 := by rw [hw]; exact (ht1.mono (S' := fun j => j = g) fun _ h => h.elim).setCell (p := ⟨g, _, none⟩) (.inr rfl) _
  have hR : tR q W = [] := by
    rcases h2 with ⟨_, h⟩ | ⟨b, hc, _⟩
    · exact h
    · cases hc
  have hm : MapL w2 Try.prog 3 w.heap.size (tR q W) := by
    rw [hR]
    refine (MapL.made w Try.prog 3).of_block ?_
    rw [hw]
    exact Below.heap_setCell _ _ _ _ (by simp; omega)
  refine ⟨⟨h0, ⟨y, ?_, hy⟩, h1.tn ht fun j hj e => (h1.lt j hj).2.2 _ _ _ (e ▸ hb), .inr ⟨_, rfl, hB, hm⟩, fun j hk hj => ?_⟩, ht, hm⟩
  · rw [hw]
    exact heap_setCell_same _ g 3 _ _ _ hb1
  · unfold At at hj
    injection hj with hj
    injection hj with hj
    have := (h1.lt j hk).2.1
    omega
end

section
variable (B g : Nat) (v1 v2 : Value) (R : List Int) (o : Option Int) (W : List Int) (q x : Int) (w : World)
theorem read_no (h : Gt w B g v1 v2 R o W q) (hx : Fits x) (hno : inB R o x = true ∨ o.isSome = true ∨ W ≠ []) :
    Calls Try.prog 9 #[.pointer (some ⟨g, 0, none⟩), .int .i64 x] w fun e w' => e = .returned (.bool false) ∧ w = w' := by
  have HI := Lib.hid (in_any B g v1 v2 R o W q x w h hx)
  obtain ⟨h0, ⟨y, hb, hy⟩, h1, h2, h3⟩ := h
  have c2 := cell_of_blk hb 2
  have c3 := cell_of_blk hb 3
  have hl := fun ty => h2.len Try.underlying25 ty
  rw [tR_len] at hl
  clear h1 h2 h3 hy hb h0
  rcases hi : inB R o x with _ | _
  · rcases o with _ | z
    · have hW : W ≠ [] := by
        rcases hno with h | h | h
        · rw [hi] at h; cases h
        · cases h
        · exact h
      have hW : 0 < W.length := List.length_pos_iff.2 hW
      have hW2 : (0 : Int) < (W.length : Int) := by omega
      rw [hi] at HI
      clear hno hi
      go_enter Try.func9, Try.ntmps9
      go_wp2_with fail
      refine HI.out.mono ?_
      rintro e w1 ⟨rfl, e1⟩
      subst e1
      go_wp2
      go_ret
      exact ⟨rfl, rfl⟩
    · rw [hi] at HI
      clear hno hi
      go_enter Try.func9, Try.ntmps9
      go_wp2_with fail
      refine HI.out.mono ?_
      rintro e w1 ⟨rfl, e1⟩
      subst e1
      go_wp2
      go_ret
      exact ⟨rfl, rfl⟩
  · rw [hi] at HI
    clear hno hi
    go_enter Try.func9, Try.ntmps9
    go_wp2_with fail
    refine HI.out.mono ?_
    rintro e w1 ⟨rfl, e1⟩
    subst e1
    go_wp2
    go_ret
    exact ⟨rfl, rfl⟩

def ReadIn (w : World) (B g : Nat) (v1 v2 : Value) (R : List Int) (q x : Int) (e : Ending) (w' : World) : Prop := e = .returned (.bool true) ∧ Left w B g v1 v2 (R ++ [x]) none [] q w'
theorem Gt.nilOr {w : World} {B g : Nat} {v1 v2 : Value} {R W : List Int} {o : Option Int} {q : Int} (h : Gt w B g v1 v2 R o W q) : (v1 = .map none ∨ ∃ b, v1 = .map (some b) ∧ MapL w Try.prog 3 b (rR R)) ∧ (v2 = .map none ∨ ∃ b, v2 = .map (some b) ∧ MapL w Try.prog 3 b (tR q W)) := by
  obtain ⟨_, _, h1, h2, _⟩ := h
  constructor
  · rcases h1 with h | ⟨b, h, _, hm⟩
    · exact .inl h.1
    · exact .inr ⟨b, h, hm⟩
  · rcases h2 with h | ⟨b, h, _, hm⟩
    · exact .inl h.1
    · exact .inr ⟨b, h, hm⟩
theorem read_yes (h : Gt w B g v1 v2 R none [] q) (hx : Fits x) (hR : R.contains x = false) (hl : R.length ≤ 1000) (hB : B ≤ w.heap.size) :
    Calls Try.prog 9 #[.pointer (some ⟨g, 0, none⟩), .int .i64 x] w (ReadIn w B g v1 v2 R q x) := by
  have HI := Lib.hid (in_any B g v1 v2 R none [] q x w h hx)
  have hi : inB R none x = false := by unfold inB; rw [hR]; rfl
  rw [hi] at HI
  have hno : valP (rR R) x = none := by rw [valP_rR, if_neg (by rw [hR]; simp)]
  have hn : (rR R).length < maxLen := by rw [rR_len]; simp only [maxLen]; omega
  have HNO := Lib.hid hno
  have HN := Lib.hid hn
  have HX := Lib.hid hx
  have H := Lib.hid h
  obtain ⟨hv1, _⟩ := h.nilOr
  obtain ⟨h0, ⟨y, hb, hy⟩, h1, h2, h3⟩ := h
  have c0 := cell_of_blk hb 0
  have c2 := cell_of_blk hb 2
  have c3 := cell_of_blk hb 3
  have hl := fun ty => h2.len Try.underlying25 ty
  rw [tR_len] at hl
  rcases hv1 with rfl | ⟨b, rfl, hm⟩
  · have heq : ∀ w : World, (binOp .eql 24 (.map none) (.map none)).run Try.prog w = .ok (.bool true) w := fun _ => by kernel_rfl
    have hmm := @run_makeMap Try.prog
    have hb1 : (w.alloc (.map #[] 0)).heap[g]? = _ := (Below.heap_alloc w _ g (lt_of_some hb)).trans hb
    have d0 := cell_of_blk hb1 0
    have f0 := free_of_blk hb1 0
    clear hno hn hx h1 h2 h3 hy h0 hi hR hb hb1
    go_enter Try.func9, Try.ntmps9
    go_wp2_with fail
    refine HI.out.mono ?_
    rintro e w1 ⟨rfl, e1⟩
    subst e1
    go_upto_region 5 with fail
    obtain ⟨W2, hW2⟩ : ∃ W2, W2 = (w.alloc (.map #[] 0)).setCell ⟨g, 0, none⟩ (.map (some w.heap.size)) := ⟨_, rfl⟩
    rw [← hW2]
    obtain ⟨k1, k2, k3⟩ := H.out.mapR hB hW2
    have HK1 := Lib.hid k1
    have HK2 := Lib.hid k2
    have HK3 := Lib.hid k3
    obtain ⟨y2, hb2, _⟩ := k1.2.1
    have e0 := cell_of_blk hb2 0
    clear k1 k2 k3 hW2 d0 f0 c0 c2 c3 hl hb2
    go_wp2_with (at_mapUpdate; refine wpList_new rfl _ _ _ 24 rfl 3 4 Try.underlying3 Try.underlying24 w.heap.size (rR R) rfl HK3.out HN.out x (.bool true) rfl rfl HX.out HNO.out ?_; intro w3 hm3 ht3)
    go_ret
    refine ⟨rfl, ⟨_, _, HK1.out.moreR hm3 ht3, fun j hj => ?_⟩, (HK2.out.mono fun j hj => .inl hj).then ht3 fun k hk e => by omega⟩
    rcases hj with hj | hj | hj
    · exact .inl (.inl hj)
    · right
      unfold At at hj
      injection hj with hj
      injection hj with hj
      omega
    · exact .inl (.inr (.inr hj))
  · have heq : ∀ w : World, (binOp .eql 24 (.map (some b)) (.map none)).run Try.prog w = .ok (.bool false) w := fun _ => by kernel_rfl
    have HM := Lib.hid hm
    clear hno hn hx h1 h2 h3 hy h0 hi hR hb hm
    go_enter Try.func9, Try.ntmps9
    go_wp2_with fail
    refine HI.out.mono ?_
    rintro e w1 ⟨rfl, e1⟩
    subst e1
    go_wp2_with (at_mapUpdate; refine wpList_new rfl _ _ _ 24 rfl 3 4 Try.underlying3 Try.underlying24 b (rR R) rfl HM.out HN.out x (.bool true) rfl rfl HX.out HNO.out ?_; intro w3 hm3 ht3)
    go_ret
    exact ⟨rfl, ⟨_, _, H.out.moreR hm3 ht3, fun j hj => .inl hj⟩, ht3.mono fun j hj => .inr (.inl (hj ▸ rfl))⟩

/-- Those who wait, once x does. -/
def addW (W : List Int) (x : Int) : List Int := if W.contains x then W else W ++ [x]
theorem addW_yes {W : List Int} {x : Int} (h : W.contains x = true) : addW W x = W := by unfold addW; rw [if_pos h]
theorem addW_no {W : List Int} {x : Int} (h : W.contains x = false) : addW W x = W ++ [x] := by unfold addW; rw [if_neg (by rw [h]; simp)]
def WaitIn (w : World) (B g : Nat) (v1 v2 : Value) (R : List Int) (o : Option Int) (W : List Int) (q x : Int) (e : Ending) (w' : World) : Prop :=
  ∃ t : Int, e = .returned (.int .i64 t) ∧ (t = q ↔ (addW W x).head? = some x) ∧ Left w B g v1 v2 R o (addW W x) q w'
theorem Left.same {w : World} {B g : Nat} {v1 v2 : Value} {R : List Int} {o : Option Int} {W : List Int} {q : Int} (h : Gt w B g v1 v2 R o W q) : Left w B g v1 v2 R o W q w := ⟨⟨v1, v2, h, fun _ hj => .inl hj⟩, Tn.refl _ _⟩
set_option maxHeartbeats 800000 in
theorem wait_any (h : Gt w B g v1 v2 R o W q) (hx : Fits x) (hq : 0 ≤ q) (hl : q + (W.length : Int) ≤ 1000000) (hB : B ≤ w.heap.size) :
    Calls Try.prog 29 #[.pointer (some ⟨g, 0, none⟩), .int .i64 x] w (WaitIn w B g v1 v2 R o W q x) := by
  have H := Lib.hid h
  obtain ⟨_, hv2⟩ := h.nilOr
  obtain ⟨h0, ⟨y, hb, hy⟩, h1, h2, h3⟩ := h
  have c3 := cell_of_blk hb 3
  have c4 := cell_of_blk hb 4
  have hlk := h2.look_ok Try.underlying3 Try.underlying25 (zeroI w) hx
  by_cases hW : W.contains x = true
  · obtain ⟨t, ht, _, _, hiff⟩ := tR_some (q := q) (List.contains_iff_mem.1 hW)
    rw [ht] at hlk
    replace hlk : (Instr.lookup 25 v2 (.int .i64 x) true).run Try.prog w = .ok (.tuple #[.int .i64 t, .bool true]) w := hlk
    have HE : Hid (WaitIn w B g v1 v2 R o W q x (.returned (.int .i64 t)) w) := Lib.hid ⟨t, rfl, by rw [addW_yes hW]; exact hiff, by rw [addW_yes hW]; exact Left.same H.out⟩
    clear h1 h2 h3 hy hb h0 hW ht hiff hv2 hq hl
    go_enter Try.func29, Try.ntmps29
    go_wp2
    go_ret
    exact HE.out
  · have hW : W.contains x = false := by simpa using hW
    have hno : valP (tR q W) x = none := tR_none fun hm => by rw [List.contains_iff_mem.2 hm] at hW; cases hW
    rw [hno] at hlk
    replace hlk : (Instr.lookup 25 v2 (.int .i64 x) true).run Try.prog w = .ok (.tuple #[.int .i64 0, .bool false]) w := hlk
    have hn : (tR q W).length < maxLen := by rw [tR_len]; simp only [maxLen]; omega
    have hiff : ((q + (W.length : Int)) = q ↔ (addW W x).head? = some x) := by
      rw [addW_no hW]
      rcases W with _ | ⟨z, W⟩
      · simp
      · constructor
        · intro h; rw [List.length_cons] at h; omega
        · intro h
          rw [List.cons_append, List.head?_cons] at h
          injection h with h
          subst h
          simp at hW
    obtain ⟨t, ht⟩ : ∃ t, t = q + (W.length : Int) := ⟨_, rfl⟩
    have hwr : IntKind.i64.wrap (q + (W.length : Int)) = t := by rw [ht]; exact IntWalk.i64_in _ (by omega)
    have HNO := Lib.hid hno
    have HN := Lib.hid hn
    have HX := Lib.hid hx
    have HIFF := Lib.hid hiff
    have HWC := Lib.hid hW
    have HT := Lib.hid ht
    rcases hv2 with rfl | ⟨b, rfl, hm⟩
    · have heq : ∀ w : World, (binOp .eql 25 (.map none) (.map none)).run Try.prog w = .ok (.bool true) w := fun _ => by kernel_rfl
      have hmm := @run_makeMap Try.prog
      have hb1 : (w.alloc (.map #[] 0)).heap[g]? = _ := (Below.heap_alloc w _ g (lt_of_some hb)).trans hb
      have d3 := cell_of_blk hb1 3
      have f3 := free_of_blk hb1 3
      clear hno hn hx h1 h2 h3 hy h0 hW hb hb1 hiff ht
      go_enter Try.func29, Try.ntmps29
      go_upto_region 6 with fail
      obtain ⟨W2, hW2⟩ : ∃ W2, W2 = (w.alloc (.map #[] 0)).setCell ⟨g, 3, none⟩ (.map (some w.heap.size)) := ⟨_, rfl⟩
      rw [← hW2]
      obtain ⟨k1, k2, k3⟩ := H.out.mapW hB hW2
      have hlen : ∀ ty m, (Builtin.len_ #[25] ty #[.map (some w.heap.size)]).run Try.prog (W2.drewN m) = .ok (.int .i64 ((W.length : Nat) : Int)) (W2.drewN m) := fun ty m => by
        have := (k3.of_block (w' := W2.drewN m) rfl).len Try.underlying25 ty
        rwa [tR_len] at this
      have hlen0 : ∀ ty, (Builtin.len_ #[25] ty #[.map (some w.heap.size)]).run Try.prog W2 = .ok (.int .i64 ((W.length : Nat) : Int)) W2 := fun ty => by
        have := k3.len Try.underlying25 ty
        rwa [tR_len] at this
      have HK1 := Lib.hid k1
      have HK2 := Lib.hid k2
      have HK3 := Lib.hid k3
      obtain ⟨y2, hb2, _⟩ := k1.2.1
      have e3 := cell_of_blk hb2 3
      have e4 := cell_of_blk hb2 4
      clear k1 k2 k3 hW2 d3 f3 c3 c4 hlk hb2
      go_quiet (fail)
      obtain ⟨W3, hW3⟩ : ∃ W3, W3 = W2.drewN nq := ⟨_, rfl⟩
      rw [← hW3]
      have hT23 : Tn (fun _ => False) W2 W3 := by rw [hW3]; exact (Tn.refl _ _).drewN nq
      have HK4 := Lib.hid (HK1.out.quiet hT23)
      have HK5 : Hid (MapL W3 Try.prog 3 w.heap.size (tR q W)) := Lib.hid (HK3.out.of_block (by rw [hW3]; rfl))
      have HK6 : Hid (Tn (fun j => j = g) w W3) := Lib.hid (HK2.out.trans (hT23.mono fun _ h => h.elim))
      have e5 : W3.cell? ⟨g, 3, none⟩ = some (.map (some w.heap.size)) := by rw [hW3]; exact e3
      clear HK1 HK2 HK3 hT23 hW3 e3 e4 hlen hlen0 hwr
      go_wp2_with (at_mapUpdate; refine wpList_new rfl _ _ _ 25 rfl 3 3 Try.underlying3 Try.underlying25 w.heap.size (tR q W) rfl HK5.out HN.out x (.int .i64 t) rfl rfl HX.out HNO.out ?_; intro w4 hm4 ht4)
      rw [HT.out] at hm4
      have HE : Hid (WaitIn w B g v1 (.map none) R o W q x (.returned (.int .i64 t)) w4) := Lib.hid ⟨t, rfl, by rw [HT.out]; exact HIFF.out, by
        rw [addW_no HWC.out]
        refine ⟨⟨_, _, HK4.out.moreW hm4 ht4, fun j hj => ?_⟩, (HK6.out.mono fun j hj => .inl hj).then ht4 fun k hk e => by omega⟩
        rcases hj with hj | hj | hj
        · exact .inl (.inl hj)
        · exact .inl (.inr (.inl hj))
        · right
          unfold At at hj
          injection hj with hj
          injection hj with hj
          omega⟩
      go_ret
      exact HE.out
    · have heq : ∀ w : World, (binOp .eql 25 (.map (some b)) (.map none)).run Try.prog w = .ok (.bool false) w := fun _ => by kernel_rfl
      have hlen0 : ∀ ty, (Builtin.len_ #[25] ty #[.map (some b)]).run Try.prog w = .ok (.int .i64 ((W.length : Nat) : Int)) w := fun ty => by
        have := hm.len Try.underlying25 ty
        rwa [tR_len] at this
      have hlen : ∀ ty m, (Builtin.len_ #[25] ty #[.map (some b)]).run Try.prog (w.drewN m) = .ok (.int .i64 ((W.length : Nat) : Int)) (w.drewN m) := fun ty m => by
        have := (hm.of_block (w' := w.drewN m) rfl).len Try.underlying25 ty
        rwa [tR_len] at this
      have HM := Lib.hid hm
      clear hno hn hx h1 h2 h3 hy h0 hW hb hiff ht hm
      go_enter Try.func29, Try.ntmps29
      go_upto_region 6 with fail
      go_quiet (fail)
      obtain ⟨W3, hW3⟩ : ∃ W3, W3 = w.drewN nq := ⟨_, rfl⟩
      rw [← hW3]
      have hT23 : Tn (fun _ => False) w W3 := by rw [hW3]; exact (Tn.refl _ _).drewN nq
      have HK4 := Lib.hid (H.out.quiet hT23)
      have HK5 : Hid (MapL W3 Try.prog 3 b (tR q W)) := Lib.hid (HM.out.of_block (by rw [hW3]; rfl))
      have HK6 := Lib.hid hT23
      have e5 : W3.cell? ⟨g, 3, none⟩ = some (.map (some b)) := by rw [hW3]; exact c3
      clear hT23 hW3 c3 c4 hlen hlen0 hwr hlk
      go_wp2_with (at_mapUpdate; refine wpList_new rfl _ _ _ 25 rfl 3 3 Try.underlying3 Try.underlying25 b (tR q W) rfl HK5.out HN.out x (.int .i64 t) rfl rfl HX.out HNO.out ?_; intro w4 hm4 ht4)
      rw [HT.out] at hm4
      have HE : Hid (WaitIn w B g v1 (.map (some b)) R o W q x (.returned (.int .i64 t)) w4) := Lib.hid ⟨t, rfl, by rw [HT.out]; exact HIFF.out, by
        rw [addW_no HWC.out]
        exact ⟨⟨_, _, HK4.out.moreW hm4 ht4, fun j hj => .inl hj⟩, (HK6.out.mono fun _ h => h.elim).then ht4 fun k hk e => .inr (.inr (e ▸ rfl))⟩⟩
      go_ret
      exact HE.out
theorem write_in (h : Gt w B g v1 v2 R o W q) (hx : Fits x) (hin : inB R o x = true) :
    Calls Try.prog 11 #[.pointer (some ⟨g, 0, none⟩), .int .i64 x] w fun e w' => e = .returned (.bool false) ∧ w = w' := by
  have HI := Lib.hid (in_any B g v1 v2 R o W q x w h hx)
  rw [hin] at HI
  clear h hin
  go_enter Try.func11, Try.ntmps11
  go_wp2_with fail
  refine HI.out.mono ?_
  rintro e w1 ⟨rfl, e1⟩
  subst e1
  go_wp2
  go_ret
  exact ⟨rfl, rfl⟩
def WaitsIn (w : World) (B g : Nat) (v1 v2 : Value) (R : List Int) (o : Option Int) (W : List Int) (q x : Int) (e : Ending) (w' : World) : Prop :=
  e = .returned (.bool false) ∧ Left w B g v1 v2 R o (addW W x) q w'
theorem write_wait (h : Gt w B g v1 v2 R o W q) (hx : Fits x) (hin : inB R o x = false) (hno : (addW W x).head? ≠ some x ∨ o.isSome = true ∨ R ≠ []) (hq : 0 ≤ q) (hl : q + (W.length : Int) ≤ 1000000) (hB : B ≤ w.heap.size) :
    Calls Try.prog 11 #[.pointer (some ⟨g, 0, none⟩), .int .i64 x] w (WaitsIn w B g v1 v2 R o W q x) := by
  have HI := Lib.hid (in_any B g v1 v2 R o W q x w h hx)
  have HW := Lib.hid (wait_any B g v1 v2 R o W q x w h hx hq hl hB)
  rw [hin] at HI
  clear h hin hq hl hB
  go_enter Try.func11, Try.ntmps11
  go_wp2_with fail
  refine HI.out.mono ?_
  rintro e w1 ⟨rfl, e1⟩
  subst e1
  go_wp2_with fail
  refine HW.out.mono ?_
  rintro e w1 ⟨t, rfl, hiff, hleft⟩
  have HE : Hid (WaitsIn w B g v1 v2 R o W q x (.returned (.bool false)) w1) := Lib.hid ⟨rfl, hleft⟩
  obtain ⟨⟨u1, u2, hg, _⟩, _⟩ := hleft
  obtain ⟨h0, ⟨y, hb, hy⟩, h1, h2, h3⟩ := hg
  have c0 := cell_of_blk hb 0
  have c2 := cell_of_blk hb 2
  have c4 := cell_of_blk hb 4
  have hlr := fun ty => h1.len Try.underlying24 ty
  rw [rR_len] at hlr
  clear h1 h2 h3 hy hb h0 HI HW
  by_cases ht : t = q
  · have tb : (t != q) = false := by simpa using ht
    have tb2 : (!(t == q)) = false := by simpa using ht
    rcases o with _ | z
    · have hR : 0 < R.length := by
        rcases hno with h | h | h
        · exact absurd (hiff.1 ht) h
        · cases h
        · exact List.length_pos_iff.2 h
      have hR2 : (0 : Int) < (R.length : Int) := by omega
      clear hno hiff ht
      go_wp2
      go_ret
      exact HE.out
    · clear hno hiff ht
      go_wp2
      go_ret
      exact HE.out
  · have tb : (t != q) = true := by simpa using ht
    have tb2 : (!(t == q)) = true := by simpa using ht
    clear hno hiff ht
    go_wp2
    go_ret
    exact HE.out
def WroteIn (w : World) (B g : Nat) (v1 v2 : Value) (W : List Int) (q x : Int) (e : Ending) (w' : World) : Prop :=
  e = .returned (.bool true) ∧ Left w B g v1 v2 [] (some x) W (q + 1) w'
theorem Gt.enters {w2 w3 w4 : World} {B g : Nat} {u1 u2 : Value} {W : List Int} {q x : Int} (h : Gt w2 B g u1 u2 [] none (x :: W) q) (hm : MapO w3 Try.prog 3 B u2 (delL (tR q (x :: W)) x)) (ht : Tn (At u2) w2 w3)
    (hw : w4 = ((w3.setCell ⟨g, 4, none⟩ (.int .i64 (q + 1))).setCell ⟨g, 1, none⟩ (.int .i64 x)).setCell ⟨g, 2, none⟩ (.bool true)) : Gt w4 B g u1 u2 [] (some x) W (q + 1) ∧ Tn (Its g u1 u2) w2 w4 := by
  have hnd := h.ndW
  rw [tR_del hnd] at hm
  obtain ⟨h0, ⟨y, hb, hy⟩, h1, h2, h3⟩ := h
  have hgn : ¬ At u2 g := fun e => (h2.lt g e).2.2 _ _ _ hb
  have hb3 := (ht.block g (lt_of_some hb) hgn).trans hb
  have h13 := h1.tn ht fun j hj hk => h3 j hj hk
  have hgn1 : ¬ At u1 g := fun e => (h1.lt g e).2.2 _ _ _ hb
  have e4 := heap_setCell_same w3 g 4 _ _ (.int .i64 (q + 1)) hb3
  have e5 := heap_setCell_same _ g 1 _ _ (.int .i64 x) e4
  have e6 := heap_setCell_same _ g 2 _ _ (.bool true) e5
  have htt : Tn (fun j => j = g) w3 w4 := by
    rw [hw]
    exact (((Tn.refl (fun j => j = g) w3).setCell (p := ⟨g, 4, none⟩) (.inr rfl) _).setCell (p := ⟨g, 1, none⟩) (.inr rfl) _).setCell (p := ⟨g, 2, none⟩) (.inr rfl) _
  refine ⟨⟨h0, ⟨x, ?_, fun z hz => by injection hz⟩, h13.tn htt fun j hj e => hgn1 (e ▸ hj), hm.tn htt fun j hj e => hgn (e ▸ hj), h3⟩, (ht.mono fun j hj => .inr (.inr hj)).trans (htt.mono fun j hj => .inl hj)⟩
  rw [hw]
  exact e6
set_option maxHeartbeats 800000 in
theorem write_go (Wn : List Int) (h : Gt w B g v1 v2 [] none W q) (hx : Fits x) (hW : addW W x = x :: Wn) (hq : 0 ≤ q) (hl : q + (W.length : Int) ≤ 1000000) (hB : B ≤ w.heap.size) :
    Calls Try.prog 11 #[.pointer (some ⟨g, 0, none⟩), .int .i64 x] w (WroteIn w B g v1 v2 Wn q x) := by
  have HI : Hid (Calls Try.prog 18 #[.pointer (some ⟨g, 0, none⟩), .int .i64 x] w fun e w' => e = .returned (.bool false) ∧ w = w') := Lib.hid (in_any B g v1 v2 [] none W q x w h hx)
  have HW := Lib.hid (wait_any B g v1 v2 [] none W q x w h hx hq hl hB)
  have hwr : IntKind.i64.wrap (q + 1) = q + 1 := IntWalk.i64_in _ (by omega)
  have HHW := Lib.hid hW
  have HX := Lib.hid hx
  clear h hl hB hW hx
  go_enter Try.func11, Try.ntmps11
  go_wp2_with fail
  refine HI.out.mono ?_
  rintro e w1 ⟨rfl, e1⟩
  subst e1
  go_wp2_with fail
  refine HW.out.mono ?_
  rintro e w1 ⟨t, rfl, hiff, hleft⟩
  rw [HHW.out] at hiff hleft
  have ht : t = q := hiff.2 rfl
  subst ht
  obtain ⟨⟨u1, u2, hg, hu⟩, htn⟩ := hleft
  have HG := Lib.hid hg
  have HU := Lib.hid hu
  have HTN := Lib.hid htn
  obtain ⟨h0, ⟨y, hb, hy⟩, h1, h2, h3⟩ := hg
  have c0 := cell_of_blk hb 0
  have c2 := cell_of_blk hb 2
  have c3 := cell_of_blk hb 3
  have c4 := cell_of_blk hb 4
  have hlr : ∀ ty, (Builtin.len_ #[24] ty #[u1]).run Try.prog w1 = .ok (.int .i64 0) w1 := fun ty => h1.len Try.underlying24 ty
  have hgn : ¬ At u2 g := fun e => (h2.lt g e).2.2 _ _ _ hb
  have HGN := Lib.hid hgn
  have HB := Lib.hid hb
  have HM := Lib.hid h2
  clear h1 h2 h3 hy hb h0 HI HW hiff hu htn hgn
  have tb : (t != t) = false := by simp
  have tb2 : (!(t == t)) = false := by simp
  go_wp2_with (at_delete; refine wpList_drop rfl _ _ 25 3 rfl 3 Try.underlying3 Try.underlying25 B u2 (tR t (x :: Wn)) rfl HM.out x rfl HX.out ?_; intro w3 hm3 ht3; have hb3 := (ht3.block g (lt_of_some HB.out) HGN.out).trans HB.out; have z1 := cell_of_blk hb3 1; have z2 := cell_of_blk hb3 2; have z4 := cell_of_blk hb3 4; have f1 := free_of_blk hb3 1; have f2 := free_of_blk hb3 2; have f4 := free_of_blk hb3 4; have HM3 := Lib.hid hm3; have HT3 := Lib.hid ht3; clear hb3 hm3 ht3)
  obtain ⟨W4, hW4⟩ : ∃ W4, W4 = ((w3.setCell ⟨g, 4, none⟩ (.int .i64 (t + 1))).setCell ⟨g, 1, none⟩ (.int .i64 x)).setCell ⟨g, 2, none⟩ (.bool true) := ⟨_, rfl⟩
  rw [← hW4]
  obtain ⟨k1, k2⟩ := HG.out.enters HM3.out HT3.out hW4
  have HE : Hid (WroteIn w B g v1 v2 Wn t x (.returned (.bool true)) W4) := Lib.hid ⟨rfl, Left.trans HTN.out HU.out ⟨⟨u1, u2, k1, fun j hj => .inl hj⟩, k2⟩⟩
  clear k1 k2 hW4
  go_ret
  exact HE.out
end
end Go.Proofs.Ythmehalkijbpdaa.gat
