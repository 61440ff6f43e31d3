/- What the reference's All hands back: a node and all in it, one behind the other. Conditions: the node was read, it is no deeper than k, and there are no more than 4096 nodes. What the law's own check of one branch answers: true, and it leaves all that was as it was. Condition: the library's MaxLen holds a number. What the law BranchNodes answers: true. Conditions: the node is one that was read; the library's MaxLen holds a number. What the reference's Entry answers: where an entry comes among all. Condition: the nodes were read. And an append of a row that may be none. What the law BranchLooks answers: true. Conditions: the node is one that was read, and the text; the library's MaxLen holds a number. -/
import Derived.Test.YtmmpceodhadipaaDoorJI
import Derived.Test.YtmmpceodhadipaaDoorJH
import Derived.Test.YtmmpceodhadipaaDoorJE
import Derived.Laws.AppendOwnNone
namespace Go.Proofs.YtmmpceodhadipaaDoor.tre
set_option maxRecDepth 100000
open Go.RowKit Go.Proofs.YtmmpceodhadipaaDoor.words Go.Proofs.YtmmpceodhadipaaDoor.ext Go.Proofs.YtmmpceodhadipaaDoor.name

theorem infoNode : (Tryd.prog.info? 39).map (fun i => (i.zero, i.size, i.bytes)) = some (some (.agg #[.int .i64 0, .bool false, .slice none 0 0, .slice none 0 0, .int .i64 0, .slice none 0 0, .string ⟨#[]⟩]), 7, 112) := by kernel_rfl
theorem rowCells_app : ∀ (L M : List Nd) (rs : Nat → Raw), rowCells (L ++ M) rs = rowCells L rs ++ rowCells M (fun i => rs (L.length + i))
  | [], M, rs => by
    rw [List.nil_append]
    show _ = [] ++ _
    rw [List.nil_append]
    congr 1
    funext i
    rw [show ([] : List Nd).length + i = i by simp]
  | x :: L, M, rs => by
    rw [List.cons_append, rowCells, rowCells_app L M (fun i => rs (i + 1)), rowCells, List.append_assoc]
    congr 2
    congr 1
    funext i
    rw [show L.length + i + 1 = (x :: L).length + i by simp; omega]
theorem rowCells_eq : ∀ {L : List Nd} {rs rs' : Nat → Raw}, (∀ i < L.length, rs i = rs' i) → rowCells L rs = rowCells L rs'
  | [], _, _, _ => rfl
  | y :: L, rs, rs', h => by
    rw [rowCells, rowCells, h 0 (by simp), rowCells_eq (L := L) (rs := fun i => rs (i + 1)) (rs' := fun i => rs' (i + 1)) fun i hi => h (i + 1) (by simp; omega)]
/-- Rows of nodes that were read. -/
def Nds (W0 : World) (L : List Nd) (rs : Nat → Raw) : Prop := ∀ (i : Nat) (x : Nd), L[i]? = some x → NdAt W0 W0.heap.size x (rs i)
theorem join_rows (W0 : World) (L M : List Nd) (rs rs2 : Nat → Raw) (h1 : Nds W0 L rs) (h2 : Nds W0 M rs2) : ∃ rs3, rowCells (L ++ M) rs3 = rowCells L rs ++ rowCells M rs2 ∧ Nds W0 (L ++ M) rs3 := by
  refine ⟨fun i => if i < L.length then rs i else rs2 (i - L.length), ?_, fun i x hx => ?_⟩
  · rw [rowCells_app]
    congr 1
    · exact rowCells_eq fun i hi => if_pos hi
    · refine rowCells_eq fun i _ => ?_
      show (if L.length + i < L.length then _ else rs2 (L.length + i - L.length)) = _
      rw [if_neg (by omega), show L.length + i - L.length = i by omega]
  · rcases Nat.lt_or_ge i L.length with hi | hi
    · rw [List.getElem?_append_left hi] at hx
      show NdAt W0 _ x (if i < L.length then _ else _)
      rw [if_pos hi]
      exact h1 i x hx
    · rw [List.getElem?_append_right hi] at hx
      show NdAt W0 _ x (if i < L.length then _ else _)
      rw [if_neg (by omega)]
      exact h2 _ x hx
def AllOf (W0 : World) (n : Nd) (w : World) (e : Ending) (w' : World) : Prop :=
  ∃ A c rs, e = .returned (.slice A (count n) c) ∧ w'.ownsRow w.heap.size 39 7 (.slice A (count n) c) (count n) (rowCells (preN n) rs) ∧ Nds W0 (preN n) rs ∧ Below w.heap.size w w'
theorem own_built {w : World} {n : Nd} {r : Raw} {B : Nat} (hB : B ≤ w.heap.size) : (w.alloc (.cells (rawCells n r) 39)).ownsRow B 39 7 (.slice (some ⟨w.heap.size, 0, none⟩) 1 1) 1 (rowCells [n] fun _ => r) :=
  ⟨by rw [rowCells_length]; rfl, .inr ⟨w.heap.size, 1, rawCells n r, rfl, hB, heap_alloc_new w _, Nat.le_refl _, by decide, rfl, by
    rw [rowCells, rowCells, List.append_nil]
    exact List.take_of_length_le (by rw [raw_length]; decide)⟩⟩

theorem row_later {w w' : World} {B size n : Nat} {E : TypeId} {v : Value} {xs : List Value} (h : w.ownsRow B E size v n xs) (hb : Below w.heap.size w w') : w'.ownsRow B E size v n xs := by
  refine ⟨h.1, ?_⟩
  rcases h.2 with h0 | ⟨g, cap, cur, h1, h2, h3, h4⟩
  · exact .inl h0
  · exact .inr ⟨g, cap, cur, h1, h2, (hb.block g (lt_of_some h3)).trans h3, h4⟩
theorem own_base {w : World} {B B' size n : Nat} {E : TypeId} {v : Value} {xs : List Value} (h : w.ownsRow B E size v n xs) (hB : B' ≤ B) : w.ownsRow B' E size v n xs := by
  refine ⟨h.1, ?_⟩
  rcases h.2 with h0 | ⟨g, cap, cur, h1, h2, h3⟩
  · exact .inl h0
  · exact .inr ⟨g, cap, cur, h1, Nat.le_trans hB h2, h3⟩
theorem row_some {w : World} {B : Nat} {n : Nd} {A : Option Addr} {c : Nat} {rs : Nat → Raw} (h : w.ownsRow B 39 7 (.slice A (count n) c) (count n) (rowCells (preN n) rs)) :
    ∃ g, A = some ⟨g, 0, none⟩ ∧ ∀ (i : Nat) (u : Value), (rowCells (preN n) rs)[i]? = some u → w.cell? ((⟨g, 0, none⟩ : Addr).add i) = some u := by
  have hx : (preN n)[0]? = some n := by rw [preN_eq]; rfl
  obtain ⟨g, _, h1, _⟩ := own_cell h (rowCells_at (rs := rs) hx 0 _ rfl)
  refine ⟨g, h1, fun i u hu => ?_⟩
  obtain ⟨g', _, h1', _, _, _, h5⟩ := own_cell h hu
  rw [h1] at h1'
  injection h1' with h1'
  injection h1' with h1'
  subst h1'
  rw [add_place, Nat.zero_add]
  exact h5

set_option maxHeartbeats 6400000 in
theorem pre_at (W0 : World) : ∀ (k : Nat) (n : Nd) (r : Raw) (w : World), depth n < k → NdAt W0 W0.heap.size n r → Below W0.heap.size W0 w → count n ≤ 4096 →
    Calls Tryd.prog 37 #[ndV n r] w (AllOf W0 n w) := by
  intro k
  induction k with
  | zero => intro n r w hk; omega
  | succ k ih =>
    intro n r w hk hN hb hc
    have IH := Lib.hid ih
    have HN := Lib.hid hN
    have HB := Lib.hid hb
    have hdn := depth_eq n
    have hdk : depthL n.I ≤ k := by omega
    have hcn := count_eq n
    have hle0 := hb.size
    have hlk : n.I.length ≤ 4096 := by
      have := countL_len n.I
      omega
    obtain ⟨W1, hW1⟩ : ∃ W1, W1 = w.alloc (.cells (rawCells n r) 39) := ⟨_, rfl⟩
    have hb1 : Below w.heap.size w W1 := by rw [hW1]; exact (Below.refl _ _).alloc (Nat.le_refl _) _
    have hx1 : Box W1 w.heap.size n r := by rw [hW1]; exact Box.new w n r
    have hz1 : W1.heap.size = w.heap.size + 1 := by rw [hW1]; simp
    obtain ⟨W2, hW2⟩ : ∃ W2, W2 = W1.alloc (.cells (rawCells n r) 39) := ⟨_, rfl⟩
    have hb2 : Below W1.heap.size W1 W2 := by rw [hW2]; exact (Below.refl _ _).alloc (Nat.le_refl _) _
    have ho2 : W2.ownsRow W1.heap.size 39 7 (.slice (some ⟨W1.heap.size, 0, none⟩) 1 1) 1 (rowCells [n] fun _ => r) := by rw [hW2]; exact own_built (Nat.le_refl _)
    have HX2 := Lib.hid (hx1.below hb2)
    have HB2 := Lib.hid (hb1.trans (hb2.mono hb1.size))
    have HO2 := Lib.hid ho2
    unfold rawCells at hW1 hW2
    rw [hz1] at HO2
    have HW1 := Lib.hid hW1
    have HW2 := Lib.hid hW2
    have HX1 := Lib.hid hx1
    obtain ⟨i0, hi, hz0, hy1, hy2⟩ := info_parts infoNode
    clear hN hb hdn hb1 hx1 hW1 hb2 hW2 ho2 ih
    unfold ndV rawCells
    go_enter Tryd.func37, Tryd.ntmps37
    go_upto_region 1 with fail
    rw [← HW1.out]
    obtain ⟨b0, b1, b2, b3, b4, b5, b6⟩ := HX1.out.cells
    go_upto_region 2 with fail
    rw [← HW2.out]
    clear b0 b1 b2 b3 b4 b5 b6 HX1 HW1 HW2
    have hsz2 := HB2.out.size
    go_wp2_with fail
    go_loopw [3, 4] (fun v3 v4 wr => ∃ (j : Nat) (A : Option Addr) (c : Nat), j ≤ n.I.length ∧ v4 = .int .i64 j ∧ v3 = .slice A (1 + countL (n.I.take j)) c ∧ Hid (∃ rs, wr.ownsRow (w.heap.size + 1) 39 7 (.slice A (1 + countL (n.I.take j)) c) (1 + countL (n.I.take j)) (rowCells (n :: preL (n.I.take j)) rs) ∧ Nds W0 (n :: preL (n.I.take j)) rs) ∧ Hid (Box wr w.heap.size n r ∧ Below w.heap.size w wr)) (fun _ v4 _ => n.I.length - (intOf v4).toNat)
    case atStart =>
      refine ⟨0, some ⟨w.heap.size + 1, 0, none⟩, 1, Nat.zero_le _, rfl, ?_, Lib.hid ⟨fun _ => r, ?_, ?_⟩, Lib.hid ⟨HX2.out, HB2.out⟩⟩
      · rw [List.take_zero, countL_nil]
      · rw [List.take_zero, countL_nil, preL_nil]
        exact HO2.out
      · rw [List.take_zero, preL_nil]
        intro i x hx
        have h0 : i = 0 := by have := (List.getElem?_eq_some_iff.1 hx).1; simp at this; omega
        subst h0
        obtain rfl : n = x := by simpa using hx
        exact HN.out
    case round =>
      obtain ⟨j, A, c, hj, rfl, rfl, HR, HBx⟩ := hrel
      have hxr := HBx.out.1
      obtain ⟨b0, b1, b2, b3, b4, b5, b6⟩ := hxr.cells
      by_cases hlt : j < n.I.length
      · obtain ⟨x, hx⟩ : ∃ x, n.I[j]? = some x := ⟨_, List.getElem?_eq_getElem hlt⟩
        have hbr : Below W0.heap.size W0 wr := HB.out.trans (HBx.out.2.mono hle0)
        obtain ⟨rx, hrx, b, off, hA, hBb, c0, c1, c2, c3, c4, c5, c6⟩ := HN.out.entry hx hbr
        have i0' : (0 : Int) ≤ (j : Int) := by omega
        have i1' : (j : Int) < (n.I.length : Int) := by omega
        have hct := count_take hx
        have hcall := IH.out x rx wr (by have := depth_at hx; omega) hrx hbr (by omega)
        unfold ndV rawCells at hcall
        have HC := Lib.hid hcall
        have HX := Lib.hid hx
        have hszr := HBx.out.2.size
        have hszr1 : w.heap.size < wr.heap.size := HBx.out.1.lt
        rw [hA] at b3
        obtain ⟨mj, hmj⟩ : ∃ mj, mj = 1 + countL (n.I.take j) := ⟨_, rfl⟩
        have Hmj := Lib.hid hmj
        rw [← hmj] at HR
        rw [← hmj]
        clear hx hbr hrx hcall hxr hmj hA
        go_wp2_with fail
        refine HC.out.mono ?_
        rintro e w7 ⟨A7, c7, rs7, rfl, ho7, hn7, hb7⟩
        obtain ⟨g7, rfl, hnews⟩ := row_some ho7
        obtain ⟨rs, ho, hn⟩ := HR.out
        have ho' := row_later ho hb7
        have HO := Lib.hid ho'
        have HNs := Lib.hid hnews
        have HJ := Lib.hid (join_rows W0 _ _ rs rs7 hn hn7)
        have HB7 := Lib.hid (HBx.out.2.trans (hb7.mono hszr))
        have HX7 := Lib.hid (HBx.out.1.below hb7)
        have hs7 := hb7.size
        have hl7 : (rowCells (preN x) rs7).length = count x * 7 := by rw [rowCells_length, preN_length]
        have hmj5 : mj ≤ 4096 := by have := Hmj.out; omega
        have hcx5 : count x ≤ 4096 := by omega
        clear ho7 hn7 hb7 ho hn ho' hnews HR b0 b1 b2 b3 b4 b5 b6 c0 c1 c2 c3 c4 c5 c6 HC
        go_wp2_with (at_builtin; refine wpList_append_own _ rfl (.tmp 14) (.tmp 20) 22 rfl (w.heap.size + 1) 39 i0 _ 7 112 Tryd.underlying22 hi hz0 hy1 hy2 rfl (by omega) (.slice A mj c) mj _ rfl HO.out ⟨g7, 0, none⟩ (count x) c7 (rowCells (preN x) rs7) rfl hl7 HNs.out (rowCells_one _ _) (by simp only [maxLen]; omega) (by omega) (by omega) ?_; intro v9 w9 hown9 hgrow9 hnil9)
        have hB9 := keep_grown (S := w.heap.size) HB7.out HO.out hgrow9 (Nat.le_succ _) (Nat.le_refl _)
        have hX9 : Box w9 w.heap.size n r := HX7.out.grown hgrow9 fun e => by
          have := (HO.out.lt _ e.symm).1
          omega
        obtain ⟨rs3, hr3, hn3⟩ := HJ.out
        have htk : n.I.take (j + 1) = n.I.take j ++ [x] := take_at HX.out
        have hm1 : mj + count x = 1 + countL (n.I.take (j + 1)) := by rw [htk, countL_snoc, Hmj.out]; omega
        have hp1 : n :: preL (n.I.take j) ++ preN x = n :: preL (n.I.take (j + 1)) := by rw [htk, preL_snoc]; rfl
        rw [← hr3, hp1, hm1] at hown9
        rw [hp1] at hn3
        obtain ⟨A9, c9, rfl, _, _⟩ := own_facts hown9
        have HR9 : Hid (∃ rs, w9.ownsRow (w.heap.size + 1) 39 7 (.slice A9 (1 + countL (n.I.take (j + 1))) c9) (1 + countL (n.I.take (j + 1))) (rowCells (n :: preL (n.I.take (j + 1))) rs) ∧ Nds W0 (n :: preL (n.I.take (j + 1))) rs) := Lib.hid ⟨rs3, hown9, hn3⟩
        have HB9 := Lib.hid (And.intro hX9 hB9)
        clear hown9 hn3 hr3 hgrow9 hnil9 hB9 hX9 HO HNs HJ HB7 HX7 htk hm1 hp1
        go_wp2_with fail
        go_roundw
        case rel => exact ⟨j + 1, A9, c9, by omega, by go_num, rfl, HR9, HB9⟩
        case measure => simp [intOf]; omega
      · obtain rfl : j = n.I.length := by omega
        go_wp2_with fail
        go_ret
        obtain ⟨rs, ho, hn⟩ := HR.out
        rw [List.take_length] at ho hn ⊢
        exact ⟨A, c, rs, by rw [hcn]; rfl, by rw [hcn, preN_eq]; exact own_base ho (Nat.le_succ _), by rw [preN_eq]; exact hn, HBx.out.2⟩
end Go.Proofs.YtmmpceodhadipaaDoor.tre

namespace Go.Proofs.YtmmpceodhadipaaDoor.tre
set_option maxRecDepth 100000
open Go.RowKit Go.Proofs.YtmmpceodhadipaaDoor.words Go.Proofs.YtmmpceodhadipaaDoor.ext Go.Proofs.YtmmpceodhadipaaDoor.name

def cb : ByteArray := ⟨#[99]⟩
def xyz : ByteArray := ⟨#[120, 121, 122]⟩
def dC : Nd := dirN [cb] [whiteN]
def dT : Nd := dirN [ab, bb] [dC, textN xyz]
theorem dT_right : treeB dT = true := by decide +kernel
theorem dT_count : countC dT = (count dT : Int) := by decide +kernel
theorem dT_four : count dT = 4 := by decide +kernel
theorem dT_depth : depth dT ≤ 1000 := by decide +kernel
theorem dT_pre : preN dT = [dT, dC, whiteN, textN xyz] := by
  rw [preN_eq, show dT.I = [dC, textN xyz] from rfl, preL_cons, preL_cons, preL_nil, preN_eq, preN_eq, show dC.I = [whiteN] from rfl, preL_cons, preL_nil, preN_eq, show whiteN.I = [] from rfl, show (textN xyz).I = [] from rfl, preL_nil]
  rfl
theorem dT_len : (flatN 0 dT).length = 4 := by rw [flatN_length, dT_four]
theorem dT_at {k : Nat} {x : Nd} (h : (preN dT)[k]? = some x) : (flatN 0 dT)[k]? = some (entOf k x) := by
  have := ents_at (k := 0) h
  rw [Nat.zero_add] at this
  exact this
theorem dT_0 : (flatN 0 dT)[0]? = some (entOf 0 dT) := dT_at (by rw [dT_pre]; rfl)
theorem dT_2 : (flatN 0 dT)[2]? = some (entOf 2 whiteN) := dT_at (by rw [dT_pre]; rfl)
theorem dT_3 : (flatN 0 dT)[3]? = some (entOf 3 (textN xyz)) := dT_at (by rw [dT_pre]; rfl)
theorem dT_asc : Asc [ab, bb] := riseB_asc (by decide +kernel)
theorem dT_ids : (entOf 0 dT).ids = [1, 3] := by
  show kidsL 1 [dC, textN xyz] = _
  rw [kidsL, kidsL, kidsL]
  have : count dC = 2 := by decide +kernel
  rw [this]
theorem xyz_len : (ofB xyz).length = 1 := by decide +kernel
theorem xyz_read : readB 3 (ofB xyz) 1 9 = [121, 122] := by decide +kernel
theorem look_b (g : Nat) (w : World) (h : Brn w w.heap.size g (flatN 0 dT)) : Calls Tryd.prog 72 #[.pointer (some ⟨g, 0, none⟩), .int .i64 0, .string ⟨#[98]⟩] w fun e w' => e = .returned (.tuple #[.int .i64 3, .bool true]) ∧ Below w.heap.size w w' :=
  (blook_yes g 0 _ _ bb w h dT_0 dT_asc (by rw [dT_ids]; rfl)).mono fun e w' ⟨hx, hb⟩ => by
    refine ⟨?_, hb⟩
    rcases hx with ⟨i, id, h1, h2, h3⟩ | ⟨_, hno⟩
    · obtain rfl : i = 1 := dT_asc.one h1 (show ([ab, bb] : List ByteArray)[1]? = some bb from rfl)
      rw [dT_ids] at h2
      obtain rfl : 3 = id := by simpa using h2
      exact h3
    · exact (hno 1 rfl).elim
theorem text_eq {x y : ByteArray} (h : x.data.toList = y.data.toList) : x = y := by
  obtain ⟨⟨a⟩⟩ := x
  obtain ⟨⟨b⟩⟩ := y
  simp only at h
  subst h
  rfl
theorem read_yz (g : Nat) (w : World) (h : Brn w w.heap.size g (flatN 0 dT)) : Calls Tryd.prog 39 #[.pointer (some ⟨g, 0, none⟩), .int .i64 3, .int .i64 1, .int .i64 9] w fun e w' => e = .returned (.string ⟨#[121, 122]⟩) ∧ Below w.heap.size w w' :=
  (bread_yes g 3 _ _ 1 9 w h dT_3 (show rightB (xyz.size : Int) (ofB xyz) = true from ofB_right xyz (by decide)) (by decide) (by decide) (by decide) (by decide)).mono fun e w' ⟨⟨s, h1, h2⟩, hb⟩ => by
    refine ⟨?_, hb⟩
    rw [h1, text_eq (y := ⟨#[121, 122]⟩) (h2.trans xyz_read)]
theorem count_4 (g : Nat) (w : World) (h : Brn w w.heap.size g (flatN 0 dT)) : Calls Tryd.prog 36 #[.pointer (some ⟨g, 0, none⟩)] w fun e w' => e = .returned (.int .i64 4) ∧ w = w' :=
  (bcount_any g _ w h).mono fun e w' ⟨h1, h2⟩ => ⟨by rw [h1, dT_len]; rfl, h2⟩
theorem kind_4 (g : Nat) (w : World) (h : Brn w w.heap.size g (flatN 0 dT)) : Calls Tryd.prog 40 #[.pointer (some ⟨g, 0, none⟩), .int .i64 2] w fun e w' => e = .returned (.int .i64 4) ∧ Below w.heap.size w w' :=
  bkind_yes g 2 _ _ w h dT_2
theorem size_3 (g : Nat) (w : World) (h : Brn w w.heap.size g (flatN 0 dT)) : Calls Tryd.prog 52 #[.pointer (some ⟨g, 0, none⟩), .int .i64 3] w fun e w' => e = .returned (.int .i64 3) ∧ Below w.heap.size w w' :=
  bsize_yes g 3 _ _ w h dT_3
def whV (r : Raw) : Value := .agg #[.int .i64 4, .bool false, .slice r.An 0 r.cn, .slice r.Ai 0 r.ci, .int .i64 0, .slice r.Ae 0 r.ce, .string ⟨#[]⟩]
def dcV (r : Raw) : Value := .agg #[.int .i64 2, .bool false, .slice r.An 1 r.cn, .slice r.Ai 1 r.ci, .int .i64 0, .slice r.Ae 0 r.ce, .string ⟨#[]⟩]
def dtV (r : Raw) : Value := .agg #[.int .i64 2, .bool false, .slice r.An 2 r.cn, .slice r.Ai 2 r.ci, .int .i64 0, .slice r.Ae 0 r.ce, .string ⟨#[]⟩]
def xyV (r : Raw) : Value := .agg #[.int .i64 1, .bool false, .slice r.An 0 r.cn, .slice r.Ai 0 r.ci, .int .i64 3, .slice r.Ae 1 r.ce, .string ⟨#[]⟩]
theorem wh_v (r : Raw) : ndV whiteN r = whV r := rfl
theorem dc_v (r : Raw) : ndV dC r = dcV r := rfl
theorem dt_v (r : Raw) : ndV dT r = dtV r := rfl
theorem xy_cells (r : Raw) : rawCells (textN xyz) r = #[.int .i64 1, .bool false, .slice r.An 0 r.cn, .slice r.Ai 0 r.ci, .int .i64 3, .slice r.Ae 1 r.ce, .string ⟨#[]⟩] := by
  unfold rawCells
  rw [show (textN xyz).E.length = 1 from xyz_len]
  rfl
theorem xy_v (r : Raw) : ndV (textN xyz) r = xyV r := by unfold ndV; rw [xy_cells]; rfl

set_option maxHeartbeats 3200000 in
theorem bspeaks_any (m : Int) (w : World) (hm : w.cell? ⟨0, 0, none⟩ = some (.int .i64 m)) : Calls Tryd.prog 30 #[] w fun e w' => e = .returned (.bool true) ∧ Below w.heap.size w w' := by
  obtain ⟨W1, hW1⟩ : ∃ W1, W1 = w.alloc (.cells #[.string ab, .string bb] 9) := ⟨_, rfl⟩
  have hb1 : Below w.heap.size w W1 := by rw [hW1]; exact (Below.refl _ _).alloc (Nat.le_refl _) _
  have hT1 : Txts W1 W1.heap.size (some ⟨w.heap.size, 0, none⟩) [ab, bb] := by rw [hW1]; exact txts_two w ab bb (by decide) (by decide)
  obtain ⟨W2, hW2⟩ : ∃ W2, W2 = W1.alloc (.cells #[.string cb] 9) := ⟨_, rfl⟩
  have hb2 : Below W1.heap.size W1 W2 := by rw [hW2]; exact (Below.refl _ _).alloc (Nat.le_refl _) _
  have hT2 : Txts W2 W2.heap.size (some ⟨W1.heap.size, 0, none⟩) [cb] := by rw [hW2]; exact txts_one W1 cb (by decide)
  have HT1 := Lib.hid ((hT1.keep hb2).more hb2.size)
  have HT2 := Lib.hid hT2
  have HB2 := Lib.hid (hb1.trans (hb2.mono hb1.size))
  have hW1' : W1 = w.alloc (.cells #[.string ⟨#[97]⟩, .string ⟨#[98]⟩] 9) := hW1
  have hW2' : W2 = W1.alloc (.cells #[.string ⟨#[99]⟩] 9) := hW2
  rw [hW1'] at hW2'
  have hz1 : W1.heap.size = w.heap.size + 1 := by rw [hW1]; simp
  rw [hz1] at HT2
  have HW2 := Lib.hid hW2'
  have HM := Lib.hid hm
  clear hW1 hW1' hW2 hW2' hm hb1 hb2 hT1 hT2 hz1
  go_enter Tryd.func30, Tryd.ntmps30
  go_wp2_with fail
  rw [← HW2.out]
  refine ((white_any W2).mono fun _ _ h => h.as wh_v).mono ?_
  rintro e w3 ⟨r3, rfl, hn3, hb3⟩
  have HN3 := Lib.hid hn3
  have HB3 := Lib.hid hb3
  clear hn3 hb3
  unfold whV
  go_wp2_with fail
  obtain ⟨W4, hW4⟩ : ∃ W4, W4 = w3.alloc (.cells (rawCells whiteN r3) 39) := ⟨_, rfl⟩
  have hb4 : Below w3.heap.size w3 W4 := by rw [hW4]; exact (Below.refl _ _).alloc (Nat.le_refl _) _
  have hb24 : Below W2.heap.size W2 W4 := HB3.out.trans (hb4.mono HB3.out.size)
  have HP4 := Lib.hid (one_dir cb whiteN r3 (w.heap.size + 1) w3 W4 hW4 ((HT2.out.keep hb24).more hb24.size) HN3.out)
  have HB24 := Lib.hid hb24
  have hW4' : W4 = w3.alloc (.cells #[.int .i64 4, .bool false, .slice r3.An 0 r3.cn, .slice r3.Ai 0 r3.ci, .int .i64 0, .slice r3.Ae 0 r3.ce, .string ⟨#[]⟩] 39) := hW4
  rw [← hW4']
  clear hW4 hW4' hb4 hb24 HT2 HN3 HB3 HW2
  refine (HP4.out.mono fun _ _ h => h.as dc_v).mono ?_
  rintro e w5 ⟨r5, rfl, hn5, hb5⟩
  have HN5 := Lib.hid hn5
  have HB25 := Lib.hid (HB24.out.trans (hb5.mono HB24.out.size))
  clear hn5 hb5 HP4 HB24
  unfold dcV
  go_wp2_with fail
  refine ((text_any xyz w5 (by decide)).mono fun _ _ h => h.as xy_v).mono ?_
  rintro e w6 ⟨r6, rfl, hn6, hb6⟩
  have HN6 := Lib.hid hn6
  have HN56 := Lib.hid (HN5.out.later hb6)
  have HB26 := Lib.hid (HB25.out.trans (hb6.mono HB25.out.size))
  clear hn6 hb6 HN5 HB25
  unfold xyV
  go_wp2_with fail
  obtain ⟨W7, hW7⟩ : ∃ W7, W7 = w6.alloc (.cells ((rawCells dC r5).toList ++ ((rawCells (textN xyz) r6).toList ++ [])).toArray 39) := ⟨_, rfl⟩
  have hb7 : Below w6.heap.size w6 W7 := by rw [hW7]; exact (Below.refl _ _).alloc (Nat.le_refl _) _
  have hb27 : Below W2.heap.size W2 W7 := HB26.out.trans (hb7.mono HB26.out.size)
  have HP7 := Lib.hid (pair_dir ab bb dC (textN xyz) r5 r6 w.heap.size w6 W7 hW7 ((HT1.out.keep hb27).more hb27.size) HN56.out HN6.out)
  have HB7 := Lib.hid (HB2.out.trans (hb27.mono HB2.out.size))
  have hW7' := hW7
  rw [xy_cells] at hW7'
  have hW7'' : W7 = w6.alloc (.cells #[.int .i64 2, .bool false, .slice r5.An 1 r5.cn, .slice r5.Ai 1 r5.ci, .int .i64 0, .slice r5.Ae 0 r5.ce, .string ⟨#[]⟩, .int .i64 1, .bool false, .slice r6.An 0 r6.cn, .slice r6.Ai 0 r6.ci, .int .i64 3, .slice r6.Ae 1 r6.ce, .string ⟨#[]⟩] 39) := hW7'
  rw [← hW7'']
  clear hW7 hW7' hW7'' hb7 hb27 HT1 HN56 HN6 HB26 HB2
  refine (HP7.out.mono fun _ _ h => h.as dt_v).mono ?_
  rintro e w8 ⟨r8, rfl, hn8, hb8⟩
  have hnew := new_yes dT r8 m w8 hn8 (below_cell (below_cell HM.out HB7.out) hb8) dT_depth dT_right dT_count (by rw [dT_four]; decide)
  rw [dt_v] at hnew
  have HNew := Lib.hid hnew
  have HB8 := Lib.hid (HB7.out.trans (hb8.mono HB7.out.size))
  clear hn8 hb8 hnew HP7 HB7 HM
  go_wp2_with fail
  refine HNew.out.mono ?_
  rintro e w9 ⟨⟨g, rfl, hbr⟩, hb9⟩
  have HBr := Lib.hid hbr
  have HB9 := Lib.hid (HB8.out.trans (hb9.mono HB8.out.size))
  clear hbr hb9 HNew HB8
  go_wp2_with fail
  refine (look_b g w9 HBr.out).mono ?_
  rintro e w10 ⟨rfl, hb10⟩
  have HBr10 := Lib.hid (HBr.out.later hb10)
  have HB10 := Lib.hid (HB9.out.trans (hb10.mono HB9.out.size))
  clear hb10 HBr HB9
  go_wp2_with fail
  refine (count_4 g w10 HBr10.out).mono ?_
  rintro e w11 ⟨rfl, rfl⟩
  go_wp2_with fail
  refine (kind_4 g w10 HBr10.out).mono ?_
  rintro e w12 ⟨rfl, hb12⟩
  have HBr12 := Lib.hid (HBr10.out.later hb12)
  have HB12 := Lib.hid (HB10.out.trans (hb12.mono HB10.out.size))
  clear hb12 HBr10 HB10
  go_wp2_with fail
  refine (size_3 g w12 HBr12.out).mono ?_
  rintro e w13 ⟨rfl, hb13⟩
  have HBr13 := Lib.hid (HBr12.out.later hb13)
  have HB13 := Lib.hid (HB12.out.trans (hb13.mono HB12.out.size))
  clear hb13 HBr12 HB12
  go_wp2_with fail
  refine (read_yz g w13 HBr13.out).mono ?_
  rintro e w14 ⟨rfl, hb14⟩
  have HB14 := Lib.hid (HB13.out.trans (hb14.mono HB13.out.size))
  clear hb14 HBr13 HB13
  go_wp2_with fail
  go_ret
  exact ⟨rfl, HB14.out⟩
end Go.Proofs.YtmmpceodhadipaaDoor.tre

namespace Go.Proofs.YtmmpceodhadipaaDoor.tre
set_option maxRecDepth 100000
open Go.RowKit Go.Proofs.YtmmpceodhadipaaDoor.words Go.Proofs.YtmmpceodhadipaaDoor.ext Go.Proofs.YtmmpceodhadipaaDoor.name

theorem alone_K (x : Nd) : (aloneN x).K = x.K := by cases x; rfl
theorem alone_O (x : Nd) : (aloneN x).O = x.O := by cases x; rfl
theorem alone_N (x : Nd) : (aloneN x).N = x.N := by cases x; rfl
theorem alone_S (x : Nd) : (aloneN x).S = x.S := by cases x; rfl
theorem alone_E (x : Nd) : (aloneN x).E = x.E := by cases x; rfl
theorem alone_T (x : Nd) : (aloneN x).T = x.T := by cases x; rfl
theorem refB_all {n : Nd} (h : refB n = true) : allB n = true := by
  unfold refB at h
  simp only [Bool.and_eq_true] at h
  exact h.1.1.2
/-- What is known of a tree that is looked at, and may be. -/
structure Okay (n : Nd) : Prop where
  dep : depth n ≤ 30
  cnt : count n ≤ 400
  cc : countC n = (count n : Int)
  all : allB n = true
theorem okay_of {n : Nd} (hs : smallB n = true) (ht : Tame n) (hr : treeB n = true) : Okay n := by
  have h1 := smallB_depth hs
  rw [tree_same hs ht] at hr
  have ha := refB_all hr
  have hc := smallB_count hs ha ht
  refine ⟨h1, hc, ?_, ha⟩
  rw [countC_eq (by omega)]
  unfold wrap64
  omega
theorem flat_at {n x : Nd} {k : Nat} (h : (preN n)[k]? = some x) : (flatN 0 n)[k]? = some (entOf k x) := by
  have := ents_at (k := 0) h
  rw [Nat.zero_add] at this
  exact this
theorem read_none (off n : Int) (h : off = 0) : readB 0 [] off n = [] := by
  unfold readB countOf
  rw [h, if_neg (by omega), show (min n ((0 : Int) - 0)).toNat = 0 by omega]
  rfl
theorem bread_zero (g : Nat) (i : Int) (L : List Ent) (w : World) (h : Brn w w.heap.size g L) (hi : i < 0 ∨ (L.length : Int) ≤ i) :
    Calls Tryd.prog 39 #[.pointer (some ⟨g, 0, none⟩), .int .i64 i, .int .i64 0, .int .i64 9] w fun e w' => e = .returned (.string ⟨#[]⟩) ∧ Below w.heap.size w w' :=
  (bread_no g i L 0 9 w h hi (by decide) (by decide) (by decide) (by decide)).mono fun _ _ ⟨⟨s, h1, h2⟩, h3⟩ => ⟨by rw [h1, text_eq (y := ⟨#[]⟩) (h2.trans (read_none 0 9 rfl))], h3⟩
theorem row_nd {w : World} {B : Nat} {n : Nd} {A : Option Addr} {c : Nat} {rs : Nat → Raw} (h : w.ownsRow B 39 7 (.slice A (count n) c) (count n) (rowCells (preN n) rs)) :
    ∃ b, A = some ⟨b, 0, none⟩ ∧ b < w.heap.size ∧ ∀ (k : Nat) (x : Nd), (preN n)[k]? = some x → ∀ j v, (rawCells x (rs k))[j]? = some v → w.cell? ⟨b, k * 7 + j, none⟩ = some v := by
  have hx : (preN n)[0]? = some n := by rw [preN_eq]; rfl
  obtain ⟨g, _, h1, _, h3, _⟩ := own_cell h (rowCells_at (rs := rs) hx 0 _ rfl)
  refine ⟨g, h1, h3, fun k x hk j v hj => ?_⟩
  obtain ⟨g', _, h1', _, _, _, h5⟩ := own_cell h (rowCells_at (rs := rs) hk j v hj)
  rw [h1] at h1'
  injection h1' with h1'
  injection h1' with h1'
  subst h1'
  exact h5

end Go.Proofs.YtmmpceodhadipaaDoor.tre

namespace Go.Proofs.YtmmpceodhadipaaDoor.tre
set_option maxRecDepth 100000
open Go.RowKit Go.Proofs.YtmmpceodhadipaaDoor.words Go.Proofs.YtmmpceodhadipaaDoor.ext Go.Proofs.YtmmpceodhadipaaDoor.name

mutual
theorem preN_in : ∀ (n x : Nd), x ∈ preN n → depth x ≤ depth n ∧ count x ≤ count n ∧ (allB n = true → allB x = true)
  | .mk K O N I S E T, x, h => by
    rw [preN] at h
    rcases List.mem_cons.1 h with rfl | h
    · exact ⟨Nat.le_refl _, Nat.le_refl _, id⟩
    · obtain ⟨h1, h2, h3⟩ := preL_in I x h
      refine ⟨by rw [depth]; omega, by rw [count]; omega, fun ha => h3 ?_⟩
      rw [allB] at ha
      exact (Bool.and_eq_true _ _ ▸ ha).1
theorem preL_in : ∀ (L : List Nd) (x : Nd), x ∈ preL L → depth x + 1 ≤ depthL L ∧ count x ≤ countL L ∧ (allL L = true → allB x = true)
  | [], x, h => by rw [preL_nil] at h; cases h
  | y :: L, x, h => by
    rw [preL_cons] at h
    rw [depthL_cons, countL_cons, allL_cons]
    rcases List.mem_append.1 h with h | h
    · obtain ⟨h1, h2, h3⟩ := preN_in y x h
      refine ⟨by omega, by omega, fun ha => h3 ?_⟩
      exact (Bool.and_eq_true _ _ ▸ ha).1
    · obtain ⟨h1, h2, h3⟩ := preL_in L x h
      refine ⟨by omega, by omega, fun ha => h3 ?_⟩
      exact (Bool.and_eq_true _ _ ▸ ha).2
end
theorem allB_one {n : Nd} (h : allB n = true) : oneB n = true := by
  rw [allB_eq] at h
  exact (Bool.and_eq_true _ _ ▸ h).2
theorem none_len {n : Nd} (h : noneB n = true) : n.N.length = 0 ∧ n.I.length = 0 := by
  unfold noneB at h
  simp only [Bool.and_eq_true, beq_iff_eq] at h
  exact ⟨h.1.2, h.2⟩
theorem empty_right {n : Nd} (h : emptyB n = true) : rightB n.S n.E = true := by
  unfold emptyB at h
  simp only [Bool.and_eq_true, beq_iff_eq] at h
  rw [h.1, List.eq_nil_of_length_eq_zero h.2]
  decide
/-- Of a node that may be: its names rise, there is an entry for each, and its extents are right. -/
theorem one_right {n : Nd} (h : oneB n = true) : Asc n.N ∧ n.N.length = n.I.length ∧ rightB n.S n.E = true := by
  by_cases h1 : n.K = 1
  · rw [oneB_1 h1] at h
    simp only [Bool.and_eq_true] at h
    obtain ⟨a, b⟩ := none_len h.1.1
    exact ⟨by rw [List.eq_nil_of_length_eq_zero a]; exact fun _ _ _ _ _ hx => (no_at hx).elim, by omega, h.2⟩
  by_cases h2 : n.K = 2
  · rw [oneB_2 h2] at h
    simp only [Bool.and_eq_true, beq_iff_eq] at h
    exact ⟨riseB_asc h.2.2, h.2.1, empty_right h.1.1⟩
  by_cases h3 : n.K = 3
  · rw [oneB_3 h3] at h
    simp only [Bool.and_eq_true] at h
    obtain ⟨a, b⟩ := none_len h.1.1
    exact ⟨by rw [List.eq_nil_of_length_eq_zero a]; exact fun _ _ _ _ _ hx => (no_at hx).elim, by omega, empty_right h.1.2⟩
  by_cases h4 : n.K = 4
  · rw [oneB_4 h4] at h
    simp only [Bool.and_eq_true] at h
    obtain ⟨a, b⟩ := none_len h.1.1
    exact ⟨by rw [List.eq_nil_of_length_eq_zero a]; exact fun _ _ _ _ _ hx => (no_at hx).elim, by omega, empty_right h.1.2⟩
  rw [oneB_0 h1 h2 h3 h4] at h
  cases h
theorem wpList_append_opt {P : Program} {w : World} {ops : Array Oper} {rest : List Oper} {o : Oper} {a : Act} {Q : Exit → Act → World → Prop} (hgd : o.guard = none) (s x : Operand) (t : TypeId)
    (ho : o.op = .call { callee := .builtin .append, args := #[s, x], argTypes := #[t, t] })
    (base : Nat) (e : TypeId) (i : TypeInfo) (z : Value) (size bytes : Nat) (ht : P.underlying t = some (.slice e)) (hi : P.info? e = some i) (hz : i.zero = some z)
    (hsize : i.size = size) (hby : i.bytes = bytes) (hzs : z.cells.size = size) (hsz : 0 < size)
    (v : Value) (n : Nat) (xs : List Value) (hs : a.eval s = v) (hown : w.ownsRow base e size v n xs)
    (A : Option Addr) (m c : Nat) (news : List Value) (hA : A = none → m = 0 ∧ c = 0) (hx : a.eval x = .slice A m c) (hl : news.length = m * size) (hnews : Lies w A news) (h1 : ∀ u ∈ news, u.oneCell' = true)
    (h63 : n + m ≤ maxLen) (hbytes : (n + m) * bytes ≤ 140737488355328) (hbase : base ≤ w.heap.size)
    (h : ∀ v' w', w'.ownsRow base e size v' (n + m) (xs ++ news) → w.grownBy w' v.ownBlock → wpList P ops Q rest (a.put o.dst v') w') : wpList P ops Q (o :: rest) a w := by
  rcases A with _ | ad
  · obtain ⟨rfl, rfl⟩ := hA rfl
    have hn : news = [] := List.eq_nil_of_length_eq_zero (by rw [hl, Nat.zero_mul])
    refine wpList_append_own_none hgd s x t ho base e i size ht hi v n xs hs hown hx (h v w ?_ ⟨rfl, rfl, rfl, Nat.le_refl _, fun _ _ _ => rfl⟩)
    rw [hn, List.append_nil, Nat.add_zero]
    exact hown
  · refine wpList_append_own w hgd s x t ho base e i z size bytes ht hi hz hsize hby hzs hsz v n xs hs hown ad m c news hx hl (fun j u hj => ?_) h1 h63 hbytes hbase fun v' w' k1 k2 _ => h v' w' k1 k2
    obtain ⟨b, off, e1, _, e3⟩ := hnews j u hj
    injection e1 with e1
    subst e1
    rw [add_place]
    exact e3

end Go.Proofs.YtmmpceodhadipaaDoor.tre

namespace Go.Proofs.YtmmpceodhadipaaDoor.tre
set_option maxRecDepth 100000
open Go.RowKit Go.Proofs.YtmmpceodhadipaaDoor.words Go.Proofs.YtmmpceodhadipaaDoor.ext Go.Proofs.YtmmpceodhadipaaDoor.name

theorem infoText : (Tryd.prog.info? 9).map (fun i => (i.zero, i.size, i.bytes)) = some (some (.string ⟨#[]⟩), 1, 16) := by kernel_rfl
def Looked (x : Nd) (k : Nat) (y : ByteArray) (w : World) (e : Ending) (w' : World) : Prop :=
  ((∃ q : Nat, x.N[q]? = some y ∧ q < x.I.length ∧ e = .returned (.tuple #[.int .i64 ((k + 1 + countL (x.I.take q) : Nat) : Int), .bool true])) ∨ (e = .returned (.tuple #[.int .i64 0, .bool false]) ∧ ∀ j : Nat, x.N[j]? ≠ some y)) ∧ Below w.heap.size w w'
theorem looked_any (g k : Nat) (n x : Nd) (y : ByteArray) (w : World) (h : Brn w w.heap.size g (flatN 0 n)) (hx : (preN n)[k]? = some x) (ho : oneB x = true) :
    Calls Tryd.prog 72 #[.pointer (some ⟨g, 0, none⟩), .int .i64 (k : Int), .string y] w (Looked x k y w) := by
  obtain ⟨h1, h2, _⟩ := one_right ho
  have hl : (entOf k x).ids.length = x.I.length := kidsL_length _ _
  have hN : (entOf k x).x.N = x.N := alone_N x
  refine (blook_yes g k _ _ y w h (flat_at hx) (by rw [hN]; exact h1) (by rw [hl, hN]; exact h2.symm)).mono fun e w' ⟨hh, hb⟩ => ⟨?_, hb⟩
  rw [hN] at hh
  rcases hh with ⟨q, id, e1, e2, e3⟩ | ⟨e1, e2⟩
  · have hq : q < x.I.length := by rw [← h2]; exact (List.getElem?_eq_some_iff.1 e1).1
    have e4 := kidsL_at (k := k + 1) hq
    rw [show (entOf k x).ids = kidsL (k + 1) x.I from rfl, e4] at e2
    obtain rfl := Option.some.inj e2
    exact .inl ⟨q, e1, hq, e3⟩
  · exact .inr ⟨e1, e2⟩

end Go.Proofs.YtmmpceodhadipaaDoor.tre
