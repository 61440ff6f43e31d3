/- MergePages' law returns true: pages one behind the other are all entries. Condition: the names and the sizes lie in memory; the library's MaxLen holds a number. -/
import Derived.Test.YtmmpceodhadipaaDoorJY4
import Derived.BigQuiet
namespace Go.Proofs.YtmmpceodhadipaaDoor.mrg
set_option maxRecDepth 100000
open Go.RowKit Go.Proofs.YtmmpceodhadipaaDoor.words Go.Proofs.YtmmpceodhadipaaDoor.ext Go.Proofs.YtmmpceodhadipaaDoor.name Go.Proofs.YtmmpceodhadipaaDoor.tre Go.Proofs.YtmmpceodhadipaaDoor.stk Go.Proofs.YtmmpceodhadipaaDoor.seen

def u8V (x : Nat) : Value := .int .u8 (x : Int)
def enI (N : List ByteArray) : List (ByteArray × Int) := N.zipIdx.map fun p => (p.1, (p.2 : Int))
theorem enI_len {N : List ByteArray} : (enI N).length = N.length := by unfold enI; rw [List.length_map, List.length_zipIdx]
theorem enI_at {N : List ByteArray} {i : Nat} {s : ByteArray} (h : N[i]? = some s) : (enI N)[i]? = some (s, (i : Int)) := by
  unfold enI
  rw [List.getElem?_map, List.getElem?_zipIdx, h]
  simp
theorem enI_next {N : List ByteArray} {k : Nat} {s : ByteArray} (h : N[k]? = some s) : (enI (N.take (k + 1))).flatMap enC = (enI (N.take k)).flatMap enC ++ [.string s, .int .i64 (k : Int)] := by
  obtain ⟨hk, hs⟩ := List.getElem?_eq_some_iff.1 h
  rw [List.take_succ_eq_append_getElem hk, hs]
  unfold enI
  rw [List.zipIdx_append, List.map_append, List.flatMap_append, List.length_take, Nat.min_eq_left (Nat.le_of_lt hk)]
  simp [enC]
theorem eni_neq (s : ByteArray) (r : Int) (W : World) : Sem.run Tryd.prog (binOp .neq 79 (.agg #[.string s, .int .i64 r]) (.agg #[.string s, .int .i64 r])) W = .ok (.bool false) W := by
  rw [run_neq_struct]
  have hs : Tryd.prog.underlying 9 = some .string := Tryd.underlying9
  have hi : Tryd.prog.underlying 3 = some (.int .i64) := Tryd.underlying3
  rw [run_equalIn_agg W 9999 79 _ _ (by kernel_rfl) (by kernel_rfl)]
  simp [hs, hi, go_sem]
/-- An append, and where the row lies behind it. -/
theorem wpList_append_where {P : Program} {w : World} {ops : Array Oper} {rest : List Oper} {o : Oper} {a : Act} {Q : Exit → Act → World → Prop} (hgd : o.guard = none) (s x : Operand) (t : TypeId)
    (ho : o.op = .call { callee := .builtin .append, args := #[s, x], argTypes := #[t, t] })
    (base : Nat) (e : TypeId) (i : TypeInfo) (z : Value) (size bytes : Nat) (ht : P.underlying t = some (.slice e)) (hi : P.info? e = some i) (hz : i.zero = some z)
    (hsize : i.size = size) (hby : i.bytes = bytes) (hzs : z.cells.size = size) (hsz : 0 < size)
    (v : Value) (n : Nat) (xs : List Value) (hs : a.eval s = v) (hown : w.ownsRow base e size v n xs)
    (A : Option Addr) (m c : Nat) (news : List Value) (hA : A = none → m = 0 ∧ c = 0) (hx : a.eval x = .slice A m c) (hl : news.length = m * size) (hnews : Lies w A news) (h1 : ∀ u ∈ news, u.oneCell' = true)
    (h63 : n + m ≤ maxLen) (hbytes : (n + m) * bytes ≤ 140737488355328) (hbase : base ≤ w.heap.size)
    (h : ∀ v' w', w'.ownsRow base e size v' (n + m) (xs ++ news) → w.grownBy w' v.ownBlock → (0 < m → ∃ g, v'.ownBlock = some g ∧ (v.ownBlock = some g ∨ g = w.heap.size)) → wpList P ops Q rest (a.put o.dst v') w') : wpList P ops Q (o :: rest) a w := by
  by_cases hm : 0 < m
  · rcases A with _ | ad
    · have := (hA rfl).1; omega
    · have hn : ∀ j u, news[j]? = some u → w.cell? (ad.add j) = some u := fun j u hu => by
        obtain ⟨b, off, e1, _, e3⟩ := hnews j u hu
        injection e1 with e1
        subst e1
        rw [add_place]
        exact e3
      exact wpList_append_lies w hgd s x t ho base e i z size bytes ht hi hz hsize hby hzs hsz v n xs hs hown ad m c news hx hl hn h1 hm h63 hbytes hbase w.heap.size rfl fun g cap w' h2 h3 h4 h5 => h _ w' h2 h3 fun _ => ⟨g, rfl, h4⟩
  · exact wpList_append_opt hgd s x t ho base e i z size bytes ht hi hz hsize hby hzs hsz v n xs hs hown A m c news hA hx hl hnews h1 h63 hbytes hbase fun v' w' h2 h3 => h v' w' h2 h3 fun h0 => absurd h0 hm
/-- What is of a page behind so many rounds. -/
def PgIn (B : Nat) (v : Value) (n al i : Nat) (w : World) : Prop := ∃ xs, w.ownsRow B 79 2 v n xs ∧ ∀ j, i ≤ j → j < n → xs[j * 2 + 1]? = some (.int .i64 ((al + j : Nat) : Int))
theorem PgIn.step {B gp c n al i : Nat} {w : World} {u : Value} (h : PgIn B (.slice (some ⟨gp, 0, none⟩) n c) n al i w) : PgIn B (.slice (some ⟨gp, 0, none⟩) n c) n al (i + 1) (w.setCell ⟨gp, i * 2 + 1, none⟩ u) := by
  obtain ⟨xs, ho, hx⟩ := h
  refine ⟨_, (ho.stored (i * 2 + 1) u).1, fun j hj hjn => ?_⟩
  rw [List.getElem?_set_ne (by omega)]
  exact hx j (by omega) hjn
theorem PgIn.at_ {B n al i c : Nat} {A : Option Addr} {w : World} (h : PgIn B (.slice A n c) n al i w) (hi : i < n) : ∃ gp, A = some ⟨gp, 0, none⟩ ∧ B ≤ gp ∧ w.cell? ⟨gp, i * 2 + 1, none⟩ = some (.int .i64 ((al + i : Nat) : Int)) ∧ w.frozen? ⟨gp, i * 2 + 1, none⟩ = false := by
  obtain ⟨xs, ho, hx⟩ := h
  obtain ⟨g, cur, rfl, h1, _, _, h2⟩ := tre.own_cell ho (hx i (Nat.le_refl _) hi)
  exact ⟨g, rfl, h1, h2, ho.frozenAt _⟩
theorem page_in {N : List ByteArray} {a n : Nat} (h : a + n ≤ N.length) (j : Nat) (hj : j < n) : ((((enI N).drop a).take n).flatMap enC)[j * 2 + 1]? = some (.int .i64 ((a + j : Nat) : Int)) := by
  obtain ⟨s, hs⟩ : ∃ s, N[a + j]? = some s := ⟨_, List.getElem?_eq_getElem (by omega)⟩
  have hx : (((enI N).drop a).take n)[j]? = some (s, ((a + j : Nat) : Int)) := by rw [List.getElem?_take_of_lt hj, List.getElem?_drop]; exact enI_at hs
  rw [enC_at hx 1 (by omega)]
  rfl
theorem page_eni (A : Option Addr) (c : Nat) (N : List ByteArray) (f m : Int) (a n : Nat) (b : Bool) (w : World) (hE : Lies w A ((enI N).flatMap enC)) (hz : A = none → c = 0) (hl : N.length ≤ 1000000) (hc : N.length ≤ c)
    (ha : (a : Int) = min (max f 0) (N.length : Int)) (hn : (n : Int) = min (max m 0) ((N.length - a : Nat) : Int)) (hb : (n == N.length - a) = b) :
    Calls Tryd.prog 45 #[.slice A N.length c, .int .i64 f, .int .i64 m] w fun e w' => ∃ A' c', e = .returned (.tuple #[.slice A' n c', .bool b]) ∧ w'.ownsRow w.heap.size 79 2 (.slice A' n c') n ((((enI N).drop a).take n).flatMap enC) ∧ Below w.heap.size w w' := by
  have h := page_any A c (enI N) f m a n w hE hz (by rw [enI_len]; exact hl) (by rw [enI_len]; exact hc) (by rw [enI_len]; exact ha) (by rw [enI_len]; exact hn)
  rw [enI_len] at h
  refine h.mono ?_
  rintro e w' ⟨A', c', rfl, ho, hb'⟩
  exact ⟨A', c', by rw [enI_len, hb], ho, hb'⟩
set_option maxHeartbeats 12800000 in
theorem law_pages (A : Option Addr) (c : Nat) (N : List ByteArray) (B : Option Addr) (cb : Nat) (L : List Nat) (mx : Int) (w : World) (hT : Txts w w.heap.size A N) (hL : Lies w B (L.map u8V)) (hx : ∀ x ∈ L, x ≤ 255) (hm : w.cell? ⟨0, 0, none⟩ = some (.int .i64 mx)) :
    Calls Tryd.prog 9 #[.slice A N.length c, .slice B L.length cb] w fun e w' => e = .returned (.bool true) ∧ Below w.heap.size w w' := by
  have HT := Lib.hid hT
  have HLs := Lib.hid hL
  have HX := Lib.hid hx
  have HS := Lib.hid (mrg.speaks_any mx w hm)
  obtain ⟨iE, hiE, zE0, zE1, zE2⟩ := info_parts infoEntry
  clear hT hL hx hm
  go_enter Tryd.func9, Tryd.ntmps9
  go_wp2_with fail
  refine HS.out.mono ?_
  rintro e w1 ⟨rfl, hb1⟩
  replace HT := Lib.hid ((HT.out.keep hb1).more hb1.size)
  replace HLs := Lib.hid (Below.lies HLs.out hb1)
  have HB1 := Lib.hid hb1
  clear hb1 HS
  by_cases hn : 100 < N.length
  · have g : (100 : Int) < (N.length : Int) := by omega
    go_wp2_with fail
    go_ret
    exact ⟨rfl, HB1.out⟩
  by_cases hn2 : 200 < L.length
  · have g : ¬ (100 : Int) < (N.length : Int) := by omega
    have g2 : (200 : Int) < (L.length : Int) := by omega
    go_wp2_with fail
    go_ret
    exact ⟨rfl, HB1.out⟩
  have g : ¬ (100 : Int) < (N.length : Int) := by omega
  have g2 : ¬ (200 : Int) < (L.length : Int) := by omega
  go_wp2_with fail
  go_loopw [29, 5] (fun v v5 wr => ∃ k : Nat, v = .int .i64 (k : Int) ∧ k ≤ N.length ∧ Hid (wr.ownsRow w1.heap.size 79 2 v5 k ((enI (N.take k)).flatMap enC)) ∧ Hid (Below w1.heap.size w1 wr)) (fun v _ _ => N.length - (intOf v).toNat)
  case atStart => exact ⟨0, rfl, Nat.zero_le _, Lib.hid (World.ownsRow_nil _ _ _ _), Lib.hid (Below.refl _ _)⟩
  case round =>
    obtain ⟨k, rfl, hk, HO, HB⟩ := hrel
    obtain ⟨Ar, cr, rfl, hcr, hzr⟩ := own_facts HO.out
    by_cases hlt : k < N.length
    · obtain ⟨s, hs⟩ : ∃ s, N[k]? = some s := ⟨_, List.getElem?_eq_getElem hlt⟩
      obtain ⟨⟨b, off, hA, hb, x0⟩, _⟩ := HT.out.keep HB.out k s hs
      subst hA
      have i0 : (0 : Int) ≤ (k : Int) := by omega
      have i1 : (k : Int) < (N.length : Int) := by omega
      obtain ⟨Wc, hWc⟩ : ∃ Wc, Wc = wr.alloc (.cells #[.string s, .int .i64 (k : Int)] 79) := ⟨_, rfl⟩
      have hbc : Below wr.heap.size wr Wc := by rw [hWc]; exact (Below.refl _ _).alloc (Nat.le_refl _) _
      have HNc : Hid (∀ (i : Nat) (u : Value), ([.string s, .int .i64 (k : Int)] : List Value)[i]? = some u → Wc.cell? ((⟨wr.heap.size, 0, none⟩ : Addr).add i) = some u) := Lib.hid fun i u hi => by rw [hWc, new_cell]; simpa using hi
      have HOc := Lib.hid (ownL HO.out hbc)
      have HBc := Lib.hid (HB.out.trans (hbc.mono HB.out.size))
      have HTk := Lib.hid (enI_next hs)
      have HWc := Lib.hid hWc.symm
      clear hs hb hWc hbc HO HB hzr
      go_wp2_with (at_builtin; rw [HWc.out]; refine wpList_append_own _ rfl (.tmp 34) (.tmp 38) 77 rfl w1.heap.size 79 iE _ 2 24 Tryd.underlying77 hiE zE0 zE1 zE2 rfl (by omega) (.slice Ar k cr) k ((enI (N.take k)).flatMap enC) rfl HOc.out ⟨wr.heap.size, 0, none⟩ 1 1 [.string s, .int .i64 (k : Int)] rfl rfl HNc.out (by simp [Value.oneCell']) (by simp only [maxLen]; omega) (by omega) HBc.out.size ?_; intro v7' wq hownq hgrowq hnilq)
      have HBq := Lib.hid (keep_grown HBc.out HOc.out hgrowq (Nat.le_refl _) (Nat.le_refl _))
      have HOq : Hid (wq.ownsRow w1.heap.size 79 2 v7' (k + 1) ((enI (N.take (k + 1))).flatMap enC)) := Lib.hid (by rw [HTk.out]; exact hownq)
      clear hownq hgrowq hnilq x0
      go_roundw
      case rel => exact ⟨k + 1, by go_num, by omega, HOq, HBq⟩
      case measure => simp [intOf]; omega
    · obtain rfl : k = N.length := by omega
      have HO2 : Hid (wr.ownsRow w1.heap.size 79 2 (.slice Ar N.length cr) N.length ((enI N).flatMap enC)) := Lib.hid (by have h := HO.out; rwa [List.take_length] at h)
      have HL := Lib.hid (lies_own HO2.out)
      have HBr := Lib.hid (HB1.out.trans (HB.out.mono HB1.out.size))
      have HZ : Hid (Ar = none → cr = 0) := Lib.hid fun e => (hzr e).2
      have HCr := Lib.hid hcr
      replace HLs := Lib.hid (Below.lies HLs.out (HB.out.mono (Nat.le_refl _)))
      clear HO HB HO2 hzr hcr HT HB1
      obtain ⟨ln, hln⟩ : ∃ ln, ln = N.length := ⟨_, rfl⟩
      have hl1 : ln ≤ 100 := by omega
      have HLn := Lib.hid hln
      rw [← hln]
      rw [← hln] at HCr
      clear hln hn g hk hlt
      go_wp2_with fail
      go_loopw [43, 9, 6] (fun v v9 v6 wo => ∃ (j al : Nat), v = .int .i64 (j : Int) ∧ v9 = .int .i64 (al : Int) ∧ j ≤ L.length ∧ al ≤ ln ∧ Hid (wo.ownsRow wr.heap.size 79 2 v6 al (((enI N).take al).flatMap enC)) ∧ Hid (Below wr.heap.size wr wo)) (fun v _ _ _ => L.length - (intOf v).toNat)
      case atStart => exact ⟨0, 0, rfl, rfl, Nat.zero_le _, Nat.zero_le _, Lib.hid (World.ownsRow_nil _ _ _ _), Lib.hid (Below.refl _ _)⟩
      case round =>
        rename World => wo
        obtain ⟨j, al, rfl, rfl, hj, hal, HO, HB⟩ := hrel
        obtain ⟨Ag, cg, rfl, hcg, hzg⟩ := own_facts HO.out
        by_cases hlt : j < L.length
        · obtain ⟨x, hx⟩ : ∃ x, L[j]? = some x := ⟨_, List.getElem?_eq_getElem hlt⟩
          have hx255 := HX.out x (List.mem_of_getElem? hx)
          obtain ⟨b, off, hA, hb, x00⟩ := Below.lies HLs.out HB.out j (u8V x) (by rw [List.getElem?_map, hx]; rfl)
          subst hA
          have x0 : wo.cell? ⟨b, off + j, none⟩ = some (.int .u8 (x : Int)) := x00
          clear x00
          have i0 : (0 : Int) ≤ (j : Int) := by omega
          have i1 : (j : Int) < (L.length : Int) := by omega
          have c0 : -9223372036854775808 ≤ (x : Int) := by omega
          have c1 : (x : Int) < 9223372036854775808 := by omega
          obtain ⟨q, hq⟩ : ∃ q, q = x % 9 := ⟨_, rfl⟩
          have hq1 : (x : Int) % 9 = (q : Int) := by omega
          have hq2 : Int.tmod (x : Int) 9 = (q : Int) := by rw [Int.tmod_eq_emod_of_nonneg (by omega)]; exact hq1
          obtain ⟨n, hnn⟩ : ∃ n : Nat, (n : Int) = min (max (q : Int) 0) ((ln - al : Nat) : Int) := ⟨(min (max (q : Int) 0) ((ln - al : Nat) : Int)).toNat, by omega⟩
          have hn1 : al + n ≤ ln := by omega
          have hmn : min (q : Int) ((ln : Int) - (al : Int)) = (n : Int) := by omega
          obtain ⟨be, hbe⟩ : ∃ be, (n == ln - al) = be := ⟨_, rfl⟩
          have q3 : ((al : Int) + (n : Int) == (ln : Int)) = be := by rw [← hbe, Bool.eq_iff_iff]; simp only [beq_iff_eq]; omega
          have hln := HLn.out
          have HC := Lib.hid (page_eni Ar cr N (al : Int) (q : Int) al n be wo (Below.lies HL.out HB.out) HZ.out (by omega) (by rw [← hln]; exact HCr.out) (by rw [← hln]; omega) (by rw [← hln]; exact hnn) (by rw [← hln]; exact hbe))
          rw [← hln] at HC
          have r0 : -9223372036854775808 ≤ (ln : Int) - (al : Int) := by omega
          have r1 : (ln : Int) - (al : Int) < 9223372036854775808 := by omega
          have r2 : -9223372036854775808 ≤ (al : Int) + (n : Int) := by omega
          have r3 : (al : Int) + (n : Int) < 9223372036854775808 := by omega
          have HN1 := Lib.hid hn1
          have HWo : Hid (wr.heap.size ≤ wo.heap.size) := Lib.hid HB.out.size
          have HG : Hid (∀ k, (Value.slice Ag al cg).ownBlock = some k → k < wo.heap.size) := Lib.hid fun k hk => (HO.out.lt k hk).2
          clear hx hb hq hnn hbe hln hn1
          go_upto_region 15 with fail
          go_wp2_with fail
          refine HC.out.mono ?_
          rintro e w3 ⟨Ap, cp, rfl, hop, hb3⟩
          have HO3 := Lib.hid (ownL HO.out hb3)
          have HB3 := Lib.hid (HB.out.trans (hb3.mono HB.out.size))
          have HP3 := Lib.hid hop
          have HLp := Lib.hid (lies_own hop)
          have HPz : Hid (Ap = none → n = 0 ∧ cp = 0) := Lib.hid (by obtain ⟨A0, c0', e0, _, h0⟩ := own_facts hop; injection e0 with e1 _ e2; subst e1 e2; exact h0)
          have HPl : Hid (((((enI N).drop al).take n).flatMap enC).length = n * 2) := Lib.hid (by rw [enC_len, List.length_take, List.length_drop, enI_len, ← HLn.out, Nat.min_eq_left (by have := HN1.out; omega)])
          have hle3 := hb3.size
          clear hop hb3 HC HO HB x0
          go_wp2_with (at_builtin; refine wpList_append_where rfl (.tmp 82) (.tmp 83) 77 rfl wr.heap.size 79 iE _ 2 24 Tryd.underlying77 hiE zE0 zE1 zE2 rfl (by omega) (.slice Ag al cg) al (((enI N).take al).flatMap enC) rfl HO3.out Ap n cp ((((enI N).drop al).take n).flatMap enC) HPz.out rfl HPl.out HLp.out (enC_one _) (by simp only [maxLen]; have := HN1.out; omega) (by have := HN1.out; omega) HB3.out.size ?_; intro v6' wq hownq hgrowq hwhere)
          have HBq := Lib.hid (keep_grown HB3.out HO3.out hgrowq (Nat.le_refl _) (Nat.le_refl _))
          have HOq : Hid (wq.ownsRow wr.heap.size 79 2 v6' (al + n) (((enI N).take (al + n)).flatMap enC)) := Lib.hid (by rw [List.take_add, List.flatMap_append]; exact hownq)
          have HPq : Hid (PgIn wo.heap.size (.slice Ap n cp) n al 0 wq) := Lib.hid ⟨_, HP3.out.kept hgrowq (by
            rcases hob : (Value.slice Ap n cp).ownBlock with _ | k
            · exact .inl rfl
            · refine .inr fun e => ?_
              have h1 := HG.out k e.symm
              have h2 := (HP3.out.lt k hob).1
              omega), fun i _ hi => page_in (by rw [← HLn.out]; exact HN1.out) i hi⟩
          have HNe : Hid (∀ gp, 0 < n → Ap = some ⟨gp, 0, none⟩ → v6'.ownBlock ≠ some gp) := Lib.hid fun gp h0 hAp e => by
            obtain ⟨g', e1, e2⟩ := hwhere h0
            rw [e1] at e
            injection e with e
            subst e
            have h2 := HP3.out.lt g' (by rw [hAp]; rfl)
            rcases e2 with e2 | e2
            · have := HG.out g' e2; omega
            · omega
          clear hownq hgrowq hwhere HO3 HB3 HP3 HLp HPz HPl HG
          go_wp2_with fail
          go_loopw [87] (fun v wt => ∃ i : Nat, v = .int .i64 (i : Int) ∧ i ≤ n ∧ Hid (PgIn wo.heap.size (.slice Ap n cp) n al i wt) ∧ Hid (wt.ownsRow wr.heap.size 79 2 v6' (al + n) (((enI N).take (al + n)).flatMap enC)) ∧ Hid (Below wr.heap.size wr wt)) (fun v _ => n - (intOf v).toNat)
          case atStart => exact ⟨0, rfl, Nat.zero_le _, HPq, HOq, HBq⟩
          case round =>
            rename World => wt
            clear HPq HOq HBq
            obtain ⟨i, rfl, hi, HPt, HOt, HBt⟩ := hrel
            by_cases hlt3 : i < n
            · obtain ⟨gp, hgp, hge, y0, y1⟩ := HPt.out.at_ hlt3
              obtain ⟨kd, hkd⟩ : ∃ kd : Int, kd = ((al + i : Nat) : Int) := ⟨_, rfl⟩
              rw [← hkd] at y0
              have k0 : -9223372036854775808 ≤ kd - 1 := by omega
              have k1 : kd - 1 < 9223372036854775808 := by omega
              have j0 : (0 : Int) ≤ (i : Int) := by omega
              have j1 : (i : Int) < (n : Int) := by omega
              have HN2 := Lib.hid (HNe.out gp (by omega) hgp)
              subst hgp
              have HPn := Lib.hid (HPt.out.step (u := .int .i64 (kd - 1)))
              have HOn := Lib.hid (own_setCell (p := ⟨gp, i * 2 + 1, none⟩) HOt.out HN2.out (.int .i64 (kd - 1)))
              have HBn := Lib.hid (HBt.out.setCell (p := ⟨gp, i * 2 + 1, none⟩) (by have := HWo.out; exact Nat.le_trans this hge) (.int .i64 (kd - 1)))
              clear HPt HOt HBt HN2 hkd
              go_wp2_with fail
              go_roundw
              case rel => exact ⟨i + 1, by go_num, by omega, HPn, HOn, HBn⟩
              case measure => simp [intOf]; omega
            · obtain rfl : i = n := by omega
              clear HPt
              have hn1 := HN1.out
              go_wp2_with fail
              go_roundw
              case rel => exact ⟨j + 1, al + i, by go_num, by go_num, by omega, by omega, HOt, HBt⟩
              case measure => simp [intOf]; omega
        · obtain rfl : j = L.length := by omega
          have HLg := Lib.hid (lies_own HO.out)
          have HBo := Lib.hid (HBr.out.trans (HB.out.mono HBr.out.size))
          have HLo := Lib.hid (Below.lies HL.out HB.out)
          clear HO HB hzg hcg
          go_wp2_with fail
          go_loopw [102] (fun v wt => ∃ k : Nat, v = .int .i64 (k : Int) ∧ k ≤ al ∧ Hid (Below wo.heap.size wo wt)) (fun v _ => al - (intOf v).toNat)
          case atStart => exact ⟨0, rfl, Nat.zero_le _, Lib.hid (Below.refl _ _)⟩
          case round =>
            rename World => wt
            obtain ⟨i, rfl, hi, HBt⟩ := hrel
            by_cases hlt4 : i < al
            · obtain ⟨s, hs⟩ : ∃ s, N[i]? = some s := ⟨_, List.getElem?_eq_getElem (by have := HLn.out; omega)⟩
              have hx := enI_at hs
              have hxg : ((enI N).take al)[i]? = some (s, (i : Int)) := by rw [List.getElem?_take_of_lt hlt4]; exact hx
              obtain ⟨bl, ol, hA1, hb1, x0, x1⟩ := lies_en (Below.lies HLo.out HBt.out) hx
              obtain ⟨bp, op, hA2, hb2, y0, y1⟩ := lies_en (Below.lies HLg.out HBt.out) hxg
              subst hA1 hA2
              have i0 : (0 : Int) ≤ (i : Int) := by omega
              have i1 : (i : Int) < (al : Int) := by omega
              have i2 : (i : Int) < (ln : Int) := by omega
              obtain ⟨W1, hW1⟩ : ∃ W1, W1 = wt.alloc (.cells #[.string s, .int .i64 (i : Int)] 79) := ⟨_, rfl⟩
              have hw1 : Below wt.heap.size wt W1 := by rw [hW1]; exact (Below.refl _ _).alloc (Nat.le_refl _) _
              have hbk : W1.heap[wt.heap.size]? = some (.cells #[.string s, .int .i64 (i : Int)] 79 (0, 0)) := by rw [hW1]; exact heap_alloc_new wt _
              have e0 := cell_of_blk hbk 0
              have e1 := cell_of_blk hbk 1
              have s0 : W1.cell? ⟨bl, ol + i * 2, none⟩ = some (.string s) := (hw1.cell (p := ⟨bl, ol + i * 2, none⟩) hb1).trans x0
              have s1 : W1.cell? ⟨bl, ol + i * 2 + 1, none⟩ = some (.int .i64 (i : Int)) := (hw1.cell (p := ⟨bl, ol + i * 2 + 1, none⟩) hb1).trans x1
              have hneq := eni_neq s (i : Int)
              have HW1 := Lib.hid hW1
              have HBW := Lib.hid (HBt.out.trans (hw1.mono HBt.out.size))
              clear hs hx hxg hb1 hb2 hw1 hbk hW1 x0 x1 HBt
              go_upto_region 28 with fail
              rw [← HW1.out]
              clear HW1 y0 y1
              go_quiet (fail)
              go_wp2_with fail
              go_roundw
              case rel => exact ⟨i + 1, by go_num, by omega, Lib.hid (below_drewN HBW.out _)⟩
              case measure => simp [intOf]; omega
            · obtain rfl : i = al := by omega
              have HE := Lib.hid (HBo.out.trans (HBt.out.mono HBo.out.size))
              clear HBt
              go_wp2_with fail
              go_ret
              exact ⟨rfl, HE.out⟩
end Go.Proofs.YtmmpceodhadipaaDoor.mrg
