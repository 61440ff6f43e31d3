/- LcacheOnce: true. Condition: what is asked lies in memory. -/
import Derived.Test.YthhcbmljckgncaaLcaSpeak
import Derived.Test.YthhcbmljckgncaaDcaMem
import Derived.Test.YthhcbmljckgncaaMapLen
import Derived.Test.YthhcbmljckgncaaPlnArgs
namespace Go.Proofs.Ythhcbmljckgncaa.lon
set_option maxRecDepth 100000
open Go.RowKit Go.Proofs.Ythhcbmljckgncaa.words Go.Proofs.Ythhcbmljckgncaa.lru Go.Proofs.Ythhcbmljckgncaa.sha Go.Proofs.Ythhcbmljckgncaa.lrl Go.Proofs.Ythhcbmljckgncaa.shl Go.Proofs.Ythhcbmljckgncaa.lca Go.Proofs.Ythhcbmljckgncaa.mpf
open Go.Proofs.Ythhcbmljckgncaa.dca (dirB dir_any dirB_size)

theorem zeroInt (w : World) : (zeroValue 3).run Try.prog w = .ok (.int .i64 0) w := by kernel_rfl
set_option maxHeartbeats 1600000 in
/-- What is handed in: a directory is noted, and its entries are made. -/
theorem clos_any (bA b9 b8 bM d m : Nat) (k : ByteArray) (f : ByteArray → Option Value) (w : World) (hA : w.heap[bA]? = some (.cells #[.map (some bM)] 90 (0, 0))) (h9 : w.heap[b9]? = some (.cells #[.string k] 9 (0, 0)))
    (h8 : w.heap[b8]? = some (.cells #[.int .u8 (d : Int)] 5 (0, 0))) (hd : d ≤ 255) (hk : k.size ≤ 1000) (hm : MapN w Try.prog 9 bM m f) (hno : f k = none) (hml : m ≤ 1000) :
    Calls Try.prog 39 #[.pointer (some ⟨bA, 0, none⟩), .pointer (some ⟨b9, 0, none⟩), .pointer (some ⟨b8, 0, none⟩)] w fun e w' => (∃ A c, e = .returned (.slice A (entL (d % 4)).length c) ∧ Enr w' w.heap.size (.slice A (entL (d % 4)).length c) (entL (d % 4))) ∧ Mpd (some bM) w w' ∧ MapN w' Try.prog 9 bM (m + 1) (putF f k (.int .i64 1)) := by
  have cA := cell_of_blk hA 0
  have c9 := cell_of_blk h9 0
  have c8 := cell_of_blk h8 0
  have HM := Lib.hid hm
  have hks : k.size ≤ maxLen := by simp only [maxLen]; omega
  have hv : (f k).getD (.int .i64 0) = .int .i64 0 := by rw [hno]; rfl
  have H8 : Hid (∀ w2, w.grownBy w2 (some bM) → w2.cell? ⟨b8, 0, none⟩ = some (.int .u8 (d : Int))) := Lib.hid fun w2 hg => cell_of_blk ((hg.block b8 (lt_of_some h8) (fun e => hm.no _ _ _ (by injection e with e; rw [← e]; exact h8))).trans h8) 0
  have HE := Lib.hid (fun w => entries_any (d % 4) w (by omega))
  have d0 : (0 : Int) ≤ (d : Int) := by omega
  have d1 : (d : Int) ≤ 255 := by omega
  obtain ⟨e, he⟩ : ∃ e : Nat, e = d % 4 := ⟨_, rfl⟩
  have e1 : (d : Int).tmod 4 = (e : Int) := by rw [Int.tmod_eq_emod_of_nonneg (by omega)]; omega
  have e2 : (d : Int) % 4 = (e : Int) := by omega
  rw [← he] at HE ⊢
  have HV := Lib.hid hv
  have HNO := Lib.hid hno
  clear hA h9 h8 hm hno hv he
  go_enter Try.func39, Try.ntmps39
  go_wp2_with (first
    | (at_lookup; refine mpf.wpList_look _ rfl _ _ 90 rfl 9 3 Try.underlying9 Try.underlying90 (zeroInt _) bM m _ rfl HM.out.fn k rfl hks (v := .int .i64 0) HV.out ?_)
    | (at_mapUpdate; refine mpf.wpList_putN _ rfl _ _ _ 90 rfl 9 3 Try.underlying9 Try.underlying90 bM m _ rfl HM.out (by simp only [maxLen]; omega) k (.int .i64 1) rfl rfl hks HNO.out ?_; intro w2 hm2 hg2; have c8' := H8.out w2 hg2))
  have ht2 : Tn (fun k => some k = some bM) w w2 := (Tn.refl _ w).grown hg2 (fun k hk => .inr hk.symm)
  have hp2 : Mpd (some bM) w w2 := ⟨ht2, fun b hb => by obtain rfl : bM = b := Option.some.inj hb; exact HM.out.no, fun b hb => by obtain rfl : bM = b := Option.some.inj hb; exact hm2.no⟩
  have HP2 := Lib.hid hp2
  have HM2 := Lib.hid hm2
  clear cA c9 c8 hm2 hg2 ht2 hp2
  go_wp2_with fail
  refine (HE.out _).mono ?_
  rintro e w3 ⟨⟨A, c, rfl, h3⟩, hb3⟩
  have HF := Lib.hid (And.intro (h3.mono HP2.out.tn.size) (And.intro (show Mpd (some bM) w w3 from ⟨HP2.out.tn.trans (Tn.of_below hb3 _), HP2.out.map, fun b hb => by obtain rfl : bM = b := Option.some.inj hb; exact (HM2.out.later hb3).no⟩) (HM2.out.later hb3)))
  clear h3 hb3
  go_wp2_with fail
  go_ret
  exact ⟨⟨A, c, rfl, HF.out.1⟩, HF.out.2⟩

/-! What is kept -/
theorem rest_val (L : List (ByteArray × Lst)) {k s : ByteArray} (h : s ≠ k) : val (rest L k) s = val L s := by
  unfold val rest
  rw [List.find?_filter]
  congr 1
  congr 1
  funext p
  by_cases hp : p.1 = s
  · simp [hp, h]
  · simp [hp]
theorem val_cons (L : List (ByteArray × Lst)) (k s : ByteArray) (v : Lst) : val ((k, v) :: L) s = if s = k then some v else val L s := by
  unfold val
  rw [List.find?_cons]
  by_cases h : s = k
  · subst h; simp
  · have : ¬ k = s := fun e => h e.symm
    simp [this, h]
theorem val_getAny (L : List (ByteArray × Lst)) (k s : ByteArray) : val (getL L k) s = val L s := by
  rcases hv : val L k with _ | v
  · have : getL L k = L := by unfold getL; rw [hv]
    rw [this]
  · rw [getL_some hv, val_cons]
    split
    · rename_i h; rw [h]; exact hv.symm
    · rename_i h; exact rest_val L h
theorem mem_get {L : List (ByteArray × Lst)} {k : ByteArray} {p : ByteArray × Lst} (h : p ∈ getL L k) : p ∈ L := by
  rcases hv : val L k with _ | v
  · have : getL L k = L := by unfold getL; rw [hv]
    rwa [this] at h
  · rw [getL_some hv] at h
    rcases List.mem_cons.1 h with rfl | h
    · exact val_mem hv
    · exact (mem_rest.1 h).1
theorem few_of {α : Type} [DecidableEq α] : ∀ {l m : List α}, l.Nodup → (∀ x ∈ l, x ∈ m) → l.length ≤ m.length
  | [], _, _, _ => Nat.zero_le _
  | a :: l, m, h, hs => by
    obtain ⟨ha, hl⟩ := List.nodup_cons.1 h
    have hm := hs a (List.mem_cons_self ..)
    have := few_of (l := l) (m := m.erase a) hl fun x hx => by
      exact (List.mem_erase_of_ne (by rintro rfl; exact ha hx)).2 (hs x (List.mem_cons_of_mem _ hx))
    rw [List.length_erase_of_mem hm] at this
    have := List.length_pos_of_mem hm
    rw [List.length_cons]
    omega
def dirs : List ByteArray := [dirB 0, dirB 1, dirB 2, dirB 3]
theorem dir_in (e : Nat) (h : e < 4) : dirB e ∈ dirs := by
  have h4 : e = 0 ∨ e = 1 ∨ e = 2 ∨ e = 3 := by omega
  rcases h4 with rfl | rfl | rfl | rfl <;> simp [dirs]
theorem dir_inj {e d : Nat} (he : e < 4) (hd : d < 4) (h : dirB e = dirB d) : e = d := by
  have h4 : e = 0 ∨ e = 1 ∨ e = 2 ∨ e = 3 := by omega
  have h5 : d = 0 ∨ d = 1 ∨ d = 2 ∨ d = 3 := by omega
  rcases h4 with rfl | rfl | rfl | rfl <;> rcases h5 with rfl | rfl | rfl | rfl <;> first | rfl | (exact absurd h (by decide))
theorem dir_mod (d : Nat) : dirB (d % 4) = dirB d := by
  unfold dirB
  rw [Nat.mod_mod]
def fnOf (L : List (ByteArray × Lst)) (s : ByteArray) : Option Value := (val L s).map fun _ => .int .i64 1
structure EntOf (w : World) (ep : Int) (e : Nat) (xe : Lst) : Prop where
  ep : xe.ep = ep
  n : xe.n = (entL e).length
  row : Enr w 0 (.slice xe.a (entL e).length xe.c) (entL e)
theorem EntOf.kept {S : TypeId → Prop} {B : Nat} {w w' : World} {ep : Int} {e : Nat} {xe : Lst} (h : EntOf w ep e xe) (hk : Kept S B w w') (hS : ¬ S 81) : EntOf w' ep e xe := ⟨h.ep, h.n, h.row.kept hk hS⟩
/-- What the law keeps. -/
structure Onc (w : World) (q h bA bM : Nat) (ep : Int) (L : List (ByteArray × Lst)) (wr : World) : Prop where
  lc : ∃ g bo, Lc wr w.heap.size q h [⟨g, bo, 4, L⟩] (L.length : Int)
  map : MapN wr Try.prog 9 bM L.length (fnOf L)
  box : wr.heap[bA]? = some (.cells #[.map (some bM)] 90 (0, 0))
  below : Below w.heap.size w wr
  lo : w.heap.size ≤ bM
  ents : ∀ (k : ByteArray) (xe : Lst), (k, xe) ∈ L → ∃ e, e < 4 ∧ k = dirB e ∧ EntOf wr ep e xe
section
variable {w wr w' : World} {q h bA bM : Nat} {ep : Int} {L : List (ByteArray × Lst)}
theorem Onc.later (s : Onc w q h bA bM ep L wr) (hb : Below wr.heap.size wr w') : Onc w q h bA bM ep L w' := by
  obtain ⟨g, bo, d⟩ := s.lc
  exact ⟨⟨g, bo, d.later hb⟩, s.map.later hb, (hb.block _ (lt_of_some s.box)).trans s.box, s.below.trans (hb.mono s.below.size), s.lo, fun k xe hm => by
    obtain ⟨e, h1, h2, h3⟩ := s.ents k xe hm
    exact ⟨e, h1, h2, h3.kept (Kept.of_below hb (fun _ => False) 0) (fun hc => hc)⟩⟩
theorem Onc.nodup (s : Onc w q h bA bM ep L wr) : (L.map (·.1)).Nodup := by
  obtain ⟨g, bo, d⟩ := s.lc
  exact (d.fam.ok 0 _ rfl).nd
theorem Onc.few (s : Onc w q h bA bM ep L wr) : L.length ≤ 4 := by
  have := few_of (m := dirs) s.nodup fun x hx => by
    obtain ⟨p, hp, rfl⟩ := List.mem_map.1 hx
    obtain ⟨e, h1, h2, _⟩ := s.ents p.1 p.2 hp
    rw [h2]
    exact dir_in e h1
  rw [List.length_map] at this
  exact this
theorem Onc.room (s : Onc w q h bA bM ep L wr) {e : Nat} (he : e < 4) (hv : val L (dirB e) = none) : (∀ p ∈ L, p.1 ≠ dirB e) ∧ L.length < 4 := by
  have hn : ∀ p ∈ L, p.1 ≠ dirB e := fun p hp hk => by
    unfold val at hv
    rw [Option.map_eq_none_iff, List.find?_eq_none] at hv
    have := hv p hp
    simp at this
    exact this hk
  refine ⟨hn, ?_⟩
  have := few_of (l := dirB e :: L.map (·.1)) (m := dirs) (List.nodup_cons.2 ⟨fun hm => by
    obtain ⟨p, hp, hpk⟩ := List.mem_map.1 hm
    exact hn p hp hpk, s.nodup⟩) fun x hx => by
    rcases List.mem_cons.1 hx with rfl | hx
    · exact dir_in e he
    · obtain ⟨p, hp, rfl⟩ := List.mem_map.1 hx
      obtain ⟨e', h1, h2, _⟩ := s.ents p.1 p.2 hp
      rw [h2]
      exact dir_in e' h1
  rw [List.length_cons, List.length_map] at this
  exact this
theorem Onc.at (s : Onc w q h bA bM ep L wr) {e : Nat} (he : e < 4) {xe : Lst} (hv : val L (dirB e) = some xe) : EntOf wr ep e xe := by
  obtain ⟨e', h1, h2, h3⟩ := s.ents _ _ (val_mem hv)
  obtain rfl := dir_inj he h1 h2
  exact h3
theorem Onc.hit (s : Onc w q h bA bM ep L wr) {k : ByteArray} {g : Nat} {bo : Option Nat} (d : Lc w' w.heap.size q h [⟨g, bo, 4, getL L k⟩] (L.length : Int)) (hk : Kept LS w.heap.size wr w') : Onc w q h bA bM ep (getL L k) w' := by
  obtain ⟨g0, bo0, d0⟩ := s.lc
  have hl : (getL L k).length = L.length := get_len (d0.fam.ok 0 _ rfl) k
  refine ⟨⟨g, bo, by rw [hl]; exact d⟩, ?_, hk.blk s.box (by unfold LS; decide), s.below.trans (hk.below s.below.size), s.lo, fun k' xe hm => ?_⟩
  · rw [hl]
    exact (s.map.kept hk).congr fun s' => by unfold fnOf; rw [val_getAny]
  · obtain ⟨e, h1, h2, h3⟩ := s.ents k' xe (mem_get hm)
    exact ⟨e, h1, h2, h3.kept hk (by unfold LS; decide)⟩
theorem Onc.new (s : Onc w q h bA bM ep L wr) {e : Nat} (he : e < 4) (hv : val L (dirB e) = none) {g : Nat} {bo : Option Nat} {A2 : Option Addr} {c2 : Nat} (d : Lc w' w.heap.size q h [⟨g, bo, 4, putL L 4 (dirB e) ⟨ep, A2, (entL e).length, c2⟩⟩] ((L.length : Int) + 1)) (he2 : Enr w' wr.heap.size (.slice A2 (entL e).length c2) (entL e))
    (hk : Kpm w.heap.size (some bM) wr w') (hm : MapN w' Try.prog 9 bM (L.length + 1) (putF (fnOf L) (dirB e) (.int .i64 1))) : Onc w q h bA bM ep ((dirB e, ⟨ep, A2, (entL e).length, c2⟩) :: L) w' := by
  obtain ⟨hn, hlt⟩ := s.room he hv
  have hp := (put_new (κ := ByteArray) (ν := Lst) (L := L) (k := dirB e) hn hlt ⟨ep, A2, (entL e).length, c2⟩ (dirB e)).1
  rw [hp] at d
  refine ⟨⟨g, bo, d⟩, ?_, hk.blk s.box (by unfold DS; decide), s.below.trans (hk.below (fun b hb => by obtain rfl : bM = b := Option.some.inj hb; exact s.lo) s.below.size), s.lo, fun k' xe hm => ?_⟩
  · refine hm.congr fun s' => ?_
    unfold fnOf putF
    rw [val_cons]
    split
    · rfl
    · rfl
  · rcases List.mem_cons.1 hm with e1 | hm
    · injection e1 with e1 e2
      subst e1 e2
      exact ⟨e, he, rfl, rfl, rfl, he2.mono (Nat.zero_le _)⟩
    · obtain ⟨e', h1, h2, h3⟩ := s.ents k' xe hm
      exact ⟨e', h1, h2, h3.ep, h3.n, hk.own h3.row (by unfold DS; decide)⟩
theorem Onc.take (s : Onc w q h bA bM ep L wr) (b9 b8 d : Nat) (hd : d ≤ 255) (h9 : wr.heap[b9]? = some (.cells #[.string (dirB d)] 9 (0, 0))) (h8 : wr.heap[b8]? = some (.cells #[.int .u8 (d : Int)] 5 (0, 0))) :
    Calls Try.prog 32 #[.pointer (some ⟨q, 0, none⟩), .int .i64 ep, .string (dirB d), .func (.func 39) #[] #[.pointer (some ⟨bA, 0, none⟩), .pointer (some ⟨b9, 0, none⟩), .pointer (some ⟨b8, 0, none⟩)]] wr fun e w' => ∃ A c' L', e = .returned (.slice A (d % 4) c') ∧ Onc w q h bA bM ep L' w' ∧ fnOf L' (dirB d) = some (.int .i64 1) ∧ w'.heap[b9]? = some (.cells #[.string (dirB d)] 9 (0, 0)) ∧ w'.heap[b8]? = some (.cells #[.int .u8 (d : Int)] 5 (0, 0)) := by
  have hdm : dirB (d % 4) = dirB d := dir_mod d
  have hel : (entL (d % 4)).length = d % 4 := by rw [entL_len]; omega
  have hfew := s.few
  have hsz := dirB_size d
  obtain ⟨g, bo, dc⟩ := s.lc
  rcases hv : val L (dirB d) with _ | xe
  · have hv' : val L (dirB (d % 4)) = none := by rw [hdm]; exact hv
    have hg : lrl.gotB L (dirB d) = false := by unfold lrl.gotB; rw [hv]; rfl
    refine (take_new w.heap.size q h 0 ⟨g, bo, 4, L⟩ [⟨g, bo, 4, L⟩] (L.length : Int) ep (dirB d) wr 39 #[.pointer (some ⟨bA, 0, none⟩), .pointer (some ⟨b9, 0, none⟩), .pointer (some ⟨b8, 0, none⟩)] (some bM) (entL (d % 4)) (fun w2 => MapN w2 Try.prog 9 bM (L.length + 1) (putF (fnOf L) (dirB d) (.int .i64 1)))
      ⟨dc, by simp, by simp, by unfold ofF; simp [Nat.mod_one], rfl, by show L.length ≤ 900; omega, by omega, by omega, s.below.size, fun _ _ => by kernel_rfl, fun b hb => by obtain rfl : bM = b := Option.some.inj hb; exact ⟨s.map.lt, s.map.no⟩, fun w1 hk => ?_, by omega, .inl hg⟩ (.inl hg)).mono ?_
    · exact clos_any bA b9 b8 bM d L.length (dirB d) (fnOf L) w1 (hk.blk s.box (by unfold DS; decide)) (hk.blk h9 (by unfold DS; decide)) (hk.blk h8 (by unfold DS; decide)) hd (by omega) (s.map.kept hk) (by unfold fnOf; rw [hv]; rfl) (by omega)
    · rintro e w' ⟨A, c', rfl, ⟨_, hk, w2, hp, hb⟩, A2, c2, he2, _, bo', hd'⟩
      have hm : MapN w' Try.prog 9 bM (L.length + 1) (putF (fnOf L) (dirB d) (.int .i64 1)) := hp.of_block (hb bM rfl).1
      have hn := s.new (by omega) hv' (by rw [hdm]; exact hd') he2 hk (by rw [hdm]; exact hm)
      refine ⟨A, c', _, by rw [hel], hn, ?_, hk.blk h9 (by unfold DS; decide), hk.blk h8 (by unfold DS; decide)⟩
      unfold fnOf
      rw [val_cons, if_pos hdm.symm]
      rfl
  · have hx := s.at (e := d % 4) (by omega) (xe := xe) (by rw [hdm]; exact hv)
    have g1 : lrl.gotB L (dirB d) = true := by unfold lrl.gotB; rw [hv]; rfl
    have g2 : lrl.gotI L (dirB d) = xe := by unfold lrl.gotI; rw [hv]; rfl
    refine (take_hit w.heap.size q h 0 ⟨g, bo, 4, L⟩ [⟨g, bo, 4, L⟩] (L.length : Int) ep (dirB d) wr dc (by simp) (by simp) (by unfold ofF; simp [Nat.mod_one]) rfl (by show L.length ≤ 900; omega) (by omega) _ 0 (entL (d % 4)) (by omega) ⟨g1, by rw [g2]; exact hx.ep, by rw [g2]; exact hx.n, by rw [g2]; exact hx.row⟩).mono ?_
    rintro e w' ⟨A, c', rfl, _, ⟨bo', hd'⟩, hk⟩
    refine ⟨A, c', _, by rw [hel], s.hit hd' hk, ?_, hk.blk h9 (by unfold LS; decide), hk.blk h8 (by unfold LS; decide)⟩
    unfold fnOf
    rw [val_getAny, hv]
    rfl
end
set_option maxHeartbeats 12800000 in
theorem law_once (A : Option Addr) (c : Nat) (T : List Nat) (ep : Int) (w0 : World) (hT : pln.OneRow (fun k : Nat => Value.int .u8 (k : Int)) w0 w0.heap.size A T) (hq : ∀ y ∈ T, y ≤ 255) (hlen : T.length ≤ 9223372036854775807) :
    Calls Try.prog 6 #[.slice A T.length c, .int .i64 ep] w0 fun e w' => e = .returned (.bool true) ∧ Below w0.heap.size w0 w' := by
  have hmm := @run_makeMap Try.prog
  have HT := Lib.hid hT
  have HQ := Lib.hid hq
  have HC0 := Lib.hid (speaks_any w0)
  have HN := Lib.hid (fun w => lnew_any 1 4 1 4 w (by decide) (by decide))
  have hmf : ∀ (fn : Fn) (first cap : Array Value) (w : World), (Instr.makeFunc fn first cap).run Try.prog w = .ok (.func fn first cap) w := fun _ _ _ _ => rfl
  clear hT hq
  go_enter Try.func6, Try.ntmps6
  go_wp2_with fail
  refine HC0.out.mono ?_
  rintro e w ⟨rfl, hb1⟩
  have HB1 := Lib.hid hb1
  clear hb1 HC0
  by_cases h100 : T.length ≤ 200
  rotate_left
  · have g100 : (200 : Int) < (T.length : Int) := by omega
    have g101 : 200 < T.length := by omega
    go_wp2_with fail
    go_ret
    exact ⟨rfl, HB1.out⟩
  have g100 : ¬ (200 : Int) < (T.length : Int) := by omega
  have g101 : ¬ 200 < T.length := by omega
  go_wp2_with fail
  refine (HN.out _).mono ?_
  rintro e w2 ⟨q, h, gs, rfl, hgl, hd2, hb2⟩
  obtain ⟨g, rfl⟩ : ∃ g, gs = [g] := by
    match gs, hgl with
    | [g], _ => exact ⟨g, rfl⟩
  obtain ⟨W3, hW3⟩ : ∃ W3, W3 = w2.alloc (.map #[] 0) := ⟨_, rfl⟩
  obtain ⟨W4, hW4⟩ : ∃ W4, W4 = W3.alloc (.cells #[.map (some w2.heap.size)] 90) := ⟨_, rfl⟩
  have hb3 : Below w2.heap.size w2 W3 := by rw [hW3]; exact (Below.refl _ _).alloc (Nat.le_refl _) _
  have hb4 : Below W3.heap.size W3 W4 := by rw [hW4]; exact (Below.refl _ _).alloc (Nat.le_refl _) _
  have hb34 := hb3.trans (hb4.mono hb3.size)
  have hz3 : W3.heap.size = w2.heap.size + 1 := by rw [hW3]; simp
  have HS0 : Hid (Onc w q h W3.heap.size w2.heap.size ep [] W4) := Lib.hid ⟨⟨g, none, hd2.later hb34⟩, by
      have hm : MapN W3 Try.prog 9 w2.heap.size 0 (fun _ => none) := by rw [hW3]; exact MapN.made w2 Try.prog 9
      exact (hm.later hb4).congr fun _ => rfl, by rw [hW4]; exact heap_alloc_new W3 _, hb2.trans (hb34.mono hb2.size), hb2.size, fun k xe hm => by cases hm⟩
  rw [hz3] at HS0
  obtain ⟨bM, hbM⟩ : ∃ bM, bM = w2.heap.size := ⟨_, rfl⟩
  obtain ⟨bA, hbA⟩ : ∃ bA, bA = bM + 1 := ⟨_, rfl⟩
  rw [← hbM] at HS0 hW4
  rw [← hbA] at HS0
  have HW3 := Lib.hid hW3
  have HW4 := Lib.hid hW4
  have HBM := Lib.hid hbM
  have HBA := Lib.hid hbA
  have HZ3 := Lib.hid hz3
  clear hgl hd2 hb2 hW3 hW4 hb3 hb4 hb34 hbM hbA hz3 HN
  go_upto_region 6 with fail
  rw [← HW3.out]
  simp only [← HBM.out]
  rw [← HW4.out]
  simp only [← HBA.out]
  go_wp2_with fail
  go_loopw [20] (fun v wr => ∃ (j : Nat) (L : List (ByteArray × Lst)), v = .int .i64 (j : Int) ∧ j ≤ T.length ∧ Hid (Onc w q h bA bM ep L wr)) (fun v _ => T.length - (intOf v).toNat)
  case atStart => exact ⟨0, _, rfl, Nat.zero_le _, HS0⟩
  case round =>
    clear HS0
    obtain ⟨j, L, rfl, hj, HS⟩ := hrel
    have j0 : (0 : Int) ≤ (j : Int) := by omega
    by_cases hjl : j < T.length
    · obtain ⟨d, hx⟩ : ∃ x, T[j]? = some x := ⟨_, List.getElem?_eq_getElem hjl⟩
      obtain ⟨ba, oa, hAa, _, a0⟩ := (HT.out.keep (HB1.out.trans (HS.out.below.mono HB1.out.size))) j _ hx
      subst hAa
      have hd : d ≤ 255 := HQ.out d (List.mem_of_getElem? hx)
      have d0 : (0 : Int) ≤ (d : Int) := by omega
      have d1 : (d : Int) ≤ 255 := by omega
      have j1 : (j : Int) < (T.length : Int) := by omega
      obtain ⟨W5, hW5⟩ : ∃ W5, W5 = wr.alloc (.cells #[.int .u8 (d : Int)] 5) := ⟨_, rfl⟩
      obtain ⟨W6, hW6⟩ : ∃ W6, W6 = W5.alloc (.cells #[.string (dirB d)] 9) := ⟨_, rfl⟩
      have hb5 : Below wr.heap.size wr W5 := by rw [hW5]; exact (Below.refl _ _).alloc (Nat.le_refl _) _
      have hb6 : Below W5.heap.size W5 W6 := by rw [hW6]; exact (Below.refl _ _).alloc (Nat.le_refl _) _
      have hb56 := hb5.trans (hb6.mono hb5.size)
      have k8 : W5.heap[wr.heap.size]? = some (.cells #[.int .u8 (d : Int)] 5 (0, 0)) := by rw [hW5]; exact heap_alloc_new wr _
      have k9 : W6.heap[W5.heap.size]? = some (.cells #[.string (dirB d)] 9 (0, 0)) := by rw [hW6]; exact heap_alloc_new W5 _
      have k8' := (hb6.block _ (lt_of_some k8)).trans k8
      have HS6 := Lib.hid (HS.out.later hb56)
      have HTK := Lib.hid (HS6.out.take W5.heap.size wr.heap.size d hd k9 k8')
      have HDIR := Lib.hid (fun wr => dir_any d wr hd)
      have c8 := cell_of_blk k8 0
      have c8' := cell_of_blk k8' 0
      have c9' := cell_of_blk k9 0
      have cA' := cell_of_blk HS6.out.box 0
      obtain ⟨b8, hb8⟩ : ∃ b8, b8 = wr.heap.size := ⟨_, rfl⟩
      obtain ⟨b9, hb9⟩ : ∃ b9, b9 = W5.heap.size := ⟨_, rfl⟩
      rw [← hb8] at c8 c8' HTK
      rw [← hb9] at c9' HTK
      obtain ⟨dir, hdir⟩ : ∃ dir, dir = dirB d := ⟨_, rfl⟩
      have hds : dir.size ≤ maxLen := by have := dirB_size d; rw [hdir]; simp only [maxLen]; omega
      rw [← hdir] at HTK HDIR c9' hW6
      have HW5 := Lib.hid hW5
      have HW6 := Lib.hid hW6
      have HB8 := Lib.hid hb8
      have HB9 := Lib.hid hb9
      obtain ⟨e, he⟩ : ∃ e : Nat, e = d % 4 := ⟨_, rfl⟩
      have e1 : (d : Int).tmod 4 = (e : Int) := by rw [Int.tmod_eq_emod_of_nonneg (by omega)]; omega
      have e2 : (d : Int) % 4 = (e : Int) := by omega
      have e3 : IntKind.i64.wrap (e : Int) = (e : Int) := IntWalk.i64_in _ (by omega)
      rw [← he] at HTK
      clear hx hW5 hW6 hb5 hb6 hb56 k8 k9 k8' hb8 hb9 hdir he HS
      go_upto_region 9 with fail
      rw [← HW5.out, ← HB8.out]
      go_upto_region 10 with (go_at_call 11; refine (HDIR.out _).mono ?_; rintro en wx ⟨rfl, rfl⟩)
      rw [← HW6.out, ← HB9.out]
      clear c8 a0
      go_wp2_with fail
      refine HTK.out.mono ?_
      rintro en w7 ⟨A7, c7, L', rfl, hs7, hf7, k9, k8⟩
      have HS7 := Lib.hid hs7
      have HV : Hid ((fnOf L' dir).getD (.int .i64 0) = .int .i64 1) := Lib.hid (by rw [hf7]; rfl)
      have HM := Lib.hid hs7.map.fn
      have q8 := cell_of_blk k8 0
      have q9 := cell_of_blk k9 0
      have qA := cell_of_blk hs7.box 0
      have ge : ((e : Int) != (e : Int)) = false := by simp
      clear hs7 hf7 k9 k8 c8' c9' cA' HTK HDIR
      go_wp2_with (at_lookup; refine mpf.wpList_look _ rfl _ _ 90 rfl 9 3 Try.underlying9 Try.underlying90 (zeroInt _) bM L'.length _ rfl HM.out dir rfl hds (v := .int .i64 1) HV.out ?_)
      go_roundw
      case rel => exact ⟨j + 1, L', by go_num, by omega, HS7⟩
      case measure => simp [intOf]; omega
    · obtain ⟨g1, bo1, d1⟩ := HS.out.lc
      have qA := cell_of_blk HS.out.box 0
      have HMD := Lib.hid (fun m => made_any _ _ _ _ _ (wr.drewN m) (d1.later (lca.below_drewN wr m)))
      have hlen : ∀ m, (Builtin.len_ #[90] 3 #[.map (some bM)]).run Try.prog (wr.drewN m) = .ok (.int .i64 (L.length : Int)) (wr.drewN m) := fun m => (HS.out.map.later (lca.below_drewN wr m)).len Try.underlying90 _
      have HF := Lib.hid (HB1.out.trans (HS.out.below.mono HB1.out.size))
      have ge : ((L.length : Int) == (L.length : Int)) = true := by simp
      clear d1 HS
      go_wp2_with fail
      go_quiet ((go_at_call 37; exact Calls.quiet_of_same ((HMD.out _).mono fun e w' ⟨h1, h2⟩ => ⟨h1, h2.symm⟩)))
      go_wp2_with fail
      go_ret
      exact ⟨rfl, HF.out.trans ((lca.below_drewN _ _).mono HF.out.size)⟩
end Go.Proofs.Ythhcbmljckgncaa.lon
