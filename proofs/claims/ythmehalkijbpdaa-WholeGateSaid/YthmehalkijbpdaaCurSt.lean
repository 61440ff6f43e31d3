/- A table of cursors that lies apart ('CSt'), call by call; the law's speaks. Condition: the table lies in memory. -/
import Derived.Test.YthmehalkijbpdaaCurOps
import Derived.Test.YthmehalkijbpdaaGatSt
namespace Go.Proofs.Ythmehalkijbpdaa.cur
set_option maxRecDepth 100000
open Go.RowKit Go.Proofs.Ythmehalkijbpdaa.words Go.Proofs.Ythmehalkijbpdaa.lru Go.Proofs.Ythmehalkijbpdaa.mpi

def keysC (L : Cs) : List Int := L.map (·.1)
theorem keys_no {L : Cs} {x : Int} (h : x ∉ keysC L) : valC L x = none := valC_none.2 fun p hp e => h (List.mem_map.2 ⟨p, hp, e⟩)
theorem keys_yes {L : Cs} {x : Int} (h : x ∈ keysC L) : ∃ c, valC L x = some c := by
  rcases hv : valC L x with _ | c
  · obtain ⟨p, hp, e⟩ := List.mem_map.1 h
    exact absurd e (valC_none.1 hv p hp)
  · exact ⟨c, rfl⟩
theorem keys_del (L : Cs) (x : Int) : keysC (delC L x) = gat.less (keysC L) x := by
  unfold keysC delC gat.less
  rw [List.filter_map]
  rfl
theorem keys_snoc (L : Cs) (x : Int) (c : Cu) : keysC (L ++ [(x, c)]) = keysC L ++ [x] := by unfold keysC; rw [List.map_append]; rfl
theorem keys_len (L : Cs) : (keysC L).length = L.length := List.length_map ..
/-- Behind w's blocks a table, at t and m. -/
def CSt (w : World) (t m : Nat) (wr : World) (r n : Int) (L : Cs) : Prop := Tb wr w.heap.size t m r n L ∧ Below w.heap.size w wr
theorem CSt.later {w wr w' : World} {t m : Nat} {r n : Int} {L : Cs} (h : CSt w t m wr r n L) (hb : Below wr.heap.size wr w') : CSt w t m w' r n L := ⟨h.1.later hb, h.2.trans (hb.mono h.2.size)⟩
theorem CSt.kept {w wr w' : World} {t m : Nat} {r n n' : Int} {L L' : Cs} (h : CSt w t m wr r n L) (hk : Kept wr w.heap.size t m r n' L' w') : CSt w t m w' r n' L' := ⟨hk.tb, h.2.trans (hk.below h.1 h.2.size)⟩
section
variable {w wr : World} {t m : Nat} {r n x : Int} {L : Cs}
theorem CSt.open_full (h : CSt w t m wr r n L) (ep : Int) (dr : ByteArray) (hr : r ≤ (L.length : Int)) :
    Calls Try.prog 22 #[.pointer (some ⟨t, 0, none⟩), .int .i64 ep, .string dr] wr fun e w' => e = .returned (.tuple #[.int .i64 0, .int .i64 7]) ∧ CSt w t m w' r n L :=
  (cur.open_full _ t m r n L wr ep dr h.1 hr).mono fun _ _ ⟨he, k, hk⟩ => ⟨he, by rw [hk]; exact h.later (below_drewN wr k)⟩
theorem CSt.open_yes (h : CSt w t m wr r n L) (ep : Int) (dr : ByteArray) (hr : (L.length : Int) < r) (hl : L.length ≤ 2000) (hn0 : 0 ≤ n) (hn : n ≤ 1000000) (hno : valC L (n + 1) = none) {n' : Int} (hn' : n + 1 = n') :
    Calls Try.prog 22 #[.pointer (some ⟨t, 0, none⟩), .int .i64 ep, .string dr] wr fun e w' => e = .returned (.tuple #[.int .i64 n', .int .i64 0]) ∧ CSt w t m w' r n' (L ++ [(n', ⟨ep, dr, 0⟩)]) := by
  subst hn'
  exact (cur.open_yes _ t m r n L wr ep dr h.1 hr hl hn0 hn hno).mono fun _ _ ⟨he, hk⟩ => ⟨he, h.kept hk⟩
theorem CSt.close_yes (h : CSt w t m wr r n L) (hx : Fits x) {c : Cu} (hy : valC L x = some c) :
    Calls Try.prog 24 #[.pointer (some ⟨t, 0, none⟩), .int .i64 x] wr fun e w' => e = .returned (.int .i64 0) ∧ CSt w t m w' r n (delC L x) :=
  (cur.close_yes _ t m r n L x wr c h.1 hx hy).mono fun _ _ ⟨he, hk⟩ => ⟨he, h.kept hk⟩
theorem CSt.close_no (h : CSt w t m wr r n L) (hx : Fits x) (hno : valC L x = none) :
    Calls Try.prog 24 #[.pointer (some ⟨t, 0, none⟩), .int .i64 x] wr fun e w' => e = .returned (.int .i64 9) ∧ CSt w t m w' r n L :=
  (cur.close_no _ t m r n L x wr h.1 hx hno).mono fun _ _ ⟨he, hb⟩ => ⟨he, h.later hb⟩
theorem CSt.len (h : CSt w t m wr r n L) {k : Int} (hk : (L.length : Int) = k) :
    Calls Try.prog 26 #[.pointer (some ⟨t, 0, none⟩)] wr fun e w' => e = .returned (.int .i64 k) ∧ wr = w' := by
  subst hk
  exact clen_any _ t m r n L wr h.1
theorem CSt.room (h : CSt w t m wr r n L) :
    Calls Try.prog 27 #[.pointer (some ⟨t, 0, none⟩)] wr fun e w' => e = .returned (.int .i64 r) ∧ wr = w' := croom_any _ t m r n L wr h.1
end
theorem new_cst (room r : Int) (w : World) (hr : r = min (max room 1) 1024) :
    Calls Try.prog 21 #[.int .i64 room] w fun e w' => ∃ t m, e = .returned (.pointer (some ⟨t, 0, none⟩)) ∧ CSt w t m w' r 0 [] :=
  (new_any room r w hr).mono fun _ _ ⟨t, m, he, h1, h2⟩ => ⟨t, m, he, h1, h2⟩
def sl : ByteArray := ⟨#[47]⟩
def sla : ByteArray := ⟨#[47, 97]⟩
set_option maxHeartbeats 1600000 in
theorem cspeaks_any (w : World) : Calls Try.prog 20 #[] w fun e w' => e = .returned (.bool true) ∧ Below w.heap.size w w' := by
  have hf1 : Fits 1 := gat.fit_small (by decide) (by decide)
  have HN := Lib.hid (new_cst 1 1 w (by decide))
  have hnil : ∀ (t : Nat) (W : World), (binOp .eql 41 (.pointer (some ⟨t, 0, none⟩)) (.pointer none)).run Try.prog W = .ok (.bool false) W := fun t W => by simp [go_sem]
  go_enter Try.func20, Try.ntmps20
  go_wp2_with fail
  refine HN.out.mono ?_
  rintro e w1 ⟨t, m, rfl, h1⟩
  have HP1 := Lib.hid (h1.open_yes 5 sla (by decide) (by decide) (by decide) (by decide) rfl (n' := 1) rfl)
  clear h1 HN
  go_wp2_with fail
  refine HP1.out.mono ?_
  rintro e w2 ⟨rfl, h2⟩
  have HP2 := Lib.hid (h2.open_full 5 sla (by decide))
  clear h2 HP1
  go_wp2_with fail
  refine HP2.out.mono ?_
  rintro e w3 ⟨rfl, h3⟩
  have HP3 := Lib.hid (h3.close_yes hf1 (c := ⟨5, sla, 0⟩) rfl)
  clear h3 HP2
  go_wp2_with fail
  refine HP3.out.mono ?_
  rintro e w4 ⟨rfl, h4⟩
  have HP4 := Lib.hid (h4.open_yes 6 sl (by decide) (by decide) (by decide) (by decide) rfl (n' := 2) rfl)
  clear h4 HP3
  go_wp2_with fail
  refine HP4.out.mono ?_
  rintro e w5 ⟨rfl, h5⟩
  have HP5 := Lib.hid (h5.close_no hf1 rfl)
  clear h5 HP4
  go_wp2_with fail
  refine HP5.out.mono ?_
  rintro e w6 ⟨rfl, h6⟩
  have HP6 := Lib.hid (h6.len (k := 1) rfl)
  have HB := Lib.hid h6.2
  clear h6 HP5
  go_wp2_with fail
  refine HP6.out.mono ?_
  rintro e wx ⟨rfl, e1⟩
  subst e1
  go_wp2
  go_ret
  exact ⟨rfl, HB.out⟩
end Go.Proofs.Ythmehalkijbpdaa.cur
