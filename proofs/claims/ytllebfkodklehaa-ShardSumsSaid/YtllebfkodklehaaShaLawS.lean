/- ShardSums: true. Condition: sizes. -/
import Derived.Test.YtllebfkodklehaaShaSpeak
namespace Go.Proofs.Ytllebfkodklehaa.sha
set_option maxRecDepth 100000
open Go.RowKit Go.Proofs.Ytllebfkodklehaa.words Go.Proofs.Ytllebfkodklehaa.lru Go.Proofs.Ytllebfkodklehaa.lrs

set_option maxHeartbeats 6400000 in
theorem law_sums (key : ByteArray) (many : Int) (w : World) (hk : key.size ≤ 9223372036854775807) (_hm : -9223372036854775808 ≤ many ∧ many ≤ 9223372036854775807) :
    Calls Try.prog 5 #[.string key, .int .i64 many] w (lrs.Told w) := by
  obtain ⟨n, hn⟩ : ∃ n : Nat, (n : Int) = min (max many 1) 256 := ⟨(min (max many 1) 256).toNat, by omega⟩
  have n1 : 1 ≤ n := by omega
  have n2 : n ≤ 256 := by omega
  obtain ⟨s, hs⟩ : ∃ s, s = sumF key.data.toList := ⟨_, rfl⟩
  have hlt := sumF_lt key.data.toList
  have HC0 := Lib.hid (speaks_any w)
  have HN := Lib.hid (fun w => snew_any n 1 many 1 w hn (by decide))
  have HR := Lib.hid (fun w => refsum_any key w hk)
  have HS := Lib.hid (fun w => sum_any key w hk)
  have HOF := Lib.hid (fun (w : World) (B h : Nat) (gs : List Nat) (hsh : Shd w B h gs) (hl : gs.length = n) => (show Calls Try.prog 28 #[.pointer (some ⟨h, 0, none⟩), .string key] w fun e w' => e = .returned (.int .i64 ((s : Int) % (n : Int))) ∧ ∃ m, w' = w.drewN m from
    (of_any B h gs key w hsh (by omega) (by omega) hk).mono fun e w' ⟨h1, h2⟩ => ⟨by rw [h1, hl, hs]; unfold ofF; rw [Int.natCast_emod], h2⟩))
  rw [← hs] at hlt HR HS
  have hmn : min (max many 1) 256 = (n : Int) := hn.symm
  have z1 : (0 : Int) ≤ (s : Int) := by omega
  have z2 : (0 : Int) < (n : Int) := by omega
  have z3 : ¬ ((n : Int) = 0) := by omega
  have z4 : ¬ (n = 0) := by omega
  have w1 : IntKind.u64.wrap (s : Int) = (s : Int) := by rw [IntKind.wrap_u64]; omega
  have w2 : IntKind.u64.wrap (n : Int) = (n : Int) := by rw [IntKind.wrap_u64]; omega
  have hmod : 0 ≤ (s : Int) % (n : Int) ∧ (s : Int) % (n : Int) < n := ⟨Int.emod_nonneg _ (by omega), Int.emod_lt_of_pos _ z2⟩
  have w3 : IntKind.i64.wrap ((s : Int) % (n : Int)) = (s : Int) % (n : Int) := IntWalk.i64_in _ (by omega)
  have e1 : ((s : Int) == (s : Int)) = true := by simp
  have e2 : ((n : Int) == (n : Int)) = true := by simp
  have e3 : (((s : Int) % (n : Int)) == ((s : Int) % (n : Int))) = true := by simp
  clear hs hn hmod
  go_enter Try.func5, Try.ntmps5
  go_wp2_with fail
  refine HC0.out.mono ?_
  rintro e wa ⟨rfl, hba⟩
  have HBA := Lib.hid hba
  clear hba HC0
  by_cases h5 : key.size ≤ 500
  · have g1 : ¬ (500 : Int) < (key.size : Int) := by omega
    have g2 : ¬ 500 < key.size := by omega
    go_wp2_with fail
    refine (HN.out _).mono ?_
    rintro e wb ⟨rfl, gs, hgl, hsh, _, hbb⟩
    have HSH := Lib.hid hsh
    have HBB := Lib.hid (HBA.out.trans (hbb.mono HBA.out.size))
    have HGL := Lib.hid hgl
    have HMA := Lib.hid (fun (wx : World) (hx : ∃ m, wx = wb.drewN m) => (show Calls Try.prog 27 #[.pointer (some ⟨wa.heap.size, 0, none⟩)] wx fun e w' => e = .returned (.int .i64 (n : Int)) ∧ w' = wx from by
      obtain ⟨m, rfl⟩ := hx
      exact (many_any _ _ gs (wb.drewN m) hsh).mono fun e w' ⟨h1, h2⟩ => ⟨by rw [h1, hgl], h2.symm⟩))
    have HOX := Lib.hid (fun (wx : World) (hx : ∃ m, wx = wb.drewN m) => (show Calls Try.prog 28 #[.pointer (some ⟨wa.heap.size, 0, none⟩), .string key] wx fun e w' => e = .returned (.int .i64 ((s : Int) % (n : Int))) ∧ ∃ m, w' = wx.drewN m from by
      obtain ⟨m, rfl⟩ := hx
      exact HOF.out (wb.drewN m) _ _ gs hsh hgl))
    clear hsh hgl hbb HBA HN HOF
    go_wp2_with fail
    refine (HR.out _).mono ?_
    rintro e wc ⟨rfl, rfl⟩
    go_wp2_with fail
    go_quiet ((first
      | (go_at_call 26; exact Calls.quiet_of_same ((HS.out _).mono fun e w' ⟨h1, h2⟩ => ⟨h1, h2.symm⟩))
      | (go_at_call 27; exact Calls.quiet_of_same (HMA.out _ ⟨_, rfl⟩))
      | (go_at_call 28; exact Calls.quiet_of (HOX.out _ ⟨_, rfl⟩))))
    go_wp2_with fail
    go_ret
    exact ⟨rfl, HBB.out.trans ⟨rfl, rfl, rfl, Nat.le_refl _, fun _ _ => rfl⟩⟩
  · have g1 : (500 : Int) < (key.size : Int) := by omega
    have g2 : 500 < key.size := by omega
    clear HN HR HS HOF
    go_wp2_with fail
    go_ret
    exact ⟨rfl, HBA.out⟩
end Go.Proofs.Ytllebfkodklehaa.sha
