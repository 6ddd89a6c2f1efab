/-
  The reference's window: Put and Last.
  Conditions: as each theorem says.
-/
import Derived.Test.YtoniejpbgidmfaaWx
import Derived.Test.YtoniejpbgidmfaaWd
import Derived.BigQuiet
namespace Go.Proofs.Ytoniejpbgidmfaa.We
open Go.RowKit Go.Proofs.Ytoniejpbgidmfaa.Vm Go.Proofs.Ytoniejpbgidmfaa.Vo Go.Proofs.Ytoniejpbgidmfaa.Bw Go.Proofs.Ytoniejpbgidmfaa.Wr Go.Proofs.Ytoniejpbgidmfaa.Wc Go.Proofs.Ytoniejpbgidmfaa.Ww Go.Proofs.Ytoniejpbgidmfaa.Wx

/-- The reference's window at block r holds s. -/
def rwin (w : World) (r : Nat) (s : ByteArray) : Prop := Blk w r 28 #[.string s]
theorem app_list (s t : ByteArray) : (s ++ t).data.toList = s.data.toList ++ t.data.toList := by simp

set_option maxRecDepth 100000 in
theorem rPut_any {w : World} {r : Nat} {s : ByteArray} (h : rwin w r s) (t : ByteArray) (hs : s.size ≤ 1000000) (ht : t.size ≤ 1000000) :
    Calls Try.prog 9 #[.pointer (some ⟨r, 0, none⟩), .string t] w fun e w' => e = .returned (.tuple #[]) ∧ ∃ s', rwin w' r s' ∧ s'.data.toList = Wm.put 32768 s.data.toList t.data.toList ∧ Only (fun k => k = r) w w' := by
  have c0 : w.cell? ⟨r, 0, none⟩ = some (.string s) := Blk.cell h 0
  have f0 : w.frozen? ⟨r, 0, none⟩ = false := Blk.frozen h 0
  obtain ⟨X, hX⟩ : ∃ X, s ++ t = X := ⟨_, rfl⟩
  have hXl : X.data.toList = s.data.toList ++ t.data.toList := by rw [← hX, app_list]
  have hXs : X.size ≤ 2000000 := by rw [← size_len, hXl, List.length_append, size_len, size_len]; omega
  have h1 : rwin (w.setCell ⟨r, 0, none⟩ (.string X)) r X := Blk.store h 0 _
  have k0 : (w.setCell ⟨r, 0, none⟩ (.string X)).cell? ⟨r, 0, none⟩ = some (.string X) := Blk.cell h1 0
  have g0 : (w.setCell ⟨r, 0, none⟩ (.string X)).frozen? ⟨r, 0, none⟩ = false := Blk.frozen h1 0
  have H1 := Lib.hid h1
  have HX := Lib.hid hXl
  have O1 : Hid (Only (fun k => k = r) w (w.setCell ⟨r, 0, none⟩ (.string X))) := Lib.hid ((Only.refl (fun k => k = r) w).store (p := ⟨r, 0, none⟩) (.inl rfl) _)
  clear hXl h1
  by_cases hb : X.size ≤ 32768
  · go_enter Try.func9, Try.ntmps9
    go_wp2
    go_end0
    refine ⟨rfl, X, H1.out, ?_, O1.out⟩
    rw [HX.out]
    unfold Wm.put
    rw [Wm.lastN_all]
    rw [← HX.out, size_len]; exact hb
  · obtain ⟨J, hJ⟩ : ∃ J, J = X.size - 32768 := ⟨_, rfl⟩
    have eB : IntKind.i64.wrap ((X.size : Int) - 32768) = (J : Int) := by rw [IntWalk.i64_in _ (by omega)]; omega
    have p0 : (0 : Int) ≤ (J : Int) := by omega
    have p1 : (J : Int) ≤ (X.size : Int) := by omega
    have HJ := Lib.hid hJ
    clear hJ
    go_enter Try.func9, Try.ntmps9
    go_wp2_with fail
    generalize w.setCell ⟨r, 0, none⟩ (.string X) = w1 at *
    go_still_tail 14, (by kernel_rfl)
    change wpList _ _ _ _ _ w1.drew
    have k1 : w1.drew.cell? ⟨r, 0, none⟩ = some (.string X) := k0
    have g1 : w1.drew.frozen? ⟨r, 0, none⟩ = false := g0
    clear k0 g0 c0 f0 eB
    go_wp2
    go_end0
    refine ⟨rfl, X.extract J X.size, Blk.store (w := w1.drew) H1.out 0 _, ?_, (O1.out.drew).store (p := ⟨r, 0, none⟩) (.inl rfl) _⟩
    rw [cut_drop, HJ.out]
    unfold Wm.put Wm.lastN
    rw [← HX.out, size_len]

theorem str_eq {s : ByteArray} {l : List UInt8} (h : s.data.toList = l) : (⟨l.toArray⟩ : ByteArray) = s := by
  subst h; simp
set_option maxRecDepth 100000 in
theorem rLast_any {w : World} {r : Nat} {s : ByteArray} (h : rwin w r s) (n : Int) (hs : s.size ≤ 1000000) :
    Calls Try.prog 16 #[.pointer (some ⟨r, 0, none⟩), .int .i64 n] w fun e w' => e = .returned (.string ⟨(Wm.lastN n.toNat s.data.toList).toArray⟩) ∧ ∃ m, w' = w.drewN m := by
  have c0 : w.cell? ⟨r, 0, none⟩ = some (.string s) := Blk.cell h 0
  rcases (show n < 0 ∨ (s.size : Int) < n ∨ (0 ≤ n ∧ n ≤ s.size) by omega) with h1 | h1 | ⟨h1, h2⟩
  · go_enter Try.func16, Try.ntmps16
    go_wp2
    go_ret
    exact ⟨ret_str (by rw [show n.toNat = 0 by omega, Wm.lastN_zero]), 0, rfl⟩
  · have h0 : ¬ n < 0 := by omega
    go_enter Try.func16, Try.ntmps16
    go_wp2
    go_ret
    exact ⟨ret_str (str_eq (by rw [Wm.lastN_all (by rw [size_len]; omega)])).symm, 0, rfl⟩
  · obtain ⟨k, rfl⟩ := Int.eq_ofNat_of_zero_le h1
    obtain ⟨J, hJ⟩ : ∃ J, J = s.size - k := ⟨_, rfl⟩
    have eB : IntKind.i64.wrap ((s.size : Int) - (k : Int)) = (J : Int) := by rw [IntWalk.i64_in _ (by omega)]; omega
    have p0 : (0 : Int) ≤ (J : Int) := by omega
    have p1 : (J : Int) ≤ (s.size : Int) := by omega
    have HJ := Lib.hid hJ
    clear hJ
    go_enter Try.func16, Try.ntmps16
    go_wp2_with fail
    go_quiet (fail)
    go_wp2
    go_ret
    exact ⟨ret_str (str_eq (by rw [cut_drop, HJ.out, Int.toNat_natCast]; unfold Wm.lastN; rw [size_len])).symm, _, rfl⟩
end Go.Proofs.Ytoniejpbgidmfaa.We
