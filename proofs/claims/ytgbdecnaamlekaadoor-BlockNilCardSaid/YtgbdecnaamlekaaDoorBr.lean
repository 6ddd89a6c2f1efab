/-
  bitrow's reader: its methods that only look at it, called with a reader that New made: their results; nothing that was there has changed.
  Conditions: as each theorem says.
-/
import Derived.Test.YtgbdecnaamlekaaDoorBt
import Derived.Test.YtgbdecnaamlekaaDoorBw
import Derived.BigQuiet
import Derived.Deep.QuietTactic
import Derived.LaidEqlPtr
namespace Go.Proofs.YtgbdecnaamlekaaDoor.Br
open Go.RowKit Go.Proofs.YtgbdecnaamlekaaDoor.Vm Go.Proofs.YtgbdecnaamlekaaDoor.Bm Go.Proofs.YtgbdecnaamlekaaDoor.Bt Go.Proofs.YtgbdecnaamlekaaDoor.Bw Go.PlainAid

/-- A pointer is itself. -/
theorem run_neq_same {P : Program} (w : World) {tp te : TypeId} {j : TypeInfo} (a : Addr) (hp : P.underlying tp = some (.pointer te)) (hte : P.info? te = some j) :
    (binOp .neq tp (.pointer (some a)) (.pointer (some a))).run P w = .ok (.bool false) w := by
  have h : ∀ d : Nat, (Op.equalIn (d + 1) tp (.pointer (some a)) (.pointer (some a))).run P w = .ok true w := fun d => by
    simp [Op.equalIn, run_underlying hp, sizeOf, typeInfo, hte, run_sameAddr_same]
  have h1 : (Op.equal tp (.pointer (some a)) (.pointer (some a))).run P w = .ok true w := h 9999
  simp only [binOp]
  simp [h1]
theorem run_neq_nil {P : Program} (w : World) {tp te : TypeId} (a : Addr) (hp : P.underlying tp = some (.pointer te)) :
    (binOp .neq tp (.pointer none) (.pointer (some a))).run P w = .ok (.bool true) w := by
  have h : ∀ d : Nat, (Op.equalIn (d + 1) tp (.pointer none) (.pointer (some a))).run P w = .ok false w := fun d => by
    simp [Op.equalIn, run_underlying hp]
  have h1 : (Op.equal tp (.pointer none) (.pointer (some a))).run P w = .ok false w := h 9999
  simp only [binOp]
  simp [h1]

/-- A reader of s at the bit a lies at block g. -/
def rd (w : World) (g : Nat) (s : ByteArray) (a : Nat) : Prop := Blk w g 61 #[.pointer (some ⟨g, 0, none⟩), .string s, .int .i64 a]

section
variable {w w' : World} {g : Nat} {s : ByteArray} {a : Nat}
theorem rd.c0 (h : rd w g s a) : w.cell? ⟨g, 0, none⟩ = some (.pointer (some ⟨g, 0, none⟩)) := Blk.cell h 0
theorem rd.c1 (h : rd w g s a) : w.cell? ⟨g, 1, none⟩ = some (.string s) := Blk.cell h 1
theorem rd.c2 (h : rd w g s a) : w.cell? ⟨g, 2, none⟩ = some (.int .i64 a) := Blk.cell h 2
theorem rd.f2 (h : rd w g s a) : w.frozen? ⟨g, 2, none⟩ = false := Blk.frozen h 2
theorem rd.lt (h : rd w g s a) : g < w.heap.size := Blk.lt h
theorem rd.draws (h : rd w g s a) (n : Nat) : rd (w.drewN n) g s a := h
theorem rd.store (h : rd w g s a) (b : Nat) : rd (w.setCell ⟨g, 2, none⟩ (.int .i64 b)) g s b := Blk.store h 2 _
theorem rd.only {S : Nat → Prop} (h : rd w g s a) (k : Only S w w') (hg : ¬ S g) : rd w' g s a := Blk.only h k hg
theorem rd.below (h : rd w g s a) (k : Below w.heap.size w w') : rd w' g s a := Blk.below h k
end

theorem infoR : (Tryd.prog.info? 61).isSome = true := by kernel_rfl
theorem isNone_nil (w : World) : Calls Tryd.prog 38 #[.pointer none] w fun e w' => e = .returned (.bool true) ∧ w = w' := by
  go_enter Tryd.func38, Tryd.ntmps38
  go_wp2
  go_ret
  exact ⟨rfl, rfl⟩
theorem isNone_any {w : World} {g : Nat} {s : ByteArray} {a : Nat} (h : rd w g s a) : Calls Tryd.prog 38 #[.pointer (some ⟨g, 0, none⟩)] w fun e w' => e = .returned (.bool false) ∧ w = w' := by
  have c0 := h.c0
  obtain ⟨j, hj⟩ := Option.isSome_iff_exists.1 infoR
  have he := run_neq_same w ⟨g, 0, none⟩ Tryd.underlying24 hj
  clear hj
  go_enter Tryd.func38, Tryd.ntmps38
  go_wp2
  go_ret
  exact ⟨rfl, rfl⟩

theorem left_any {w : World} {g : Nat} {s : ByteArray} {a : Nat} (h : rd w g s a) (hs : s.size ≤ 281474976710656) (ha : a ≤ 8 * s.size) :
    Calls Tryd.prog 84 #[.pointer (some ⟨g, 0, none⟩)] w fun e w' => e = .returned (.int .i64 ((8 * s.size - a : Nat) : Int)) ∧ ∃ n, w' = w.drewN n := by
  have c1 := h.c1
  have c2 := h.c2
  go_enter Tryd.func84, Tryd.ntmps84
  go_wp2
  go_quiet (fail)
  go_wp2
  go_ret
  exact ⟨ret_int (by go_num), _, rfl⟩

/-- What check answers. -/
def chk (s : ByteArray) (a : Nat) (n : Int) : Int := if cnt n = true then (if ((8 * s.size - a : Nat) : Int) < n then 2 else 0) else 1

theorem check_any {w : World} {g : Nat} {s : ByteArray} {a : Nat} (n : Int) (h : rd w g s a) (hs : s.size ≤ 281474976710656) (ha : a ≤ 8 * s.size) :
    Calls Tryd.prog 68 #[.pointer (some ⟨g, 0, none⟩), .int .i64 n] w fun e w' => e = .returned (.int .i64 (chk s a n)) ∧ ∃ n, w' = w.drewN n := by
  have hN := Lib.hid (isNone_any h)
  have hL := Lib.hid (left_any h hs ha)
  by_cases hc : cnt n = true
  · by_cases hl : ((8 * s.size - a : Nat) : Int) < n
    · have H : Hid (chk s a n = 2) := Lib.hid (by unfold chk; rw [if_pos hc, if_pos hl])
      have hd : decide (((8 * s.size - a : Nat) : Int) < n) = true := by simpa using hl
      generalize 8 * s.size - a = L at *
      clear h ha hs hl
      go_enter Tryd.func68, Tryd.ntmps68
      go_wp2_with (first | (go_at_call 38; refine hN.out.mono ?_; rintro e w' ⟨rfl, rfl⟩) | (go_at_call 84; refine hL.out.mono ?_; rintro e w' ⟨rfl, k, rfl⟩) | (go_at_call 60; refine (isCount_any _ _).mono ?_; rintro e w' ⟨rfl, rfl⟩))
      go_ret
      exact ⟨ret_int (by rw [H.out]), _, rfl⟩
    · have H : Hid (chk s a n = 0) := Lib.hid (by unfold chk; rw [if_pos hc, if_neg hl])
      have hd : decide (((8 * s.size - a : Nat) : Int) < n) = false := by simpa using hl
      generalize 8 * s.size - a = L at *
      clear h ha hs hl
      go_enter Tryd.func68, Tryd.ntmps68
      go_wp2_with (first | (go_at_call 38; refine hN.out.mono ?_; rintro e w' ⟨rfl, rfl⟩) | (go_at_call 84; refine hL.out.mono ?_; rintro e w' ⟨rfl, k, rfl⟩) | (go_at_call 60; refine (isCount_any _ _).mono ?_; rintro e w' ⟨rfl, rfl⟩))
      go_ret
      exact ⟨ret_int (by rw [H.out]), _, rfl⟩
  · have H : Hid (chk s a n = 1) := Lib.hid (by unfold chk; rw [if_neg hc])
    have hc' : cnt n = false := by simpa using hc
    clear hc h ha hs
    go_enter Tryd.func68, Tryd.ntmps68
    go_wp2_with (first | (go_at_call 38; refine hN.out.mono ?_; rintro e w' ⟨rfl, rfl⟩) | (go_at_call 60; refine (isCount_any _ _).mono ?_; rintro e w' ⟨rfl, rfl⟩))
    go_ret
    exact ⟨ret_int (by rw [H.out]), 0, rfl⟩

end Go.Proofs.YtgbdecnaamlekaaDoor.Br
