/-
  bitrow's reader: its methods that only look at it, called with a reader that New made: their results; nothing that was there has changed.
  bitrow's Peek, called with a reader that New made, and the reference's Bit and Peek: their results; nothing that was there has changed.
  Conditions: as each theorem says.
-/
import Derived.Test.YtnkninjdpgpkmaaGreatDoorBar
import Derived.Test.YtnkninjdpgpkmaaGreatDoorBaa
import Derived.BigQuiet
import Derived.Deep.QuietTactic
import Derived.LaidEqlPtr
namespace Go.Proofs.YtnkninjdpgpkmaaGreatDoor.Br
open Go.RowKit Go.Proofs.YtnkninjdpgpkmaaGreatDoor.Vm Go.Proofs.YtnkninjdpgpkmaaGreatDoor.Bm Go.Proofs.YtnkninjdpgpkmaaGreatDoor.Bt Go.Proofs.YtnkninjdpgpkmaaGreatDoor.Bw Go.PlainAid

/-- A pointer is itself. -/
theorem run_neq_same {P : Program} (w : World) {tp te : TypeId} {j : TypeInfo} (a : Addr) (hp : P.underlying tp = some (.pointer te)) (hte : P.info? te = some j) :
    (binOp .neq tp (.pointer (some a)) (.pointer (some a))).run P w = .ok (.bool false) w := by
  have h : ∀ d : Nat, (Op.equalIn (d + 1) tp (.pointer (some a)) (.pointer (some a))).run P w = .ok true w := fun d => by
    simp [Op.equalIn, run_underlying hp, sizeOf, typeInfo, hte, run_sameAddr_same]
  have h1 : (Op.equal tp (.pointer (some a)) (.pointer (some a))).run P w = .ok true w := h 9999
  simp only [binOp]
  simp [h1]
theorem run_neq_nil {P : Program} (w : World) {tp te : TypeId} (a : Addr) (hp : P.underlying tp = some (.pointer te)) :
    (binOp .neq tp (.pointer none) (.pointer (some a))).run P w = .ok (.bool true) w := by
  have h : ∀ d : Nat, (Op.equalIn (d + 1) tp (.pointer none) (.pointer (some a))).run P w = .ok false w := fun d => by
    simp [Op.equalIn, run_underlying hp]
  have h1 : (Op.equal tp (.pointer none) (.pointer (some a))).run P w = .ok false w := h 9999
  simp only [binOp]
  simp [h1]

/-- A reader of s at the bit a lies at block g. -/
def rd (w : World) (g : Nat) (s : ByteArray) (a : Nat) : Prop := Blk w g 130 #[.pointer (some ⟨g, 0, none⟩), .string s, .int .i64 a]

section
variable {w w' : World} {g : Nat} {s : ByteArray} {a : Nat}
theorem rd.c0 (h : rd w g s a) : w.cell? ⟨g, 0, none⟩ = some (.pointer (some ⟨g, 0, none⟩)) := Blk.cell h 0
theorem rd.c1 (h : rd w g s a) : w.cell? ⟨g, 1, none⟩ = some (.string s) := Blk.cell h 1
theorem rd.c2 (h : rd w g s a) : w.cell? ⟨g, 2, none⟩ = some (.int .i64 a) := Blk.cell h 2
theorem rd.f2 (h : rd w g s a) : w.frozen? ⟨g, 2, none⟩ = false := Blk.frozen h 2
theorem rd.lt (h : rd w g s a) : g < w.heap.size := Blk.lt h
theorem rd.draws (h : rd w g s a) (n : Nat) : rd (w.drewN n) g s a := h
theorem rd.store (h : rd w g s a) (b : Nat) : rd (w.setCell ⟨g, 2, none⟩ (.int .i64 b)) g s b := Blk.store h 2 _
theorem rd.only {S : Nat → Prop} (h : rd w g s a) (k : Only S w w') (hg : ¬ S g) : rd w' g s a := Blk.only h k hg
theorem rd.below (h : rd w g s a) (k : Below w.heap.size w w') : rd w' g s a := Blk.below h k
end

theorem infoR : (Tryz.prog.info? 130).isSome = true := by kernel_rfl
theorem isNone_nil (w : World) : Calls Tryz.prog 69 #[.pointer none] w fun e w' => e = .returned (.bool true) ∧ w = w' := by
  go_enter Tryz.func69, Tryz.ntmps69
  go_wp2
  go_ret
  exact ⟨rfl, rfl⟩
theorem isNone_any {w : World} {g : Nat} {s : ByteArray} {a : Nat} (h : rd w g s a) : Calls Tryz.prog 69 #[.pointer (some ⟨g, 0, none⟩)] w fun e w' => e = .returned (.bool false) ∧ w = w' := by
  have c0 := h.c0
  obtain ⟨j, hj⟩ := Option.isSome_iff_exists.1 infoR
  have he := run_neq_same w ⟨g, 0, none⟩ Tryz.underlying57 hj
  clear hj
  go_enter Tryz.func69, Tryz.ntmps69
  go_wp2
  go_ret
  exact ⟨rfl, rfl⟩

theorem left_any {w : World} {g : Nat} {s : ByteArray} {a : Nat} (h : rd w g s a) (hs : s.size ≤ 281474976710656) (ha : a ≤ 8 * s.size) :
    Calls Tryz.prog 150 #[.pointer (some ⟨g, 0, none⟩)] w fun e w' => e = .returned (.int .i64 ((8 * s.size - a : Nat) : Int)) ∧ ∃ n, w' = w.drewN n := by
  have c1 := h.c1
  have c2 := h.c2
  go_enter Tryz.func150, Tryz.ntmps150
  go_wp2
  go_quiet (fail)
  go_wp2
  go_ret
  exact ⟨ret_int (by go_num), _, rfl⟩

/-- What check answers. -/
def chk (s : ByteArray) (a : Nat) (n : Int) : Int := if cnt n = true then (if ((8 * s.size - a : Nat) : Int) < n then 2 else 0) else 1

theorem check_any {w : World} {g : Nat} {s : ByteArray} {a : Nat} (n : Int) (h : rd w g s a) (hs : s.size ≤ 281474976710656) (ha : a ≤ 8 * s.size) :
    Calls Tryz.prog 176 #[.pointer (some ⟨g, 0, none⟩), .int .i64 n] w fun e w' => e = .returned (.int .i64 (chk s a n)) ∧ ∃ n, w' = w.drewN n := by
  have hN := Lib.hid (isNone_any h)
  have hL := Lib.hid (left_any h hs ha)
  by_cases hc : cnt n = true
  · by_cases hl : ((8 * s.size - a : Nat) : Int) < n
    · have H : Hid (chk s a n = 2) := Lib.hid (by unfold chk; rw [if_pos hc, if_pos hl])
      have hd : decide (((8 * s.size - a : Nat) : Int) < n) = true := by simpa using hl
      generalize 8 * s.size - a = L at *
      clear h ha hs hl
      go_enter Tryz.func176, Tryz.ntmps176
      go_wp2_with (first | (go_at_call 69; refine hN.out.mono ?_; rintro e w' ⟨rfl, rfl⟩) | (go_at_call 150; refine hL.out.mono ?_; rintro e w' ⟨rfl, k, rfl⟩) | (go_at_call 167; refine (isCount_any _ _).mono ?_; rintro e w' ⟨rfl, rfl⟩))
      go_ret
      exact ⟨ret_int (by rw [H.out]), _, rfl⟩
    · have H : Hid (chk s a n = 0) := Lib.hid (by unfold chk; rw [if_pos hc, if_neg hl])
      have hd : decide (((8 * s.size - a : Nat) : Int) < n) = false := by simpa using hl
      generalize 8 * s.size - a = L at *
      clear h ha hs hl
      go_enter Tryz.func176, Tryz.ntmps176
      go_wp2_with (first | (go_at_call 69; refine hN.out.mono ?_; rintro e w' ⟨rfl, rfl⟩) | (go_at_call 150; refine hL.out.mono ?_; rintro e w' ⟨rfl, k, rfl⟩) | (go_at_call 167; refine (isCount_any _ _).mono ?_; rintro e w' ⟨rfl, rfl⟩))
      go_ret
      exact ⟨ret_int (by rw [H.out]), _, rfl⟩
  · have H : Hid (chk s a n = 1) := Lib.hid (by unfold chk; rw [if_neg hc])
    have hc' : cnt n = false := by simpa using hc
    clear hc h ha hs
    go_enter Tryz.func176, Tryz.ntmps176
    go_wp2_with (first | (go_at_call 69; refine hN.out.mono ?_; rintro e w' ⟨rfl, rfl⟩) | (go_at_call 167; refine (isCount_any _ _).mono ?_; rintro e w' ⟨rfl, rfl⟩))
    go_ret
    exact ⟨ret_int (by rw [H.out]), 0, rfl⟩

end Go.Proofs.YtnkninjdpgpkmaaGreatDoor.Br
namespace Go.Proofs.YtnkninjdpgpkmaaGreatDoor.Bp
open Go.RowKit Go.Proofs.YtnkninjdpgpkmaaGreatDoor.Vm Go.Proofs.YtnkninjdpgpkmaaGreatDoor.Bm Go.Proofs.YtnkninjdpgpkmaaGreatDoor.Bt Go.Proofs.YtnkninjdpgpkmaaGreatDoor.Bw Go.Proofs.YtnkninjdpgpkmaaGreatDoor.Br Go.PlainAid

/-- What Peek answers. -/
def peekR (s : ByteArray) (a : Nat) (n : Int) : Int := if cnt n = true then (peekN (num s.data.toList) a n.toNat : Nat) else 0

theorem bt_get (s : ByteArray) (k : Nat) (h : k < s.size) : ∃ x : UInt8, s.data.toList[k]? = some x ∧ bt s k = (x.toNat : Int) := by
  refine ⟨s[k], ?_, ?_⟩
  · rw [Array.getElem?_toList]; exact Array.getElem?_eq_getElem h
  · unfold bt; rw [dif_pos h]
theorem len_of (s : ByteArray) : s.data.toList.length = s.size := by rw [Array.length_toList]; rfl

theorem word_round (s : ByteArray) (p k : Nat) (h : p + k < s.size) (hk : k < 5) :
    bits .or .i64 ((wordN (num s.data.toList) p k : Nat) : Int) (wrap64 (bt s (p + k) * 2 ^ (8 * k))) = ((wordN (num s.data.toList) p (k + 1) : Nat) : Int) := by
  obtain ⟨x, hx, hb⟩ := bt_get s (p + k) h
  have h1 := wordN_lt (num s.data.toList) p k
  have h2 := wordN_lt (num s.data.toList) p (k + 1)
  have e1 : 256 ^ k ≤ 256 ^ 4 := Nat.pow_le_pow_right (by omega) (by omega)
  have e2 : 256 ^ (k + 1) ≤ 256 ^ 5 := Nat.pow_le_pow_right (by omega) (by omega)
  have h3 := join8 k (wordN (num s.data.toList) p k) x.toNat (by omega) (UInt8.toNat_lt x) h1
  rw [← wordN_next _ _ _ _ hx] at h3
  rw [hb]
  generalize wordN (num s.data.toList) p k = W at *
  generalize wordN (num s.data.toList) p (k + 1) = W' at *
  have b1 : W < 4294967296 := Nat.lt_of_lt_of_le h1 e1
  have b2 : W' < 1099511627776 := Nat.lt_of_lt_of_le h2 e2
  rw [wrap64_in (n := (W : Int)) (by omega) (by omega), wrap64_in (n := (W' : Int)) (by omega) (by omega)] at h3
  exact h3
theorem word_le (N p k : Nat) (hk : k ≤ 5) : wordN N p k < 1099511627776 :=
  Nat.lt_of_lt_of_le (wordN_lt N p k) (show 256 ^ k ≤ 256 ^ 5 from Nat.pow_le_pow_right (by omega) hk)

set_option maxRecDepth 100000 in
theorem Peek_in {w : World} {g : Nat} {s : ByteArray} {a : Nat} (n : Nat) (h : rd w g s a) (hs : s.size ≤ 281474976710656) (ha : a ≤ 8 * s.size) (hn : n ≤ 32) :
    Calls Tryz.prog 160 #[.pointer (some ⟨g, 0, none⟩), .int .i64 n] w fun e w' => e = .returned (.int .i64 (peekN (num s.data.toList) a n : Nat)) ∧ ∃ n, w' = w.drewN n := by
  have hN := Lib.hid (isNone_any h)
  have hc : cnt (n : Int) = true := by simp [cnt]; omega
  have c1 := h.c1
  have c2 := h.c2
  obtain ⟨p, hp, hp', HP⟩ : ∃ p : Nat, (a : Int) / 8 = (p : Int) ∧ (a : Int).tdiv 8 = (p : Int) ∧ Hid (p = a / 8) := ⟨a / 8, by omega, by rw [Int.tdiv_eq_ediv_of_nonneg (by omega)]; omega, Lib.hid rfl⟩
  obtain ⟨q, hq, hq', HQ⟩ : ∃ q : Nat, (a : Int) % 8 = (q : Int) ∧ (a : Int).tmod 8 = (q : Int) ∧ Hid (q = a % 8) := ⟨a % 8, by omega, by rw [Int.tmod_eq_emod_of_nonneg (by omega)]; omega, Lib.hid rfl⟩
  have hq8 : q < 8 := by have := HQ.out; omega
  have hps : p ≤ s.size := by have := HP.out; omega
  obtain ⟨u, hu, HU⟩ : ∃ u : Nat, ((q : Int) + (n : Int) + 8 - 1) / 8 = (u : Int) ∧ Hid (u = (a % 8 + n + 8 - 1) / 8) := ⟨(q + n + 8 - 1) / 8, by omega, Lib.hid (by rw [HQ.out])⟩
  have hu5 : u ≤ 5 := by have := HU.out; omega
  have hl := len_of s
  have hb := get_bt s
  clear h
  by_cases hm : (p : Int) + (u : Int) ≤ (s.size : Int)
  · obtain ⟨C, hC, HC, hC5, hpC⟩ : ∃ C : Nat, (p : Int) + (u : Int) - (p : Int) = (C : Int) ∧ Hid (C = (a % 8 + n + 8 - 1) / 8 ∨ C = s.data.toList.length - a / 8) ∧ C ≤ 5 ∧ p + C ≤ s.size :=
      ⟨u, by omega, Lib.hid (.inl HU.out), hu5, by omega⟩
    clear hl
    go_enter Tryz.func160, Tryz.ntmps160
    go_wp2_with (first | (go_at_call 69; refine hN.out.mono ?_; rintro e w' ⟨rfl, rfl⟩) | (go_at_call 167; refine (isCount_any _ _).mono ?_; rintro e w' ⟨rfl, rfl⟩))
    go_quiet (fail)
    go_wp2
    clear hC
    go_loop [8, 44] (fun o i => ∃ k : Nat, k ≤ C ∧ i = .int .i64 k ∧ o = .int .i64 (wordN (num s.data.toList) p k : Nat)) (fun _ i => C - (intOf i).toNat)
    case atStart => exact ⟨0, by omega, rfl, by rw [show wordN (num s.data.toList) p 0 = 0 from peekN_zero _ _]; rfl⟩
    case round =>
      obtain ⟨k, hk, rfl, rfl⟩ := hrel
      by_cases hlt : k < C
      · have hr := word_round s p k (by omega) (by omega)
        have hpk : p + k < s.size := by omega
        have hc0 := bt_nonneg s (p + k)
        have hc1 := bt_le s (p + k)
        generalize wordN (num s.data.toList) p k = W at *
        go_wp2
        go_round
        case rel => exact ⟨k + 1, by omega, by go_num, rfl⟩
        case measure => simp [intOf]; omega
      · obtain rfl : k = C := by omega
        have hW := word_le (num s.data.toList) p k hC5
        go_wp2
        go_quiet (fail)
        go_wp2
        go_ret
        exact ⟨ret_int (by rw [mask_int _ _ _ (by omega) hn, HP.out, HQ.out, word_peek _ _ _ _ HC.out]), _, by rw [World.drewN_drewN]⟩
  · obtain ⟨C, hC, HC, hC5, hpC⟩ : ∃ C : Nat, (s.size : Int) - (p : Int) = (C : Int) ∧ Hid (C = (a % 8 + n + 8 - 1) / 8 ∨ C = s.data.toList.length - a / 8) ∧ C ≤ 5 ∧ p + C ≤ s.size :=
      ⟨s.size - p, by omega, Lib.hid (.inr (by rw [hl, HP.out])), by omega, by omega⟩
    clear hl
    go_enter Tryz.func160, Tryz.ntmps160
    go_wp2_with (first | (go_at_call 69; refine hN.out.mono ?_; rintro e w' ⟨rfl, rfl⟩) | (go_at_call 167; refine (isCount_any _ _).mono ?_; rintro e w' ⟨rfl, rfl⟩))
    go_quiet (fail)
    go_wp2
    clear hC
    go_loop [8, 44] (fun o i => ∃ k : Nat, k ≤ C ∧ i = .int .i64 k ∧ o = .int .i64 (wordN (num s.data.toList) p k : Nat)) (fun _ i => C - (intOf i).toNat)
    case atStart => exact ⟨0, by omega, rfl, by rw [show wordN (num s.data.toList) p 0 = 0 from peekN_zero _ _]; rfl⟩
    case round =>
      obtain ⟨k, hk, rfl, rfl⟩ := hrel
      by_cases hlt : k < C
      · have hr := word_round s p k (by omega) (by omega)
        have hpk : p + k < s.size := by omega
        have hc0 := bt_nonneg s (p + k)
        have hc1 := bt_le s (p + k)
        generalize wordN (num s.data.toList) p k = W at *
        go_wp2
        go_round
        case rel => exact ⟨k + 1, by omega, by go_num, rfl⟩
        case measure => simp [intOf]; omega
      · obtain rfl : k = C := by omega
        have hW := word_le (num s.data.toList) p k hC5
        go_wp2
        go_quiet (fail)
        go_wp2
        go_ret
        exact ⟨ret_int (by rw [mask_int _ _ _ (by omega) hn, HP.out, HQ.out, word_peek _ _ _ _ HC.out]), _, by rw [World.drewN_drewN]⟩

theorem Peek_any {w : World} {g : Nat} {s : ByteArray} {a : Nat} (n : Int) (h : rd w g s a) (hs : s.size ≤ 281474976710656) (ha : a ≤ 8 * s.size) :
    Calls Tryz.prog 160 #[.pointer (some ⟨g, 0, none⟩), .int .i64 n] w fun e w' => e = .returned (.int .i64 (peekR s a n)) ∧ ∃ n, w' = w.drewN n := by
  by_cases hc : cnt n = true
  · have hn : 0 ≤ n ∧ n ≤ 32 := by simpa [cnt] using hc
    obtain ⟨m, rfl⟩ := Int.eq_ofNat_of_zero_le hn.1
    have e : peekR s a m = (peekN (num s.data.toList) a m : Nat) := by unfold peekR; rw [if_pos hc]; rfl
    rw [e]
    exact Peek_in m h hs ha (by omega)
  · have H : Hid (peekR s a n = 0) := Lib.hid (by unfold peekR; rw [if_neg hc])
    have hc' : cnt n = false := by simpa using hc
    have hN := Lib.hid (isNone_any h)
    clear hc
    go_enter Tryz.func160, Tryz.ntmps160
    go_wp2_with (first | (go_at_call 69; refine hN.out.mono ?_; rintro e w' ⟨rfl, rfl⟩) | (go_at_call 167; refine (isCount_any _ _).mono ?_; rintro e w' ⟨rfl, rfl⟩))
    go_ret
    exact ⟨ret_int (by rw [H.out]), 0, rfl⟩

/-- The reference's reader. -/
def rr (w : World) (g : Nat) (s : ByteArray) (a : Nat) : Prop := Blk w g 75 #[.string s, .int .i64 a]
section
variable {w w' : World} {g : Nat} {s : ByteArray} {a : Nat}
theorem rr.c0 (h : rr w g s a) : w.cell? ⟨g, 0, none⟩ = some (.string s) := Blk.cell h 0
theorem rr.c1 (h : rr w g s a) : w.cell? ⟨g, 1, none⟩ = some (.int .i64 a) := Blk.cell h 1
theorem rr.f1 (h : rr w g s a) : w.frozen? ⟨g, 1, none⟩ = false := Blk.frozen h 1
theorem rr.lt (h : rr w g s a) : g < w.heap.size := Blk.lt h
theorem rr.draws (h : rr w g s a) (n : Nat) : rr (w.drewN n) g s a := h
theorem rr.store (h : rr w g s a) (b : Nat) : rr (w.setCell ⟨g, 1, none⟩ (.int .i64 b)) g s b := Blk.store h 1 _
theorem rr.only {S : Nat → Prop} (h : rr w g s a) (k : Only S w w') (hg : ¬ S g) : rr w' g s a := Blk.only h k hg
theorem rr.below (h : rr w g s a) (k : Below w.heap.size w w') : rr w' g s a := Blk.below h k
end

theorem bit_int (s : ByteArray) (i : Nat) (h : i < 8 * s.size) : bt s (i / 8) / 2 ^ (i % 8) % 2 = ((num s.data.toList / 2 ^ i % 2 : Nat) : Int) := by
  obtain ⟨x, hx, hb⟩ := bt_get s (i / 8) (by omega)
  rw [hb, ← bit_at _ _ _ hx]
  push_cast
  rfl

theorem Bit_any (s : ByteArray) (i : Nat) (w : World) (hs : s.size ≤ 281474976710656) (hi : i ≤ 9223372036854775807) :
    Calls Tryz.prog 104 #[.string s, .int .i64 i] w fun e w' => e = .returned (.int .i64 (num s.data.toList / 2 ^ i % 2 : Nat)) ∧ w' = w := by
  by_cases h : i < 8 * s.size
  · have H := Lib.hid (bit_int s i h)
    obtain ⟨p, hp, HP⟩ : ∃ p : Nat, (i : Int) / 8 = (p : Int) ∧ Hid (i / 8 = p) := ⟨i / 8, by omega, Lib.hid rfl⟩
    obtain ⟨q, hq, HQ⟩ : ∃ q : Nat, (i : Int) % 8 = (q : Int) ∧ Hid (i % 8 = q) := ⟨i % 8, by omega, Lib.hid rfl⟩
    have hq8 : q < 8 := by have := HQ.out; omega
    have hps : p < s.size := by have := HP.out; omega
    have hb := get_bt s
    have hc0 := bt_nonneg s p
    have hc1 := bt_le s p
    go_enter Tryz.func104, Tryz.ntmps104
    go_wp2
    go_ret
    exact ⟨ret_int (by rw [← H.out, HP.out, HQ.out, Int.tmod_eq_emod_of_nonneg (Int.ediv_nonneg hc0 (Int.le_of_lt (Int.pow_pos (by omega))))]), rfl⟩
  · have H := Lib.hid (bit_past s.data.toList i (by rw [len_of]; omega))
    go_enter Tryz.func104, Tryz.ntmps104
    go_wp2
    go_ret
    exact ⟨ret_int (by rw [H.out]; rfl), rfl⟩

theorem i64_nat (n : Int) (m : Nat) (h : n = (m : Int)) (hm : m ≤ 9223372036854775807) : IntKind.i64.wrap n = (m : Int) := by
  subst h
  rw [IntWalk.i64_left]
  exact wrap64_in (by omega) (by omega)

set_option maxRecDepth 100000 in
theorem rPeek_in {w : World} {g : Nat} {s : ByteArray} {a : Nat} (n : Nat) (h : rr w g s a) (hs : s.size ≤ 281474976710656) (ha : a ≤ 8 * s.size) (hn : n ≤ 32) :
    Calls Tryz.prog 101 #[.pointer (some ⟨g, 0, none⟩), .int .i64 n] w fun e w' => e = .returned (.int .i64 (peekN (num s.data.toList) a n : Nat)) ∧ ∃ n, w' = w.drewN n := by
  have d0 : decide ((n : Int) < 0) = false := by simp
  have d1 : decide ((32 : Int) < (n : Int)) = false := by simp; omega
  have H0 := Lib.hid h
  clear h
  go_enter Tryz.func101, Tryz.ntmps101
  go_wp2
  go_loopw [5, 6] (fun o i wr => ∃ (k : Nat) (z : Int), k ≤ n ∧ Hid (z = k - 1) ∧ -1 ≤ z ∧ z ≤ 31 ∧ i = .int .i64 z ∧ o = .int .i64 (peekN (num s.data.toList) (a + k) (n - k) : Nat) ∧ Hid (∃ N, wr = w.drewN N))
    (fun _ i _ => (intOf i + 1).toNat)
  case atStart => exact ⟨n, (n : Int) - 1, by omega, Lib.hid rfl, by omega, by omega, rfl, by rw [Nat.sub_self, peekN_zero]; rfl, Lib.hid ⟨0, rfl⟩⟩
  case round =>
    obtain ⟨k, z, hk, HZ, hz0, hz1, rfl, rfl, HW⟩ := hrel
    have hr : rr wr g s a := by obtain ⟨N, e⟩ := HW.out; rw [e]; exact H0.out.draws N
    have c0 := hr.c0
    have c1 := hr.c1
    clear hr d0 d1
    by_cases hlt : 0 ≤ z
    · obtain ⟨j, rfl⟩ := Int.eq_ofNat_of_zero_le hlt
      obtain rfl : k = j + 1 := by have := HZ.out; omega
      have HX : Hid (peekN (num s.data.toList) (a + j) (n - j) = 2 * peekN (num s.data.toList) (a + (j + 1)) (n - (j + 1)) + num s.data.toList / 2 ^ (a + j) % 2) := Lib.hid (by
        rw [show n - j = (n - (j + 1)) + 1 by omega, peekN_next]; rfl)
      have hl := peekN_lt (num s.data.toList) (a + (j + 1)) (n - (j + 1))
      have hp : 2 ^ (n - (j + 1)) ≤ 2 ^ 32 := Nat.pow_le_pow_right (by omega) (by omega)
      have hl' : peekN (num s.data.toList) (a + (j + 1)) (n - (j + 1)) < 4294967296 := Nat.lt_of_lt_of_le hl hp
      clear hl hp
      have hB := Lib.hid (fun w => Bit_any s (a + j) w hs (by omega))
      have hb2 : num s.data.toList / 2 ^ (a + j) % 2 < 2 := Nat.mod_lt _ (by omega)
      generalize peekN (num s.data.toList) (a + (j + 1)) (n - (j + 1)) = o at *
      generalize num s.data.toList / 2 ^ (a + j) % 2 = b at *
      have e1 := i64_nat ((a : Int) + (j : Int)) (a + j) (by omega) (by omega)
      have e2 := i64_nat (2 * (o : Int)) (2 * o) (by omega) (by omega)
      have e3 := i64_nat (((2 * o : Nat) : Int) + (b : Int)) (2 * o + b) (by omega) (by omega)
      go_wp2
      go_quiet ((go_at_call 104; exact Calls.quiet_of_same (hB.out _)))
      clear e1 e2 e3
      go_wp2
      go_roundw
      case rel => exact ⟨j, (j : Int) - 1, by omega, Lib.hid rfl, by omega, by omega, rfl, by rw [HX.out]; go_num, Lib.hid (by obtain ⟨N, e⟩ := HW.out; exact ⟨_, by rw [e, World.drewN_drewN]⟩)⟩
      case measure => simp [intOf]
    · obtain rfl : k = 0 := by have := HZ.out; omega
      go_wp2
      go_ret
      exact ⟨rfl, HW.out⟩

theorem rPeek_any {w : World} {g : Nat} {s : ByteArray} {a : Nat} (n : Int) (h : rr w g s a) (hs : s.size ≤ 281474976710656) (ha : a ≤ 8 * s.size) :
    Calls Tryz.prog 101 #[.pointer (some ⟨g, 0, none⟩), .int .i64 n] w fun e w' => e = .returned (.int .i64 (peekR s a n)) ∧ ∃ n, w' = w.drewN n := by
  by_cases hc : cnt n = true
  · have hn : 0 ≤ n ∧ n ≤ 32 := by simpa [cnt] using hc
    obtain ⟨m, rfl⟩ := Int.eq_ofNat_of_zero_le hn.1
    have e : peekR s a m = (peekN (num s.data.toList) a m : Nat) := by unfold peekR; rw [if_pos hc]; rfl
    rw [e]
    exact rPeek_in m h hs ha (by omega)
  · have H : Hid (peekR s a n = 0) := Lib.hid (by unfold peekR; rw [if_neg hc])
    have hn : n < 0 ∨ 32 < n := by simp [cnt] at hc; omega
    clear hc
    rcases hn with hn | hn
    all_goals
      go_enter Tryz.func101, Tryz.ntmps101
      go_wp2
      go_ret
      exact ⟨ret_int (by rw [H.out]), 0, rfl⟩

end Go.Proofs.YtnkninjdpgpkmaaGreatDoor.Bp
