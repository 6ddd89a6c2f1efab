/-
  The reference's Parse of layer 12: what stands behind a right beginning.
  Conditions: a string of at most 2^48 bytes.
-/
import Derived.Test.YtgilfjojimgpaaaQp
import Derived.Deep.DeepCutAuto
import Derived.Deep.RegionWith
import Derived.Deep.RegionHeld3
namespace Go.Proofs.Ytgilfjojimgpaaa.Qr
open Go.RowKit Go.Proofs.Ytgilfjojimgpaaa.Vm Go.Proofs.Ytgilfjojimgpaaa.Vo Go.Proofs.Ytgilfjojimgpaaa.Vf Go.Proofs.Ytgilfjojimgpaaa.Bw Go.Proofs.Ytgilfjojimgpaaa.Bm Go.Proofs.Ytgilfjojimgpaaa.Qm Go.Proofs.Ytgilfjojimgpaaa.Qa Go.Proofs.Ytgilfjojimgpaaa.Qb Go.Proofs.Ytgilfjojimgpaaa.Qc Go.Proofs.Ytgilfjojimgpaaa.Qd Go.Proofs.Ytgilfjojimgpaaa.Qe Go.Proofs.Ytgilfjojimgpaaa.Qh Go.Proofs.Ytgilfjojimgpaaa.Qi Go.Proofs.Ytgilfjojimgpaaa.Qj Go.Proofs.Ytgilfjojimgpaaa.Ql Go.Proofs.Ytgilfjojimgpaaa.Qo Go.Proofs.Ytgilfjojimgpaaa.Qn

/-- What a text says behind a right beginning. -/
theorem prs_open {l : List UInt8} {b F : Nat} (hl : b + 10 ≤ l.length) (h3 : (l.drop b).take 3 = [31, 139, 8]) (hF : ((l.drop b).getD 3 0).toNat = F) (h32 : F < 32) : prsQ crl (l.drop b) = match p1 F (l.drop (b + 10)) with
    | none => (2, zQ, 0)
    | some (e, r1) => match p2 8 F r1 with
      | none => (2, zQ, 0)
      | some (n, r2) => match p2 16 F r2 with
        | none => (2, zQ, 0)
        | some (c, r3) =>
          if F / 2 % 2 = 1 then
            (if r3.length < 2 then (2, zQ, 0) else if num (r3.take 2) ≠ crl ((l.drop b).take ((l.drop b).length - r3.length)) % 65536 then (5, zQ, 0) else (0, heQ F (l.drop b) e n c, (l.drop b).length - r3.length + 2))
          else (0, heQ F (l.drop b) e n c, (l.drop b).length - r3.length) := by
  have hlen : (l.drop b).length = l.length - b := List.length_drop
  unfold prsQ
  rw [if_neg (by omega), if_neg (fun k => k h3), hF, if_neg (by omega), List.drop_drop]
  rfl
/-- What a text says behind a right beginning, as a name. -/
def opn (l : List UInt8) (b F : Nat) : Prop := prsQ crl (l.drop b) = match p1 F (l.drop (b + 10)) with
    | none => (2, zQ, 0)
    | some (e, r1) => match p2 8 F r1 with
      | none => (2, zQ, 0)
      | some (n, r2) => match p2 16 F r2 with
        | none => (2, zQ, 0)
        | some (c, r3) =>
          if F / 2 % 2 = 1 then
            (if r3.length < 2 then (2, zQ, 0) else if num (r3.take 2) ≠ crl ((l.drop b).take ((l.drop b).length - r3.length)) % 65536 then (5, zQ, 0) else (0, heQ F (l.drop b) e n c, (l.drop b).length - r3.length + 2))
          else (0, heQ F (l.drop b) e n c, (l.drop b).length - r3.length)
def st1 (l : List UInt8) (p F b : Nat) (E : List UInt8) : Prop := p1 F (l.drop (p + 10)) = some (E, l.drop b) ∧ p + 10 ≤ b ∧ b ≤ l.length
def st2 (l : List UInt8) (F k b b' : Nat) (N : List UInt8) : Prop := p2 k F (l.drop b) = some (N, l.drop b') ∧ b ≤ b' ∧ b' ≤ l.length
section
variable {l : List UInt8} {p F b1 b2 b3 : Nat} {E N C : List UInt8}
theorem prs_e1 (h : opn l p F) (h1 : p1 F (l.drop (p + 10)) = none) : prsQ crl (l.drop p) = (2, zQ, 0) := by
  unfold opn at h; rw [h, h1]
theorem prs_e2 (h : opn l p F) (h1 : st1 l p F b1 E) (h2 : p2 8 F (l.drop b1) = none) : prsQ crl (l.drop p) = (2, zQ, 0) := by
  unfold opn at h; rw [h, h1.1]; dsimp only; rw [h2]
theorem prs_e3 (h : opn l p F) (h1 : st1 l p F b1 E) (h2 : st2 l F 8 b1 b2 N) (h3 : p2 16 F (l.drop b2) = none) : prsQ crl (l.drop p) = (2, zQ, 0) := by
  unfold opn at h; rw [h, h1.1]; dsimp only; rw [h2.1]; dsimp only; rw [h3]
theorem prs_fin (h : opn l p F) (h1 : st1 l p F b1 E) (h2 : st2 l F 8 b1 b2 N) (h3 : st2 l F 16 b2 b3 C) : prsQ crl (l.drop p) =
    if F / 2 % 2 = 1 then (if l.length - b3 < 2 then (2, zQ, 0) else if num ((l.drop b3).take 2) ≠ crl ((l.drop p).take (b3 - p)) % 65536 then (5, zQ, 0) else (0, heQ F (l.drop p) E N C, b3 - p + 2)) else (0, heQ F (l.drop p) E N C, b3 - p) := by
  have hsub : (l.drop p).length - (l.drop b3).length = b3 - p := by
    have := h1.2.1; have := h2.2.1; have := h3.2.1; have := h3.2.2
    rw [List.length_drop, List.length_drop]; omega
  unfold opn at h; rw [h, h1.1]; dsimp only; rw [h2.1]; dsimp only; rw [h3.1]; dsimp only
  rw [hsub, List.length_drop]
theorem st1_no (hF : ¬ F / 4 % 2 = 1) (hl : p + 10 ≤ l.length) : st1 l p F (p + 10) [] := ⟨by unfold p1; rw [if_neg hF], Nat.le_refl _, hl⟩
theorem st1_e1 (hF : F / 4 % 2 = 1) (h : l.length - (p + 10) < 2) : p1 F (l.drop (p + 10)) = none := by unfold p1; rw [if_pos hF, List.length_drop, if_pos (.inl h)]
theorem st1_e2 (hF : F / 4 % 2 = 1) (h : l.length - (p + 10) - 2 < num ((l.drop (p + 10)).take 2)) : p1 F (l.drop (p + 10)) = none := by unfold p1; rw [if_pos hF, List.length_drop, if_pos (.inr h)]
theorem st1_ok (hF : F / 4 % 2 = 1) (h : ¬ l.length - (p + 10) < 2) (h2 : ¬ l.length - (p + 10) - 2 < num ((l.drop (p + 10)).take 2)) : st1 l p F (p + 10 + 2 + num ((l.drop (p + 10)).take 2)) ((l.drop (p + 10 + 2)).take (num ((l.drop (p + 10)).take 2))) :=
  ⟨by unfold p1; rw [if_pos hF, List.length_drop, if_neg (fun k => k.elim h h2), List.drop_drop, List.drop_drop, Nat.add_assoc (p + 10)], by omega, by omega⟩
theorem st2_no {k : Nat} (hF : ¬ F / k % 2 = 1) (hl : b1 ≤ l.length) : st2 l F k b1 b1 [] := ⟨by unfold p2; rw [if_neg hF], Nat.le_refl _, hl⟩
theorem st2_e {k : Nat} (hF : F / k % 2 = 1) (h : endQ (l.drop b1) = none) : p2 k F (l.drop b1) = none := by unfold p2; rw [if_pos hF, h]
theorem st2_ok {k : Nat} {t r : List UInt8} (hF : F / k % 2 = 1) (h : endQ (l.drop b1) = some (t, r)) (hl : b1 ≤ l.length) : st2 l F k b1 (b1 + t.length + 1) t := by
  have h2 := (endQ_some _ _ _ h).1
  have h3 := congrArg List.length h2
  rw [List.length_drop, List.length_append, List.length_cons] at h3
  have h4 : (l.drop b1).drop (t.length + 1) = r := by
    rw [h2, List.drop_append, List.drop_of_length_le (by omega), Nat.add_sub_cancel_left]; rfl
  rw [List.drop_drop] at h4
  exact ⟨by unfold p2; rw [if_pos hF, h, ← h4]; rfl, by omega, by omega⟩
end
/-- The sum of a text's bytes, as the reference has it. -/
def crS2 (s : ByteArray) : Nat := crl s.data.toList
theorem rOf_val (s : ByteArray) (w : World) (hs : s.size ≤ 9223372036854775807) : Calls Try.prog 21 #[.string s] w fun e w' => e = .returned (.int .u32 ((crS2 s : Nat) : Int)) ∧ w = w' := Co.rOf_any s w hs
/-- The state: the head, the result's cell. -/
structure rs (w : World) (H : Nat) (u : World) (cs : Array Value) : Prop where
  h : Blk u H 23 cs
  r : Blk u w.heap.size 23 z9
  b : Below w.heap.size w u
  l : w.heap.size < H
theorem rs.put {w u : World} {H : Nat} {cs : Array Value} (k : rs w H u cs) (i : Nat) (v : Value) : rs w H (u.setCell ⟨H, i, none⟩ v) (cs.setIfInBounds i v) :=
  ⟨k.h.store i v, Blk.only k.r (only_set i v) (fun e => by have : w.heap.size = H := e; have := k.l; omega), k.b.setCell (p := ⟨H, i, none⟩) (Nat.le_of_lt k.l) v, k.l⟩
theorem blk_drew' {w : World} {g : Nat} {T : TypeId} {cs : Array Value} (h : Blk w g T cs) : Blk w.drew g T cs := h

theorem hs_iff (F : Nat) (k : Nat) : hsF (F : Int) (k : Int) = decide (F / k % 2 = 1) := by
  unfold hsF
  rw [Bool.eq_iff_iff]
  simp only [decide_eq_true_eq]
  rw [← Int.natCast_ediv]
  omega

section
variable {P : Program} {ops : Array Oper} {Q : Exit → Act → World → Prop} {md : Region.Mode}
/-- One operation is taken first; the slot it fills is named. -/
theorem takeA {i : Nat} {oi : Oper} {d : Option Tmp} {v : Value} {fuel : Nat} {listed : Array Bool} {a : Act} {w : World} (hi : ops[i]? = some oi) (hd : oi.dst = d)
    (hs : Region.noSelect ops = true) (hf : Region.free md ops listed i = true) (hr : (Region.ready md ops listed).contains i = true)
    (hQ : ∀ c a w, Q (.panic c) (a.put d v) w → Q (.panic c) a w) (hy : Yields P ops oi v a)
    (h : wpAny P md ops Q fuel (listed.setIfInBounds i true) (a.put d v) w) : wpAny P md ops Q (fuel + 1) listed a w := by
  subst hd
  exact wpAny_take hi hs hf hr hQ hy h
/-- One operation comes up. -/
theorem opA {i : Nat} {oi : Oper} {d : Option Tmp} {fuel : Nat} {listed : Array Bool} {a : Act} {w : World} (hi : ops[i]? = some oi) (_hd : oi.dst = d) (hw : Region.wanted oi (yielded ops a.tmps) = true)
    (h : ∀ K : Act → World → Prop, Shut (∀ a' w', wpAny P md ops Q fuel (listed.setIfInBounds i true) a' w' → K a' w') → oi.wp P a w K Q) : wpOp P ops Q i (wpAny P md ops Q fuel (listed.setIfInBounds i true)) a w := by
  unfold wpOp
  rw [hi]
  simp only [hw, if_true]
  exact .inl (h _ (fun _ _ h => h))
theorem oneA {i : Nat} {fuel : Nat} {listed : Array Bool} {a : Act} {w : World} (hr : Region.ready md ops listed = [i]) (h : wpOp P ops Q i (wpAny P md ops Q fuel (listed.setIfInBounds i true)) a w) : wpAny P md ops Q (fuel + 1) listed a w :=
  wpAny_all hr (by simp) (fun k hk => by obtain rfl : k = i := by simpa using hk
                                         exact h)
theorem twoA {i j : Nat} {fuel : Nat} {listed : Array Bool} {a : Act} {w : World} (hr : Region.ready md ops listed = [i, j]) (h1 : wpOp P ops Q i (wpAny P md ops Q fuel (listed.setIfInBounds i true)) a w) (h2 : wpOp P ops Q j (wpAny P md ops Q fuel (listed.setIfInBounds j true)) a w) : wpAny P md ops Q (fuel + 1) listed a w :=
  wpAny_all hr (by simp) (fun k hk => by
    rcases (by simpa using hk : k = i ∨ k = j) with rfl | rfl
    · exact h1
    · exact h2)
end
theorem index_str (s : ByteArray) (k : Nat) (h : k < s.size) {z : Int} (hz : z = (k : Int)) (u : World) : (Instr.index 9 (.string s) (.int .i64 z)).run Try.prog u = .ok (.int .u8 ((s[k]'h).toNat : Int)) u := by
  subst hz
  have h0 : 0 ≤ (k : Int) ∧ (k : Int) < (s.size : Int) := ⟨by omega, by omega⟩
  go_simp
set_option maxHeartbeats 4000000 in
set_option maxRecDepth 100000 in
theorem rParse_yes (s : ByteArray) (a : Int) (w : World) (hs : s.size ≤ 281474976710656) (h : (bgR s.data.toList a).2 = 0) :
    Calls Try.prog 14 #[.string s, .int .i64 a] w (psA s.data.toList a w) := by
  obtain ⟨p, F, rfl, g1, g2, g3, g4, g5⟩ := bg_yes h
  have hle := len_eq s
  have hp : p + 10 ≤ s.size := by omega
  have hp48 : p ≤ 281474976710646 := by omega
  have HPO : Hid (opn s.data.toList p F) := Lib.hid (prs_open g2 g3 g4 g5)
  have q1 : IntKind.i64.wrap ((s.size : Int) - (p : Int)) = (s.size : Int) - (p : Int) := by rw [IntWalk.i64_left]; exact IntWalk.wrap64_in _ ⟨by omega, by omega⟩
  have q2 : ¬ (s.size : Int) < (p : Int) := by omega
  have q3 : ¬ (s.size : Int) - (p : Int) < 10 := by omega
  have hsl : ∀ u, (Instr.slice 9 (.string s) (some (.int .i64 (p : Int))) (some (.int .i64 ((p : Int) + 3))) none).run Try.prog u = .ok (.string (s.extract p (p + 3))) u := fun u => cut_mid (by omega) (by push_cast; rfl) u
  have hS3 : (s.extract p (p + 3)).toList = [31, 139, 8] := by rw [Lib.toList_data, ext_list, ← g3]; congr 1; omega
  generalize s.extract p (p + 3) = S3 at *
  have h3' : (S3.toList == [31, 139, 8]) = true := by simpa using hS3
  have h4' : (S3.toList != [31, 139, 8]) = false := by simpa using hS3
  have m3 : p + 3 < s.size := by omega
  have m8 : p + 8 < s.size := by omega
  have m9 : p + 9 < s.size := by omega
  obtain ⟨x, hx⟩ : ∃ x : UInt8, s[p + 3]'m3 = x := ⟨_, rfl⟩
  have hxF : (x.toNat : Int) = (F : Int) := by
    rw [← g4, List.getD_eq_getElem?_getD, List.getElem?_drop, List.getElem?_eq_getElem (by rw [hle]; omega), ← hx]; rfl
  have hF32 : (F : Int) < 32 := by omega
  have hk : ¬ (32 : Int) ≤ (F : Int) := by omega
  obtain ⟨x8, hx8⟩ : ∃ x : UInt8, s[p + 8]'m8 = x := ⟨_, rfl⟩
  obtain ⟨x9, hx9⟩ : ∃ x : UInt8, s[p + 9]'m9 = x := ⟨_, rfl⟩
  have e8 : x8 = (s.data.toList.drop p).getD 8 0 := by
    rw [List.getD_eq_getElem?_getD, List.getElem?_drop, List.getElem?_eq_getElem (by rw [hle]; omega), ← hx8]; rfl
  have e9 : x9 = (s.data.toList.drop p).getD 9 0 := by
    rw [List.getD_eq_getElem?_getD, List.getElem?_drop, List.getElem?_eq_getElem (by rw [hle]; omega), ← hx9]; rfl
  have E8 := Lib.hid e8; have E9 := Lib.hid e9
  have y8 : (x8.toNat : Int) ≤ 255 := by have := x8.toNat_lt; omega
  have y9 : (x9.toNat : Int) ≤ 255 := by have := x9.toNat_lt; omega
  have ix8 : ∀ u, (Instr.index 9 (.string s) (.int .i64 ((p : Int) + 8))).run Try.prog u = .ok (.int .u8 (x8.toNat : Int)) u := fun u => by rw [← hx8]; exact index_str s (p + 8) m8 (by push_cast; rfl) u
  have ix9 : ∀ u, (Instr.index 9 (.string s) (.int .i64 ((p : Int) + 9))).run Try.prog u = .ok (.int .u8 (x9.toNat : Int)) u := fun u => by rw [← hx9]; exact index_str s (p + 9) m9 (by push_cast; rfl) u
  have v8 : IntKind.i64.wrap (x8.toNat : Int) = (x8.toNat : Int) := by rw [IntWalk.i64_left]; exact IntWalk.wrap64_in _ ⟨by omega, by omega⟩
  have v9 : IntKind.i64.wrap (x9.toNat : Int) = (x9.toNat : Int) := by rw [IntWalk.i64_left]; exact IntWalk.wrap64_in _ ⟨by omega, by omega⟩
  have v4 : IntKind.i64.wrap ((F : Int) / 4) = (F : Int) / 4 := by rw [IntWalk.i64_left]; exact IntWalk.wrap64_in _ ⟨by omega, by omega⟩
  have v28 : IntKind.i64.wrap ((F : Int) / 4 * 4) = (F : Int) / 4 * 4 := by rw [IntWalk.i64_left]; exact IntWalk.wrap64_in _ ⟨by omega, by omega⟩
  have i8w : IntKind.i64.wrap ((p : Int) + 8) = (p : Int) + 8 := by rw [IntWalk.i64_left]; exact IntWalk.wrap64_in _ ⟨by omega, by omega⟩
  have i9w : IntKind.i64.wrap ((p : Int) + 9) = (p : Int) + 9 := by rw [IntWalk.i64_left]; exact IntWalk.wrap64_in _ ⟨by omega, by omega⟩
  have i8a : (0 : Int) ≤ (p : Int) + 8 := by omega
  have i8b : (p : Int) + 8 < (s.size : Int) := by omega
  have i9a : (0 : Int) ≤ (p : Int) + 9 := by omega
  have i9b : (p : Int) + 9 < (s.size : Int) := by omega
  obtain ⟨T, hT⟩ : ∃ T : Int, T = ((num ((s.data.toList.drop (p + 4)).take 4) : Nat) : Int) := ⟨_, rfl⟩
  have HT := Lib.hid hT
  have HN4 : Hid (∀ u, Calls Try.prog 32 #[.string s, .int .i64 ((p : Int) + 4), .int .i64 4] u fun e' w' => e' = .returned (.tuple #[.int .i64 T, .int .i64 0]) ∧ u = w') := Lib.hid (fun u => by
    have := Vx.rNumber_any s ((p + 4 : Nat) : Int) ((4 : Nat) : Int) u (by omega) (by omega)
    rw [numR_read (k := 4) (.inr (.inr rfl)) (by omega), ← hT] at this
    exact this)
  have F0 : Hid ((0 : Int) ≤ (F : Int)) := Lib.hid (by omega)
  have FM : Hid ((F : Int) ≤ 9223372036854775807) := Lib.hid (by omega)
  obtain ⟨w1, hw1⟩ : ∃ w1, w1 = w.alloc (.cells z9 23) := ⟨_, rfl⟩
  have K1 : Hid (Blk w1 w.heap.size 23 z9) := Lib.hid (by rw [hw1]; exact Blk.fresh w _ _)
  have B1 : Hid (Below w.heap.size w w1) := Lib.hid (by rw [hw1]; exact (Below.refl _ w).alloc (Nat.le_refl _) _)
  clear h g1 g2 g3 g4 g5 hle hS3 e8 e9 hT
  go_enter Try.func14, Try.ntmps14
  go_wp2_with fail
  rw [← hw1]
  clear hw1
  refine (HN4.out w1).mono ?_
  rintro e' w2 ⟨rfl, rfl⟩
  go_wp2_with fail
  go_upto_region 11 with fail
  go_cut [10] (fun s10 wx => s10 = .pointer (some ⟨w1.heap.size, 0, none⟩) ∧ wx = (w1.alloc (.cells (cs9 T ⟨#[]⟩ ⟨#[]⟩ ⟨#[]⟩ (x8.toNat : Int) (x9.toNat : Int) (hsF (F : Int) 1) (hsF (F : Int) 2) ((F : Int) / 4 * 4)) 23)).drew)
  case first =>
    -- REGION
    refine wp_region_noPanic ?_
    refine wp_region_any (by kernel_rfl) ?_
    show wpAny _ _ _ _ _ _ _ w1.drew
    refine takeA (i := 0) (d := some 57) (v := ?v1) rfl rfl (by kernel_rfl) (by kernel_rfl) (by kernel_rfl) (fun _ _ _ h => h) (Or.inl ⟨by rfl, ?hy1⟩) ?rest1
    case hy1 => (intro w9; first | (go_simp; done) | (go_simp; with_reducible rfl))
    try simp only [Act.put, List.setIfInBounds_toArray, List.set_cons_zero, List.set_cons_succ]
    refine takeA (i := 1) (d := some 58) (v := ?v2) rfl rfl (by kernel_rfl) (by kernel_rfl) (by kernel_rfl) (fun _ _ _ h => h) (Or.inl ⟨by rfl, ?hy2⟩) ?rest2
    case hy2 => (intro w9; first | (go_simp; done) | (go_simp; with_reducible rfl))
    try simp only [Act.put, List.setIfInBounds_toArray, List.set_cons_zero, List.set_cons_succ]
    refine takeA (i := 2) (d := some 59) (v := ?v3) rfl rfl (by kernel_rfl) (by kernel_rfl) (by kernel_rfl) (fun _ _ _ h => h) (Or.inl ⟨by rfl, ?hy3⟩) ?rest3
    case hy3 => (intro w9; first | (go_simp; done) | (go_simp; with_reducible rfl))
    try simp only [Act.put, List.setIfInBounds_toArray, List.set_cons_zero, List.set_cons_succ]
    refine takeA (i := 3) (d := some 60) (v := ?v4) rfl rfl (by kernel_rfl) (by kernel_rfl) (by kernel_rfl) (fun _ _ _ h => h) (Or.inl ⟨by rfl, ?hy4⟩) ?rest4
    case hy4 => (intro w9; first | (go_simp; done) | (go_simp; with_reducible rfl))
    try simp only [Act.put, List.setIfInBounds_toArray, List.set_cons_zero, List.set_cons_succ]
    refine takeA (i := 4) (d := some 61) (v := ?v5) rfl rfl (by kernel_rfl) (by kernel_rfl) (by kernel_rfl) (fun _ _ _ h => h) (Or.inl ⟨by rfl, ?hy5⟩) ?rest5
    case hy5 => (intro w9; first | (go_simp; done) | (go_simp; with_reducible rfl))
    try simp only [Act.put, List.setIfInBounds_toArray, List.set_cons_zero, List.set_cons_succ]
    refine takeA (i := 5) (d := some 62) (v := ?v6) rfl rfl (by kernel_rfl) (by kernel_rfl) (by kernel_rfl) (fun _ _ _ h => h) (Or.inl ⟨by rfl, ?hy6⟩) ?rest6
    case hy6 => (intro w9; first | (go_simp; done) | (go_simp; with_reducible rfl))
    try simp only [Act.put, List.setIfInBounds_toArray, List.set_cons_zero, List.set_cons_succ]
    refine takeA (i := 6) (d := some 63) (v := ?v7) rfl rfl (by kernel_rfl) (by kernel_rfl) (by kernel_rfl) (fun _ _ _ h => h) (Or.inl ⟨by rfl, ?hy7⟩) ?rest7
    case hy7 => (intro w9; first | (go_simp; done) | (go_simp; with_reducible rfl))
    try simp only [Act.put, List.setIfInBounds_toArray, List.set_cons_zero, List.set_cons_succ]
    refine takeA (i := 7) (d := some 64) (v := ?v8) rfl rfl (by kernel_rfl) (by kernel_rfl) (by kernel_rfl) (fun _ _ _ h => h) (Or.inl ⟨by rfl, ?hy8⟩) ?rest8
    case hy8 => (intro w9; first | (go_simp; done) | (go_simp; with_reducible rfl))
    try simp only [Act.put, List.setIfInBounds_toArray, List.set_cons_zero, List.set_cons_succ]
    refine takeA (i := 8) (d := some 65) (v := ?v9) rfl rfl (by kernel_rfl) (by kernel_rfl) (by kernel_rfl) (fun _ _ _ h => h) (Or.inl ⟨by rfl, ?hy9⟩) ?rest9
    case hy9 => (intro w9; first | (go_simp; done) | (go_simp; with_reducible rfl))
    try simp only [Act.put, List.setIfInBounds_toArray, List.set_cons_zero, List.set_cons_succ]
    refine takeA (i := 9) (d := some 66) (v := ?v10) rfl rfl (by kernel_rfl) (by kernel_rfl) (by kernel_rfl) (fun _ _ _ h => h) (Or.inl ⟨by rfl, ?hy10⟩) ?rest10
    case hy10 => (intro w9; first | (go_simp; done) | (go_simp; with_reducible rfl))
    try simp only [Act.put, List.setIfInBounds_toArray, List.set_cons_zero, List.set_cons_succ]
    refine takeA (i := 10) (d := some 67) (v := ?v11) rfl rfl (by kernel_rfl) (by kernel_rfl) (by kernel_rfl) (fun _ _ _ h => h) (Or.inl ⟨by rfl, ?hy11⟩) ?rest11
    case hy11 => (intro w9; first | (go_simp; done) | (go_simp; with_reducible rfl))
    try simp only [Act.put, List.setIfInBounds_toArray, List.set_cons_zero, List.set_cons_succ]
    refine takeA (i := 11) (d := some 68) (v := ?v12) rfl rfl (by kernel_rfl) (by kernel_rfl) (by kernel_rfl) (fun _ _ _ h => h) (Or.inl ⟨by rfl, ?hy12⟩) ?rest12
    case hy12 => (intro w9; first | (go_simp; done) | (go_simp; with_reducible rfl))
    try simp only [Act.put, List.setIfInBounds_toArray, List.set_cons_zero, List.set_cons_succ]
    refine takeA (i := 13) (d := some 70) (v := ?v13) rfl rfl (by kernel_rfl) (by kernel_rfl) (by kernel_rfl) (fun _ _ _ h => h) (Or.inl ⟨by rfl, ?hy13⟩) ?rest13
    case hy13 => (intro w9; first | (go_simp; done) | (go_simp; with_reducible rfl))
    try simp only [Act.put, List.setIfInBounds_toArray, List.set_cons_zero, List.set_cons_succ]
    refine takeA (i := 15) (d := some 72) (v := ?v14) rfl rfl (by kernel_rfl) (by kernel_rfl) (by kernel_rfl) (fun _ _ _ h => h) (Or.inl ⟨by rfl, ?hy14⟩) ?rest14
    case hy14 => (intro w9; first | (go_simp; done) | (go_simp; with_reducible rfl))
    try simp only [Act.put, List.setIfInBounds_toArray, List.set_cons_zero, List.set_cons_succ]
    refine takeA (i := 16) (d := some 73) (v := ?v15) rfl rfl (by kernel_rfl) (by kernel_rfl) (by kernel_rfl) (fun _ _ _ h => h) (Or.inl ⟨by rfl, ?hy15⟩) ?rest15
    case hy15 => (intro w9; first | (go_simp; done) | (go_simp; with_reducible rfl))
    try simp only [Act.put, List.setIfInBounds_toArray, List.set_cons_zero, List.set_cons_succ]
    refine takeA (i := 17) (d := some 74) (v := ?v16) rfl rfl (by kernel_rfl) (by kernel_rfl) (by kernel_rfl) (fun _ _ _ h => h) (Or.inl ⟨by rfl, ?hy16⟩) ?rest16
    case hy16 => (intro w9; first | (go_simp; done) | (go_simp; with_reducible rfl))
    try simp only [Act.put, List.setIfInBounds_toArray, List.set_cons_zero, List.set_cons_succ]
    refine twoA (i := 12) (j := 19) (by kernel_rfl) ?_ ?_
    · refine opA (d := some 69) rfl rfl (by rfl) (fun K hK => ?_)
      go_simp
      go_at_call 20
      refine (has_any _ _ _ F0.out FM.out (by first | exact .inl rfl | exact .inr (.inl rfl))).mono ?_
      rintro e9 u9 ⟨rfl, rfl⟩
      go_wp2_with fail
      refine hK.out _ _ ?_
      clear hK K
      try simp only [Act.put, List.setIfInBounds_toArray, List.set_cons_zero, List.set_cons_succ]
      refine twoA (i := 14) (j := 19) (by kernel_rfl) ?_ ?_
      · refine opA (d := some 71) rfl rfl (by rfl) (fun K hK => ?_)
        go_simp
        go_at_call 20
        refine (has_any _ _ _ F0.out FM.out (by first | exact .inl rfl | exact .inr (.inl rfl))).mono ?_
        rintro e9 u9 ⟨rfl, rfl⟩
        go_wp2_with fail
        refine hK.out _ _ ?_
        clear hK K
        try simp only [Act.put, List.setIfInBounds_toArray, List.set_cons_zero, List.set_cons_succ]
        refine takeA (i := 18) (d := some 75) (v := ?v17) rfl rfl (by kernel_rfl) (by kernel_rfl) (by kernel_rfl) (fun _ _ _ h => h) (Or.inl ⟨by rfl, ?hy17⟩) ?rest17
        case hy17 => (intro w9; first | (go_simp; done) | (go_simp; with_reducible rfl))
        try simp only [Act.put, List.setIfInBounds_toArray, List.set_cons_zero, List.set_cons_succ]
        refine oneA (i := 19) (by kernel_rfl) ?_
        refine opA (d := some 10) rfl rfl (by rfl) (fun K hK => ?_)
        go_simp
        refine hK.out _ _ ?_
        clear hK K
        try simp only [Act.put, List.setIfInBounds_toArray, List.set_cons_zero, List.set_cons_succ]
        refine oneA (i := 20) (by kernel_rfl) ?_
        refine opA (d := none) rfl rfl (by rfl) (fun K hK => ?_)
        go_simp
        refine hK.out _ _ ?_
        clear hK K
        try simp only [Act.put, List.setIfInBounds_toArray, List.set_cons_zero, List.set_cons_succ]
        refine wpAny_done (by kernel_rfl) ?_ _
        refine NoPanic.normal ?_
        go_wp2_with fail
        go_meet
        exact ⟨rfl, rfl⟩
      · refine opA (d := some 10) rfl rfl (by rfl) (fun K hK => ?_)
        go_simp
        refine hK.out _ _ ?_
        clear hK K
        try simp only [Act.put, List.setIfInBounds_toArray, List.set_cons_zero, List.set_cons_succ]
        refine oneA (i := 14) (by kernel_rfl) ?_
        refine opA (d := some 71) rfl rfl (by rfl) (fun K hK => ?_)
        go_simp
        go_at_call 20
        refine (has_any _ _ _ F0.out FM.out (by first | exact .inl rfl | exact .inr (.inl rfl))).mono ?_
        rintro e9 u9 ⟨rfl, rfl⟩
        go_wp2_with fail
        refine hK.out _ _ ?_
        clear hK K
        try simp only [Act.put, List.setIfInBounds_toArray, List.set_cons_zero, List.set_cons_succ]
        refine takeA (i := 18) (d := some 75) (v := ?v18) rfl rfl (by kernel_rfl) (by kernel_rfl) (by kernel_rfl) (fun _ _ _ h => h) (Or.inl ⟨by rfl, ?hy18⟩) ?rest18
        case hy18 => (intro w9; first | (go_simp; done) | (go_simp; with_reducible rfl))
        try simp only [Act.put, List.setIfInBounds_toArray, List.set_cons_zero, List.set_cons_succ]
        refine oneA (i := 20) (by kernel_rfl) ?_
        refine opA (d := none) rfl rfl (by rfl) (fun K hK => ?_)
        go_simp
        refine hK.out _ _ ?_
        clear hK K
        try simp only [Act.put, List.setIfInBounds_toArray, List.set_cons_zero, List.set_cons_succ]
        refine wpAny_done (by kernel_rfl) ?_ _
        refine NoPanic.normal ?_
        go_wp2_with fail
        go_meet
        exact ⟨rfl, rfl⟩
    · refine opA (d := some 10) rfl rfl (by rfl) (fun K hK => ?_)
      go_simp
      refine hK.out _ _ ?_
      clear hK K
      try simp only [Act.put, List.setIfInBounds_toArray, List.set_cons_zero, List.set_cons_succ]
      refine oneA (i := 12) (by kernel_rfl) ?_
      refine opA (d := some 69) rfl rfl (by rfl) (fun K hK => ?_)
      go_simp
      go_at_call 20
      refine (has_any _ _ _ F0.out FM.out (by first | exact .inl rfl | exact .inr (.inl rfl))).mono ?_
      rintro e9 u9 ⟨rfl, rfl⟩
      go_wp2_with fail
      refine hK.out _ _ ?_
      clear hK K
      try simp only [Act.put, List.setIfInBounds_toArray, List.set_cons_zero, List.set_cons_succ]
      refine oneA (i := 14) (by kernel_rfl) ?_
      refine opA (d := some 71) rfl rfl (by rfl) (fun K hK => ?_)
      go_simp
      go_at_call 20
      refine (has_any _ _ _ F0.out FM.out (by first | exact .inl rfl | exact .inr (.inl rfl))).mono ?_
      rintro e9 u9 ⟨rfl, rfl⟩
      go_wp2_with fail
      refine hK.out _ _ ?_
      clear hK K
      try simp only [Act.put, List.setIfInBounds_toArray, List.set_cons_zero, List.set_cons_succ]
      refine takeA (i := 18) (d := some 75) (v := ?v19) rfl rfl (by kernel_rfl) (by kernel_rfl) (by kernel_rfl) (fun _ _ _ h => h) (Or.inl ⟨by rfl, ?hy19⟩) ?rest19
      case hy19 => (intro w9; first | (go_simp; done) | (go_simp; with_reducible rfl))
      try simp only [Act.put, List.setIfInBounds_toArray, List.set_cons_zero, List.set_cons_succ]
      refine oneA (i := 20) (by kernel_rfl) ?_
      refine opA (d := none) rfl rfl (by rfl) (fun K hK => ?_)
      go_simp
      refine hK.out _ _ ?_
      clear hK K
      try simp only [Act.put, List.setIfInBounds_toArray, List.set_cons_zero, List.set_cons_succ]
      refine wpAny_done (by kernel_rfl) ?_ _
      refine NoPanic.normal ?_
      go_wp2_with fail
      go_meet
      exact ⟨rfl, rfl⟩
    -- NOIGER
  case rest =>
    obtain ⟨rfl, rfl⟩ := hcut
    have K2 : Hid (rs w w1.heap.size (w1.alloc (.cells (cs9 T ⟨#[]⟩ ⟨#[]⟩ ⟨#[]⟩ (x8.toNat : Int) (x9.toNat : Int) (hsF (F : Int) 1) (hsF (F : Int) 2) ((F : Int) / 4 * 4)) 23)).drew (cs9 T ⟨#[]⟩ ⟨#[]⟩ ⟨#[]⟩ (x8.toNat : Int) (x9.toNat : Int) (hsF (F : Int) 1) (hsF (F : Int) 2) ((F : Int) / 4 * 4))) := Lib.hid ⟨blk_drew' (Blk.fresh w1 _ _), blk_drew' (K1.out.below ((Below.refl _ w1).alloc (Nat.le_refl _) _)), (B1.out.alloc B1.out.size _).drew, K1.out.lt⟩
    generalize (w1.alloc (.cells (cs9 T ⟨#[]⟩ ⟨#[]⟩ ⟨#[]⟩ (x8.toNat : Int) (x9.toNat : Int) (hsF (F : Int) 1) (hsF (F : Int) 2) ((F : Int) / 4 * 4)) 23)).drew = u2 at *
    have HH := Lib.hid K1.out.lt
    clear K1 B1 hsl ix8 ix9 v8 v9 v4 v28 i8w i9w i8a i8b i9a i9b HN4 q1 q2 q3 h3' h4'
    generalize w1.heap.size = H at *
    have hll : s.data.toList.length = s.size := len_eq s
    have HLL := Lib.hid hll
    obtain ⟨b0, hb0⟩ : ∃ b0, b0 = p + 10 := ⟨_, rfl⟩
    have P10 : (p : Int) + 10 = (b0 : Int) := by rw [hb0]; push_cast; rfl
    have l0 : b0 ≤ s.size := by omega
    have l48 : b0 ≤ 281474976710656 := by omega
    have HB0 := Lib.hid hb0
    clear hb0 hll
    go_upto_if 79 with (go_at_call 20; refine (has_any _ _ _ F0.out FM.out (by first | exact .inr (.inl rfl) | exact .inr (.inr (.inl rfl)) | exact .inr (.inr (.inr (.inl rfl))) | exact .inr (.inr (.inr (.inr rfl))))).mono ?_; rintro e' w' ⟨rfl, rfl⟩)
    go_cut [11] (fun s11 wx => ∃ (b : Nat) (xE : ByteArray), s11 = .int .i64 (b : Int) ∧ Hid (st1 s.data.toList p F b xE.data.toList) ∧ Hid (rs w H wx (cs9 T xE ⟨#[]⟩ ⟨#[]⟩ (x8.toNat : Int) (x9.toNat : Int) (hsF (F : Int) 1) (hsF (F : Int) 2) ((F : Int) / 4 * 4))))
    case first =>
      have HS4 := Lib.hid (hs_iff F 4)
      cases h4 : hsF (F : Int) 4
      · have HF : Hid (¬ F / 4 % 2 = 1) := Lib.hid (by have := hs_iff F 4; intro k; rw [decide_eq_true k] at this; exact absurd (this.symm.trans h4) (by simp))
        go_wp2_with (go_at_call 20; refine (has_any _ _ _ F0.out FM.out (by first | exact .inr (.inl rfl) | exact .inr (.inr (.inl rfl)) | exact .inr (.inr (.inr (.inl rfl))) | exact .inr (.inr (.inr (.inr rfl))))).mono ?_; rintro e' w' ⟨rfl, rfl⟩)
        go_meet
        exact ⟨b0, ⟨#[]⟩, rfl, Lib.hid (by rw [HB0.out]; exact st1_no HF.out (by have := HLL.out; omega)), K2⟩
      · have HF : Hid (F / 4 % 2 = 1) := Lib.hid (by have := hs_iff F 4; exact of_decide_eq_true (this.symm.trans h4))
        by_cases hsh : s.size < b0 + 2
        · have HSH := Lib.hid hsh
          have HN : Hid (∀ u, Calls Try.prog 32 #[.string s, .int .i64 (b0 : Int), .int .i64 2] u fun e' w' => e' = .returned (.tuple #[.int .i64 0, .int .i64 2]) ∧ u = w') := Lib.hid (fun u => by have := Vx.rNumber_any s (b0 : Int) ((2 : Nat) : Int) u (by omega) (by omega); rw [numR_none (k := 2) (.inr (.inl rfl)) hsh l0] at this; exact this)
          go_wp2_with (first | (go_at_call 20; refine (has_any _ _ _ F0.out FM.out (by first | exact .inr (.inl rfl) | exact .inr (.inr (.inl rfl)) | exact .inr (.inr (.inr (.inl rfl))) | exact .inr (.inr (.inr (.inr rfl))))).mono ?_; rintro e' w' ⟨rfl, rfl⟩) | (go_at_call 32; refine (HN.out _).mono ?_; rintro e' w' ⟨rfl, rfl⟩) | (refine wpList_store_row rfl 23 _ _ rfl w.heap.size (z9) rfl rfl _ _ K2.out.r sizeHd rfl (one9 _ _ _ _ _ _ _ _ _) ?_))
          refine bodyPost_ret (v := .tuple #[.agg z9, .int .i64 0, .int .i64 2]) (results_cell3 rfl _ _ w.heap.size 23 z9 _ _ _ rfl rfl rfl (setRow_heap _ _ _ _ _ _ K2.out.r) Try.underlying23 rfl sizeHd) rfl ?_
          exact psA_no rfl (.inr ⟨p, 0, rfl, prs_e1 HPO.out (st1_e1 HF.out (by have := HLL.out; have := HB0.out; have := HSH.out; omega)), rfl⟩) (below_row K2.out.b (Nat.le_refl _) _)
        · have HSH := Lib.hid hsh
          obtain ⟨n, hn⟩ : ∃ n, n = num ((s.data.toList.drop b0).take 2) := ⟨_, rfl⟩
          have hn16 : n < 65536 := by
            rw [hn]
            have := num_lt ((s.data.toList.drop b0).take 2)
            rw [show ((s.data.toList.drop b0).take 2).length = 2 by rw [List.length_take, List.length_drop, len_eq]; omega] at this
            exact this
          have HN : Hid (∀ u, Calls Try.prog 32 #[.string s, .int .i64 (b0 : Int), .int .i64 2] u fun e' w' => e' = .returned (.tuple #[.int .i64 (n : Int), .int .i64 0]) ∧ u = w') := Lib.hid (fun u => by have := Vx.rNumber_any s (b0 : Int) ((2 : Nat) : Int) u (by omega) (by omega); rw [numR_read (k := 2) (.inr (.inl rfl)) (by omega), ← hn] at this; exact this)
          have HNN := Lib.hid hn
          clear hn
          by_cases h2 : (s.size : Int) - (b0 : Int) - 2 < (n : Int)
          · have H2 := Lib.hid h2
            go_wp2_with (first | (go_at_call 20; refine (has_any _ _ _ F0.out FM.out (by first | exact .inr (.inl rfl) | exact .inr (.inr (.inl rfl)) | exact .inr (.inr (.inr (.inl rfl))) | exact .inr (.inr (.inr (.inr rfl))))).mono ?_; rintro e' w' ⟨rfl, rfl⟩) | (go_at_call 32; refine (HN.out _).mono ?_; rintro e' w' ⟨rfl, rfl⟩) | (refine wpList_store_row rfl 23 _ _ rfl w.heap.size (z9) rfl rfl _ _ K2.out.r sizeHd rfl (one9 _ _ _ _ _ _ _ _ _) ?_))
            refine bodyPost_ret (v := .tuple #[.agg z9, .int .i64 0, .int .i64 2]) (results_cell3 rfl _ _ w.heap.size 23 z9 _ _ _ rfl rfl rfl (setRow_heap _ _ _ _ _ _ K2.out.r) Try.underlying23 rfl sizeHd) rfl ?_
            exact psA_no rfl (.inr ⟨p, 0, rfl, prs_e1 HPO.out (st1_e2 HF.out (by have h9 := HNN.out; rw [HB0.out] at h9; rw [← h9]; have := HLL.out; have := HB0.out; have := HSH.out; have := H2.out; omega)), rfl⟩) (below_row K2.out.b (Nat.le_refl _) _)
          · have H2 := Lib.hid h2
            obtain ⟨xE, hxE⟩ : ∃ x, x = s.extract (b0 + 2) (b0 + 2 + n) := ⟨_, rfl⟩
            have hsl2 : ∀ u, (Instr.slice 9 (.string s) (some (.int .i64 ((b0 : Int) + 2))) (some (.int .i64 ((b0 : Int) + 2 + (n : Int)))) none).run Try.prog u = .ok (.string xE) u := fun u => by rw [hxE]; exact cut_mid (a := b0 + 2) (by omega) (by push_cast; rfl) u
            have HXE := Lib.hid (show xE.data.toList = (s.data.toList.drop (b0 + 2)).take n by rw [hxE, ext_list]; congr 1; omega)
            clear hxE
            have c1 : u2.cell? ⟨H, 1, none⟩ = some (.string ⟨#[]⟩) := K2.out.h.cell 1
            have f1 := K2.out.h.frozen 1
            go_wp2_with (first | (go_at_call 20; refine (has_any _ _ _ F0.out FM.out (by first | exact .inr (.inl rfl) | exact .inr (.inr (.inl rfl)) | exact .inr (.inr (.inr (.inl rfl))) | exact .inr (.inr (.inr (.inr rfl))))).mono ?_; rintro e' w' ⟨rfl, rfl⟩) | (go_at_call 32; refine (HN.out _).mono ?_; rintro e' w' ⟨rfl, rfl⟩))
            go_meet
            refine ⟨b0 + 2 + n, xE, by push_cast; rfl, Lib.hid ?_, Lib.hid (K2.out.put 1 (.string xE))⟩
            have k1 := st1_ok (l := s.data.toList) (p := p) HF.out (by have := HLL.out; have := HB0.out; have := HSH.out; omega) (by have h9 := HNN.out; rw [HB0.out] at h9; rw [← h9]; have := HLL.out; have := HB0.out; have := HSH.out; have := H2.out; omega)
            rw [HXE.out, HNN.out, HB0.out]
            exact k1
    case rest =>
      obtain ⟨b1, xE, rfl, S1, K3⟩ := hcut
      generalize wc = u9 at *
      have l1 : b1 ≤ s.size := by have := S1.out.2.2; have := HLL.out; omega
      go_upto_if 112 with (go_at_call 20; refine (has_any _ _ _ F0.out FM.out (by first | exact .inr (.inl rfl) | exact .inr (.inr (.inl rfl)) | exact .inr (.inr (.inr (.inl rfl))) | exact .inr (.inr (.inr (.inr rfl))))).mono ?_; rintro e' w' ⟨rfl, rfl⟩)
      go_cut [11] (fun s11 wx => ∃ (b2 : Nat) (xN : ByteArray), s11 = .int .i64 (b2 : Int) ∧ Hid (st2 s.data.toList F 8 b1 b2 xN.data.toList) ∧ Hid (rs w H wx (cs9 T xE xN ⟨#[]⟩ (x8.toNat : Int) (x9.toNat : Int) (hsF (F : Int) 1) (hsF (F : Int) 2) ((F : Int) / 4 * 4))))
      case first =>
        cases h4 : hsF (F : Int) 8
        · have HF : Hid (¬ F / 8 % 2 = 1) := Lib.hid (by have := hs_iff F 8; intro k9; rw [decide_eq_true k9] at this; exact absurd (this.symm.trans h4) (by simp))
          go_wp2_with (go_at_call 20; refine (has_any _ _ _ F0.out FM.out (by first | exact .inr (.inl rfl) | exact .inr (.inr (.inl rfl)) | exact .inr (.inr (.inr (.inl rfl))) | exact .inr (.inr (.inr (.inr rfl))))).mono ?_; rintro e' w' ⟨rfl, rfl⟩)
          go_meet
          exact ⟨b1, ⟨#[]⟩, rfl, Lib.hid (st2_no HF.out (by have := HLL.out; omega)), K3⟩
        · have HF : Hid (F / 8 % 2 = 1) := Lib.hid (by have := hs_iff F 8; exact of_decide_eq_true (this.symm.trans h4))
          have hen := ended_any s b1 u9 (by omega) (by omega)
          cases hq : endQ (s.data.toList.drop b1) with
          | none =>
            have HE : Hid (∀ u, Calls Try.prog 33 #[.string s, .int .i64 (b1 : Int)] u fun e' w' => e' = .returned (.tuple #[.string ⟨#[]⟩, .int .i64 (-1)]) ∧ u = w') := Lib.hid (fun u => (ended_any s b1 u (by omega) (by omega)).mono fun e' w' ⟨⟨x1, z1, h1, h2⟩, h3⟩ => ⟨(by
              rcases h2 with ⟨_, g2, g3⟩ | ⟨t, r, g1, _⟩
              · rw [h1, g2, g3]
              · rw [hq] at g1; cases g1), h3⟩)
            have HQ := Lib.hid hq
            clear hq hen
            go_wp2_with (first | (go_at_call 20; refine (has_any _ _ _ F0.out FM.out (by first | exact .inr (.inl rfl) | exact .inr (.inr (.inl rfl)) | exact .inr (.inr (.inr (.inl rfl))) | exact .inr (.inr (.inr (.inr rfl))))).mono ?_; rintro e' w' ⟨rfl, rfl⟩) | (go_at_call 33; refine (HE.out _).mono ?_; rintro e' w' ⟨rfl, rfl⟩) | (refine wpList_store_row rfl 23 _ _ rfl w.heap.size (z9) rfl rfl _ _ K3.out.r sizeHd rfl (one9 _ _ _ _ _ _ _ _ _) ?_))
            refine bodyPost_ret (v := .tuple #[.agg z9, .int .i64 0, .int .i64 2]) (results_cell3 rfl _ _ w.heap.size 23 z9 _ _ _ rfl rfl rfl (setRow_heap _ _ _ _ _ _ K3.out.r) Try.underlying23 rfl sizeHd) rfl ?_
            exact psA_no rfl (.inr ⟨p, 0, rfl, prs_e2 HPO.out S1.out (st2_e HF.out HQ.out), rfl⟩) (below_row K3.out.b (Nat.le_refl _) _)
          | some pr =>
            obtain ⟨t, r⟩ := pr
            have HS := Lib.hid (st2_ok (k := 8) HF.out hq (by have := HLL.out; omega))
            obtain ⟨xN, hxN⟩ : ∃ x : ByteArray, x = ⟨t.toArray⟩ := ⟨_, rfl⟩
            obtain ⟨b2, hb2⟩ : ∃ b9, b9 = b1 + t.length + 1 := ⟨_, rfl⟩
            have HX := Lib.hid (show xN.data.toList = t by rw [hxN])
            have HBN := Lib.hid hb2
            have HE : Hid (∀ u, Calls Try.prog 33 #[.string s, .int .i64 (b1 : Int)] u fun e' w' => e' = .returned (.tuple #[.string xN, .int .i64 (b2 : Int)]) ∧ u = w') := Lib.hid (fun u => (ended_any s b1 u (by omega) (by omega)).mono fun e' w' ⟨⟨x1, z1, h1, h2⟩, h3⟩ => ⟨(by
              rcases h2 with ⟨g1, _, _⟩ | ⟨t', r', g1, g2, g3⟩
              · rw [hq] at g1; cases g1
              · rw [hq] at g1; injection g1 with g1; injection g1 with g1 _
                rw [h1, g3, hb2, show x1 = xN from (str_list (g2.trans g1.symm)).trans hxN.symm, g1]), h3⟩)
            have hz0 : ¬ (b2 : Int) < 0 := by omega
            clear hq hen hxN hb2
            have c1 : u9.cell? ⟨H, 2, none⟩ = some (.string ⟨#[]⟩) := K3.out.h.cell 2
            have f1 := K3.out.h.frozen 2
            go_wp2_with (first | (go_at_call 20; refine (has_any _ _ _ F0.out FM.out (by first | exact .inr (.inl rfl) | exact .inr (.inr (.inl rfl)) | exact .inr (.inr (.inr (.inl rfl))) | exact .inr (.inr (.inr (.inr rfl))))).mono ?_; rintro e' w' ⟨rfl, rfl⟩) | (go_at_call 33; refine (HE.out _).mono ?_; rintro e' w' ⟨rfl, rfl⟩))
            go_meet
            exact ⟨b2, xN, rfl, Lib.hid (by rw [HX.out, HBN.out]; exact HS.out), Lib.hid (K3.out.put 2 (.string xN))⟩
      case rest =>
        clear K3
        obtain ⟨b2, xN, rfl, S2, K4⟩ := hcut
        generalize wc = u9 at *
        have l2 : b2 ≤ s.size := by have := S2.out.2.2; have := HLL.out; omega
        go_upto_if 126 with (go_at_call 20; refine (has_any _ _ _ F0.out FM.out (by first | exact .inr (.inl rfl) | exact .inr (.inr (.inl rfl)) | exact .inr (.inr (.inr (.inl rfl))) | exact .inr (.inr (.inr (.inr rfl))))).mono ?_; rintro e' w' ⟨rfl, rfl⟩)
        go_cut [11] (fun s11 wx => ∃ (b3 : Nat) (xC : ByteArray), s11 = .int .i64 (b3 : Int) ∧ Hid (st2 s.data.toList F 16 b2 b3 xC.data.toList) ∧ Hid (rs w H wx (cs9 T xE xN xC (x8.toNat : Int) (x9.toNat : Int) (hsF (F : Int) 1) (hsF (F : Int) 2) ((F : Int) / 4 * 4))))
        case first =>
          cases h4 : hsF (F : Int) 16
          · have HF : Hid (¬ F / 16 % 2 = 1) := Lib.hid (by have := hs_iff F 16; intro k9; rw [decide_eq_true k9] at this; exact absurd (this.symm.trans h4) (by simp))
            go_wp2_with (go_at_call 20; refine (has_any _ _ _ F0.out FM.out (by first | exact .inr (.inl rfl) | exact .inr (.inr (.inl rfl)) | exact .inr (.inr (.inr (.inl rfl))) | exact .inr (.inr (.inr (.inr rfl))))).mono ?_; rintro e' w' ⟨rfl, rfl⟩)
            go_meet
            exact ⟨b2, ⟨#[]⟩, rfl, Lib.hid (st2_no HF.out (by have := HLL.out; omega)), K4⟩
          · have HF : Hid (F / 16 % 2 = 1) := Lib.hid (by have := hs_iff F 16; exact of_decide_eq_true (this.symm.trans h4))
            have hen := ended_any s b2 u9 (by omega) (by omega)
            cases hq : endQ (s.data.toList.drop b2) with
            | none =>
              have HE : Hid (∀ u, Calls Try.prog 33 #[.string s, .int .i64 (b2 : Int)] u fun e' w' => e' = .returned (.tuple #[.string ⟨#[]⟩, .int .i64 (-1)]) ∧ u = w') := Lib.hid (fun u => (ended_any s b2 u (by omega) (by omega)).mono fun e' w' ⟨⟨x1, z1, h1, h2⟩, h3⟩ => ⟨(by
                rcases h2 with ⟨_, g2, g3⟩ | ⟨t, r, g1, _⟩
                · rw [h1, g2, g3]
                · rw [hq] at g1; cases g1), h3⟩)
              have HQ := Lib.hid hq
              clear hq hen
              go_wp2_with (first | (go_at_call 20; refine (has_any _ _ _ F0.out FM.out (by first | exact .inr (.inl rfl) | exact .inr (.inr (.inl rfl)) | exact .inr (.inr (.inr (.inl rfl))) | exact .inr (.inr (.inr (.inr rfl))))).mono ?_; rintro e' w' ⟨rfl, rfl⟩) | (go_at_call 33; refine (HE.out _).mono ?_; rintro e' w' ⟨rfl, rfl⟩) | (refine wpList_store_row rfl 23 _ _ rfl w.heap.size (z9) rfl rfl _ _ K4.out.r sizeHd rfl (one9 _ _ _ _ _ _ _ _ _) ?_))
              refine bodyPost_ret (v := .tuple #[.agg z9, .int .i64 0, .int .i64 2]) (results_cell3 rfl _ _ w.heap.size 23 z9 _ _ _ rfl rfl rfl (setRow_heap _ _ _ _ _ _ K4.out.r) Try.underlying23 rfl sizeHd) rfl ?_
              exact psA_no rfl (.inr ⟨p, 0, rfl, prs_e3 HPO.out S1.out S2.out (st2_e HF.out HQ.out), rfl⟩) (below_row K4.out.b (Nat.le_refl _) _)
            | some pr =>
              obtain ⟨t, r⟩ := pr
              have HS := Lib.hid (st2_ok (k := 16) HF.out hq (by have := HLL.out; omega))
              obtain ⟨xC, hxC⟩ : ∃ x : ByteArray, x = ⟨t.toArray⟩ := ⟨_, rfl⟩
              obtain ⟨b3, hb3⟩ : ∃ b9, b9 = b2 + t.length + 1 := ⟨_, rfl⟩
              have HX := Lib.hid (show xC.data.toList = t by rw [hxC])
              have HBN := Lib.hid hb3
              have HE : Hid (∀ u, Calls Try.prog 33 #[.string s, .int .i64 (b2 : Int)] u fun e' w' => e' = .returned (.tuple #[.string xC, .int .i64 (b3 : Int)]) ∧ u = w') := Lib.hid (fun u => (ended_any s b2 u (by omega) (by omega)).mono fun e' w' ⟨⟨x1, z1, h1, h2⟩, h3⟩ => ⟨(by
                rcases h2 with ⟨g1, _, _⟩ | ⟨t', r', g1, g2, g3⟩
                · rw [hq] at g1; cases g1
                · rw [hq] at g1; injection g1 with g1; injection g1 with g1 _
                  rw [h1, g3, hb3, show x1 = xC from (str_list (g2.trans g1.symm)).trans hxC.symm, g1]), h3⟩)
              have hz0 : ¬ (b3 : Int) < 0 := by omega
              clear hq hen hxC hb3
              have c1 : u9.cell? ⟨H, 3, none⟩ = some (.string ⟨#[]⟩) := K4.out.h.cell 3
              have f1 := K4.out.h.frozen 3
              go_wp2_with (first | (go_at_call 20; refine (has_any _ _ _ F0.out FM.out (by first | exact .inr (.inl rfl) | exact .inr (.inr (.inl rfl)) | exact .inr (.inr (.inr (.inl rfl))) | exact .inr (.inr (.inr (.inr rfl))))).mono ?_; rintro e' w' ⟨rfl, rfl⟩) | (go_at_call 33; refine (HE.out _).mono ?_; rintro e' w' ⟨rfl, rfl⟩))
              go_meet
              exact ⟨b3, xC, rfl, Lib.hid (by rw [HX.out, HBN.out]; exact HS.out), Lib.hid (K4.out.put 3 (.string xC))⟩
        case rest =>
          clear K4
          obtain ⟨b3, xC, rfl, S3', K5⟩ := hcut
          generalize wc = u9 at *
          have l3 : b3 ≤ s.size := by have := S3'.out.2.2; have := HLL.out; omega
          have HFIN := Lib.hid (prs_fin HPO.out S1.out S2.out S3'.out)
          have hpb : p ≤ b3 := by have := S1.out.2.1; have := S2.out.2.1; have := S3'.out.2.1; omega
          have HHE : Hid (heQ F (s.data.toList.drop p) xE.data.toList xN.data.toList xC.data.toList = hq T xE xN xC (x8.toNat : Int) (x9.toNat : Int) (hsF (F : Int) 1) (hsF (F : Int) 2) ((F : Int) / 4 * 4)) := Lib.hid (by
            unfold heQ hq
            rw [← E8.out, ← E9.out, List.drop_drop, ← HT.out, show hsF (F : Int) 1 = decide (F % 2 = 1) by rw [show (1 : Int) = ((1 : Nat) : Int) from rfl, hs_iff, Nat.div_one], show hsF (F : Int) 2 = decide (F / 2 % 2 = 1) from hs_iff F 2]
            congr 1)
          cases h4 : hsF (F : Int) 2
          · have HF : Hid (¬ F / 2 % 2 = 1) := Lib.hid (by have := hs_iff F 2; intro k9; rw [decide_eq_true k9] at this; exact absurd (this.symm.trans h4) (by simp))
            rw [h4] at K5 HHE
            obtain ⟨n0, n1, n2, n3, n4, n5, n6, n7, n8⟩ := nine K5.out.h
            go_wp2_with (first | (go_at_call 20; refine (has_any _ _ _ F0.out FM.out (by first | exact .inr (.inl rfl) | exact .inr (.inr (.inl rfl)) | exact .inr (.inr (.inr (.inl rfl))) | exact .inr (.inr (.inr (.inr rfl))))).mono ?_; rintro e' w' ⟨rfl, rfl⟩) | (go_at_call 32; refine (HN.out _).mono ?_; rintro e' w' ⟨rfl, rfl⟩) | (go_at_call 21; refine (HO.out _).mono ?_; rintro e' w' ⟨rfl, rfl⟩) | (refine wpList_store_row rfl 23 _ _ rfl w.heap.size (cs9 T xE xN xC (x8.toNat : Int) (x9.toNat : Int) (hsF (F : Int) 1) false ((F : Int) / 4 * 4)) rfl rfl _ _ K5.out.r sizeHd rfl (one9 _ _ _ _ _ _ _ _ _) ?_))
            refine bodyPost_ret (v := .tuple #[.agg (cs9 T xE xN xC (x8.toNat : Int) (x9.toNat : Int) (hsF (F : Int) 1) false ((F : Int) / 4 * 4)), .int .i64 ((b3 : Int)), .int .i64 0]) (results_cell3 rfl _ _ w.heap.size 23 (cs9 T xE xN xC (x8.toNat : Int) (x9.toNat : Int) (hsF (F : Int) 1) false ((F : Int) / 4 * 4)) _ _ _ rfl rfl rfl (setRow_heap _ _ _ _ _ _ K5.out.r) Try.underlying23 rfl sizeHd) rfl ?_
            exact ⟨⟨T, xE, xN, xC, _, _, hsF (F : Int) 1, false, _, (b3 : Int), 0, rfl, .inr ⟨p, b3 - p, rfl, by have h9 := HFIN.out; rw [if_neg HF.out] at h9; rw [h9, HHE.out], by rw [if_pos rfl]; omega⟩⟩, below_row K5.out.b (Nat.le_refl _) _⟩
          · have HF : Hid (F / 2 % 2 = 1) := Lib.hid (by have := hs_iff F 2; exact of_decide_eq_true (this.symm.trans h4))
            by_cases hsh : s.size < b3 + 2
            · have HSH := Lib.hid hsh
              have HN : Hid (∀ u, Calls Try.prog 32 #[.string s, .int .i64 (b3 : Int), .int .i64 2] u fun e' w' => e' = .returned (.tuple #[.int .i64 0, .int .i64 2]) ∧ u = w') := Lib.hid (fun u => by have := Vx.rNumber_any s (b3 : Int) ((2 : Nat) : Int) u (by omega) (by omega); rw [numR_none (k := 2) (.inr (.inl rfl)) hsh l3] at this; exact this)
              go_wp2_with (first | (go_at_call 20; refine (has_any _ _ _ F0.out FM.out (by first | exact .inr (.inl rfl) | exact .inr (.inr (.inl rfl)) | exact .inr (.inr (.inr (.inl rfl))) | exact .inr (.inr (.inr (.inr rfl))))).mono ?_; rintro e' w' ⟨rfl, rfl⟩) | (go_at_call 32; refine (HN.out _).mono ?_; rintro e' w' ⟨rfl, rfl⟩) | (refine wpList_store_row rfl 23 _ _ rfl w.heap.size (z9) rfl rfl _ _ K5.out.r sizeHd rfl (one9 _ _ _ _ _ _ _ _ _) ?_))
              refine bodyPost_ret (v := .tuple #[.agg z9, .int .i64 0, .int .i64 2]) (results_cell3 rfl _ _ w.heap.size 23 z9 _ _ _ rfl rfl rfl (setRow_heap _ _ _ _ _ _ K5.out.r) Try.underlying23 rfl sizeHd) rfl ?_
              exact psA_no rfl (.inr ⟨p, 0, rfl, by have h9 := HFIN.out; rw [if_pos HF.out, if_pos (by have := HLL.out; have := HSH.out; omega)] at h9; rw [h9], rfl⟩) (below_row K5.out.b (Nat.le_refl _) _)
            · have HSH := Lib.hid hsh
              obtain ⟨n, hn⟩ : ∃ n, n = num ((s.data.toList.drop b3).take 2) := ⟨_, rfl⟩
              have HN : Hid (∀ u, Calls Try.prog 32 #[.string s, .int .i64 (b3 : Int), .int .i64 2] u fun e' w' => e' = .returned (.tuple #[.int .i64 (n : Int), .int .i64 0]) ∧ u = w') := Lib.hid (fun u => by have := Vx.rNumber_any s (b3 : Int) ((2 : Nat) : Int) u (by omega) (by omega); rw [numR_read (k := 2) (.inr (.inl rfl)) (by omega), ← hn] at this; exact this)
              have HNN := Lib.hid hn
              obtain ⟨S, hS⟩ : ∃ S, S = s.extract p b3 := ⟨_, rfl⟩
              have hsl4 : ∀ u, (Instr.slice 9 (.string s) (some (.int .i64 (p : Int))) (some (.int .i64 (b3 : Int))) none).run Try.prog u = .ok (.string S) u := fun u => by rw [hS]; exact cut_two hpb l3 u
              have HO := Lib.hid (fun u => rOf_val S u (by rw [hS, ByteArray.size_extract]; omega))
              have HCR := Lib.hid (show crS2 S = crl ((s.data.toList.drop p).take (b3 - p)) by unfold crS2; rw [hS, ext_list])
              clear hS hn
              obtain ⟨cz, hcz⟩ : ∃ cz, cz = crS2 S := ⟨_, rfl⟩
              rw [← hcz] at HO HCR
              clear hcz
              by_cases h2 : (n : Int) = (cz : Int) % 65536
              · have H2 := Lib.hid h2
                have hq2 : ((n : Int) != (cz : Int) % 65536) = false := by simpa using h2
                clear h2
                rw [h4] at K5 HHE
                obtain ⟨n0, n1, n2, n3, n4, n5, n6, n7, n8⟩ := nine K5.out.h
                go_wp2_with (first | (go_at_call 20; refine (has_any _ _ _ F0.out FM.out (by first | exact .inr (.inl rfl) | exact .inr (.inr (.inl rfl)) | exact .inr (.inr (.inr (.inl rfl))) | exact .inr (.inr (.inr (.inr rfl))))).mono ?_; rintro e' w' ⟨rfl, rfl⟩) | (go_at_call 32; refine (HN.out _).mono ?_; rintro e' w' ⟨rfl, rfl⟩) | (go_at_call 21; refine (HO.out _).mono ?_; rintro e' w' ⟨rfl, rfl⟩) | (refine wpList_store_row rfl 23 _ _ rfl w.heap.size (cs9 T xE xN xC (x8.toNat : Int) (x9.toNat : Int) (hsF (F : Int) 1) true ((F : Int) / 4 * 4)) rfl rfl _ _ K5.out.r sizeHd rfl (one9 _ _ _ _ _ _ _ _ _) ?_))
                refine bodyPost_ret (v := .tuple #[.agg (cs9 T xE xN xC (x8.toNat : Int) (x9.toNat : Int) (hsF (F : Int) 1) true ((F : Int) / 4 * 4)), .int .i64 (((b3 : Int) + 2)), .int .i64 0]) (results_cell3 rfl _ _ w.heap.size 23 (cs9 T xE xN xC (x8.toNat : Int) (x9.toNat : Int) (hsF (F : Int) 1) true ((F : Int) / 4 * 4)) _ _ _ rfl rfl rfl (setRow_heap _ _ _ _ _ _ K5.out.r) Try.underlying23 rfl sizeHd) rfl ?_
                exact ⟨⟨T, xE, xN, xC, _, _, hsF (F : Int) 1, true, _, (b3 : Int) + 2, 0, rfl, .inr ⟨p, b3 - p + 2, rfl, by have h9 := HFIN.out; rw [if_pos HF.out, if_neg (by have := HLL.out; have := HSH.out; omega), if_neg (by have k1 := HNN.out; have k2 := HCR.out; rw [← k1, ← k2]; have := H2.out; omega)] at h9; rw [h9, HHE.out], by rw [if_pos rfl]; omega⟩⟩, below_row K5.out.b (Nat.le_refl _) _⟩
              · have H2 := Lib.hid h2
                have hq2 : ((n : Int) != (cz : Int) % 65536) = true := by simpa using h2
                clear h2
                go_wp2_with (first | (go_at_call 20; refine (has_any _ _ _ F0.out FM.out (by first | exact .inr (.inl rfl) | exact .inr (.inr (.inl rfl)) | exact .inr (.inr (.inr (.inl rfl))) | exact .inr (.inr (.inr (.inr rfl))))).mono ?_; rintro e' w' ⟨rfl, rfl⟩) | (go_at_call 32; refine (HN.out _).mono ?_; rintro e' w' ⟨rfl, rfl⟩) | (go_at_call 21; refine (HO.out _).mono ?_; rintro e' w' ⟨rfl, rfl⟩) | (refine wpList_store_row rfl 23 _ _ rfl w.heap.size (z9) rfl rfl _ _ K5.out.r sizeHd rfl (one9 _ _ _ _ _ _ _ _ _) ?_))
                refine bodyPost_ret (v := .tuple #[.agg z9, .int .i64 0, .int .i64 5]) (results_cell3 rfl _ _ w.heap.size 23 z9 _ _ _ rfl rfl rfl (setRow_heap _ _ _ _ _ _ K5.out.r) Try.underlying23 rfl sizeHd) rfl ?_
                exact psA_no rfl (.inr ⟨p, 0, rfl, by have h9 := HFIN.out; rw [if_pos HF.out, if_neg (by have := HLL.out; have := HSH.out; omega), if_pos (by have k1 := HNN.out; have k2 := HCR.out; rw [← k1, ← k2]; have := H2.out; omega)] at h9; rw [h9], rfl⟩) (below_row K5.out.b (Nat.le_refl _) _)
end Go.Proofs.Ytgilfjojimgpaaa.Qr
