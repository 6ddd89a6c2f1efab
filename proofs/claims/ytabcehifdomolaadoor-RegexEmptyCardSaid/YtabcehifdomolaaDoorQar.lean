/-
  The program's atom: what is in brackets.
  The program's reader of expressions, and Parse.
  Conditions: as each theorem says.
-/
import Derived.Test.YtabcehifdomolaaDoorQaq
namespace Go.Proofs.YtabcehifdomolaaDoor.Eab
open Go.RowKit Go.PlainAid Go.Proofs.YtabcehifdomolaaDoor.Vm Go.Proofs.YtabcehifdomolaaDoor.Vo Go.Proofs.YtabcehifdomolaaDoor.Bw Go.Proofs.YtabcehifdomolaaDoor.Na Go.Proofs.YtabcehifdomolaaDoor.Ko Go.Proofs.YtabcehifdomolaaDoor.Tm Go.Proofs.YtabcehifdomolaaDoor.Ts Go.Proofs.YtabcehifdomolaaDoor.Ta Go.Proofs.YtabcehifdomolaaDoor.Tb Go.Proofs.YtabcehifdomolaaDoor.Td Go.Proofs.YtabcehifdomolaaDoor.Tf Go.Proofs.YtabcehifdomolaaDoor.Rm Go.Proofs.YtabcehifdomolaaDoor.Rs Go.Proofs.YtabcehifdomolaaDoor.Rv Go.Proofs.YtabcehifdomolaaDoor.Ru Go.Proofs.YtabcehifdomolaaDoor.Ra Go.Proofs.YtabcehifdomolaaDoor.Ed Go.Proofs.YtabcehifdomolaaDoor.En Go.Proofs.YtabcehifdomolaaDoor.Ep Go.Proofs.YtabcehifdomolaaDoor.Em Go.Proofs.YtabcehifdomolaaDoor.Ek Go.Proofs.YtabcehifdomolaaDoor.Tj Go.Proofs.YtabcehifdomolaaDoor.Ecl Go.Proofs.YtabcehifdomolaaDoor.Ecm Go.Proofs.YtabcehifdomolaaDoor.Ein Go.Proofs.YtabcehifdomolaaDoor.Er Go.Proofs.YtabcehifdomolaaDoor.Eo Go.Proofs.YtabcehifdomolaaDoor.Es Go.Proofs.YtabcehifdomolaaDoor.Et Go.Proofs.YtabcehifdomolaaDoor.Ex Go.Proofs.YtabcehifdomolaaDoor.Eu Go.Proofs.YtabcehifdomolaaDoor.Epa

/-- What alt leaves. -/
def altQ (s : ByteArray) (a F : Nat) (l : List Nd) (a' : Nat) (c q : Int) : Prop :=
  (∃ t, prs F .alt (rst s a) = .ok t (rst s a') ∧ l = enc t ∧ okT t ∧ a ≤ a' ∧ c = 0 ∧ q = 0 ∧ l.length + 1 ≤ 2 * (a' - a) + 2) ∨ (∃ e k : Nat, prs F .alt (rst s a) = .err e k ∧ e ≠ 0 ∧ c = (e : Int) ∧ q = ((s.size - k : Nat) : Int) ∧ a' = s.size ∧ l.length + 1 ≤ 2 * (s.size - a) + 2)
theorem altQ_of {s : ByteArray} {g a F : Nat} {l : List Nd} {w : World} (h : res s g 2 a (prs F .alt (rst s a)) l w) : ∃ a' c q, a' ≤ s.size ∧ par w g s a' c q ∧ ((c = 0 ∧ q = 0) ∨ (c ≠ 0 ∧ a' = s.size)) ∧ altQ s a F l a' c q := by
  cases hq : prs F .alt (rst s a) with
  | err e k =>
    rw [hq] at h
    obtain ⟨⟨h1, h2⟩, h3⟩ := h
    exact ⟨_, _, _, Nat.le_refl _, h2, .inr ⟨by omega, rfl⟩, .inr ⟨e, k, hq, h1, rfl, rfl, rfl, h3⟩⟩
  | ok t r =>
    rw [hq] at h
    obtain ⟨h1, h2, a', h3, h4, h5, h6, h7⟩ := h
    exact ⟨a', 0, 0, h4, h6, .inl ⟨rfl, rfl⟩, .inl ⟨t, by rw [hq, h5], h1, h2, h3, rfl, rfl, h7⟩⟩
set_option maxHeartbeats 4000000 in
set_option maxRecDepth 100000 in
theorem atom_par {s : ByteArray} {g a F : Nat} {n : Nat} (HC : Hid (reads 22 .alt 2 n)) (hn : s.size ≤ a + 1 + n) (hF : need .alt (s.size - (a + 1)) ≤ F) {r : List Nat} (hs : s.size ≤ 512) (hr : rst s a = 40 :: r) {w : World} (H : Hid (par w g s a 0 0)) :
    Calls Tryd.prog 67 #[.pointer (some ⟨g, 0, none⟩)] w fun e w' => ∃ v l, e = .returned v ∧ slT w' v l ∧ res s g 0 a (prs (F + 1) .atom (rst s a)) l w' ∧ Only (· = g) w w' := by
  have hb := get_bt s
  obtain ⟨hal, hc, hbt, hr1⟩ := rst_next hr
  have hs1 : s.size ≤ 1000000 := by omega
  have hlen := rst_len s a
  rw [hr, List.length_cons] at hlen
  have HG := Lib.hid H.out.lt
  have hix : (a : Int) < (s.size : Int) := by omega
  have ha0 : (0 : Int) ≤ (a : Int) := by omega
  have ha1 : (a : Int) ≤ 1000000 := by omega
  have c0 := H.out.c0
  have c1 := H.out.c1
  have HRd : Hid (∀ u, par u g s (a + 1) 0 0 → left s g (altQ s (a + 1) F) 22 u) := Lib.hid (fun u hu => by
    refine (HC.out s g (a + 1) F u hs (by omega) (by omega) (by intro h; cases h) hF hu).mono ?_
    rintro e w' ⟨v, l, h1, h2, h3, h4⟩
    obtain ⟨a', c, q, k1, k2, k3, k4⟩ := altQ_of h3
    exact ⟨v, l, a', c, q, h1, h2, k1, k2, k3, k4, h4⟩)
  have HIN : Hid (∀ u, par u g s a 0 0 → Calls Tryd.prog 74 #[.pointer (some ⟨g, 0, none⟩), .func (.func 22) #[.pointer (some ⟨g, 0, none⟩)] #[], .string ⟨#[41]⟩] u fun e w' => ∃ v l, e = .returned v ∧ slT w' v l ∧ res s g 0 a (prs (F + 1) .atom (rst s a)) l w' ∧ Only (· = g) u w') := Lib.hid (fun u hu => by
    refine (inside_alt hs1 (by omega) HRd (Lib.hid hu)).mono ?_
    rintro e w' ⟨v, l, a', c, q, a2, c2, q2, h1, h2, h3, h4, h5, h6, h7⟩
    refine ⟨v, l, h1, h2, ?_, h7⟩
    have hE : prs (F + 1) .atom (rst s a) = (match prs F .alt (rst s (a + 1)) with
      | .err e k => .err e k
      | .ok t r2 => match r2 with
        | d :: r3 => if d = 41 then .ok t r3 else .err 16 (r.length + 1)
        | [] => .err 16 (r.length + 1)) := by
      rw [hr, hr1]
      conv => lhs; unfold prs
      simp only [if_true]
      rfl
    rw [hE]
    rcases h4 with ⟨t, k1, k2, k3, k4, rfl, rfl, k5⟩ | ⟨e, k, k1, k2, rfl, rfl, rfl, k5⟩
    · rw [k1]
      rcases h5 with ⟨hx, rfl, _, _, rfl, rfl⟩ | ⟨hx, rfl, ⟨_, _, rfl, rfl⟩ | ⟨h, _⟩⟩
      · have hlt : a' < s.size := by
          rcases Nat.lt_or_ge a' s.size with h | h
          · exact h
          · rw [rst_nil h] at hx; cases hx
        obtain ⟨d, hd, hrd, _⟩ := rst_cons hlt
        have h41 : d = 41 := by
          have g1 := in_41 d hd
          rw [hrd] at hx
          have g2 : inQ ⟨#[41]⟩ d = true := hx
          rw [g2] at g1
          exact of_decide_eq_true g1.symm
        rw [hrd]
        show res s g 0 a (if d = 41 then .ok t (rst s (a' + 1)) else .err 16 (r.length + 1)) l w'
        rw [if_pos h41]
        exact ⟨k2, k3, a' + 1, by omega, by omega, rfl, h6, by omega⟩
      · have hres : res s g 0 a (.err 16 (r.length + 1)) l w' := ⟨dead_at (by decide) h6 (by omega), by omega⟩
        cases hrd : rst s a' with
        | nil => exact hres
        | cons d r3 =>
          show res s g 0 a (if d = 41 then .ok t r3 else .err 16 (r.length + 1)) l w'
          rw [if_neg]
          · exact hres
          · rintro rfl
            rw [nx_yes in_41 hrd rfl] at hx
            cases hx
      · exact absurd rfl h
    · rw [k1]
      rcases h5 with ⟨_, _, h, _⟩ | ⟨hx, rfl, ⟨h, _⟩ | ⟨_, rfl, rfl⟩⟩
      · omega
      · omega
      · exact ⟨⟨k2, h6⟩, by omega⟩)
  clear hr hr1 hlen hal hc hn hF HC
  go_enter Tryd.func67, Tryd.ntmps67
  go_wp2
  go_quiet (fail)
  simp only [Exit.then]
  clear c0 c1
  obtain ⟨w1, hw1⟩ : ∃ w1, w1 = w.drewN nq := ⟨_, rfl⟩
  have HP1 : Hid (par w1 g s a 0 0) := Lib.hid (by rw [hw1]; exact H.out.draws _)
  have HO1 : Hid (Only (· = g) w w1) := Lib.hid (by rw [hw1]; exact (Only.refl _ w).draws _)
  try rw [← hw1]
  clear hw1
  go_wp2_with (go_at_call 74; refine (HIN.out _ HP1.out).mono ?_; rintro e w9 ⟨v9, l9, rfl, ⟨A9, k9, rfl, h9⟩, hh, o⟩; have HS9 : Hid (slT w9 (.slice A9 l9.length k9) l9) := Lib.hid ⟨A9, k9, rfl, h9⟩; have HR9 := Lib.hid hh; have HO9 := Lib.hid (HO1.out.trans o); clear h9 hh o)
  go_ret
  exact ⟨_, l9, rfl, HS9.out, HR9.out, HO9.out⟩
/-- What class leaves. -/
def clsQ (s : ByteArray) (K : Nat) (C : Out (List Nat)) (l : List Nd) (a' : Nat) (c q : Int) : Prop := ∃ z, l = [⟨1, 0, z, 0, 0⟩] ∧ isSet z ∧
  ((∃ r', C = (if z = zero then .err 17 K else .ok z r') ∧ c = 0 ∧ q = 0 ∧ rst s a' = 93 :: r') ∨ (C = .err 16 K ∧ c = 0 ∧ q = 0 ∧ rst s a' = []) ∨ (∃ e k : Nat, C = .err e k ∧ e ≠ 0 ∧ c = (e : Int) ∧ q = ((s.size - k : Nat) : Int) ∧ a' = s.size))
theorem clsQ_of {s : ByteArray} {g K : Nat} {C : Out (List Nat)} {z : List Nat} {w : World} (h : claA s g K C z w) : ∃ a' c q, a' ≤ s.size ∧ par w g s a' c q ∧ ((c = 0 ∧ q = 0) ∨ (c ≠ 0 ∧ a' = s.size)) ∧ clsQ s K C [⟨1, 0, z, 0, 0⟩] a' c q := by
  obtain ⟨hz, ⟨r', h1, a', h2, h3, h4⟩ | ⟨h1, a', h2, h3, h4⟩ | ⟨e, k, h1, h2, h3⟩⟩ := h
  · exact ⟨a', 0, 0, h2, h3, .inl ⟨rfl, rfl⟩, z, rfl, hz, .inl ⟨r', h1, rfl, rfl, h4⟩⟩
  · exact ⟨a', 0, 0, h2, h3, .inl ⟨rfl, rfl⟩, z, rfl, hz, .inr (.inl ⟨h1, rfl, rfl, h4⟩)⟩
  · exact ⟨_, _, _, Nat.le_refl _, h3, .inr ⟨by omega, rfl⟩, z, rfl, hz, .inr (.inr ⟨e, k, h1, h2, rfl, rfl, rfl⟩)⟩
/-- A class as a part. -/
def setO (C : Out (List Nat)) : Out T := match C with
  | .err e k => .err e k
  | .ok a r => .ok (.set a) r
theorem atom_cls_list {F : Nat} {r : List Nat} : ∃ (neg : Bool) (r1 : List Nat), r = (if neg = true then 94 :: r1 else r1) ∧ (neg = false → ∀ r, r1 ≠ 94 :: r) ∧ prs (F + 1) .atom (91 :: r) = setO (clsP (r.length + 1) neg (r1.length + 1) zero r1) := by
  cases r with
  | nil => exact ⟨false, [], rfl, fun _ r => by simp, by unfold prs; rfl⟩
  | cons d r2 =>
    by_cases hd : d = 94
    · subst hd
      refine ⟨true, r2, rfl, by simp, ?_⟩
      unfold prs
      simp only [show ¬ (91 = 40) by decide, if_false, if_true]
      rfl
    · refine ⟨false, d :: r2, rfl, fun _ r e => by injection e with e _; exact hd e, ?_⟩
      unfold prs
      simp only [show ¬ (91 = 40) by decide, if_false, if_true, if_neg hd]
      rfl
/-- How a class in brackets ends, ahead of the look at an empty one. -/
def finC (s : ByteArray) (a K : Nat) (C : Out (List Nat)) (z : List Nat) (a2 : Nat) (c2 q2 : Int) : Prop :=
  (c2 = 0 ∧ q2 = 0 ∧ a2 ≤ s.size ∧ (z ≠ zero → a < a2) ∧ C = (if z = zero then .err 17 K else .ok z (rst s a2))) ∨ (∃ e k : Nat, a2 = s.size ∧ C = .err e k ∧ e ≠ 0 ∧ c2 = (e : Int) ∧ q2 = ((s.size - k : Nat) : Int))
theorem finC_of {s : ByteArray} {a K a' a2 : Nat} {c q c2 q2 : Int} {l : List Nd} {neg : Bool} {r r1 : List Nat} (hr : rst s a = 91 :: r) (hK : K = r.length + 1) (hr1 : r1.length ≤ r.length) (ha' : a' ≤ s.size) (h : clsQ s K (clsP K neg (r1.length + 1) zero r1) l a' c q) (hs : shut s ⟨#[93]⟩ a a' c q a2 c2 q2) : ∃ z, l = [⟨1, 0, z, 0, 0⟩] ∧ isSet z ∧ finC s a K (clsP K neg (r1.length + 1) zero r1) z a2 c2 q2 := by
  obtain ⟨z, hl, hz, h⟩ := h
  refine ⟨z, hl, hz, ?_⟩
  have hlen := rst_len s a
  rw [hr, List.length_cons] at hlen
  have hall := cls_all K neg (r1.length + 1) zero r1 zero_set (Nat.le_refl _)
  rcases h with ⟨r', hC, rfl, rfl, hra⟩ | ⟨hC, rfl, rfl, hra⟩ | ⟨e, k, hC, he, rfl, rfl, rfl⟩
  · rcases hs with ⟨hx, rfl, _, _, rfl, rfl⟩ | ⟨hx, _⟩
    · have hl2 := rst_next hra
      refine .inl ⟨rfl, rfl, hl2.1, fun hne => ?_, by rw [hC, hl2.2.2.2]⟩
      rw [hC, if_neg hne] at hall
      have h1 : r'.length < r1.length + 1 := by have := hall.2; omega
      have h2 := rst_len s a'
      rw [hra, List.length_cons] at h2
      omega
    · rw [nx_yes in_93 hra rfl] at hx
      cases hx
  · rcases hs with ⟨hx, _⟩ | ⟨hx, rfl, ⟨_, _, rfl, rfl⟩ | ⟨h, _⟩⟩
    · rw [hra] at hx; cases hx
    · exact .inr ⟨16, K, rfl, hC, by decide, rfl, by rw [show s.size - K = a by omega]⟩
    · exact absurd rfl h
  · rcases hs with ⟨_, _, h, _⟩ | ⟨hx, rfl, ⟨h, _⟩ | ⟨_, rfl, rfl⟩⟩
    · omega
    · omega
    · exact .inr ⟨e, k, rfl, hC, he, rfl, rfl⟩
set_option maxHeartbeats 4000000 in
set_option maxRecDepth 100000 in
theorem atom_cls {s : ByteArray} {g a F : Nat} {r : List Nat} (hs : s.size ≤ 512) (hr : rst s a = 91 :: r) {w : World} (H : Hid (par w g s a 0 0)) :
    Calls Tryd.prog 67 #[.pointer (some ⟨g, 0, none⟩)] w fun e w' => ∃ v l, e = .returned v ∧ slT w' v l ∧ res s g 0 a (prs (F + 1) .atom (rst s a)) l w' ∧ Only (· = g) w w' := by
  have hb := get_bt s
  obtain ⟨hal, hc, hbt, hr1⟩ := rst_next hr
  have hs1 : s.size ≤ 1000000 := by omega
  have hlen := rst_len s a
  rw [hr, List.length_cons] at hlen
  have HG := Lib.hid H.out.lt
  have hix : (a : Int) < (s.size : Int) := by omega
  have ha0 : (0 : Int) ≤ (a : Int) := by omega
  have ha1 : (a : Int) ≤ 1000000 := by omega
  have c0 := H.out.c0
  have c1 := H.out.c1
  obtain ⟨neg, r1, hrr, hne, hP⟩ := atom_cls_list (F := F) (r := r)
  have hrl : r1.length ≤ r.length := by rw [hrr]; split <;> simp
  obtain ⟨C, hC⟩ : ∃ C, C = clsP (r.length + 1) neg (r1.length + 1) zero r1 := ⟨_, rfl⟩
  have HQ : Hid (prs (F + 1) .atom (rst s a) = setO C) := Lib.hid (by rw [hr, hP, hC])
  have HRd : Hid (∀ u, par u g s (a + 1) 0 0 → left s g (clsQ s (r.length + 1) C) 75 u) := Lib.hid (fun u hu => by
    refine (class_any (K := r.length + 1) (neg := neg) (r1 := r1) hs1 (by omega) (by rw [hr1, hrr]) hne (Lib.hid hu)).mono ?_
    rintro e w' ⟨v, z, h1, h2, h3, h4⟩
    rw [← hC] at h3
    obtain ⟨a', c, q, k1, k2, k3, k4⟩ := clsQ_of h3
    exact ⟨v, _, a', c, q, h1, h2, k1, k2, k3, k4, h4⟩)
  have HIN : Hid (∀ u, par u g s a 0 0 → Calls Tryd.prog 74 #[.pointer (some ⟨g, 0, none⟩), .func (.func 75) #[.pointer (some ⟨g, 0, none⟩)] #[], .string ⟨#[93]⟩] u fun e w' => ∃ (b off cap x0 x1 x2 x3 a2 : Nat) (c2 q2 : Int), e = .returned (.slice (some ⟨b, off, none⟩) 1 cap) ∧ slT w' (.slice (some ⟨b, off, none⟩) 1 cap) [⟨1, 0, [x0, x1, x2, x3], 0, 0⟩] ∧ nd1 w' b off ⟨1, 0, [x0, x1, x2, x3], 0, 0⟩ ∧ finC s a (r.length + 1) C [x0, x1, x2, x3] a2 c2 q2 ∧ par w' g s a2 c2 q2 ∧ Only (· = g) u w') := Lib.hid (fun u hu => by
    refine (inside_class hs1 (by omega) HRd (Lib.hid hu)).mono ?_
    rintro e w' ⟨v, l, a', c, q, a2, c2, q2, h1, h2, h3, h4, h5, h6, h7⟩
    rw [hC] at h4
    obtain ⟨z, rfl, hz, hf⟩ := finC_of hr rfl hrl h3 h4 h5
    rw [← hC] at hf
    obtain ⟨x0, x1, x2, x3, rfl⟩ := four_of hz
    obtain ⟨A, cap, rfl, hx⟩ := h2
    obtain ⟨b, off, hA, _, hnd⟩ := hx.2.1 0 _ rfl
    subst hA
    exact ⟨b, off, cap, x0, x1, x2, x3, a2, c2, q2, h1, ⟨_, cap, rfl, hx⟩, by rw [show off + 0 * 8 = off by omega] at hnd; exact hnd, hf, h6, h7⟩)
  have HR : Hid (∀ (z : List Nat) (a2 : Nat) (c2 q2 : Int) w', z ≠ zero → isSet z → finC s a (r.length + 1) C z a2 c2 q2 → par w' g s a2 c2 q2 → res s g 0 a (setO C) [⟨1, 0, z, 0, 0⟩] w') := Lib.hid (fun z a2 c2 q2 w' hz hzs hf hp => by
    rcases hf with ⟨rfl, rfl, h1, h2, hCC⟩ | ⟨e, k, rfl, hCC, he, rfl, rfl⟩
    · rw [hCC, if_neg hz]
      have := h2 hz
      refine ⟨by rw [enc], by unfold okT; exact ⟨hzs, hz⟩, a2, by omega, h1, rfl, hp, by simp only [List.length_cons, List.length_nil]; omega⟩
    · rw [hCC]
      exact ⟨⟨he, hp⟩, by simp only [List.length_cons, List.length_nil]; omega⟩)
  have HZ : Hid (∀ (a2 : Nat) (c2 q2 : Int) u, finC s a (r.length + 1) C zero a2 c2 q2 → par u g s a2 c2 q2 → Calls Tryd.prog 23 #[.pointer (some ⟨g, 0, none⟩), .int .i64 17, .int .i64 (a : Int)] u fun r' w' => r' = .returned (.tuple #[]) ∧ res s g 0 a (setO C) [⟨1, 0, zero, 0, 0⟩] w' ∧ Only (· = g) u w') := Lib.hid (fun a2 c2 q2 u hf hp => by
    rcases hf with ⟨rfl, rfl, h1, h2, hCC⟩ | ⟨e, k, rfl, hCC, he, rfl, rfl⟩
    · rw [hCC, if_pos rfl]
      refine (fail_first 17 (a : Int) hp).mono ?_
      rintro e w' ⟨h3, h4, h5⟩
      exact ⟨h3, ⟨dead_at (by decide) h4 (by omega), by simp only [List.length_cons, List.length_nil]; omega⟩, h5⟩
    · rw [hCC]
      refine (fail_late 17 (a : Int) (by omega) hp).mono ?_
      rintro e' w' ⟨h3, h4, h5⟩
      exact ⟨h3, ⟨⟨he, h4⟩, by simp only [List.length_cons, List.length_nil]; omega⟩, h5⟩)
  have HES : Hid (∀ x0 x1 x2 x3 : Nat, ∃ zb : Bool, (zb = true ↔ [x0, x1, x2, x3] = zero) ∧ ∀ w, (Op.equalIn 10000 36 (.agg #[.int .u64 (x0 : Int), .int .u64 (x1 : Int), .int .u64 (x2 : Int), .int .u64 (x3 : Int)]) (.agg #[.int .u64 0, .int .u64 0, .int .u64 0, .int .u64 0])).run Tryd.prog w = .ok zb w) := Lib.hid (fun x0 x1 x2 x3 => ⟨_, by
    unfold zero
    simp only [List.cons.injEq, and_true, Bool.and_eq_true, beq_iff_eq]
    omega, fun w => eq_four x0 x1 x2 x3 0 0 0 0 w⟩)
  rw [HQ.out]
  generalize setO C = R at *
  clear hr hr1 hlen hal hc hrr hne hP hrl hC HQ HRd
  go_enter Tryd.func67, Tryd.ntmps67
  go_wp2
  go_quiet (fail)
  simp only [Exit.then]
  clear c0 c1
  obtain ⟨w1, hw1⟩ : ∃ w1, w1 = w.drewN nq := ⟨_, rfl⟩
  have HP1 : Hid (par w1 g s a 0 0) := Lib.hid (by rw [hw1]; exact H.out.draws _)
  have HO1 : Hid (Only (· = g) w w1) := Lib.hid (by rw [hw1]; exact (Only.refl _ w).draws _)
  try rw [← hw1]
  clear hw1
  go_upto_region 10 with (go_at_call 74; refine (HIN.out _ HP1.out).mono ?_; rintro e w9 ⟨b, off, cap, x0, x1, x2, x3, a2, c2, q2, rfl, h1, h2, h3, h4, h5⟩; have HS9 := Lib.hid h1; have HN9 := Lib.hid h2; have HF9 := Lib.hid h3; have HP9 := Lib.hid h4; have HO9 := Lib.hid (HO1.out.trans h5); clear h1 h2 h3 h4 h5)
  have d2 : w9.cell? ⟨b, off + 2, none⟩ = some (.int .u64 (x0 : Int)) := HN9.out.cs 0 x0 rfl
  have d3 : w9.cell? ⟨b, off + 3, none⟩ = some (.int .u64 (x1 : Int)) := HN9.out.cs 1 x1 rfl
  have d4 : w9.cell? ⟨b, off + 4, none⟩ = some (.int .u64 (x2 : Int)) := HN9.out.cs 2 x2 rfl
  have d5 : w9.cell? ⟨b, off + 5, none⟩ = some (.int .u64 (x3 : Int)) := HN9.out.cs 3 x3 rfl
  obtain ⟨zb, hz, heq⟩ := HES.out x0 x1 x2 x3
  have HSZ : Hid (isSet [x0, x1, x2, x3]) := Lib.hid HN9.out.s
  cases zb with
  | true =>
    have hz0 : [x0, x1, x2, x3] = zero := hz.1 rfl
    rw [hz0] at HF9 HS9
    clear hz hz0
    go_wp2_with (go_at_call 23; refine (HZ.out _ _ _ _ HF9.out HP9.out).mono ?_; rintro e w10 ⟨rfl, h1, h2⟩; have HR10 := Lib.hid h1; have HO10 := Lib.hid (HO9.out.trans h2); have HS10 := Lib.hid (slT.apart HS9.out HP9.out h2); clear h1 h2)
    go_ret
    exact ⟨_, _, rfl, HS10.out, HR10.out, HO10.out⟩
  | false =>
    have HZ0 : Hid ([x0, x1, x2, x3] ≠ zero) := Lib.hid (fun h => by have := hz.2 h; cases this)
    clear hz
    go_wp2
    go_ret
    exact ⟨_, _, rfl, HS9.out, HR.out _ _ _ _ _ HZ0.out HSZ.out HF9.out HP9.out, HO9.out⟩
end Go.Proofs.YtabcehifdomolaaDoor.Eab
namespace Go.Proofs.YtabcehifdomolaaDoor.Epr
open Go.RowKit Go.PlainAid Go.Proofs.YtabcehifdomolaaDoor.Vm Go.Proofs.YtabcehifdomolaaDoor.Vo Go.Proofs.YtabcehifdomolaaDoor.Bw Go.Proofs.YtabcehifdomolaaDoor.Na Go.Proofs.YtabcehifdomolaaDoor.Ko Go.Proofs.YtabcehifdomolaaDoor.Tm Go.Proofs.YtabcehifdomolaaDoor.Ts Go.Proofs.YtabcehifdomolaaDoor.Ta Go.Proofs.YtabcehifdomolaaDoor.Tb Go.Proofs.YtabcehifdomolaaDoor.Td Go.Proofs.YtabcehifdomolaaDoor.Tf Go.Proofs.YtabcehifdomolaaDoor.Rm Go.Proofs.YtabcehifdomolaaDoor.Rs Go.Proofs.YtabcehifdomolaaDoor.Rv Go.Proofs.YtabcehifdomolaaDoor.Ru Go.Proofs.YtabcehifdomolaaDoor.Ra Go.Proofs.YtabcehifdomolaaDoor.Ed Go.Proofs.YtabcehifdomolaaDoor.En Go.Proofs.YtabcehifdomolaaDoor.Ep Go.Proofs.YtabcehifdomolaaDoor.Em Go.Proofs.YtabcehifdomolaaDoor.Ek Go.Proofs.YtabcehifdomolaaDoor.Er Go.Proofs.YtabcehifdomolaaDoor.Eo Go.Proofs.YtabcehifdomolaaDoor.Es Go.Proofs.YtabcehifdomolaaDoor.Et Go.Proofs.YtabcehifdomolaaDoor.Ex Go.Proofs.YtabcehifdomolaaDoor.Eu Go.Proofs.YtabcehifdomolaaDoor.Epa Go.Proofs.YtabcehifdomolaaDoor.Eal Go.Proofs.YtabcehifdomolaaDoor.Eca Go.Proofs.YtabcehifdomolaaDoor.Erp Go.Proofs.YtabcehifdomolaaDoor.Eat Go.Proofs.YtabcehifdomolaaDoor.Eab

theorem atom_of {n : Nat} (HC : Hid (reads 22 .alt 2 n)) : reads 67 .atom 0 (n + 1) := by
  intro s g a F w hs ha hn hb hF H0
  obtain ⟨c, r, hr, h1, h2⟩ := hb rfl
  have h9 : 1 ≤ F := by simp only [need] at hF; exact Nat.le_trans (Nat.le_add_left 1 _) hF
  obtain ⟨F, rfl⟩ : ∃ f, F = f + 1 := ⟨F - 1, (Nat.sub_add_cancel h9).symm⟩
  have H := Lib.hid H0
  have hlt : a < s.size := (rst_next hr).1
  clear hb
  by_cases h40 : c = 40
  · subst h40
    have hF2 : need .alt (s.size - (a + 1)) ≤ F := by simp only [need] at hF ⊢; omega
    have hn2 : s.size ≤ a + 1 + n := by omega
    exact atom_par HC hn2 hF2 hs hr H
  by_cases h91 : c = 91
  · subst h91
    exact atom_cls hs hr H
  by_cases h92 : c = 92
  · subst h92
    exact atom_esc hs hr H
  by_cases h46 : c = 46
  · subst h46
    exact atom_dot hs hr H
  by_cases h93 : c = 93
  · subst h93
    exact atom_bad93 hs hr H
  by_cases h123 : c = 123
  · subst h123
    exact atom_bad123 hs hr H
  by_cases h125 : c = 125
  · subst h125
    exact atom_bad125 hs hr H
  by_cases h42 : c = 42
  · subst h42
    exact atom_bad42 hs hr H
  by_cases h43 : c = 43
  · subst h43
    exact atom_bad43 hs hr H
  by_cases h63 : c = 63
  · subst h63
    exact atom_bad63 hs hr H
  exact atom_lit ⟨h40, h91, h92, h46, h93, h123, h125, h42, h43, h63⟩ ⟨h1, h2⟩ hs hr H
theorem atom_zero : reads 67 .atom 0 0 := by
  intro s g a F w hs ha hn hb hF H0
  obtain ⟨c, r, hr, _⟩ := hb rfl
  have := rst_len s a
  rw [hr, List.length_cons] at this
  omega
/-- The program's alt, whatever it reads. -/
theorem alt_all : ∀ n, reads 22 .alt 2 n
  | 0 => alt_of (Lib.hid (cat_of (Lib.hid (rep_of (Lib.hid atom_zero)))))
  | n + 1 => alt_of (Lib.hid (cat_of (Lib.hid (rep_of (Lib.hid (atom_of (Lib.hid (alt_all n))))))))
/-- What Parse answers. -/
def parA (s : ByteArray) (v : Value) (c q : Int) (w' : World) : Prop := ∃ (e p : Nat) (l : List Nd), parseQ (nb s.data.toList) = (e, p, l) ∧ c = (e : Int) ∧ q = (p : Int) ∧ slT w' v l
set_option maxHeartbeats 4000000 in
set_option maxRecDepth 100000 in
theorem Parse_any (s : ByteArray) (hs63 : s.size ≤ 9223372036854775807) (w : World) :
    Calls Tryd.prog 14 #[.string s] w fun e w' => ∃ v c q, e = .returned (.tuple #[v, .int .i64 c, .int .i64 q]) ∧ parA s v c q w' ∧ Below w.heap.size w w' := by
  have hnl := nb_len s
  by_cases hs : 512 < s.size
  · have hs1 : (512 : Int) < (s.size : Int) := by omega
    have HR : Hid (parseQ (nb s.data.toList) = (3, 512, [])) := Lib.hid (by unfold parseQ; rw [if_pos (by rw [hnl]; exact hs)])
    clear hs hnl
    go_enter Tryd.func14, Tryd.ntmps14
    go_wp2
    go_ret3
    exact ⟨_, _, _, rfl, ⟨3, 512, [], HR.out, rfl, rfl, slT_nil _⟩, Below.refl _ _⟩
  obtain ⟨w1, hw1⟩ : ∃ w1, w1 = w.alloc (.cells #[.string s, .int .i64 0, .int .i64 0, .int .i64 0] 43) := ⟨_, rfl⟩
  obtain ⟨g, hg⟩ : ∃ g, g = w.heap.size := ⟨_, rfl⟩
  have HP1 : Hid (par w1 g s 0 0 0) := Lib.hid (by rw [hw1, hg]; exact Blk.fresh _ _ _)
  have HB1 : Hid (Below w.heap.size w w1) := Lib.hid (by rw [hw1]; exact below_alloc _ _)
  have hs2 : s.size ≤ 512 := by omega
  have hs3 : ¬ (512 : Int) < (s.size : Int) := by omega
  have hrs : rst s 0 = nb s.data.toList := by unfold rst; rw [List.drop_zero]
  have hQ : parseQ (nb s.data.toList) = match prs (6 * s.size + 6) .alt (rst s 0) with
    | .err e k => (e, s.size - k, [])
    | .ok t r => if r = [] then (if 400 < (enc t).length then (3, 0, []) else (0, 0, enc t)) else (15, s.size - r.length, []) := by
    conv => lhs; unfold parseQ
    rw [if_neg (by rw [hnl]; exact hs), hnl, hrs]
    cases prs (6 * s.size + 6) .alt (nb s.data.toList) <;> rfl
  have HA := Lib.hid (alt_all s.size s g 0 (6 * s.size + 6) w1 hs2 (by omega) (by omega) (by intro h; cases h) (by simp only [need]; omega) HP1.out)
  have HG := Lib.hid hg
  have HS2 := Lib.hid hs2
  obtain ⟨PQ, hPQ⟩ : ∃ PQ, PQ = prs (6 * s.size + 6) .alt (rst s 0) := ⟨_, rfl⟩
  rw [← hPQ] at hQ HA
  have HBO : Hid (∀ w', Only (· = g) w1 w' → Below w.heap.size w w') := Lib.hid (fun w' o => below_only HB1.out o (by rw [hg]; exact Nat.le_refl _) HB1.out.size)
  have HFI : Hid (∀ (a : Nat) (e z : Int) u, par u g s a 0 0 → Calls Tryd.prog 23 #[.pointer (some ⟨g, 0, none⟩), .int .i64 e, .int .i64 z] u fun r w' => r = .returned (.tuple #[]) ∧ par w' g s s.size e z ∧ Only (· = g) u w') := Lib.hid (fun a e z u h => fail_first e z h)
  have HFL : Hid (∀ (a : Nat) (c q e z : Int) u, c ≠ 0 → par u g s a c q → Calls Tryd.prog 23 #[.pointer (some ⟨g, 0, none⟩), .int .i64 e, .int .i64 z] u fun r w' => r = .returned (.tuple #[]) ∧ par w' g s s.size c q ∧ Only (· = g) u w') := Lib.hid (fun a c q e z u hc h => fail_late e z hc h)
  have hi1 : (s.size : Int) ≤ 512 := by omega
  clear hnl hs hs2 hrs hPQ hs63
  have HW : Hid (w1 = w.alloc (.cells #[.string s, .int .i64 0, .int .i64 0, .int .i64 0] 43)) := Lib.hid hw1
  clear hw1 hg
  go_enter Tryd.func14, Tryd.ntmps14
  go_upto_region 4 with fail
  rw [← HW.out, ← HG.out]
  go_upto_region 5 with (go_at_call 22; refine HA.out.mono ?_; rintro e w2 ⟨v2, l2, rfl, ⟨A2, k2, rfl, hx⟩, hr, o⟩; have HS2' : Hid (slT w2 (.slice A2 l2.length k2) l2) := Lib.hid ⟨A2, k2, rfl, hx⟩; have HR2 := Lib.hid hr; have HO2 := Lib.hid o; clear hx hr o)
  clear HW
  obtain ⟨n2, hn2⟩ : ∃ n2, n2 = l2.length := ⟨_, rfl⟩
  rw [← hn2]
  rw [← hn2] at HS2'
  cases PQ with
  | err e k =>
    obtain ⟨⟨he, hp⟩, _⟩ := HR2.out
    have HP2 := Lib.hid hp
    have HE0 : Hid ((e : Int) ≠ 0) := Lib.hid (by omega)
    have he0 : ((e : Int) != 0) = true := by simp; omega
    have HQ : Hid (parseQ (nb s.data.toList) = (e, s.size - k, [])) := Lib.hid hQ
    have hlt1 : ¬ (s.size : Int) < (s.size : Int) := by omega
    have c1 := HP2.out.c1
    have c2 := HP2.out.c2
    have c3 := HP2.out.c3
    clear he hp hQ hn2
    by_cases hb : 400 < n2
    · have hb4 : (400 : Int) < (n2 : Int) := by omega
      clear hb
      go_wp2_with (first | (go_at_call 23; (with_reducible refine (HFL.out _ _ _ 3 0 _ HE0.out HP2.out).mono ?_); rintro e w4 ⟨rfl, p, o⟩; have HP4 := Lib.hid p; have HO4 := Lib.hid (HO2.out.trans o); have j2 := HP4.out.c2; have j3 := HP4.out.c3; clear p o))
      go_quiet (fail)
      simp only [Exit.then]
      try go_wp2
      go_ret3
      exact ⟨_, _, _, rfl, ⟨e, s.size - k, [], HQ.out, rfl, rfl, slT_nil _⟩, HBO.out _ (HO4.out.draws _)⟩
    · have hb4 : ¬ (400 : Int) < (n2 : Int) := by omega
      clear hb
      go_wp2
      go_quiet (fail)
      simp only [Exit.then]
      try go_wp2
      go_ret3
      exact ⟨_, _, _, rfl, ⟨e, s.size - k, [], HQ.out, rfl, rfl, slT_nil _⟩, HBO.out _ (HO2.out.draws _)⟩
  | ok t r =>
    obtain ⟨hl, hok, a', h0, h1, h2, hp, h4⟩ := HR2.out
    have HP2 := Lib.hid hp
    have c1 := HP2.out.c1
    have hlen := rst_len s a'
    by_cases hlt : a' < s.size
    · have hne : r ≠ [] := by rintro rfl; rw [h2] at hlen; simp at hlen; omega
      have HQ : Hid (parseQ (nb s.data.toList) = (15, a', [])) := Lib.hid (by rw [hQ]; dsimp only; rw [if_neg hne, ← h2, hlen, show s.size - (s.size - a') = a' by omega])
      have HE0 : Hid ((15 : Int) ≠ 0) := Lib.hid (by decide)
      have hlt1 : (a' : Int) < (s.size : Int) := by omega
      clear hl hok h0 h1 h2 hp h4 hlen hQ hne hlt
      by_cases hb : 400 < n2
      · have hb4 : (400 : Int) < (n2 : Int) := by omega
        clear hb hn2
        go_wp2_with (first | (go_at_call 23; (with_reducible refine (HFI.out _ 15 (a' : Int) _ HP2.out).mono ?_); rintro e w3 ⟨rfl, p, o⟩; have HP3 := Lib.hid p; have HO3 := Lib.hid (HO2.out.trans o); have f1 := HP3.out.c1; have f2 := HP3.out.c2; have f3 := HP3.out.c3; clear p o) | (go_at_call 23; (with_reducible refine (HFL.out _ _ _ 3 0 _ HE0.out HP3.out).mono ?_); rintro e w4 ⟨rfl, p, o⟩; have HP4 := Lib.hid p; have HO4 := Lib.hid (HO3.out.trans o); have j2 := HP4.out.c2; have j3 := HP4.out.c3; clear p o))
        go_quiet (fail)
        simp only [Exit.then]
        try go_wp2
        go_ret3
        exact ⟨_, _, _, rfl, ⟨15, a', [], HQ.out, rfl, rfl, slT_nil _⟩, HBO.out _ (HO4.out.draws _)⟩
      · have hb4 : ¬ (400 : Int) < (n2 : Int) := by omega
        clear hb hn2
        go_wp2_with (first | (go_at_call 23; (with_reducible refine (HFI.out _ 15 (a' : Int) _ HP2.out).mono ?_); rintro e w3 ⟨rfl, p, o⟩; have HP3 := Lib.hid p; have HO3 := Lib.hid (HO2.out.trans o); have f1 := HP3.out.c1; have f2 := HP3.out.c2; have f3 := HP3.out.c3; clear p o))
        go_quiet (fail)
        simp only [Exit.then]
        try go_wp2
        go_ret3
        exact ⟨_, _, _, rfl, ⟨15, a', [], HQ.out, rfl, rfl, slT_nil _⟩, HBO.out _ (HO3.out.draws _)⟩
    · have hr0 : r = [] := by rw [← h2]; exact rst_nil (by omega)
      have hlt1 : ¬ (a' : Int) < (s.size : Int) := by omega
      rw [hr0] at hQ
      dsimp only at hQ
      rw [if_pos rfl, ← hl, ← hn2] at hQ
      have hl2 := hl
      clear hl hok h0 h1 h2 hp h4 hlen hr0 hlt
      by_cases hb : 400 < n2
      · have hb4 : (400 : Int) < (n2 : Int) := by omega
        have HQ : Hid (parseQ (nb s.data.toList) = (3, 0, [])) := Lib.hid (by rw [hQ, if_pos hb])
        clear hb hn2 hQ
        go_wp2_with (first | (go_at_call 23; (with_reducible refine (HFI.out _ 3 0 _ HP2.out).mono ?_); rintro e w4 ⟨rfl, p, o⟩; have HP4 := Lib.hid p; have HO4 := Lib.hid (HO2.out.trans o); have j2 := HP4.out.c2; have j3 := HP4.out.c3; clear p o))
        go_quiet (fail)
        simp only [Exit.then]
        try go_wp2
        go_ret3
        exact ⟨_, _, _, rfl, ⟨3, 0, [], HQ.out, rfl, rfl, slT_nil _⟩, HBO.out _ (HO4.out.draws _)⟩
      · have hb4 : ¬ (400 : Int) < (n2 : Int) := by omega
        have HQ : Hid (parseQ (nb s.data.toList) = (0, 0, l2)) := Lib.hid (by rw [hQ, if_neg hb, hl2])
        have c2 := HP2.out.c2
        have HN2 := Lib.hid hn2
        clear hb hn2 hQ
        go_wp2
        go_ret3
        exact ⟨_, _, _, rfl, ⟨0, 0, l2, HQ.out, rfl, rfl, by rw [HN2.out] at HS2'; rw [HN2.out]; exact HS2'.out⟩, HBO.out _ HO2.out⟩
end Go.Proofs.YtabcehifdomolaaDoor.Epr
