/-
  window: New, Last, Clear, Twin.
  Conditions: as each theorem says.
-/
import Derived.Test.YtoniejpbgidmfaaWp
import Derived.Test.YtoniejpbgidmfaaWq
import Derived.Laws.MakeOwn
import Derived.OwnWalk
namespace Go.Proofs.Ytoniejpbgidmfaa.Wn
open Go.RowKit Go.Proofs.Ytoniejpbgidmfaa.Vm Go.Proofs.Ytoniejpbgidmfaa.Vo Go.Proofs.Ytoniejpbgidmfaa.Bw Go.Proofs.Ytoniejpbgidmfaa.Br Go.Proofs.Ytoniejpbgidmfaa.Wr Go.Proofs.Ytoniejpbgidmfaa.Wc Go.Proofs.Ytoniejpbgidmfaa.Ww Go.Proofs.Ytoniejpbgidmfaa.Wx Go.Proofs.Ytoniejpbgidmfaa.Wp Go.Proofs.Ytoniejpbgidmfaa.Wq

/-- n zeros. -/
def zs (n : Nat) : Array Value := (Bs (List.replicate n 0)).toArray
theorem made8 (n : Nat) (hn : n ≤ 1000000) (u : World) : (Instr.makeSlice 43 (.int .i64 (n : Int)) (.int .i64 (n : Int))).run Try.prog u = .ok (.slice (some ⟨u.heap.size, 0, none⟩) n n) (u.alloc (.cells (zs n) 5)) := by
  obtain ⟨i0, hi, hz0, hz1, hz2⟩ := info_parts info8
  have h := run_make (P := Try.prog) u 43 5 i0 (.int .u8 0) Try.underlying43 hi hz0 .i64 .i64 (n : Int) (n : Int) (by omega) (by omega) (by rw [hz2]; omega) (by omega)
  have e : madeCells (Value.int .u8 0).cells (n * i0.size) = zs n := by
    rw [hz1]
    apply Array.ext
    · simp [madeCells, zs, Bs]
    · intro j h1 h2
      simp [madeCells, zs, Bs, B, Value.cells]
      simp [Nat.mod_one]
  simp only [Int.toNat_natCast, e] at h
  exact h
theorem byts_made {w : World} {e : TypeId} (n : Nat) (hn : n ≤ 1000000) : byts (w.alloc (.cells (zs n) e)) w.heap.size e (.slice (some ⟨w.heap.size, 0, none⟩) n n) (List.replicate n 0) := by
  have h := World.ownsRow_lit (base := w.heap.size) (e := e) (size := 1) w (zs n) n (Nat.le_refl _) (by unfold maxLen; omega) (by simp [zs, Bs_length])
  unfold byts
  rw [List.length_replicate]
  exact h
theorem alloc_below (w : World) (o : Obj) : Below w.heap.size w (w.alloc o) := (Below.refl _ _).alloc (Nat.le_refl _) _
/-- What changed lies in a new block. -/
theorem only_new {w w1 w2 : World} {u : Value} {b : Nat} (h : Below w.heap.size w w1) (k : Only (of u) w1 w2) (hu : u.ownBlock = some b) (hb : w.heap.size ≤ b) : Below w.heap.size w w2 :=
  k.below h h.size (fun i hi => by have e : u.ownBlock = some i := hi; rw [hu] at e; injection e with e; omega)

theorem zeroB : ∀ w : World, (zeroValue 5).run Try.prog w = .ok (.int .u8 0) w := fun w => by
  obtain ⟨i0, hi, hz0, hz1, hz2⟩ := info_parts info8
  simp [zeroValue, typeInfo, hi, hz0]

/-- A new window. -/
def isNew (t : List UInt8) (w : World) (e : Ending) (w' : World) : Prop := ∃ v l x, e = .returned (.pointer (some ⟨w.heap.size, 0, none⟩)) ∧ win w.heap.size w' w.heap.size v l x ∧ cont l x = Wm.lastN 32768 t ∧ Below w.heap.size w w'
theorem win_fresh (w : World) : win w.heap.size (w.alloc (.cells #[.pointer (some ⟨w.heap.size, 0, none⟩), .slice none 0 0, .int .i64 0] 45)) w.heap.size (.slice none 0 0) [] 0 :=
  ⟨Blk.fresh w 45 _, World.ownsRow_nil _ _ _ _, ⟨Nat.zero_le _, by omega, fun _ => rfl⟩, Nat.le_refl _⟩
theorem put_nil (s : List UInt8) : Wm.put 32768 (cont [] 0) s = Wm.lastN 32768 s := by
  unfold Wm.put cont
  rw [List.drop_nil, List.take_nil, List.nil_append, List.nil_append]
theorem New_any (s : ByteArray) (hs : s.size ≤ 9223372036854775807) (w : World) : Calls Try.prog 8 #[.string s] w (isNew s.data.toList w) := by
  have HP := Lib.hid (fun w1 h => Put_any (base := w.heap.size) (w := w1) (g := w.heap.size) (v := .slice none 0 0) (l := []) (x := 0) h s hs)
  have HW := Lib.hid (win_fresh w)
  clear hs
  go_enter Try.func8, Try.ntmps8
  go_wp2_with (go_at_call 12; refine (HP.out _ HW.out).mono ?_; rintro e w1 ⟨rfl, v, l, x, h1, h2, h3, h4⟩; have H1 := Lib.hid h1; have H2 := Lib.hid h2; have H3 := Lib.hid h3; clear h1 h2 h3 h4)
  go_ret
  refine ⟨v, l, x, rfl, H1.out, H2.out.trans (put_nil _), H3.out.below (alloc_below _ _) (alloc_below _ _).size (fun i hi => ?_)⟩
  rcases hi with rfl | hi
  · exact Nat.le_refl _
  · simp [Value.ownBlock] at hi

theorem last_end {w w1 : World} {base k : Nat} {l : List UInt8} {P : List UInt8} (hP : P = splice (List.replicate k 0) 0 ((Wm.lastN k l).take k)) (hk : k ≤ l.length) (h : byts w1 base 5 (.slice (some ⟨w.heap.size, 0, none⟩) k k) P) :
    (convert 43 9 (.slice (some ⟨w.heap.size, 0, none⟩) k k)).run Try.prog w1 = .ok (.string ⟨(Wm.lastN k l).toArray⟩) w1 := by
  have hl : (Wm.lastN k l).length = k := by rw [Wm.lastN_length]; omega
  have e : P = Wm.lastN k l := by
    rw [hP, List.take_of_length_le (by omega)]
    unfold splice
    rw [List.take_zero, List.nil_append, hl, Nat.zero_add, List.drop_eq_nil_of_le (by simp), List.append_nil]
  rw [← e]
  exact own_string (P := Try.prog) (dst := 9) Try.underlying43 Try.underlying5 Try.underlying9 h

set_option maxRecDepth 100000 in
theorem last_k {base : Nat} {w : World} {g : Nat} {v : Value} {l : List UInt8} {x : Nat} (h : win base w g v l x) {n : Int} {k : Nat} (hn : (n < 0 ∧ k = 0) ∨ (n = (k : Int) ∧ k ≤ l.length) ∨ ((l.length : Int) < n ∧ k = l.length)) :
    Calls Try.prog 15 #[.pointer (some ⟨g, 0, none⟩), .int .i64 n] w fun e w' => e = .returned (.string ⟨(Wm.lastN k (cont l x)).toArray⟩) ∧ Below w.heap.size w w' := by
  have hN := Lib.hid (none_any h.b)
  have c1 := h.b.c1
  have hk : k ≤ l.length := by omega
  have hle := h.r.le
  have hmk := made8 k (by omega)
  have HX := Lib.hid (h.below (alloc_below w (.cells (zs k) 5)))
  have HY := Lib.hid (byts_made (w := w) (e := 5) k (by omega))
  have hv : v.ownBlock ≠ some w.heap.size := fun e => by have := h.hi _ (.inr e); omega
  have HC := Lib.hid (read_any (b := w.heap.size) (k := k) (oc := k) (d := k) HX.out HY.out rfl hv (by rw [List.length_replicate]; exact Nat.le_refl _) (Nat.le_refl _) (Nat.le_refl _) hk)
  have HK : Hid (k ≤ (cont l x).length) := Lib.hid (by rw [cont_length]; exact hk)
  obtain ⟨A, cap, hv'⟩ := h.o.form
  subst hv'
  clear h hv hk HX HY hle
  rcases hn with ⟨h1, h2⟩ | ⟨h1, h2⟩ | ⟨h1, h2⟩
  · subst h2
    have hmk0 : ∀ u : World, (Instr.makeSlice 43 (.int .i64 0) (.int .i64 0)).run Try.prog u = .ok (.slice (some ⟨u.heap.size, 0, none⟩) 0 0) (u.alloc (.cells (zs 0) 5)) := hmk
    obtain ⟨Z, hZ⟩ : ∃ Z, Z = zs 0 := ⟨_, rfl⟩
    rw [← hZ] at hmk0 HC
    obtain ⟨m, hm⟩ : ∃ m, m = l.length := ⟨_, rfl⟩
    rw [← hm] at c1
    clear hmk hZ hm
    go_enter Try.func15, Try.ntmps15
    go_wp2_with (first | (go_at_call 20; refine hN.out.mono ?_; rintro e w' ⟨rfl, rfl⟩) | (go_at_call 22; refine HC.out.mono ?_; rintro e w2 ⟨rfl, b2, o2⟩; have hcv := last_end rfl HK.out b2; have B2 := Lib.hid b2; have O2 := Lib.hid o2; clear b2 o2))
    go_ret
    exact ⟨rfl, only_new (alloc_below _ _) O2.out rfl (Nat.le_refl _)⟩
  · subst h1
    obtain ⟨Z, hZ⟩ : ∃ Z, Z = zs k := ⟨_, rfl⟩
    rw [← hZ] at hmk HC
    obtain ⟨m, hm⟩ : ∃ m, m = l.length := ⟨_, rfl⟩
    rw [← hm] at c1 h2
    clear hZ hm
    go_enter Try.func15, Try.ntmps15
    go_wp2_with (first | (go_at_call 20; refine hN.out.mono ?_; rintro e w' ⟨rfl, rfl⟩) | (go_at_call 22; refine HC.out.mono ?_; rintro e w2 ⟨rfl, b2, o2⟩; have hcv := last_end rfl HK.out b2; have B2 := Lib.hid b2; have O2 := Lib.hid o2; clear b2 o2))
    go_ret
    exact ⟨rfl, only_new (alloc_below _ _) O2.out rfl (Nat.le_refl _)⟩
  · obtain ⟨Z, hZ⟩ : ∃ Z, Z = zs k := ⟨_, rfl⟩
    rw [← hZ] at hmk HC
    rw [← h2] at c1 h1
    clear hZ h2
    go_enter Try.func15, Try.ntmps15
    go_wp2_with (first | (go_at_call 20; refine hN.out.mono ?_; rintro e w' ⟨rfl, rfl⟩) | (go_at_call 22; refine HC.out.mono ?_; rintro e w2 ⟨rfl, b2, o2⟩; have hcv := last_end rfl HK.out b2; have B2 := Lib.hid b2; have O2 := Lib.hid o2; clear b2 o2))
    go_ret
    exact ⟨rfl, only_new (alloc_below _ _) O2.out rfl (Nat.le_refl _)⟩
theorem Last_any {base : Nat} {w : World} {g : Nat} {v : Value} {l : List UInt8} {x : Nat} (h : win base w g v l x) (n : Int) :
    Calls Try.prog 15 #[.pointer (some ⟨g, 0, none⟩), .int .i64 n] w fun e w' => e = .returned (.string ⟨(Wm.lastN n.toNat (cont l x)).toArray⟩) ∧ Below w.heap.size w w' := by
  rcases (show n < 0 ∨ (0 ≤ n ∧ n ≤ l.length) ∨ (l.length : Int) < n by omega) with h1 | h1 | h1
  · have e : n.toNat = 0 := by omega
    rw [e]; exact last_k h (.inl ⟨h1, rfl⟩)
  · exact last_k h (.inr (.inl ⟨by omega, by omega⟩))
  · have e : Wm.lastN n.toNat (cont l x) = Wm.lastN l.length (cont l x) := by
      rw [Wm.lastN_all (by rw [cont_length]; omega), Wm.lastN_all (by rw [cont_length]; exact Nat.le_refl _)]
    rw [e]; exact last_k h (.inr (.inr ⟨h1, rfl⟩))
end Go.Proofs.Ytoniejpbgidmfaa.Wn
