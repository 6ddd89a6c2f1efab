/-
  Machine.Copy, called with a machine that New made: another machine of its own that stands where it stands.
  The reference's reader where there are enough bits and where not; its stored and row: what is read is what the numbers say.
  The reference's stored: the rest of a stored head, or what is wrong.
  The reference's dynamic: the rest of a dynamic head, or what is wrong.
  The reference's dynamic where its three numbers are right: the lengths, or what is wrong.
  The reference's head and Read: what is read is what the numbers say; with an error the reader stands where it stood.
  Conditions: as each theorem says.
-/
import Derived.Test.YtnkninjdpgpkmaaGreatDoorBbu
import Derived.Test.YtnkninjdpgpkmaaGreatDoorBca
import Derived.Test.YtnkninjdpgpkmaaGreatDoorBcf
import Derived.Test.YtnkninjdpgpkmaaGreatDoorBbd
import Derived.Test.YtnkninjdpgpkmaaGreatDoorBbi
import Derived.Deep.AppendLies
import Derived.StillTailTactics
namespace Go.Proofs.YtnkninjdpgpkmaaGreatDoor.Io
open Go.RowKit Go.Proofs.YtnkninjdpgpkmaaGreatDoor.Vm Go.Proofs.YtnkninjdpgpkmaaGreatDoor.Bm Go.Proofs.YtnkninjdpgpkmaaGreatDoor.Bw Go.Proofs.YtnkninjdpgpkmaaGreatDoor.Br Go.Proofs.YtnkninjdpgpkmaaGreatDoor.Bs Go.Proofs.YtnkninjdpgpkmaaGreatDoor.Wr Go.Proofs.YtnkninjdpgpkmaaGreatDoor.Wc Go.Proofs.YtnkninjdpgpkmaaGreatDoor.Ww Go.Proofs.YtnkninjdpgpkmaaGreatDoor.Wo Go.Proofs.YtnkninjdpgpkmaaGreatDoor.Fm Go.Proofs.YtnkninjdpgpkmaaGreatDoor.Im Go.Proofs.YtnkninjdpgpkmaaGreatDoor.Ia Go.Proofs.YtnkninjdpgpkmaaGreatDoor.Ib Go.Proofs.YtnkninjdpgpkmaaGreatDoor.Ic Go.Proofs.YtnkninjdpgpkmaaGreatDoor.Ih Go.Proofs.YtnkninjdpgpkmaaGreatDoor.Ik

theorem sizeMc : (Tryz.prog.info? 66).map (·.size) = some 12 := by kernel_rfl
theorem nf_one (nx : Nx) : (nf nx).oneCell' = true := by cases nx <;> rfl
theorem mc_one {m k : Nat} {o : Ob} {e : Int} {nx : Nx} {fin : Bool} (h1 : o.vs.oneCell' = true) (h2 : o.vr.oneCell' = true) : (mc m o k e nx fin).all (·.oneCell') = true := by
  have h3 := nf_one nx
  unfold mc
  rw [Array.all_eq_true']
  intro x hx
  simp only [List.mem_toArray, List.mem_cons, List.not_mem_nil, or_false] at hx
  rcases hx with rfl | rfl | rfl | rfl | rfl | rfl | rfl | rfl | rfl | rfl | rfl | rfl <;> first | rfl | assumption
/-- A new machine's cells. -/
abbrev z12 : Array Value := #[.pointer none, .pointer none, .pointer none, .slice none 0 0, .int .i64 0, .slice none 0 0, .int .i64 0, .nilFunc, .bool false, .int .i64 0, .pointer none, .pointer none]
theorem win_lower {base w : _} {g : Nat} {v : Value} {l : List UInt8} {x : Nat} (h : win base w g v l x) : win 0 w g v l x := by
  refine ⟨h.b, ⟨h.o.1, ?_⟩, h.r, Nat.zero_le _⟩
  rcases h.o.2 with h0 | ⟨g1, cap, cur, e1, e2, e3⟩
  · exact .inl h0
  · exact .inr ⟨g1, cap, cur, e1, Nat.zero_le _, e3⟩
theorem below_store {w u : World} {M : Nat} (b : Below w.heap.size w u) (hM : w.heap.size ≤ M) (i : Nat) (v : Value) : Below w.heap.size w (u.setCell ⟨M, i, none⟩ v) :=
  (((Only.refl (fun j => j = M) u).store (p := ⟨M, i, none⟩) (.inl rfl) v).below b b.size (fun j hj => by rw [hj]; exact hM))
section
variable {w : World} {m : Nat} {t : ByteArray} {p : List UInt8} {o : Ob} {k : Nat} {s : St}
set_option maxHeartbeats 4000000 in
set_option maxRecDepth 100000 in
theorem mCopy_any (h : mach w m t p o k s) (hT : s.T.length ≤ 9000000) (hL : s.L.length ≤ 1000000) :
    Calls Tryz.prog 11 #[.pointer (some ⟨m, 0, none⟩)] w fun e w' => ∃ m' o', e = .returned (.pointer (some ⟨m', 0, none⟩)) ∧ mach w' m' t p o' k s ∧ (∀ i, own m' o' i → w.heap.size ≤ i) ∧ Below w.heap.size w w' := by
  have HN := Lib.hid (mNone_any h)
  obtain ⟨A3, c3, hvs, _⟩ := h.h.s.form
  obtain ⟨A5, c5, hvr, _⟩ := h.h.y.form
  obtain ⟨n3, hn3⟩ : ∃ n3, n3 = s.L.length := ⟨_, rfl⟩
  obtain ⟨n5, hn5⟩ : ∃ n5, n5 = (s.T.drop k).length := ⟨_, rfl⟩
  rw [← hn3] at hvs
  rw [← hn5] at hvr
  have H := Lib.hid h
  have HT := Lib.hid hT
  have HL := Lib.hid hL
  obtain ⟨C, hC⟩ : ∃ C, C = mc m o k s.e s.nx s.fin := ⟨_, rfl⟩
  have HC := Lib.hid hC
  have HB : Hid (Blk w m 66 C) := Lib.hid (by rw [hC]; exact h.b)
  have HS : Hid (some C.size = some 12) := Lib.hid (by rw [hC]; rfl)
  have HS2 : Hid (z12.size = C.size) := Lib.hid (by rw [hC]; rfl)
  have HONE : Hid (C.all (·.oneCell') = true) := Lib.hid (by rw [hC]; exact mc_one (by rw [hvs]; rfl) (by rw [hvr]; rfl))
  have HVS := Lib.hid hvs
  have HVR := Lib.hid hvr
  obtain ⟨w1, hw1⟩ : ∃ w1, w1 = w.alloc (.cells z12 66) := ⟨_, rfl⟩
  obtain ⟨M, hM⟩ : ∃ M, M = w.heap.size := ⟨_, rfl⟩
  have B1 : Below w.heap.size w w1 := by rw [hw1]; exact (Below.refl _ w).alloc (Nat.le_refl _) _
  have K1 : Hid (Blk (w.alloc (.cells z12 66)) w.heap.size 66 z12) := Lib.hid (Blk.fresh _ _ _)
  obtain ⟨w2, hw2⟩ : ∃ w2, w2 = (w.alloc (.cells z12 66)).setRow w.heap.size C := ⟨_, rfl⟩
  have K2 : Hid (Blk w2 M 66 C) := Lib.hid (by rw [hw2, hM]; exact setRow_heap _ _ _ _ _ _ K1.out)
  have B2 : Hid (Below w.heap.size w w2) := Lib.hid (by
    rw [hw2, ← hw1]
    exact (Ke.only_row (S := fun j => j = w.heap.size) (Only.refl _ w1) rfl C).below B1 B1.size (fun j hj => by rw [hj]; exact Nat.le_refl _))
  have HM : Hid (w.heap.size ≤ M) := Lib.hid (by rw [hM]; exact Nat.le_refl _)
  have c20 : ((w.alloc (.cells z12 66)).setRow w.heap.size C).cell? ⟨w.heap.size, 0, none⟩ = some (.pointer (some ⟨m, 0, none⟩)) := by
    rw [← hw2, ← hM]; exact (K2.out.cell 0).trans (by rw [HC.out]; rfl)
  have f20 : ((w.alloc (.cells z12 66)).setRow w.heap.size C).frozen? ⟨w.heap.size, 0, none⟩ = false := by
    rw [← hw2, ← hM]; exact K2.out.frozen 0
  obtain ⟨w3, hw3⟩ : ∃ w3, w3 = ((w.alloc (.cells z12 66)).setRow w.heap.size C).setCell ⟨w.heap.size, 0, none⟩ (.pointer (some ⟨w.heap.size, 0, none⟩)) := ⟨_, rfl⟩
  have K3 : Hid (Blk w3 M 66 (C.setIfInBounds 0 (.pointer (some ⟨M, 0, none⟩)))) := Lib.hid (by rw [hw3, ← hw2, ← hM]; exact K2.out.store 0 _)
  have B3 : Hid (Below w.heap.size w w3) := Lib.hid (by have e := below_store B2.out HM.out 0 (.pointer (some ⟨M, 0, none⟩)); rw [hM] at e; rw [hw3, ← hw2]; exact e)
  have c31 : (((w.alloc (.cells z12 66)).setRow w.heap.size C).setCell ⟨w.heap.size, 0, none⟩ (.pointer (some ⟨w.heap.size, 0, none⟩))).cell? ⟨m, 1, none⟩ = some (.pointer (some ⟨o.r, 0, none⟩)) := by rw [← hw3]; exact (H.out.below B3.out).b.cell 1
  clear h hT hL hn3 hn5 hC hvs hvr hw1 B1
  go_enter Tryz.func11, Tryz.ntmps11
  go_wp2_with fail
  refine HN.out.mono ?_
  rintro e w' ⟨rfl, rfl⟩
  go_wp2_with (first | (refine wpList_load_row rfl 66 _ rfl m rfl _ _ _ _ HB.out Tryz.underlying66 rfl (sizeMc.trans HS.out.symm) ?_) | (refine wpList_store_row rfl 66 _ _ rfl w.heap.size C rfl rfl _ _ K1.out (sizeMc.trans HS.out.symm) HS2.out HONE.out ?_))
  rw [← hw3, ← hM]
  clear hw2 hM hw3 c20 f20 c31
  refine (Copy_any (H.out.below B3.out).h.r).mono ?_
  rintro e w4 ⟨r', rfl, r4, hr4, b4⟩
  have B4 := Lib.hid (grows B3.out b4)
  have K4 := Lib.hid (K3.out.below b4)
  have R4 := Lib.hid r4
  have HR4 := Lib.hid hr4
  have HZ3 : Hid (M < w3.heap.size) := Lib.hid K3.out.lt
  clear r4 hr4 b4
  obtain ⟨C4, hC4⟩ : ∃ C4, C4 = C.setIfInBounds 0 (.pointer (some ⟨M, 0, none⟩)) := ⟨_, rfl⟩
  rw [← hC4] at K4
  have c41 : w4.cell? ⟨M, 1, none⟩ = some (.pointer (some ⟨o.r, 0, none⟩)) := (K4.out.cell 1).trans (by rw [hC4, HC.out]; rfl)
  have f41 := K4.out.frozen 1
  obtain ⟨w5, hw5⟩ : ∃ w5, w5 = w4.setCell ⟨M, 1, none⟩ (.pointer (some ⟨r', 0, none⟩)) := ⟨_, rfl⟩
  have K5 : Hid (Blk w5 M 66 (C4.setIfInBounds 1 (.pointer (some ⟨r', 0, none⟩)))) := Lib.hid (by rw [hw5]; exact K4.out.store 1 _)
  have B5 : Hid (Below w.heap.size w w5) := Lib.hid (by rw [hw5]; exact below_store B4.out HM.out _ _)
  have c52 : (w4.setCell ⟨M, 1, none⟩ (.pointer (some ⟨r', 0, none⟩))).cell? ⟨m, 2, none⟩ = some (.pointer (some ⟨o.g, 0, none⟩)) := by rw [← hw5]; exact (H.out.below B5.out).b.cell 2
  obtain ⟨l, x, hwi, hcont⟩ := H.out.h.wi
  have HWI := Lib.hid (hwi.below B5.out)
  have HCN := Lib.hid hcont
  have HC4 := Lib.hid hC4
  clear hwi hcont hC4
  go_wp2_with fail
  rw [← hw5]
  have O5 : Hid (Only (fun j => j = M) w4 w5) := Lib.hid (by rw [hw5]; exact (Only.refl (fun j => j = M) w4).store (p := ⟨M, 1, none⟩) (.inl rfl) _)
  clear hw5 c41 f41 c52
  refine (Twin_any HWI.out).mono ?_
  rintro e w6 ⟨g', v', l', x', rfl, hw6, hc6, b6⟩
  have B6 := Lib.hid (grows B5.out b6)
  have K6 := Lib.hid (K5.out.below b6)
  have W6 := Lib.hid hw6
  have HC6 := Lib.hid hc6
  have D6 := Lib.hid b6
  clear hw6 hc6 b6 HWI
  obtain ⟨C6, hC6⟩ : ∃ C6, C6 = C4.setIfInBounds 1 (.pointer (some ⟨r', 0, none⟩)) := ⟨_, rfl⟩
  rw [← hC6] at K6
  have c62 : w6.cell? ⟨M, 2, none⟩ = some (.pointer (some ⟨o.g, 0, none⟩)) := (K6.out.cell 2).trans (by rw [hC6, HC4.out, HC.out]; rfl)
  have f62 := K6.out.frozen 2
  obtain ⟨w7, hw7⟩ : ∃ w7, w7 = w6.setCell ⟨M, 2, none⟩ (.pointer (some ⟨g', 0, none⟩)) := ⟨_, rfl⟩
  have K7 : Hid (Blk w7 M 66 (C6.setIfInBounds 2 (.pointer (some ⟨g', 0, none⟩)))) := Lib.hid (by rw [hw7]; exact K6.out.store 2 _)
  have B7 : Hid (Below w.heap.size w w7) := Lib.hid (by rw [hw7]; exact below_store B6.out HM.out _ _)
  have O7 : Hid (Only (fun j => j = M) w6 w7) := Lib.hid (by rw [hw7]; exact (Only.refl (fun j => j = M) w6).store (p := ⟨M, 2, none⟩) (.inl rfl) _)
  have c73 : (w6.setCell ⟨M, 2, none⟩ (.pointer (some ⟨g', 0, none⟩))).cell? ⟨m, 3, none⟩ = some (.slice A3 n3 c3) := by rw [← hw7, ← HVS.out]; exact (H.out.below B7.out).b.cell 3
  have HS7 := Lib.hid ((H.out.below B7.out).h.s)
  rw [HVS.out] at HS7
  have HC6' := Lib.hid hC6
  clear hC6
  go_wp2_with fail
  rw [← hw7]
  clear hw7 c62 f62 c73
  refine (Clone_starts HS7.out HL.out).mono ?_
  rintro e w8 ⟨v8, rfl, hs8, b8⟩
  obtain ⟨A8, c8, hv8, _⟩ := hs8.form
  obtain ⟨n8, hn8⟩ : ∃ n8, n8 = s.L.length := ⟨_, rfl⟩
  rw [← hn8] at hv8
  subst hv8
  have S8 := Lib.hid hs8
  have B8 := Lib.hid (grows B7.out b8)
  have K8 := Lib.hid (K7.out.below b8)
  have D8 := Lib.hid b8
  clear hs8 b8 HS7 hn8
  obtain ⟨C8, hC8⟩ : ∃ C8, C8 = C6.setIfInBounds 2 (.pointer (some ⟨g', 0, none⟩)) := ⟨_, rfl⟩
  rw [← hC8] at K8
  have c83 : w8.cell? ⟨M, 3, none⟩ = some (.slice A3 n3 c3) := (K8.out.cell 3).trans (by rw [hC8, HC6'.out, HC4.out, HC.out, ← HVS.out]; rfl)
  have f83 := K8.out.frozen 3
  obtain ⟨w9, hw9⟩ : ∃ w9, w9 = w8.setCell ⟨M, 3, none⟩ (.slice A8 n8 c8) := ⟨_, rfl⟩
  have K9 : Hid (Blk w9 M 66 (C8.setIfInBounds 3 (.slice A8 n8 c8))) := Lib.hid (by rw [hw9]; exact K8.out.store 3 _)
  have B9 : Hid (Below w.heap.size w w9) := Lib.hid (by rw [hw9]; exact below_store B8.out HM.out _ _)
  have O9 : Hid (Only (fun j => j = M) w8 w9) := Lib.hid (by rw [hw9]; exact (Only.refl (fun j => j = M) w8).store (p := ⟨M, 3, none⟩) (.inl rfl) _)
  have c95 : (w8.setCell ⟨M, 3, none⟩ (.slice A8 n8 c8)).cell? ⟨m, 5, none⟩ = some (.slice A5 n5 c5) := by rw [← hw9, ← HVR.out]; exact (H.out.below B9.out).b.cell 5
  have HY9 := Lib.hid ((H.out.below B9.out).h.y)
  rw [HVR.out] at HY9
  have HC8 := Lib.hid hC8
  clear hC8
  go_wp2_with fail
  rw [← hw9]
  clear hw9 c83 f83 c95
  refine (Clone_bytes HY9.out (by rw [List.length_drop]; have := HT.out; omega)).mono ?_
  rintro e w10 ⟨v10, rfl, hy10, ho10, b10⟩
  obtain ⟨A10, c10, hv10, _⟩ := hy10.form
  obtain ⟨n10, hn10⟩ : ∃ n10, n10 = (s.T.drop k).length := ⟨_, rfl⟩
  rw [← hn10] at hv10
  subst hv10
  have Y10 := Lib.hid hy10
  have HO10 := Lib.hid ho10
  have B10 := Lib.hid (grows B9.out b10)
  have K10 := Lib.hid (K9.out.below b10)
  have D10 := Lib.hid b10
  clear hy10 b10 HY9 hn10 ho10
  obtain ⟨CA, hCA⟩ : ∃ CA, CA = C8.setIfInBounds 3 (.slice A8 n8 c8) := ⟨_, rfl⟩
  rw [← hCA] at K10
  have ca5 : w10.cell? ⟨M, 5, none⟩ = some (.slice A5 n5 c5) := (K10.out.cell 5).trans (by rw [hCA, HC8.out, HC6'.out, HC4.out, HC.out, ← HVR.out]; rfl)
  have fa5 := K10.out.frozen 5
  obtain ⟨w11, hw11⟩ : ∃ w11, w11 = w10.setCell ⟨M, 5, none⟩ (.slice A10 n10 c10) := ⟨_, rfl⟩
  have K11 : Hid (Blk w11 M 66 (CA.setIfInBounds 5 (.slice A10 n10 c10))) := Lib.hid (by rw [hw11]; exact K10.out.store 5 _)
  have B11 : Hid (Below w.heap.size w w11) := Lib.hid (by rw [hw11]; exact below_store B10.out HM.out _ _)
  have O11 : Hid (Only (fun j => j = M) w10 w11) := Lib.hid (by rw [hw11]; exact (Only.refl (fun j => j = M) w10).store (p := ⟨M, 5, none⟩) (.inl rfl) _)
  have HCA := Lib.hid hCA
  clear hCA
  go_wp2_with fail
  rw [← hw11]
  clear hw11 ca5 fa5
  go_ret
  have P10 := O11.out
  have P8 : Only (fun j => j = M) w8 w11 := (O9.out.trans (Only.of_below D10.out)).trans P10
  have P6 : Only (fun j => j = M) w6 w11 := (O7.out.trans (Only.of_below D8.out)).trans P8
  have P4 : Only (fun j => j = M) w4 w11 := (O5.out.trans (Only.of_below D6.out)).trans P6
  have hr' : M < r' := by rw [HR4.out]; exact HZ3.out
  have k5 := K5.out.lt
  have k7 := K7.out.lt
  have k9 := K9.out.lt
  have z3 := B3.out.size
  have z5 := B5.out.size
  have z7 := B7.out.size
  have z9 := B9.out.size
  have z79 : w6.heap.size ≤ w9.heap.size := Nat.le_trans O7.out.size (Nat.le_trans D8.out.size O9.out.size)
  have own6 : ∀ i, Ww.own g' v' i → w5.heap.size ≤ i ∧ i < w6.heap.size := fun i hi => by
    rcases hi with rfl | hi
    · exact ⟨W6.out.g0, W6.out.b.lt⟩
    · exact World.ownsRow.lt W6.out.o i hi
  have own8 : ∀ i, (Value.slice A8 n8 c8).ownBlock = some i → w7.heap.size ≤ i ∧ i < w8.heap.size := fun i hi => World.ownsRow.lt S8.out i hi
  have hn := nxt_off H.out.h.n (Only.of_below (S := fun _ => False) B11.out) (fun _ e => e.elim)
  refine ⟨M, ⟨r', g', v', .slice A8 n8 c8, .slice A10 n10 c10, o.q, o.tl, o.td⟩, rfl, ⟨?_, R4.out.only P4 (fun e => by have e : r' = M := e; omega), ⟨l', x', win_lower (W6.out.only P6 (fun i hi e => by have := own6 i hi; omega)), HC6.out.trans HCN.out⟩, (S8.out.only P8 (fun i hi e => by have := own8 i hi; omega)).lower (Nat.zero_le _), Y10.out.only P10 (fun i hi e => by have := HO10.out i hi; omega), H.out.h.k, ?_, fun i hi e => by have := own6 i (.inr hi); have := HO10.out i e; omega⟩, fun i hi => ?_, B11.out⟩
  · have e1 := K11.out
    rw [HCA.out, HC8.out, HC6'.out, HC4.out, HC.out] at e1
    exact e1
  · cases hx : s.nx with
    | no => trivial
    | sto q => rw [hx] at hn; exact hn
    | sym Li Di => rw [hx] at hn; exact hn
  · rcases hi with rfl | rfl | hi | hi | hi
    · exact HM.out
    · have := HR4.out; omega
    · have := own6 i hi; omega
    · have := own8 i hi; omega
    · have := HO10.out i hi; omega
end
end Go.Proofs.YtnkninjdpgpkmaaGreatDoor.Io
namespace Go.Proofs.YtnkninjdpgpkmaaGreatDoor.Me
open Go.RowKit Go.Proofs.YtnkninjdpgpkmaaGreatDoor.Vm Go.Proofs.YtnkninjdpgpkmaaGreatDoor.Vo Go.Proofs.YtnkninjdpgpkmaaGreatDoor.Bm Go.Proofs.YtnkninjdpgpkmaaGreatDoor.Bt Go.Proofs.YtnkninjdpgpkmaaGreatDoor.Bw Go.Proofs.YtnkninjdpgpkmaaGreatDoor.Bp Go.Proofs.YtnkninjdpgpkmaaGreatDoor.Bs Go.Proofs.YtnkninjdpgpkmaaGreatDoor.Bv Go.Proofs.YtnkninjdpgpkmaaGreatDoor.Bx Go.Proofs.YtnkninjdpgpkmaaGreatDoor.Na Go.Proofs.YtnkninjdpgpkmaaGreatDoor.Nf Go.Proofs.YtnkninjdpgpkmaaGreatDoor.Nm Go.Proofs.YtnkninjdpgpkmaaGreatDoor.Ni Go.Proofs.YtnkninjdpgpkmaaGreatDoor.Ne Go.Proofs.YtnkninjdpgpkmaaGreatDoor.Nh Go.Proofs.YtnkninjdpgpkmaaGreatDoor.Pm Go.Proofs.YtnkninjdpgpkmaaGreatDoor.Pw Go.Proofs.YtnkninjdpgpkmaaGreatDoor.Pi Go.Proofs.YtnkninjdpgpkmaaGreatDoor.Ko Go.Proofs.YtnkninjdpgpkmaaGreatDoor.Ka Go.Proofs.YtnkninjdpgpkmaaGreatDoor.Kb Go.Proofs.YtnkninjdpgpkmaaGreatDoor.Km Go.Proofs.YtnkninjdpgpkmaaGreatDoor.Kw Go.Proofs.YtnkninjdpgpkmaaGreatDoor.Ks Go.Proofs.YtnkninjdpgpkmaaGreatDoor.Kc Go.Proofs.YtnkninjdpgpkmaaGreatDoor.Kd Go.Proofs.YtnkninjdpgpkmaaGreatDoor.Ke Go.Proofs.YtnkninjdpgpkmaaGreatDoor.Ky Go.Proofs.YtnkninjdpgpkmaaGreatDoor.Kx Go.Proofs.YtnkninjdpgpkmaaGreatDoor.Ku Go.Proofs.YtnkninjdpgpkmaaGreatDoor.Kh Go.Proofs.YtnkninjdpgpkmaaGreatDoor.Be Go.Proofs.YtnkninjdpgpkmaaGreatDoor.Ki Go.Proofs.YtnkninjdpgpkmaaGreatDoor.Kl Go.Proofs.YtnkninjdpgpkmaaGreatDoor.Kn Go.Proofs.YtnkninjdpgpkmaaGreatDoor.Ma Go.Proofs.YtnkninjdpgpkmaaGreatDoor.Kp Go.Proofs.YtnkninjdpgpkmaaGreatDoor.Br Go.Proofs.YtnkninjdpgpkmaaGreatDoor.Bq Go.Proofs.YtnkninjdpgpkmaaGreatDoor.Pr

section
variable {w : World} {g : Nat} {s : ByteArray} {a : Nat}
theorem rBits_has {z : Int} {m : Nat} (hz : z = (m : Int)) (hm : m ≤ 32) (h : rr w g s a) (hs : s.size ≤ 281474976710656) (ha : a + m ≤ 8 * s.size) :
    Calls Tryz.prog 65 #[.pointer (some ⟨g, 0, none⟩), .int .i64 z] w fun e w' => e = .returned (.tuple #[.int .i64 (peekN (num s.data.toList) a m : Nat), .int .i64 0]) ∧ rr w' g s (a + m) ∧ Only (At g) w w' := by
  subst hz
  have hc := chk_has hm ha
  refine (rBits_any (m : Int) h hs (by omega)).mono ?_
  rintro e w' ⟨rfl, r1, o1⟩
  have e1 : bitsV s a (m : Int) = (peekN (num s.data.toList) a m : Nat) := by
    unfold bitsV peekR
    rw [if_pos hc, if_pos (by simp [cnt]; omega)]
    rfl
  have e2 : moved s a (m : Int) = a + m := by unfold moved; rw [if_pos hc]; rfl
  rw [e2] at r1
  exact ⟨by rw [e1, hc], r1, o1⟩
theorem rBits_short {z : Int} {m : Nat} (hz : z = (m : Int)) (hm : m ≤ 32) (h : rr w g s a) (hs : s.size ≤ 281474976710656) (ha : a ≤ 8 * s.size) (hl : 8 * s.size - a < m) :
    Calls Tryz.prog 65 #[.pointer (some ⟨g, 0, none⟩), .int .i64 z] w fun e w' => e = .returned (.tuple #[.int .i64 0, .int .i64 2]) ∧ rr w' g s a ∧ Only (At g) w w' := by
  subst hz
  have hc : chk s a (m : Int) = 2 := by
    unfold chk
    rw [if_pos (by simp [cnt]; omega), if_pos (by omega)]
  refine (rBits_any (m : Int) h hs ha).mono ?_
  rintro e w' ⟨rfl, r1, o1⟩
  have e1 : bitsV s a (m : Int) = 0 := by unfold bitsV; rw [if_neg (by rw [hc]; decide)]
  have e2 : moved s a (m : Int) = a := by unfold moved; rw [if_neg (by rw [hc]; decide)]
  rw [e2] at r1
  exact ⟨by rw [e1, hc], r1, o1⟩
theorem only_base {S : Nat → Prop} {w b c : World} (h : Only S w b) (k : Below w.heap.size b c) : Only S w c :=
  ⟨k.os.trans h.os, k.tape.trans h.tape, k.output.trans h.output, Nat.le_trans h.size k.size, fun i hi hS => (k.block i hi).trans (h.block i hi hS)⟩
theorem rr_base {b c : World} {g : Nat} {s : ByteArray} {a B : Nat} (h : rr b g s a) (k : Below B b c) (hg : g < B) : rr c g s a := (k.block g hg).trans h
theorem blk_base {b c : World} {g B : Nat} {t : TypeId} {cs : Array Value} (h : Blk b g t cs) (k : Below B b c) (hg : g < B) : Blk c g t cs := (k.block g hg).trans h
end

theorem ints_row' {w : World} {base : Nat} {A : Option Addr} {m c : Nat} {l : List Nat} (h : ints w base 3 (.slice A m c) (ofN l)) (hm : l.length = m) : row w A m (ix l) := by
  obtain ⟨A', c', e, r⟩ := ints_row h
  injection e with e _ _
  subst e
  rw [hm] at r
  exact r
/-- That it isn't the first symbol that repeats what is not there. -/
def nf (i : Nat) (l : List Nat) : Prop := ¬ (i = 16 ∧ l = [])
/-- The length of a slice. -/
def lenV : Value → Nat | .slice _ n _ => n | _ => 0

section
variable {w : World} {g gc : Nat} {s : ByteArray} {a n : Nat} {f : Nat → Int}
/-- What row answers. -/
def rrowP (g : Nat) (s : ByteArray) (C : List Nat) (n a : Nat) (w : World) (e : Ending) (w' : World) : Prop :=
  ∃ A m c, e = .returned (.tuple #[.slice A m c, .int .i64 (seqM C (num s.data.toList) (8 * s.size) n a []).1]) ∧
    ((seqM C (num s.data.toList) (8 * s.size) n a []).1 = 0 → ints w' w.heap.size 3 (.slice A m c) (ofN (seqM C (num s.data.toList) (8 * s.size) n a []).2.1) ∧ rr w' g s (seqM C (num s.data.toList) (8 * s.size) n a []).2.2) ∧ (∃ a', rr w' g s a') ∧ Only (At g) w w'

set_option maxHeartbeats 8000000 in
set_option maxRecDepth 100000 in
theorem rrow_any {z : Int} (hz : z = (n : Int)) (he : err 19 f = 0) (HC : Hid (Blk w gc 3 (arr 19 f))) (HQ : Hid (rr w g s a)) (hs : s.size ≤ 281474976710656) (ha : a ≤ 8 * s.size) (hn : n ≤ 1000) :
    Calls Tryz.prog 135 #[.pointer (some ⟨g, 0, none⟩), .slice (some ⟨gc, 0, none⟩) 19 19, .int .i64 z] w (rrowP g s (L 19 f) n a w) := by
  subst hz
  obtain ⟨_, h2, _⟩ := err_zero he
  have H15 := Lib.hid (L_le h2)
  have HCL : Hid ((L 19 f).length = 19) := Lib.hid (L_length 19 f)
  obtain ⟨C, hC⟩ : ∃ C, C = L 19 f := ⟨_, rfl⟩
  have HCC := Lib.hid hC
  rw [← hC] at H15 HCL ⊢
  obtain ⟨M, hM⟩ : ∃ M, M = 8 * s.size := ⟨_, rfl⟩
  have HM := Lib.hid hM
  obtain ⟨N, hN⟩ : ∃ N, N = num s.data.toList := ⟨_, rfl⟩
  have HN := Lib.hid hN
  unfold rrowP
  rw [← hM, ← hN]
  rw [← hM] at ha
  obtain ⟨R, hR⟩ : ∃ R, R = seqM C N M n a [] := ⟨_, rfl⟩
  have HR := Lib.hid hR
  rw [← hR]
  have hMb : M ≤ 2251799813685248 := by omega
  have HE := Lib.hid he
  have HS := Lib.hid hs
  have HGL : Hid (g < w.heap.size) := Lib.hid HQ.out.lt
  have HCLt : Hid (gc < w.heap.size) := Lib.hid HC.out.lt
  have HGC : Hid (gc ≠ g) := Lib.hid (Blk.apart HC.out HQ.out (by decide))
  have hinfo := info_parts infoI
  obtain ⟨i0, hi0, hz0, hz1, hz2⟩ := hinfo
  clear h2 hC hM hN hR he hs
  go_enter Tryz.func135, Tryz.ntmps135
  go_wp2_with fail
  go_loopw [8] (fun s8 wr => ∃ (l : List Nat) (A : Option Addr) (m c a' : Nat), s8 = .slice A m c ∧ m ≤ n ∧ a' ≤ M ∧ Hid (l.length = m) ∧ Hid (ints wr w.heap.size 3 (.slice A m c) (ofN l)) ∧ Hid (rr wr g s a') ∧ Hid (Blk wr gc 3 (arr 19 f)) ∧ Hid (R = seqM C N M n a' l) ∧ Hid (Only (At g) w wr)) (fun s8 _ => n - lenV s8)
  case atStart => exact ⟨[], none, 0, 0, a, rfl, by omega, ha, Lib.hid rfl, Lib.hid (ints_nil _ _ _), HQ, HC, HR, Lib.hid (Only.refl _ _)⟩
  case round =>
    obtain ⟨l, A, m, c, a', rfl, hm, ha', HL, HI, HQ', HC', HRE, OO⟩ := hrel
    clear HQ HC HR
    have HSZ : Hid (w.heap.size ≤ wr.heap.size) := Lib.hid OO.out.size
    by_cases hmn : m < n
    · have hmn' : (m : Int) < (n : Int) := by omega
      have hln : l.length < n := by rw [HL.out]; exact hmn
      have HLN := Lib.hid hln
      have HRd := Lib.hid (rRead_any (cap := 19) HE.out (Lib.hid (row_of_blk HC'.out)) HQ' HS.out (by rw [← HM.out]; exact ha'))
      rw [← HCC.out, ← HN.out, ← HM.out] at HRd
      clear hln
      rcases hgot : got C N a' (M - a') with _ | i
      · obtain ⟨er, her⟩ : ∃ er, er = gotE C N a' (M - a') := ⟨_, rfl⟩
        have hgs : gotS C N a' (M - a') = 0 := by unfold gotS; rw [hgot]
        have her0 : (er != 0) = true := by rw [her]; unfold gotE; rw [hgot]; simp only; split <;> rfl
        have HD : Hid (R = (er, [], 0)) := Lib.hid (by rw [HRE.out, seq_none HLN.out hgot, ← her])
        rw [← her, hgs] at HRd
        have hne : er ≠ 0 := by simpa using her0
        have HNE := Lib.hid hne
        clear her hgs hgot hne
        go_wp2_with fail
        refine HRd.out.mono ?_
        rintro e w3 ⟨rfl, r3, o3⟩
        have R3 := Lib.hid r3
        have O3 := Lib.hid (OO.out.trans o3)
        clear r3 o3
        go_wp2
        go_ret2
        exact ⟨none, 0, 0, by rw [HD.out]; rfl, fun e => (by rw [HD.out] at e; exact absurd e HNE.out), ⟨_, R3.out⟩, O3.out⟩
      · have hgs : gotS C N a' (M - a') = (i : Int) := by unfold gotS; rw [hgot]
        have hge : gotE C N a' (M - a') = 0 := by unfold gotE; rw [hgot]
        have hga : gotA C N a' (M - a') = a' + nth C i := by unfold gotA; rw [hgot]
        obtain ⟨hi19, hil⟩ := got_lt H15.out hgot
        rw [HCL.out] at hi19
        rw [hge, hgs, hga] at HRd
        obtain ⟨p, hp⟩ : ∃ p, p = a' + nth C i := ⟨_, rfl⟩
        have hpM : p ≤ M := by omega
        have HP := Lib.hid hp
        rw [← hp] at HRd
        have HGT := Lib.hid hgot
        clear hgs hge hga hgot hil hp
        by_cases hi16 : i < 16
        · have hi16' : (i : Int) < 16 := by omega
          have HD : Hid (R = seqM C N M n p (l ++ [i])) := Lib.hid (by rw [HRE.out, seq_low HLN.out HGT.out hi16, ← HP.out])
          go_wp2_with fail
          refine HRd.out.mono ?_
          rintro e w3 ⟨rfl, r3, o3⟩
          have R3 := Lib.hid r3
          have O3 := Lib.hid (OO.out.trans o3)
          have C3 := Lib.hid (HC'.out.only o3 HGC.out)
          have I3 : Hid (ints w3 w.heap.size 3 (.slice A m c) (ofN l)) := Lib.hid (HI.out.only o3 (fun i hi e => by
            have h1 := (HI.out.lo i hi).1
            have : i = g := e
            have := HGL.out
            omega))
          have S3 : Hid (w.heap.size ≤ w3.heap.size) := Lib.hid O3.out.size
          have I3' : Hid (w3.ownsRow w.heap.size 3 1 (.slice A m c) m (Is (ofN l))) := Lib.hid (by
            have h := I3.out
            unfold ints at h
            rw [ofN_length, HL.out] at h
            exact h)
          clear r3 o3 HRd HQ' HC' HI OO HSZ
          go_wp2_with (at_builtin; refine wpList_append_own_at _ rfl _ _ 22 rfl w.heap.size 3 i0 (.int .i64 0) 1 8 Tryz.underlying22 hi0 hz0 hz1 hz2 rfl (by decide) _ m (Is (ofN l)) rfl (I3'.out.alloc _) ⟨w3.heap.size, 0, none⟩ 1 1 [.int .i64 (i : Int)] rfl rfl (cell_one_new _ _ _) ?a2 ?a3 ?a4 ?a5 ?_)
          case a2 => intro q hq; simp at hq; subst hq; rfl
          case a3 => unfold maxLen; omega
          case a4 => omega
          case a5 => have := S3.out; rw [size_alloc]; omega
          intro v4 w4 h4 g4 _ _
          rw [show m = (ofN l).length by rw [ofN_length, HL.out]] at h4
          obtain ⟨k1, k2⟩ := ints_snoc (w := w3) (x := (i : Int)) S3.out (Below.refl _ _) I3.out h4 g4
          have K1 : Hid (ints w4 w.heap.size 3 v4 (ofN (l ++ [i]))) := Lib.hid (by rw [ofN_append]; exact k1)
          obtain ⟨A4, c4', hv4⟩ := K1.out.form
          rw [ofN_length, List.length_append, HL.out] at hv4
          have hv4' : v4 = .slice A4 (m + 1) c4' := hv4
          subst hv4'
          have R4 := Lib.hid (rr_base R3.out k2 HGL.out)
          have C4' := Lib.hid (blk_base C3.out k2 HCLt.out)
          have O4 := Lib.hid (only_base O3.out k2)
          clear h4 g4 k1 k2 hv4
          go_wp2
          go_roundw
          case rel => exact ⟨l ++ [i], A4, m + 1, c4', p, rfl, by omega, hpM, Lib.hid (by rw [List.length_append, HL.out]; rfl), K1, R4, C4', HD, O4⟩
          case measure => show n - (m + 1) < n - m; omega
        · have hi16' : ¬ (i : Int) < 16 := by omega
          rcases (show i = 16 ∨ i = 17 ∨ i = 18 by omega) with hi | hi | hi
          · subst hi
            by_cases hm0 : m = 0
            · have hl0 : l = [] := by
                rcases l with _ | ⟨x, t⟩
                · rfl
                · have := HL.out; simp at this; omega
              have HD : Hid (R = (4, [], 0)) := Lib.hid (by rw [HRE.out, seq_form HLN.out HGT.out rfl hl0])
              subst hm0
              clear hl0
              go_wp2_with fail
              refine HRd.out.mono ?_
              rintro e w3 ⟨rfl, r3, o3⟩
              have R3 := Lib.hid r3
              have O3 := Lib.hid (OO.out.trans o3)
              clear r3 o3
              go_wp2
              go_ret2
              exact ⟨none, 0, 0, by rw [HD.out]; rfl, fun e => (by rw [HD.out] at e; cases e), ⟨_, R3.out⟩, O3.out⟩
            · have hr' := ints_row' HI.out HL.out
              obtain ⟨b5, off5, hA5, hb5, hc5⟩ := hr' (m - 1) (by omega)
              subst hA5
              obtain ⟨x, hx⟩ : ∃ x, x = nth l (m - 1) := ⟨_, rfl⟩
              rw [show ix l (m - 1) = (x : Int) by rw [hx]; rfl] at hc5
              have HX : Hid (x = rv 16 l) := Lib.hid (by rw [hx]; unfold rv; rw [if_pos rfl, HL.out])
              have hb5g : b5 ≠ g := fun e => by
                have h1 := (HI.out.lo b5 rfl).1
                have := HGL.out
                omega
              have HB5 := Lib.hid hb5
              have HC5 := Lib.hid hc5
              have HB5G := Lib.hid hb5g
              have hm1 : (m : Int) - 1 = ((m - 1 : Nat) : Int) := by omega
              have hfm : Hid (nf 16 l) := Lib.hid (fun e => by have h := HL.out; rw [e.2] at h; exact hm0 h.symm)
              clear hx hr' hb5 hc5 hb5g
              have hm0' : ((m : Int) == 0) = false := by simp; omega
              have HXB : Hid (xb 16 = 2 ∧ rp 16 = 3) := Lib.hid (by decide)
              go_wp2_with fail
              refine HRd.out.mono ?_
              rintro e w3 ⟨rfl, r3, o3⟩
              have R3 := Lib.hid r3
              have O3 := Lib.hid (OO.out.trans o3)
              have C3 := Lib.hid (HC'.out.only o3 HGC.out)
              have I3 := Lib.hid (HI.out.only o3 (fun i hi e => by
                have h1 := (HI.out.lo i hi).1
                have : i = g := e
                have := HGL.out
                omega))
              have c5 : w3.cell? ⟨b5, off5 + (m - 1), none⟩ = some (.int .i64 (x : Int)) := by
                  have hb := o3.block b5 HB5.out HB5G.out
                  have := HC5.out
                  unfold World.cell? at this ⊢
                  simp only [hb]
                  exact this
              clear r3 o3 HRd HQ' HC' HI OO HSZ
              by_cases hsh : M - p < 2
              · have HD : Hid (R = (2, [], 0)) := Lib.hid (by rw [HRE.out, seq_short HLN.out HGT.out (by decide) hfm.out (by rw [← HP.out, HXB.out.1]; exact hsh)])
                go_wp2_with fail
                refine (rBits_short (m := 2) rfl (by omega) R3.out HS.out (by rw [← HM.out]; exact hpM) (by rw [← HM.out]; exact hsh)).mono ?_
                rintro e w4 ⟨rfl, r4, o4⟩
                have R4 := Lib.hid r4
                have O4 := Lib.hid (O3.out.trans o4)
                clear r4 o4
                go_wp2
                go_ret2
                exact ⟨none, 0, 0, by rw [HD.out]; rfl, fun e => (by rw [HD.out] at e; cases e), ⟨_, R4.out⟩, O4.out⟩
              · obtain ⟨y, hy⟩ : ∃ y, y = peekN N p 2 := ⟨_, rfl⟩
                have hy128 : y < 128 := by rw [hy]; exact Nat.lt_of_lt_of_le (peekN_lt _ _ _) (by decide)
                have HY := Lib.hid hy
                clear hy
                go_wp2_with fail
                refine (rBits_has (m := 2) rfl (by omega) R3.out HS.out (by rw [← HM.out]; omega)).mono ?_
                rintro e w4 ⟨rfl, r4, o4⟩
                rw [← HN.out, ← HY.out]
                have R4 := Lib.hid r4
                have O4 := Lib.hid (O3.out.trans o4)
                have C4' := Lib.hid (C3.out.only o4 HGC.out)
                have I4 := Lib.hid (I3.out.only o4 (fun i hi e => by
                  have h1 := (I3.out.lo i hi).1
                  have : i = g := e
                  have := HGL.out
                  omega))
                clear r4 o4 R3 C3 I3
                by_cases hbig : n < m + 3 + y
                · have HD : Hid (R = (3, [], 0)) := Lib.hid (by rw [HRE.out, seq_big HLN.out HGT.out (by decide) hfm.out (by rw [← HP.out, HXB.out.1]; exact hsh) (by rw [← HP.out, HXB.out.1, HXB.out.2, ← HY.out, HL.out]; exact hbig)])
                  have hbig' : (n : Int) < (m : Int) + 3 + (y : Int) := by omega
                  go_wp2
                  go_ret2
                  exact ⟨none, 0, 0, by rw [HD.out]; rfl, fun e => (by rw [HD.out] at e; cases e), ⟨_, R4.out⟩, O4.out⟩
                · have HD : Hid (R = seqM C N M n (p + 2) (l ++ List.replicate (3 + y) (x))) := Lib.hid (by
                    rw [HRE.out, seq_more HLN.out HGT.out (by decide) hfm.out (by rw [← HP.out, HXB.out.1]; exact hsh) (by rw [← HP.out, HXB.out.1, HXB.out.2, ← HY.out, HL.out]; exact hbig), ← HP.out, HXB.out.1, HXB.out.2, ← HY.out, ← HX.out])
                  have hbig' : ¬ (n : Int) < (m : Int) + 3 + (y : Int) := by omega
                  have R6 := Lib.hid (ints_row' I4.out HL.out)
                  have U6 : Hid (upto m (ix l) = ofN l) := Lib.hid (by
                    have h := upto_at (ofN l)
                    rw [ofN_length, HL.out] at h
                    refine Eq.trans ?_ h
                    unfold upto
                    refine List.map_congr_left (fun q _ => ?_)
                    rw [ofN_at])
                  go_wp2_with fail
                  refine (times_any (n := 3 + y) (x : Int) (by omega) U6.out (by omega) R6).mono ?_
                  rintro e w7 ⟨v7, rfl, k7, b7⟩
                  have K7 : Hid (ints w7 w.heap.size 3 v7 (ofN (l ++ List.replicate (3 + y) (x)))) := Lib.hid (by
                    rw [ofN_append, ofN_rep]
                    exact ints_lower k7 O4.out.size)
                  obtain ⟨A7, c7, hv7⟩ := K7.out.form
                  rw [ofN_length, List.length_append, List.length_replicate, HL.out] at hv7
                  subst hv7
                  have R7 := Lib.hid (R4.out.below b7)
                  have C7 := Lib.hid (C4'.out.below b7)
                  have O7 := Lib.hid (O4.out.trans (Only.of_below b7))
                  clear k7 b7
                  go_wp2
                  go_roundw
                  case rel => exact ⟨l ++ List.replicate (3 + y) (x), A7, m + (3 + y), c7, p + 2, rfl, by omega, by omega, Lib.hid (by rw [List.length_append, List.length_replicate, HL.out]), K7, R7, C7, HD, O7⟩
                  case measure => show n - (m + (3 + y)) < n - m; omega
          · subst hi
            have HX : Hid (0 = rv 17 l) := Lib.hid (by unfold rv; rw [if_neg (by decide)])
            have hfm : Hid (nf 17 l) := Lib.hid (fun e => absurd e.1 (by decide))
            have HXB : Hid (xb 17 = 3 ∧ rp 17 = 3) := Lib.hid (by decide)
            go_wp2_with fail
            refine HRd.out.mono ?_
            rintro e w3 ⟨rfl, r3, o3⟩
            have R3 := Lib.hid r3
            have O3 := Lib.hid (OO.out.trans o3)
            have C3 := Lib.hid (HC'.out.only o3 HGC.out)
            have I3 := Lib.hid (HI.out.only o3 (fun i hi e => by
              have h1 := (HI.out.lo i hi).1
              have : i = g := e
              have := HGL.out
              omega))
            clear r3 o3 HRd HQ' HC' HI OO HSZ
            by_cases hsh : M - p < 3
            · have HD : Hid (R = (2, [], 0)) := Lib.hid (by rw [HRE.out, seq_short HLN.out HGT.out (by decide) hfm.out (by rw [← HP.out, HXB.out.1]; exact hsh)])
              go_wp2_with fail
              refine (rBits_short (m := 3) rfl (by omega) R3.out HS.out (by rw [← HM.out]; exact hpM) (by rw [← HM.out]; exact hsh)).mono ?_
              rintro e w4 ⟨rfl, r4, o4⟩
              have R4 := Lib.hid r4
              have O4 := Lib.hid (O3.out.trans o4)
              clear r4 o4
              go_wp2
              go_ret2
              exact ⟨none, 0, 0, by rw [HD.out]; rfl, fun e => (by rw [HD.out] at e; cases e), ⟨_, R4.out⟩, O4.out⟩
            · obtain ⟨y, hy⟩ : ∃ y, y = peekN N p 3 := ⟨_, rfl⟩
              have hy128 : y < 128 := by rw [hy]; exact Nat.lt_of_lt_of_le (peekN_lt _ _ _) (by decide)
              have HY := Lib.hid hy
              clear hy
              go_wp2_with fail
              refine (rBits_has (m := 3) rfl (by omega) R3.out HS.out (by rw [← HM.out]; omega)).mono ?_
              rintro e w4 ⟨rfl, r4, o4⟩
              rw [← HN.out, ← HY.out]
              have R4 := Lib.hid r4
              have O4 := Lib.hid (O3.out.trans o4)
              have C4' := Lib.hid (C3.out.only o4 HGC.out)
              have I4 := Lib.hid (I3.out.only o4 (fun i hi e => by
                have h1 := (I3.out.lo i hi).1
                have : i = g := e
                have := HGL.out
                omega))
              clear r4 o4 R3 C3 I3
              by_cases hbig : n < m + 3 + y
              · have HD : Hid (R = (3, [], 0)) := Lib.hid (by rw [HRE.out, seq_big HLN.out HGT.out (by decide) hfm.out (by rw [← HP.out, HXB.out.1]; exact hsh) (by rw [← HP.out, HXB.out.1, HXB.out.2, ← HY.out, HL.out]; exact hbig)])
                have hbig' : (n : Int) < (m : Int) + 3 + (y : Int) := by omega
                go_wp2
                go_ret2
                exact ⟨none, 0, 0, by rw [HD.out]; rfl, fun e => (by rw [HD.out] at e; cases e), ⟨_, R4.out⟩, O4.out⟩
              · have HD : Hid (R = seqM C N M n (p + 3) (l ++ List.replicate (3 + y) (0))) := Lib.hid (by
                  rw [HRE.out, seq_more HLN.out HGT.out (by decide) hfm.out (by rw [← HP.out, HXB.out.1]; exact hsh) (by rw [← HP.out, HXB.out.1, HXB.out.2, ← HY.out, HL.out]; exact hbig), ← HP.out, HXB.out.1, HXB.out.2, ← HY.out, ← HX.out])
                have hbig' : ¬ (n : Int) < (m : Int) + 3 + (y : Int) := by omega
                have R6 := Lib.hid (ints_row' I4.out HL.out)
                have U6 : Hid (upto m (ix l) = ofN l) := Lib.hid (by
                  have h := upto_at (ofN l)
                  rw [ofN_length, HL.out] at h
                  refine Eq.trans ?_ h
                  unfold upto
                  refine List.map_congr_left (fun q _ => ?_)
                  rw [ofN_at])
                go_wp2_with fail
                refine (times_any (n := 3 + y) 0 (by omega) U6.out (by omega) R6).mono ?_
                rintro e w7 ⟨v7, rfl, k7, b7⟩
                have K7 : Hid (ints w7 w.heap.size 3 v7 (ofN (l ++ List.replicate (3 + y) (0)))) := Lib.hid (by
                  rw [ofN_append, ofN_rep]
                  exact ints_lower k7 O4.out.size)
                obtain ⟨A7, c7, hv7⟩ := K7.out.form
                rw [ofN_length, List.length_append, List.length_replicate, HL.out] at hv7
                subst hv7
                have R7 := Lib.hid (R4.out.below b7)
                have C7 := Lib.hid (C4'.out.below b7)
                have O7 := Lib.hid (O4.out.trans (Only.of_below b7))
                clear k7 b7
                go_wp2
                go_roundw
                case rel => exact ⟨l ++ List.replicate (3 + y) (0), A7, m + (3 + y), c7, p + 3, rfl, by omega, by omega, Lib.hid (by rw [List.length_append, List.length_replicate, HL.out]), K7, R7, C7, HD, O7⟩
                case measure => show n - (m + (3 + y)) < n - m; omega
          · subst hi
            have HX : Hid (0 = rv 18 l) := Lib.hid (by unfold rv; rw [if_neg (by decide)])
            have hfm : Hid (nf 18 l) := Lib.hid (fun e => absurd e.1 (by decide))
            have HXB : Hid (xb 18 = 7 ∧ rp 18 = 11) := Lib.hid (by decide)
            go_wp2_with fail
            refine HRd.out.mono ?_
            rintro e w3 ⟨rfl, r3, o3⟩
            have R3 := Lib.hid r3
            have O3 := Lib.hid (OO.out.trans o3)
            have C3 := Lib.hid (HC'.out.only o3 HGC.out)
            have I3 := Lib.hid (HI.out.only o3 (fun i hi e => by
              have h1 := (HI.out.lo i hi).1
              have : i = g := e
              have := HGL.out
              omega))
            clear r3 o3 HRd HQ' HC' HI OO HSZ
            by_cases hsh : M - p < 7
            · have HD : Hid (R = (2, [], 0)) := Lib.hid (by rw [HRE.out, seq_short HLN.out HGT.out (by decide) hfm.out (by rw [← HP.out, HXB.out.1]; exact hsh)])
              go_wp2_with fail
              refine (rBits_short (m := 7) rfl (by omega) R3.out HS.out (by rw [← HM.out]; exact hpM) (by rw [← HM.out]; exact hsh)).mono ?_
              rintro e w4 ⟨rfl, r4, o4⟩
              have R4 := Lib.hid r4
              have O4 := Lib.hid (O3.out.trans o4)
              clear r4 o4
              go_wp2
              go_ret2
              exact ⟨none, 0, 0, by rw [HD.out]; rfl, fun e => (by rw [HD.out] at e; cases e), ⟨_, R4.out⟩, O4.out⟩
            · obtain ⟨y, hy⟩ : ∃ y, y = peekN N p 7 := ⟨_, rfl⟩
              have hy128 : y < 128 := by rw [hy]; exact Nat.lt_of_lt_of_le (peekN_lt _ _ _) (by decide)
              have HY := Lib.hid hy
              clear hy
              go_wp2_with fail
              refine (rBits_has (m := 7) rfl (by omega) R3.out HS.out (by rw [← HM.out]; omega)).mono ?_
              rintro e w4 ⟨rfl, r4, o4⟩
              rw [← HN.out, ← HY.out]
              have R4 := Lib.hid r4
              have O4 := Lib.hid (O3.out.trans o4)
              have C4' := Lib.hid (C3.out.only o4 HGC.out)
              have I4 := Lib.hid (I3.out.only o4 (fun i hi e => by
                have h1 := (I3.out.lo i hi).1
                have : i = g := e
                have := HGL.out
                omega))
              clear r4 o4 R3 C3 I3
              by_cases hbig : n < m + 11 + y
              · have HD : Hid (R = (3, [], 0)) := Lib.hid (by rw [HRE.out, seq_big HLN.out HGT.out (by decide) hfm.out (by rw [← HP.out, HXB.out.1]; exact hsh) (by rw [← HP.out, HXB.out.1, HXB.out.2, ← HY.out, HL.out]; exact hbig)])
                have hbig' : (n : Int) < (m : Int) + 11 + (y : Int) := by omega
                go_wp2
                go_ret2
                exact ⟨none, 0, 0, by rw [HD.out]; rfl, fun e => (by rw [HD.out] at e; cases e), ⟨_, R4.out⟩, O4.out⟩
              · have HD : Hid (R = seqM C N M n (p + 7) (l ++ List.replicate (11 + y) (0))) := Lib.hid (by
                  rw [HRE.out, seq_more HLN.out HGT.out (by decide) hfm.out (by rw [← HP.out, HXB.out.1]; exact hsh) (by rw [← HP.out, HXB.out.1, HXB.out.2, ← HY.out, HL.out]; exact hbig), ← HP.out, HXB.out.1, HXB.out.2, ← HY.out, ← HX.out])
                have hbig' : ¬ (n : Int) < (m : Int) + 11 + (y : Int) := by omega
                have R6 := Lib.hid (ints_row' I4.out HL.out)
                have U6 : Hid (upto m (ix l) = ofN l) := Lib.hid (by
                  have h := upto_at (ofN l)
                  rw [ofN_length, HL.out] at h
                  refine Eq.trans ?_ h
                  unfold upto
                  refine List.map_congr_left (fun q _ => ?_)
                  rw [ofN_at])
                go_wp2_with fail
                refine (times_any (n := 11 + y) 0 (by omega) U6.out (by omega) R6).mono ?_
                rintro e w7 ⟨v7, rfl, k7, b7⟩
                have K7 : Hid (ints w7 w.heap.size 3 v7 (ofN (l ++ List.replicate (11 + y) (0)))) := Lib.hid (by
                  rw [ofN_append, ofN_rep]
                  exact ints_lower k7 O4.out.size)
                obtain ⟨A7, c7, hv7⟩ := K7.out.form
                rw [ofN_length, List.length_append, List.length_replicate, HL.out] at hv7
                subst hv7
                have R7 := Lib.hid (R4.out.below b7)
                have C7 := Lib.hid (C4'.out.below b7)
                have O7 := Lib.hid (O4.out.trans (Only.of_below b7))
                clear k7 b7
                go_wp2
                go_roundw
                case rel => exact ⟨l ++ List.replicate (11 + y) (0), A7, m + (11 + y), c7, p + 7, rfl, by omega, by omega, Lib.hid (by rw [List.length_append, List.length_replicate, HL.out]), K7, R7, C7, HD, O7⟩
                case measure => show n - (m + (11 + y)) < n - m; omega
    · have hmn' : ¬ (m : Int) < (n : Int) := by omega
      have HD : Hid (R = (0, l, a')) := Lib.hid (by rw [HRE.out, seq_done (by have := HL.out; omega)])
      go_wp2
      go_ret2
      exact ⟨A, m, c, by rw [HD.out]; rfl, fun _ => (by rw [HD.out]; exact ⟨HI.out, HQ'.out⟩), ⟨_, HQ'.out⟩, OO.out⟩
end
end Go.Proofs.YtnkninjdpgpkmaaGreatDoor.Me
namespace Go.Proofs.YtnkninjdpgpkmaaGreatDoor.Mf
open Go.RowKit Go.Proofs.YtnkninjdpgpkmaaGreatDoor.Vm Go.Proofs.YtnkninjdpgpkmaaGreatDoor.Vo Go.Proofs.YtnkninjdpgpkmaaGreatDoor.Bm Go.Proofs.YtnkninjdpgpkmaaGreatDoor.Bt Go.Proofs.YtnkninjdpgpkmaaGreatDoor.Bw Go.Proofs.YtnkninjdpgpkmaaGreatDoor.Bp Go.Proofs.YtnkninjdpgpkmaaGreatDoor.Bs Go.Proofs.YtnkninjdpgpkmaaGreatDoor.Bv Go.Proofs.YtnkninjdpgpkmaaGreatDoor.Bx Go.Proofs.YtnkninjdpgpkmaaGreatDoor.Na Go.Proofs.YtnkninjdpgpkmaaGreatDoor.Nf Go.Proofs.YtnkninjdpgpkmaaGreatDoor.Nm Go.Proofs.YtnkninjdpgpkmaaGreatDoor.Ni Go.Proofs.YtnkninjdpgpkmaaGreatDoor.Ne Go.Proofs.YtnkninjdpgpkmaaGreatDoor.Nh Go.Proofs.YtnkninjdpgpkmaaGreatDoor.Pm Go.Proofs.YtnkninjdpgpkmaaGreatDoor.Pw Go.Proofs.YtnkninjdpgpkmaaGreatDoor.Pi Go.Proofs.YtnkninjdpgpkmaaGreatDoor.Ko Go.Proofs.YtnkninjdpgpkmaaGreatDoor.Ka Go.Proofs.YtnkninjdpgpkmaaGreatDoor.Kb Go.Proofs.YtnkninjdpgpkmaaGreatDoor.Km Go.Proofs.YtnkninjdpgpkmaaGreatDoor.Kw Go.Proofs.YtnkninjdpgpkmaaGreatDoor.Ks Go.Proofs.YtnkninjdpgpkmaaGreatDoor.Kc Go.Proofs.YtnkninjdpgpkmaaGreatDoor.Kd Go.Proofs.YtnkninjdpgpkmaaGreatDoor.Ke Go.Proofs.YtnkninjdpgpkmaaGreatDoor.Ky Go.Proofs.YtnkninjdpgpkmaaGreatDoor.Kx Go.Proofs.YtnkninjdpgpkmaaGreatDoor.Ku Go.Proofs.YtnkninjdpgpkmaaGreatDoor.Kh Go.Proofs.YtnkninjdpgpkmaaGreatDoor.Be Go.Proofs.YtnkninjdpgpkmaaGreatDoor.Ki Go.Proofs.YtnkninjdpgpkmaaGreatDoor.Kl Go.Proofs.YtnkninjdpgpkmaaGreatDoor.Kn Go.Proofs.YtnkninjdpgpkmaaGreatDoor.Ma Go.Proofs.YtnkninjdpgpkmaaGreatDoor.Kp Go.Proofs.YtnkninjdpgpkmaaGreatDoor.Br Go.Proofs.YtnkninjdpgpkmaaGreatDoor.Bq Go.Proofs.YtnkninjdpgpkmaaGreatDoor.Pr Go.Proofs.YtnkninjdpgpkmaaGreatDoor.Me

/-- What the reference answers of a head: what is wrong, the head, the reader behind it. -/
def rHd (g : Nat) (s : ByteArray) (w : World) (er : Int) (h : Hd) (p : Nat) (e : Ending) (w' : World) : Prop :=
  ∃ b k z A1 n1 c1 A2 n2 c2, e = .returned (.tuple #[hv b k z (.slice A1 n1 c1) (.slice A2 n2 c2), .int .i64 er]) ∧
    isH w' (hv b k z (.slice A1 n1 c1) (.slice A2 n2 c2)) (if er = 0 then h else Hd.zero) ∧ (er = 0 → rr w' g s p) ∧ (∃ a', rr w' g s a') ∧ Only (At g) w w'
theorem end_err {g : Nat} {s : ByteArray} {w u : World} {er : Int} {h : Hd} {p a' Y : Nat} (HO : Only (At g) w u) (hY : w.heap.size ≤ Y) (hg : g < w.heap.size) (r : rr u g s a') (he : er ≠ 0) :
    rHd g s w er h p (.returned (.tuple #[.agg z5, .int .i64 er])) (u.setRow Y z5) := by
  refine ⟨false, 0, 0, none, 0, 0, none, 0, 0, rfl, ?_, fun e => absurd e he, ⟨a', ?_⟩, only_setRow HO hY _⟩
  · rw [if_neg he]; exact ⟨_, _, rfl, lst_nil _, lst_nil _⟩
  · exact Blk.only r (only_row (S := fun i => i = Y) (Only.refl _ _) rfl _) (fun e => by have : g = Y := e; omega)

section
variable {w : World} {g : Nat} {s : ByteArray} {a : Nat}
set_option maxHeartbeats 2000000 in
set_option maxRecDepth 100000 in
theorem rstored_any (fb : Bool) (k : Nat) (h : rr w g s a) (hs : s.size ≤ 281474976710656) (ha : a ≤ 8 * s.size) :
    Calls Tryz.prog 99 #[.pointer (some ⟨g, 0, none⟩), hv fb (k : Int) 0 (.slice none 0 0) (.slice none 0 0)] w
      (rHd g s w (stoM (num s.data.toList) (8 * s.size) a).1 ⟨fb, k, (stoM (num s.data.toList) (8 * s.size) a).2.1, [], []⟩ (stoM (num s.data.toList) (8 * s.size) a).2.2) := by
  obtain ⟨c, hc⟩ : ∃ c, c = (a + 7) / 8 * 8 := ⟨_, rfl⟩
  have hcM : c ≤ 8 * s.size := by omega

  obtain ⟨w1, hw1⟩ : ∃ w1, w1 = (w.alloc (.cells #[.bool fb, .int .i64 (k : Int), .int .i64 0, .slice none 0 0, .slice none 0 0] 77)).alloc (.cells z5 77) := ⟨_, rfl⟩
  have b1 : Below w.heap.size w w1 := by rw [hw1]; exact grows (below_alloc _ _) (below_alloc _ _)
  have kX : Blk w1 w.heap.size 77 #[.bool fb, .int .i64 (k : Int), .int .i64 0, .slice none 0 0, .slice none 0 0] := by rw [hw1]; exact (Blk.fresh w _ _).below (below_alloc _ _)
  have kY : Blk w1 (w.heap.size + 1) 77 z5 := by
    have := Blk.fresh (w.alloc (.cells #[.bool fb, .int .i64 (k : Int), .int .i64 0, .slice none 0 0, .slice none 0 0] 77)) 77 z5
    rw [size_alloc] at this
    rw [hw1]; exact this
  have hgl : g < w.heap.size := h.lt
  have HG := Lib.hid hgl
  have h1 : rr w1 g s a := h.below b1
  have HA := Lib.hid (rAlign_any h1 hs ha)
  rw [← hc] at HA
  have HX : Hid (∀ u, Only (At g) w1 u → Blk u w.heap.size 77 #[.bool fb, .int .i64 (k : Int), .int .i64 0, .slice none 0 0, .slice none 0 0]) := Lib.hid (fun u o => kX.only o (fun e => by have : w.heap.size = g := e; omega))
  have HY : Hid (∀ u, Only (At g) w1 u → Blk u (w.heap.size + 1) 77 z5) := Lib.hid (fun u o => kY.only o (fun e => by have : w.heap.size + 1 = g := e; omega))
  have HO : Hid (∀ u, Only (At g) w1 u → Only (At g) w u) := Lib.hid (fun u o => (Only.of_below b1).trans o)
  have HS := Lib.hid hs
  obtain ⟨M, hM⟩ : ∃ M, M = 8 * s.size := ⟨_, rfl⟩
  have HM := Lib.hid hM
  obtain ⟨N, hN⟩ : ∃ N, N = num s.data.toList := ⟨_, rfl⟩
  have HN := Lib.hid hN
  rw [← hM] at hcM
  rw [← hM, ← hN]
  have HSM := Lib.hid (show stoM N M a = (if M - c < 32 then (2, 0, 0) else if peekN N c 16 + peekN N (c + 16) 16 ≠ 65535 then (6, 0, 0) else (0, peekN N c 16, c + 32)) by unfold stoM; rw [← hc])
  rw [HSM.out]
  clear b1 kX kY hgl h h1 hs ha hM hN hc
  by_cases hl : M - c < 32
  · rw [if_pos hl]
    by_cases hl16 : M - c < 16
    · go_enter Tryz.func99, Tryz.ntmps99
      go_wp2_with fail
      rw [← hw1]
      clear hw1
      refine HA.out.mono ?_
      rintro e w2 ⟨rfl, r2, o2⟩
      have R2 := Lib.hid r2; have O2 := Lib.hid o2; clear r2 o2
      go_wp2_with fail
      refine (rBits_short (m := 16) rfl (by omega) R2.out HS.out (by rw [← HM.out]; exact hcM) (by rw [← HM.out]; exact hl16)).mono ?_
      rintro e w3 ⟨rfl, r3, o3⟩
      have R3 := Lib.hid r3; have O3 := Lib.hid (O2.out.trans o3); clear r3 o3
      go_wp2_with fail
      refine (rBits_short (m := 16) rfl (by omega) R3.out HS.out (by rw [← HM.out]; exact hcM) (by rw [← HM.out]; exact hl16)).mono ?_
      rintro e w4 ⟨rfl, r4, o4⟩
      have R4 := Lib.hid r4; have O4 := Lib.hid (O3.out.trans o4); clear r4 o4
      have HY4 := Lib.hid (HY.out _ O4.out)
      go_wp2_with (refine wpList_store_row rfl 77 _ _ rfl (w.heap.size + 1) z5 rfl rfl _ _ HY4.out sizeR rfl (one5 _ _ _ _ _ _ _ _ _) ?_)
      refine bodyPost_ret (v := .tuple #[.agg z5, .int .i64 2]) (results_cell2 rfl _ _ (w.heap.size + 1) 77 z5 _ _ rfl rfl (setRow_heap _ _ _ _ _ _ HY4.out) Tryz.underlying77 rfl sizeR) rfl ?_
      exact end_err (HO.out _ O4.out) (Nat.le_succ _) HG.out R4.out (by decide)
    · obtain ⟨x, hx⟩ : ∃ x, x = peekN N c 16 := ⟨_, rfl⟩
      have HXv := Lib.hid hx
      clear hx
      go_enter Tryz.func99, Tryz.ntmps99
      go_wp2_with fail
      rw [← hw1]
      clear hw1
      refine HA.out.mono ?_
      rintro e w2 ⟨rfl, r2, o2⟩
      have R2 := Lib.hid r2; have O2 := Lib.hid o2; clear r2 o2
      go_wp2_with fail
      refine (rBits_has (m := 16) rfl (by omega) R2.out HS.out (by rw [← HM.out]; omega)).mono ?_
      rintro e w3 ⟨rfl, r3, o3⟩
      rw [← HN.out, ← HXv.out]
      have R3 := Lib.hid r3; have O3 := Lib.hid (O2.out.trans o3); clear r3 o3
      go_wp2_with fail
      refine (rBits_short (m := 16) rfl (by omega) R3.out HS.out (by rw [← HM.out]; omega) (by rw [← HM.out]; omega)).mono ?_
      rintro e w4 ⟨rfl, r4, o4⟩
      have R4 := Lib.hid r4; have O4 := Lib.hid (O3.out.trans o4); clear r4 o4
      have HY4 := Lib.hid (HY.out _ O4.out)
      go_wp2_with (refine wpList_store_row rfl 77 _ _ rfl (w.heap.size + 1) z5 rfl rfl _ _ HY4.out sizeR rfl (one5 _ _ _ _ _ _ _ _ _) ?_)
      refine bodyPost_ret (v := .tuple #[.agg z5, .int .i64 2]) (results_cell2 rfl _ _ (w.heap.size + 1) 77 z5 _ _ rfl rfl (setRow_heap _ _ _ _ _ _ HY4.out) Tryz.underlying77 rfl sizeR) rfl ?_
      exact end_err (HO.out _ O4.out) (Nat.le_succ _) HG.out R4.out (by decide)
  · rw [if_neg hl]
    obtain ⟨x, hx⟩ : ∃ x, x = peekN N c 16 := ⟨_, rfl⟩
    obtain ⟨y, hy⟩ : ∃ y, y = peekN N (c + 16) 16 := ⟨_, rfl⟩
    have hx16 : x < 65536 := by rw [hx]; exact peekN_lt _ _ _
    have hy16 : y < 65536 := by rw [hy]; exact peekN_lt _ _ _
    rw [← hx, ← hy]
    have HXv := Lib.hid hx
    have HYv := Lib.hid hy
    clear hx hy
    have HB1 := Lib.hid (show c + 16 ≤ M by omega)
    have HB2 := Lib.hid (show c + 16 + 16 ≤ M by omega)
    by_cases hxy : x + y = 65535
    · rw [if_neg (by omega)]
      have hne : ((x : Int) + (y : Int) != 65535) = false := by simp; omega
      go_enter Tryz.func99, Tryz.ntmps99
      go_wp2_with fail
      rw [← hw1]
      clear hw1
      refine HA.out.mono ?_
      rintro e w2 ⟨rfl, r2, o2⟩
      have R2 := Lib.hid r2; have O2 := Lib.hid o2; clear r2 o2
      go_wp2_with fail
      refine (rBits_has (m := 16) rfl (by omega) R2.out HS.out (by rw [← HM.out]; exact HB1.out)).mono ?_
      rintro e w3 ⟨rfl, r3, o3⟩
      rw [← HN.out, ← HXv.out]
      have R3 := Lib.hid r3; have O3 := Lib.hid (O2.out.trans o3); clear r3 o3
      go_wp2_with fail
      refine (rBits_has (m := 16) rfl (by omega) R3.out HS.out (by rw [← HM.out]; exact HB2.out)).mono ?_
      rintro e w4 ⟨rfl, r4, o4⟩
      rw [← HN.out, ← HYv.out]
      have R4 := Lib.hid r4; have O4 := Lib.hid (O3.out.trans o4); clear r4 o4
      have k4 := HX.out _ O4.out
      have c2 := k4.cell 2
      have f2 := k4.frozen 2
      have HL : Hid (Blk (w4.setCell ⟨w.heap.size, 2, none⟩ (.int .i64 (x : Int))) w.heap.size 77 #[.bool fb, .int .i64 (k : Int), .int .i64 (x : Int), .slice none 0 0, .slice none 0 0]) := Lib.hid (k4.store 2 _)
      have HR6 : Hid (Blk (w4.setCell ⟨w.heap.size, 2, none⟩ (.int .i64 (x : Int))) (w.heap.size + 1) 77 z5) := Lib.hid ((HY.out _ O4.out).apartStore (by show w.heap.size + 1 ≠ w.heap.size; omega))
      clear k4
      go_wp2_with (first | (refine wpList_load_row rfl 77 _ rfl w.heap.size rfl _ _ _ _ HL.out Tryz.underlying77 rfl sizeR ?_) | (refine wpList_store_row rfl 77 _ _ rfl (w.heap.size + 1) #[.bool fb, .int .i64 (k : Int), .int .i64 (x : Int), .slice none 0 0, .slice none 0 0] rfl rfl _ _ HR6.out sizeR rfl (one5 _ _ _ _ _ _ _ _ _) ?_))
      refine bodyPost_ret (v := .tuple #[.agg #[.bool fb, .int .i64 (k : Int), .int .i64 (x : Int), .slice none 0 0, .slice none 0 0], .int .i64 0]) (results_cell2 rfl _ _ (w.heap.size + 1) 77 _ _ _ rfl rfl (setRow_heap _ _ _ _ _ _ HR6.out) Tryz.underlying77 rfl sizeR) rfl ?_
      have O6 : Only (two w.heap.size (w.heap.size + 1)) w4 ((w4.setCell ⟨w.heap.size, 2, none⟩ (.int .i64 (x : Int))).setRow (w.heap.size + 1) #[.bool fb, .int .i64 (k : Int), .int .i64 (x : Int), .slice none 0 0, .slice none 0 0]) := only_row ((Only.refl _ w4).store (p := ⟨w.heap.size, 2, none⟩) (.inl (.inl rfl)) _) (.inr rfl) _
      have hgl := HG.out
      have r6 := R4.out.only O6 (fun e => by rcases e with e | e <;> omega)
      refine ⟨fb, k, x, none, 0, 0, none, 0, 0, rfl, ?_, fun _ => r6, ⟨_, r6⟩, ?_⟩
      · rw [if_pos rfl]; exact ⟨_, _, rfl, lst_nil _, lst_nil _⟩
      · exact Only.then (HO.out _ O4.out) O6 (fun i hi hlt => by rcases hi with e | e <;> omega)
    · rw [if_pos (by omega)]
      have hne : ((x : Int) + (y : Int) != 65535) = true := by simp; omega
      go_enter Tryz.func99, Tryz.ntmps99
      go_wp2_with fail
      rw [← hw1]
      clear hw1
      refine HA.out.mono ?_
      rintro e w2 ⟨rfl, r2, o2⟩
      have R2 := Lib.hid r2; have O2 := Lib.hid o2; clear r2 o2
      go_wp2_with fail
      refine (rBits_has (m := 16) rfl (by omega) R2.out HS.out (by rw [← HM.out]; exact HB1.out)).mono ?_
      rintro e w3 ⟨rfl, r3, o3⟩
      rw [← HN.out, ← HXv.out]
      have R3 := Lib.hid r3; have O3 := Lib.hid (O2.out.trans o3); clear r3 o3
      go_wp2_with fail
      refine (rBits_has (m := 16) rfl (by omega) R3.out HS.out (by rw [← HM.out]; exact HB2.out)).mono ?_
      rintro e w4 ⟨rfl, r4, o4⟩
      rw [← HN.out, ← HYv.out]
      have R4 := Lib.hid r4; have O4 := Lib.hid (O3.out.trans o4); clear r4 o4
      have HY4 := Lib.hid (HY.out _ O4.out)
      go_wp2_with (refine wpList_store_row rfl 77 _ _ rfl (w.heap.size + 1) z5 rfl rfl _ _ HY4.out sizeR rfl (one5 _ _ _ _ _ _ _ _ _) ?_)
      refine bodyPost_ret (v := .tuple #[.agg z5, .int .i64 6]) (results_cell2 rfl _ _ (w.heap.size + 1) 77 z5 _ _ rfl rfl (setRow_heap _ _ _ _ _ _ HY4.out) Tryz.underlying77 rfl sizeR) rfl ?_
      exact end_err (HO.out _ O4.out) (Nat.le_succ _) HG.out R4.out (by decide)
end
end Go.Proofs.YtnkninjdpgpkmaaGreatDoor.Mf
namespace Go.Proofs.YtnkninjdpgpkmaaGreatDoor.Mg
open Go.RowKit Go.Proofs.YtnkninjdpgpkmaaGreatDoor.Vm Go.Proofs.YtnkninjdpgpkmaaGreatDoor.Vo Go.Proofs.YtnkninjdpgpkmaaGreatDoor.Bm Go.Proofs.YtnkninjdpgpkmaaGreatDoor.Bt Go.Proofs.YtnkninjdpgpkmaaGreatDoor.Bw Go.Proofs.YtnkninjdpgpkmaaGreatDoor.Bp Go.Proofs.YtnkninjdpgpkmaaGreatDoor.Bs Go.Proofs.YtnkninjdpgpkmaaGreatDoor.Bv Go.Proofs.YtnkninjdpgpkmaaGreatDoor.Bx Go.Proofs.YtnkninjdpgpkmaaGreatDoor.Na Go.Proofs.YtnkninjdpgpkmaaGreatDoor.Nf Go.Proofs.YtnkninjdpgpkmaaGreatDoor.Nm Go.Proofs.YtnkninjdpgpkmaaGreatDoor.Ni Go.Proofs.YtnkninjdpgpkmaaGreatDoor.Ne Go.Proofs.YtnkninjdpgpkmaaGreatDoor.Nh Go.Proofs.YtnkninjdpgpkmaaGreatDoor.Pm Go.Proofs.YtnkninjdpgpkmaaGreatDoor.Pw Go.Proofs.YtnkninjdpgpkmaaGreatDoor.Pi Go.Proofs.YtnkninjdpgpkmaaGreatDoor.Ko Go.Proofs.YtnkninjdpgpkmaaGreatDoor.Ka Go.Proofs.YtnkninjdpgpkmaaGreatDoor.Kb Go.Proofs.YtnkninjdpgpkmaaGreatDoor.Km Go.Proofs.YtnkninjdpgpkmaaGreatDoor.Kw Go.Proofs.YtnkninjdpgpkmaaGreatDoor.Ks Go.Proofs.YtnkninjdpgpkmaaGreatDoor.Kc Go.Proofs.YtnkninjdpgpkmaaGreatDoor.Kd Go.Proofs.YtnkninjdpgpkmaaGreatDoor.Ke Go.Proofs.YtnkninjdpgpkmaaGreatDoor.Ky Go.Proofs.YtnkninjdpgpkmaaGreatDoor.Kx Go.Proofs.YtnkninjdpgpkmaaGreatDoor.Ku Go.Proofs.YtnkninjdpgpkmaaGreatDoor.Kh Go.Proofs.YtnkninjdpgpkmaaGreatDoor.Be Go.Proofs.YtnkninjdpgpkmaaGreatDoor.Ki Go.Proofs.YtnkninjdpgpkmaaGreatDoor.Kl Go.Proofs.YtnkninjdpgpkmaaGreatDoor.Kn Go.Proofs.YtnkninjdpgpkmaaGreatDoor.Ma Go.Proofs.YtnkninjdpgpkmaaGreatDoor.Kp Go.Proofs.YtnkninjdpgpkmaaGreatDoor.Br Go.Proofs.YtnkninjdpgpkmaaGreatDoor.Bq Go.Proofs.YtnkninjdpgpkmaaGreatDoor.Pr Go.Proofs.YtnkninjdpgpkmaaGreatDoor.Me Go.Proofs.YtnkninjdpgpkmaaGreatDoor.Mf Go.Proofs.YtnkninjdpgpkmaaGreatDoor.Kz

section
variable {w : World} {g : Nat} {s : ByteArray} {a : Nat}
/-- Bits that may be missing. -/
theorem rBits_may {z : Int} {m : Nat} (hz : z = (m : Int)) (hm : m ≤ 32) (h : rr w g s a) (hs : s.size ≤ 281474976710656) (ha : a ≤ 8 * s.size) :
    Calls Tryz.prog 65 #[.pointer (some ⟨g, 0, none⟩), .int .i64 z] w fun e w' => ∃ v er a', e = .returned (.tuple #[.int .i64 v, .int .i64 er]) ∧ rr w' g s a' ∧ a' ≤ 8 * s.size ∧ Only (At g) w w' := by
  by_cases hl : 8 * s.size - a < m
  · exact (rBits_short hz hm h hs ha hl).mono (fun e w' ⟨he, r, o⟩ => ⟨_, _, a, he, r, ha, o⟩)
  · exact (rBits_has hz hm h hs (by omega)).mono (fun e w' ⟨he, r, o⟩ => ⟨_, _, a + m, he, r, by omega, o⟩)
/-- What the reference answers of a dynamic head. -/
def rDyn (g : Nat) (s : ByteArray) (a : Nat) (fb : Bool) (k : Nat) (w : World) : Ending → World → Prop :=
  rHd g s w (dynM (num s.data.toList) (8 * s.size) a).1 ⟨fb, k, 0, (dynM (num s.data.toList) (8 * s.size) a).2.1.1, (dynM (num s.data.toList) (8 * s.size) a).2.1.2⟩ (dynM (num s.data.toList) (8 * s.size) a).2.2

set_option maxHeartbeats 2000000 in
set_option maxRecDepth 100000 in
theorem rdyn_short (fb : Bool) (k : Nat) (h : rr w g s a) (hs : s.size ≤ 281474976710656) (ha : a ≤ 8 * s.size) (hl : 8 * s.size - a < 14) :
    Calls Tryz.prog 100 #[.pointer (some ⟨g, 0, none⟩), hv fb (k : Int) 0 (.slice none 0 0) (.slice none 0 0)] w (rDyn g s a fb k w) := by
  unfold rDyn
  obtain ⟨w1, hw1⟩ : ∃ w1, w1 = (w.alloc (.cells #[.bool fb, .int .i64 (k : Int), .int .i64 0, .slice none 0 0, .slice none 0 0] 77)).alloc (.cells z5 77) := ⟨_, rfl⟩
  have b1 : Below w.heap.size w w1 := by rw [hw1]; exact grows (below_alloc _ _) (below_alloc _ _)
  have kX : Blk w1 w.heap.size 77 #[.bool fb, .int .i64 (k : Int), .int .i64 0, .slice none 0 0, .slice none 0 0] := by rw [hw1]; exact (Blk.fresh w _ _).below (below_alloc _ _)
  have kY : Blk w1 (w.heap.size + 1) 77 z5 := by
    have := Blk.fresh (w.alloc (.cells #[.bool fb, .int .i64 (k : Int), .int .i64 0, .slice none 0 0, .slice none 0 0] 77)) 77 z5
    rw [size_alloc] at this
    rw [hw1]; exact this
  have hgl : g < w.heap.size := h.lt
  have HG := Lib.hid hgl
  have H1 : Hid (rr w1 g s a) := Lib.hid (h.below b1)
  have HX : Hid (∀ u, Only (At g) w1 u → Blk u w.heap.size 77 #[.bool fb, .int .i64 (k : Int), .int .i64 0, .slice none 0 0, .slice none 0 0]) := Lib.hid (fun u o => kX.only o (fun e => by have : w.heap.size = g := e; omega))
  have HY : Hid (∀ u, Only (At g) w1 u → Blk u (w.heap.size + 1) 77 z5) := Lib.hid (fun u o => kY.only o (fun e => by have : w.heap.size + 1 = g := e; omega))
  have HO : Hid (∀ u, Only (At g) w1 u → Only (At g) w u) := Lib.hid (fun u o => (Only.of_below b1).trans o)
  have HS := Lib.hid hs
  obtain ⟨M, hM⟩ : ∃ M, M = 8 * s.size := ⟨_, rfl⟩
  have HM := Lib.hid hM
  obtain ⟨N, hN⟩ : ∃ N, N = num s.data.toList := ⟨_, rfl⟩
  have HN := Lib.hid hN
  rw [← hM] at ha hl
  rw [← hM, ← hN]
  have HD : dynM N M a = (2, ([], []), 0) := by unfold dynM; rw [if_pos hl]
  rw [HD]
  clear b1 kX kY hgl h hs hM hN HD
  by_cases h5 : M - a < 5
  · go_enter Tryz.func100, Tryz.ntmps100
    go_wp2_with fail
    rw [← hw1]
    clear hw1
    refine (rBits_short (m := 5) rfl (by omega) H1.out HS.out (by rw [← HM.out]; exact ha) (by rw [← HM.out]; exact h5)).mono ?_
    rintro e w2 ⟨rfl, r2, o2⟩
    have R2 := Lib.hid r2; have O2 := Lib.hid o2; clear r2 o2
    go_wp2_with fail
    refine (rBits_may (m := 5) rfl (by omega) R2.out HS.out (by rw [← HM.out]; exact ha)).mono ?_
    rintro e w3 ⟨v3, er3, a3, rfl, r3, ha3, o3⟩
    have R3 := Lib.hid r3; have A3 := Lib.hid ha3; have O3 := Lib.hid (O2.out.trans o3); clear r3 o3 ha3
    go_wp2_with fail
    refine (rBits_may (m := 4) rfl (by omega) R3.out HS.out A3.out).mono ?_
    rintro e w4 ⟨v4, er4, a4, rfl, r4, ha4, o4⟩
    have R4 := Lib.hid r4; have O4 := Lib.hid (O3.out.trans o4); clear r4 o4 ha4
    have HY4 := Lib.hid (HY.out _ O4.out)
    go_wp2_with (refine wpList_store_row rfl 77 _ _ rfl (w.heap.size + 1) z5 rfl rfl _ _ HY4.out sizeR rfl (one5 _ _ _ _ _ _ _ _ _) ?_)
    refine bodyPost_ret (v := .tuple #[.agg z5, .int .i64 2]) (results_cell2 rfl _ _ (w.heap.size + 1) 77 z5 _ _ rfl rfl (setRow_heap _ _ _ _ _ _ HY4.out) Tryz.underlying77 rfl sizeR) rfl ?_
    exact end_err (HO.out _ O4.out) (Nat.le_succ _) HG.out R4.out (by decide)
  · by_cases h10 : M - a < 10
    · obtain ⟨x, hx⟩ : ∃ x, x = peekN N a 5 := ⟨_, rfl⟩
      have HXv := Lib.hid hx
      clear hx
      go_enter Tryz.func100, Tryz.ntmps100
      go_wp2_with fail
      rw [← hw1]
      clear hw1
      refine (rBits_has (m := 5) rfl (by omega) H1.out HS.out (by rw [← HM.out]; omega)).mono ?_
      rintro e w2 ⟨rfl, r2, o2⟩
      rw [← HN.out, ← HXv.out]
      have R2 := Lib.hid r2; have O2 := Lib.hid o2; clear r2 o2
      go_wp2_with fail
      refine (rBits_short (m := 5) rfl (by omega) R2.out HS.out (by rw [← HM.out]; omega) (by rw [← HM.out]; omega)).mono ?_
      rintro e w3 ⟨rfl, r3, o3⟩
      have R3 := Lib.hid r3; have O3 := Lib.hid (O2.out.trans o3); clear r3 o3
      go_wp2_with fail
      refine (rBits_may (m := 4) rfl (by omega) R3.out HS.out (by rw [← HM.out]; omega)).mono ?_
      rintro e w4 ⟨v4, er4, a4, rfl, r4, ha4, o4⟩
      have R4 := Lib.hid r4; have O4 := Lib.hid (O3.out.trans o4); clear r4 o4 ha4
      have HY4 := Lib.hid (HY.out _ O4.out)
      go_wp2_with (refine wpList_store_row rfl 77 _ _ rfl (w.heap.size + 1) z5 rfl rfl _ _ HY4.out sizeR rfl (one5 _ _ _ _ _ _ _ _ _) ?_)
      refine bodyPost_ret (v := .tuple #[.agg z5, .int .i64 2]) (results_cell2 rfl _ _ (w.heap.size + 1) 77 z5 _ _ rfl rfl (setRow_heap _ _ _ _ _ _ HY4.out) Tryz.underlying77 rfl sizeR) rfl ?_
      exact end_err (HO.out _ O4.out) (Nat.le_succ _) HG.out R4.out (by decide)
    · obtain ⟨x, hx⟩ : ∃ x, x = peekN N a 5 := ⟨_, rfl⟩
      have HXv := Lib.hid hx
      obtain ⟨y, hy⟩ : ∃ y, y = peekN N (a + 5) 5 := ⟨_, rfl⟩
      have HYv := Lib.hid hy
      clear hx hy
      go_enter Tryz.func100, Tryz.ntmps100
      go_wp2_with fail
      rw [← hw1]
      clear hw1
      refine (rBits_has (m := 5) rfl (by omega) H1.out HS.out (by rw [← HM.out]; omega)).mono ?_
      rintro e w2 ⟨rfl, r2, o2⟩
      rw [← HN.out, ← HXv.out]
      have R2 := Lib.hid r2; have O2 := Lib.hid o2; clear r2 o2
      go_wp2_with fail
      refine (rBits_has (m := 5) rfl (by omega) R2.out HS.out (by rw [← HM.out]; omega)).mono ?_
      rintro e w3 ⟨rfl, r3, o3⟩
      rw [← HN.out, ← HYv.out]
      have R3 := Lib.hid r3; have O3 := Lib.hid (O2.out.trans o3); clear r3 o3
      go_wp2_with fail
      refine (rBits_short (m := 4) rfl (by omega) R3.out HS.out (by rw [← HM.out]; omega) (by rw [← HM.out]; omega)).mono ?_
      rintro e w4 ⟨rfl, r4, o4⟩
      have R4 := Lib.hid r4; have O4 := Lib.hid (O3.out.trans o4); clear r4 o4
      have HY4 := Lib.hid (HY.out _ O4.out)
      go_wp2_with (refine wpList_store_row rfl 77 _ _ rfl (w.heap.size + 1) z5 rfl rfl _ _ HY4.out sizeR rfl (one5 _ _ _ _ _ _ _ _ _) ?_)
      refine bodyPost_ret (v := .tuple #[.agg z5, .int .i64 2]) (results_cell2 rfl _ _ (w.heap.size + 1) 77 z5 _ _ rfl rfl (setRow_heap _ _ _ _ _ _ HY4.out) Tryz.underlying77 rfl sizeR) rfl ?_
      exact end_err (HO.out _ O4.out) (Nat.le_succ _) HG.out R4.out (by decide)


set_option maxHeartbeats 2000000 in
set_option maxRecDepth 100000 in
theorem rdyn_big (fb : Bool) (k : Nat) (h : rr w g s a) (hs : s.size ≤ 281474976710656) (ha : a ≤ 8 * s.size) (hl : ¬ 8 * s.size - a < 14) (hbg : 29 < peekN (num s.data.toList) a 5 ∨ 29 < peekN (num s.data.toList) (a + 5) 5) :
    Calls Tryz.prog 100 #[.pointer (some ⟨g, 0, none⟩), hv fb (k : Int) 0 (.slice none 0 0) (.slice none 0 0)] w (rDyn g s a fb k w) := by
  unfold rDyn
  obtain ⟨w1, hw1⟩ : ∃ w1, w1 = (w.alloc (.cells #[.bool fb, .int .i64 (k : Int), .int .i64 0, .slice none 0 0, .slice none 0 0] 77)).alloc (.cells z5 77) := ⟨_, rfl⟩
  have b1 : Below w.heap.size w w1 := by rw [hw1]; exact grows (below_alloc _ _) (below_alloc _ _)
  have kX : Blk w1 w.heap.size 77 #[.bool fb, .int .i64 (k : Int), .int .i64 0, .slice none 0 0, .slice none 0 0] := by rw [hw1]; exact (Blk.fresh w _ _).below (below_alloc _ _)
  have kY : Blk w1 (w.heap.size + 1) 77 z5 := by
    have := Blk.fresh (w.alloc (.cells #[.bool fb, .int .i64 (k : Int), .int .i64 0, .slice none 0 0, .slice none 0 0] 77)) 77 z5
    rw [size_alloc] at this
    rw [hw1]; exact this
  have hgl : g < w.heap.size := h.lt
  have HG := Lib.hid hgl
  have H1 : Hid (rr w1 g s a) := Lib.hid (h.below b1)
  have HX : Hid (∀ u, Only (At g) w1 u → Blk u w.heap.size 77 #[.bool fb, .int .i64 (k : Int), .int .i64 0, .slice none 0 0, .slice none 0 0]) := Lib.hid (fun u o => kX.only o (fun e => by have : w.heap.size = g := e; omega))
  have HY : Hid (∀ u, Only (At g) w1 u → Blk u (w.heap.size + 1) 77 z5) := Lib.hid (fun u o => kY.only o (fun e => by have : w.heap.size + 1 = g := e; omega))
  have HO : Hid (∀ u, Only (At g) w1 u → Only (At g) w u) := Lib.hid (fun u o => (Only.of_below b1).trans o)
  have HS := Lib.hid hs
  obtain ⟨M, hM⟩ : ∃ M, M = 8 * s.size := ⟨_, rfl⟩
  have HM := Lib.hid hM
  obtain ⟨N, hN⟩ : ∃ N, N = num s.data.toList := ⟨_, rfl⟩
  have HN := Lib.hid hN
  rw [← hM] at ha hl
  rw [← hM, ← hN]
  rw [← hN] at hbg
  have HD : dynM N M a = (3, ([], []), 0) := by unfold dynM; rw [if_neg hl, if_pos hbg]
  rw [HD]
  obtain ⟨x, hx⟩ : ∃ x, x = peekN N a 5 := ⟨_, rfl⟩
  obtain ⟨y, hy⟩ : ∃ y, y = peekN N (a + 5) 5 := ⟨_, rfl⟩
  obtain ⟨u, hu⟩ : ∃ u, u = peekN N (a + 10) 4 := ⟨_, rfl⟩
  have hx29 : x < 32 := by rw [hx]; exact peekN_lt _ _ _
  have hy29 : y < 32 := by rw [hy]; exact peekN_lt _ _ _
  have hu16 : u < 16 := by rw [hu]; exact peekN_lt _ _ _
  have HXv := Lib.hid hx
  have HYv := Lib.hid hy
  have HUv := Lib.hid hu
  rw [← hx, ← hy] at hbg
  have HB1 := Lib.hid (show a + 5 ≤ M by omega)
  have HB2 := Lib.hid (show a + 5 + 5 ≤ M by omega)
  have HB3 := Lib.hid (show a + 5 + 5 + 4 ≤ M by omega)
  clear b1 kX kY hgl h hs hM hN HD hx hy hu
  by_cases hx2 : 29 < x
  · clear hbg
    have t1 : (286 : Int) < (x : Int) + 257 := by omega
    go_enter Tryz.func100, Tryz.ntmps100
    go_wp2_with fail
    rw [← hw1]
    clear hw1
    refine (rBits_has (m := 5) rfl (by omega) H1.out HS.out (by rw [← HM.out]; exact HB1.out)).mono ?_
    rintro e w2 ⟨rfl, r2, o2⟩
    rw [← HN.out, ← HXv.out]
    have R2 := Lib.hid r2; have O2 := Lib.hid o2; clear r2 o2
    go_wp2_with fail
    refine (rBits_has (m := 5) rfl (by omega) R2.out HS.out (by rw [← HM.out]; exact HB2.out)).mono ?_
    rintro e w3 ⟨rfl, r3, o3⟩
    rw [← HN.out, ← HYv.out]
    have R3 := Lib.hid r3; have O3 := Lib.hid (O2.out.trans o3); clear r3 o3
    go_wp2_with fail
    refine (rBits_has (m := 4) rfl (by omega) R3.out HS.out (by rw [← HM.out]; exact HB3.out)).mono ?_
    rintro e w4 ⟨rfl, r4, o4⟩
    rw [← HN.out, ← show u = peekN N (a + 5 + 5) 4 from HUv.out]
    have R4 : Hid (rr w4 g s (a + 14)) := Lib.hid r4
    have O4 := Lib.hid (O3.out.trans o4)
    clear r4 o4
    have HY4 := Lib.hid (HY.out _ O4.out)
    go_wp2_with (refine wpList_store_row rfl 77 _ _ rfl (w.heap.size + 1) z5 rfl rfl _ _ HY4.out sizeR rfl (one5 _ _ _ _ _ _ _ _ _) ?_)
    refine bodyPost_ret (v := .tuple #[.agg z5, .int .i64 3]) (results_cell2 rfl _ _ (w.heap.size + 1) 77 z5 _ _ rfl rfl (setRow_heap _ _ _ _ _ _ HY4.out) Tryz.underlying77 rfl sizeR) rfl ?_
    exact end_err (HO.out _ O4.out) (Nat.le_succ _) HG.out R4.out (by decide)
  · have hy2 : 29 < y := by omega
    clear hbg
    have t1 : ¬ (286 : Int) < (x : Int) + 257 := by omega
    have t2 : (30 : Int) < (y : Int) + 1 := by omega
    go_enter Tryz.func100, Tryz.ntmps100
    go_wp2_with fail
    rw [← hw1]
    clear hw1
    refine (rBits_has (m := 5) rfl (by omega) H1.out HS.out (by rw [← HM.out]; exact HB1.out)).mono ?_
    rintro e w2 ⟨rfl, r2, o2⟩
    rw [← HN.out, ← HXv.out]
    have R2 := Lib.hid r2; have O2 := Lib.hid o2; clear r2 o2
    go_wp2_with fail
    refine (rBits_has (m := 5) rfl (by omega) R2.out HS.out (by rw [← HM.out]; exact HB2.out)).mono ?_
    rintro e w3 ⟨rfl, r3, o3⟩
    rw [← HN.out, ← HYv.out]
    have R3 := Lib.hid r3; have O3 := Lib.hid (O2.out.trans o3); clear r3 o3
    go_wp2_with fail
    refine (rBits_has (m := 4) rfl (by omega) R3.out HS.out (by rw [← HM.out]; exact HB3.out)).mono ?_
    rintro e w4 ⟨rfl, r4, o4⟩
    rw [← HN.out, ← show u = peekN N (a + 5 + 5) 4 from HUv.out]
    have R4 : Hid (rr w4 g s (a + 14)) := Lib.hid r4
    have O4 := Lib.hid (O3.out.trans o4)
    clear r4 o4
    have HY4 := Lib.hid (HY.out _ O4.out)
    go_wp2_with (refine wpList_store_row rfl 77 _ _ rfl (w.heap.size + 1) z5 rfl rfl _ _ HY4.out sizeR rfl (one5 _ _ _ _ _ _ _ _ _) ?_)
    refine bodyPost_ret (v := .tuple #[.agg z5, .int .i64 3]) (results_cell2 rfl _ _ (w.heap.size + 1) 77 z5 _ _ rfl rfl (setRow_heap _ _ _ _ _ _ HY4.out) Tryz.underlying77 rfl sizeR) rfl ?_
    exact end_err (HO.out _ O4.out) (Nat.le_succ _) HG.out R4.out (by decide)
end
end Go.Proofs.YtnkninjdpgpkmaaGreatDoor.Mg
namespace Go.Proofs.YtnkninjdpgpkmaaGreatDoor.Mh
open Go.RowKit Go.Proofs.YtnkninjdpgpkmaaGreatDoor.Vm Go.Proofs.YtnkninjdpgpkmaaGreatDoor.Vo Go.Proofs.YtnkninjdpgpkmaaGreatDoor.Bm Go.Proofs.YtnkninjdpgpkmaaGreatDoor.Bt Go.Proofs.YtnkninjdpgpkmaaGreatDoor.Bw Go.Proofs.YtnkninjdpgpkmaaGreatDoor.Bp Go.Proofs.YtnkninjdpgpkmaaGreatDoor.Bs Go.Proofs.YtnkninjdpgpkmaaGreatDoor.Bv Go.Proofs.YtnkninjdpgpkmaaGreatDoor.Bx Go.Proofs.YtnkninjdpgpkmaaGreatDoor.Na Go.Proofs.YtnkninjdpgpkmaaGreatDoor.Nf Go.Proofs.YtnkninjdpgpkmaaGreatDoor.Nm Go.Proofs.YtnkninjdpgpkmaaGreatDoor.Ni Go.Proofs.YtnkninjdpgpkmaaGreatDoor.Ne Go.Proofs.YtnkninjdpgpkmaaGreatDoor.Nh Go.Proofs.YtnkninjdpgpkmaaGreatDoor.Pm Go.Proofs.YtnkninjdpgpkmaaGreatDoor.Pw Go.Proofs.YtnkninjdpgpkmaaGreatDoor.Pi Go.Proofs.YtnkninjdpgpkmaaGreatDoor.Ko Go.Proofs.YtnkninjdpgpkmaaGreatDoor.Ka Go.Proofs.YtnkninjdpgpkmaaGreatDoor.Kb Go.Proofs.YtnkninjdpgpkmaaGreatDoor.Km Go.Proofs.YtnkninjdpgpkmaaGreatDoor.Kw Go.Proofs.YtnkninjdpgpkmaaGreatDoor.Ks Go.Proofs.YtnkninjdpgpkmaaGreatDoor.Kc Go.Proofs.YtnkninjdpgpkmaaGreatDoor.Kd Go.Proofs.YtnkninjdpgpkmaaGreatDoor.Ke Go.Proofs.YtnkninjdpgpkmaaGreatDoor.Ky Go.Proofs.YtnkninjdpgpkmaaGreatDoor.Kx Go.Proofs.YtnkninjdpgpkmaaGreatDoor.Ku Go.Proofs.YtnkninjdpgpkmaaGreatDoor.Kh Go.Proofs.YtnkninjdpgpkmaaGreatDoor.Be Go.Proofs.YtnkninjdpgpkmaaGreatDoor.Ki Go.Proofs.YtnkninjdpgpkmaaGreatDoor.Kl Go.Proofs.YtnkninjdpgpkmaaGreatDoor.Kn Go.Proofs.YtnkninjdpgpkmaaGreatDoor.Ma Go.Proofs.YtnkninjdpgpkmaaGreatDoor.Kp Go.Proofs.YtnkninjdpgpkmaaGreatDoor.Br Go.Proofs.YtnkninjdpgpkmaaGreatDoor.Bq Go.Proofs.YtnkninjdpgpkmaaGreatDoor.Pr Go.Proofs.YtnkninjdpgpkmaaGreatDoor.Me Go.Proofs.YtnkninjdpgpkmaaGreatDoor.Mf Go.Proofs.YtnkninjdpgpkmaaGreatDoor.Mg Go.Proofs.YtnkninjdpgpkmaaGreatDoor.Kz

theorem news_of_row {w : World} {b off m : Nat} {f : Nat → Int} (h : row w (some ⟨b, off, none⟩) m f) : ∀ j u, (Is (upto m f))[j]? = some u → w.cell? ((⟨b, off, none⟩ : Addr).add j) = some u := by
  intro j u hj
  rw [Is_get] at hj
  have hjm : j < m := by
    rcases Nat.lt_or_ge j m with h1 | h1
    · exact h1
    · rw [List.getElem?_eq_none (by rw [upto_length]; exact h1)] at hj; cases hj
  rw [upto_get f hjm] at hj
  obtain ⟨b', off', e0, _, hc⟩ := h j hjm
  injection e0 with e0
  injection e0 with e1 e2 _
  subst e1; subst e2
  have e3 : ((⟨b, off, none⟩ : Addr).add j) = ⟨b, off + j, none⟩ := by simp [Addr.add]
  rw [e3, hc]
  exact hj
theorem row_only {S : Nat → Prop} {w w' : World} {b off m : Nat} {f : Nat → Int} (h : row w (some ⟨b, off, none⟩) m f) (o : Only S w w') (hb : ¬ S b) : row w' (some ⟨b, off, none⟩) m f := fun i hi => by
  obtain ⟨b', off', e, hl, hc⟩ := h i hi
  injection e with e
  injection e with e1 e2 _
  subst e1; subst e2
  refine ⟨b, off, rfl, Nat.lt_of_lt_of_le hl o.size, ?_⟩
  have hk := o.block b hl hb
  unfold World.cell? at hc ⊢
  simp only [hk]
  exact hc
theorem ints_upto_row {w : World} {base m cap : Nat} {A : Option Addr} {f : Nat → Int} (h : ints w base 3 (.slice A m cap) (upto m f)) : row w A m f := by
  have r := ints.row h
  rw [upto_length] at r
  exact r.congr (fun i hi => at_upto f hi)
/-- A copy of a part of a row: what an append to nothing leaves. -/
theorem ints_copy {w : World} {base m cap : Nat} {A : Option Addr} {f : Nat → Int} (h : w.ownsRow base 3 1 (.slice A (0 + m) cap) (0 + m) ([] ++ Is (upto m f))) : ints w base 3 (.slice A m cap) (upto m f) := by
  unfold ints
  rw [upto_length]
  rw [Nat.zero_add] at h
  exact h

section
variable {w : World} {g : Nat} {s : ByteArray} {a : Nat}
set_option maxHeartbeats 8000000 in
set_option maxRecDepth 100000 in
theorem rdyn_more (fb : Bool) (k : Nat) (h : rr w g s a) (hs : s.size ≤ 281474976710656) (ha : a ≤ 8 * s.size) (hl : ¬ 8 * s.size - a < 14) (hbg : ¬ (29 < peekN (num s.data.toList) a 5 ∨ 29 < peekN (num s.data.toList) (a + 5) 5)) :
    Calls Tryz.prog 100 #[.pointer (some ⟨g, 0, none⟩), hv fb (k : Int) 0 (.slice none 0 0) (.slice none 0 0)] w (rDyn g s a fb k w) := by
  unfold rDyn
  obtain ⟨w1, hw1⟩ : ∃ w1, w1 = (w.alloc (.cells #[.bool fb, .int .i64 (k : Int), .int .i64 0, .slice none 0 0, .slice none 0 0] 77)).alloc (.cells z5 77) := ⟨_, rfl⟩
  have b1 : Below w.heap.size w w1 := by rw [hw1]; exact grows (below_alloc _ _) (below_alloc _ _)
  have kX : Blk w1 w.heap.size 77 #[.bool fb, .int .i64 (k : Int), .int .i64 0, .slice none 0 0, .slice none 0 0] := by rw [hw1]; exact (Blk.fresh w _ _).below (below_alloc _ _)
  have kY : Blk w1 (w.heap.size + 1) 77 z5 := by
    have := Blk.fresh (w.alloc (.cells #[.bool fb, .int .i64 (k : Int), .int .i64 0, .slice none 0 0, .slice none 0 0] 77)) 77 z5
    rw [size_alloc] at this
    rw [hw1]; exact this
  have hgl : g < w.heap.size := h.lt
  have HG := Lib.hid hgl
  have H1 : Hid (rr w1 g s a) := Lib.hid (h.below b1)
  have HX : Hid (∀ u, Only (At g) w1 u → Blk u w.heap.size 77 #[.bool fb, .int .i64 (k : Int), .int .i64 0, .slice none 0 0, .slice none 0 0]) := Lib.hid (fun u o => kX.only o (fun e => by have : w.heap.size = g := e; omega))
  have HY : Hid (∀ u, Only (At g) w1 u → Blk u (w.heap.size + 1) 77 z5) := Lib.hid (fun u o => kY.only o (fun e => by have : w.heap.size + 1 = g := e; omega))
  have HO : Hid (∀ u, Only (At g) w1 u → Only (At g) w u) := Lib.hid (fun u o => (Only.of_below b1).trans o)
  have HS := Lib.hid hs
  obtain ⟨M, hM⟩ : ∃ M, M = 8 * s.size := ⟨_, rfl⟩
  have HM := Lib.hid hM
  obtain ⟨N, hN⟩ : ∃ N, N = num s.data.toList := ⟨_, rfl⟩
  have HN := Lib.hid hN
  rw [← hM] at ha hl
  rw [← hM, ← hN]
  rw [← hN] at hbg
  obtain ⟨x, hx⟩ : ∃ x, x = peekN N a 5 := ⟨_, rfl⟩
  obtain ⟨y, hy⟩ : ∃ y, y = peekN N (a + 5) 5 := ⟨_, rfl⟩
  obtain ⟨u, hu⟩ : ∃ u, u = peekN N (a + 10) 4 := ⟨_, rfl⟩
  have hx29 : x < 32 := by rw [hx]; exact peekN_lt _ _ _
  have hy29 : y < 32 := by rw [hy]; exact peekN_lt _ _ _
  have hu16 : u < 16 := by rw [hu]; exact peekN_lt _ _ _
  have HXv := Lib.hid hx
  have HYv := Lib.hid hy
  have HUv := Lib.hid hu
  rw [← hx, ← hy] at hbg
  obtain ⟨X, hX⟩ : ∃ X, X = x + 257 := ⟨_, rfl⟩
  obtain ⟨D, hD⟩ : ∃ D, D = y + 1 := ⟨_, rfl⟩
  have hX1 : X ≤ 286 := by omega
  have hX2 : 257 ≤ X := by omega
  have hD1 : 1 ≤ D := by omega
  have hD2 : D ≤ 30 := by omega
  obtain ⟨DM, hDM⟩ : ∃ DM, DM = dynM N M a := ⟨_, rfl⟩
  have HD0 : Hid (DM = (if M - (a + 14) < 3 * (u + 4) then (2, ([], []), 0)
      else if fit 19 (clI N (a + 14) (u + 4)) false ≠ 0 then (fit 19 (clI N (a + 14) (u + 4)) false, ([], []), 0)
      else
        let r := seqM (L 19 (clI N (a + 14) (u + 4))) N M (X + D) (a + 14 + 3 * (u + 4)) []
        if r.1 ≠ 0 then (r.1, ([], []), 0)
        else if fitsM (r.2.1.take X) (r.2.1.drop X) ≠ 0 then (fitsM (r.2.1.take X) (r.2.1.drop X), ([], []), 0)
        else (0, (r.2.1.take X, r.2.1.drop X), r.2.2))) := Lib.hid (by
    rw [hDM]; unfold dynM; rw [if_neg hl, if_neg (by rw [← hx, ← hy]; exact hbg), ← hx, ← hy, ← hu, hX, hD])
  rw [← hDM]
  have t1 : ¬ (286 : Int) < (x : Int) + 257 := by omega
  have t2 : ¬ (30 : Int) < (y : Int) + 1 := by omega
  have hu16' : u ≤ 15 := by omega
  have eX : (x : Int) + 257 = (X : Int) := by omega
  have eXD : (x : Int) + 257 + (y : Int) + 1 = ((X + D : Nat) : Int) := by omega
  have EX := Lib.hid eX
  have EXD := Lib.hid eXD
  have HB1 := Lib.hid (show a + 5 ≤ M by omega)
  have HB2 := Lib.hid (show a + 5 + 5 ≤ M by omega)
  have HB3 := Lib.hid (show a + 5 + 5 + 4 ≤ M by omega)
  have HB4 : a + 14 ≤ M := by omega
  have hmk : ∀ v : World, (Instr.makeSlice 22 (.int .i64 19) (.int .i64 19)).run Tryz.prog v = .ok (.slice (some ⟨v.heap.size, 0, none⟩) 19 19) (v.alloc (.cells (arr 19 (fun _ => 0)) 3)) := fun v => made 19 (by omega) v
  clear b1 kX kY hgl h hs hM hN hx hy hu hbg hl eX eXD hX hD hDM
  go_enter Tryz.func100, Tryz.ntmps100
  go_wp2_with fail
  rw [← hw1]
  clear hw1
  refine (rBits_has (m := 5) rfl (by omega) H1.out HS.out (by rw [← HM.out]; exact HB1.out)).mono ?_
  rintro e w2 ⟨rfl, r2, o2⟩
  rw [← HN.out, ← HXv.out]
  have R2 := Lib.hid r2; have O2 := Lib.hid o2; clear r2 o2
  go_wp2_with fail
  refine (rBits_has (m := 5) rfl (by omega) R2.out HS.out (by rw [← HM.out]; exact HB2.out)).mono ?_
  rintro e w3 ⟨rfl, r3, o3⟩
  rw [← HN.out, ← HYv.out]
  have R3 := Lib.hid r3; have O3 := Lib.hid (O2.out.trans o3); clear r3 o3
  go_wp2_with fail
  refine (rBits_has (m := 4) rfl (by omega) R3.out HS.out (by rw [← HM.out]; exact HB3.out)).mono ?_
  rintro e w4 ⟨rfl, r4, o4⟩
  rw [← HN.out, ← show u = peekN N (a + 5 + 5) 4 from HUv.out]
  have R4 : Hid (rr w4 g s (a + 14)) := Lib.hid r4
  have O4 := Lib.hid (O3.out.trans o4)
  clear r4 o4
  have HX4 := Lib.hid (HX.out _ O4.out)
  have HY4 := Lib.hid (HY.out _ O4.out)
  have HO4 := Lib.hid (HO.out _ O4.out)
  clear HX HY HO O4 O3 O2 R2 R3 H1
  go_wp2_with fail
  have b5 := below_alloc w4 (.cells (arr 19 (fun _ => 0)) 3)
  have k5 := Blk.fresh w4 3 (arr 19 (fun _ => 0))
  obtain ⟨w5, hw5⟩ : ∃ w5, w5 = w4.alloc (.cells (arr 19 (fun _ => 0)) 3) := ⟨_, rfl⟩
  rw [← hw5] at b5 k5 ⊢
  clear hw5
  refine (order_any w5).mono ?_
  rintro e w6 ⟨rfl, k6, b6⟩
  obtain ⟨gc, hgc⟩ : ∃ gc, gc = w4.heap.size := ⟨_, rfl⟩
  obtain ⟨gO, hgO⟩ : ∃ gO, gO = w5.heap.size := ⟨_, rfl⟩
  have hs5 : w4.heap.size + 1 ≤ w5.heap.size := k5.lt
  have hs4 : w.heap.size + 1 < w4.heap.size := HY4.out.lt
  rw [← hgc] at k5
  rw [← hgO] at k6
  have hgcO : gc ≠ gO := by omega
  have hgcX : w.heap.size ≠ gc := by omega
  have hgcY : w.heap.size + 1 ≠ gc := by omega
  have hgcg : gc ≠ g := by have := HG.out; omega
  have hgOg : gO ≠ g := by have := HG.out; omega
  have hXg : w.heap.size ≠ g := by have := HG.out; omega
  have hYg : w.heap.size + 1 ≠ g := by have := HG.out; omega
  have hwgc : w.heap.size ≤ gc := by omega
  have NE := Lib.hid (And.intro hgcO (And.intro hgcX (And.intro hgcY (And.intro hgcg (And.intro hgOg (And.intro hXg (And.intro hYg hwgc)))))))
  have b46 := grows b5 b6
  have KC : Hid (Blk w6 gc 3 (arr 19 (clI N (a + 14) 0))) := Lib.hid (by
    have h := k5.below b6
    rw [arr_congr (g := clI N (a + 14) 0) (fun i _ => by simp [clI, clM])] at h
    exact h)
  have KO := Lib.hid k6
  have KX := Lib.hid (HX4.out.below b46)
  have KY := Lib.hid (HY4.out.below b46)
  have KR := Lib.hid (R4.out.below b46)
  have KOn := Lib.hid (HO4.out.trans (Only.of_below b46))
  rw [← hgc, ← hgO]
  clear k5 b5 k6 b6 b46 hs5 hs4 hgcO hgcX hgcY hgcg hgOg hXg hYg hwgc HX4 HY4 HO4 R4 hgc hgO hmk
  go_wp2_with fail
  go_loopw [14] (fun s14 wr => ∃ i : Nat, s14 = .int .i64 (i : Int) ∧ i ≤ u + 4 ∧ a + 14 + 3 * i ≤ M ∧ Hid (Blk wr gc 3 (arr 19 (clI N (a + 14) i))) ∧ Hid (Blk wr gO 3 (arr 19 (fun i => (ord i : Int)))) ∧ Hid (rr wr g s (a + 14 + 3 * i)) ∧ Hid (Blk wr w.heap.size 77 #[.bool fb, .int .i64 (k : Int), .int .i64 0, .slice none 0 0, .slice none 0 0]) ∧ Hid (Blk wr (w.heap.size + 1) 77 z5) ∧ Hid (Only (At g) w wr)) (fun s14 _ => u + 4 - (intOf s14).toNat)
  case atStart => exact ⟨0, rfl, by omega, by omega, KC, KO, KR, KX, KY, KOn⟩
  case round =>
    obtain ⟨i, rfl, hi, hiM, LC, LO, LR, LX, LY, LOn⟩ := hrel
    clear KC KO KX KY KR KOn
    by_cases hiu : i < u + 4
    · have hiu' : (i : Int) < (u : Int) + 4 := by omega
      by_cases hsh : M - (a + 14 + 3 * i) < 3
      · have HDS : Hid (DM = (2, ([], []), 0)) := Lib.hid (by rw [HD0.out, if_pos (by omega)])
        go_wp2_with fail
        refine (rBits_short (m := 3) rfl (by omega) LR.out HS.out (by rw [← HM.out]; exact hiM) (by rw [← HM.out]; exact hsh)).mono ?_
        rintro e w7 ⟨rfl, r7, o7⟩
        have R7 := Lib.hid r7
        have On7 := Lib.hid (LOn.out.trans o7)
        have HYr := Lib.hid (LY.out.only o7 NE.out.2.2.2.2.2.2.1)
        clear r7 o7
        have HY9 := Lib.hid (HYr.out)
        go_wp2_with (refine wpList_store_row rfl 77 _ _ rfl (w.heap.size + 1) z5 rfl rfl _ _ HY9.out sizeR rfl (one5 _ _ _ _ _ _ _ _ _) ?_)
        refine bodyPost_ret (v := .tuple #[.agg z5, .int .i64 2]) (results_cell2 rfl _ _ (w.heap.size + 1) 77 z5 _ _ rfl rfl (setRow_heap _ _ _ _ _ _ HY9.out) Tryz.underlying77 rfl sizeR) rfl ?_
        rw [HDS.out]
        exact end_err On7.out (Nat.le_succ _) HG.out R7.out (by decide)
      · obtain ⟨q, hq⟩ : ∃ q, q = peekN N (a + 14 + 3 * i) 3 := ⟨_, rfl⟩
        have HQ := Lib.hid hq
        obtain ⟨o, ho⟩ : ∃ o, o = ord i := ⟨_, rfl⟩
        have hi19 : i < 19 := by omega
        have ho19 : o < 19 := by rw [ho]; exact ord_lt i hi19
        have HOD := Lib.hid ho
        go_wp2_with fail
        refine (rBits_has (m := 3) rfl (by omega) LR.out HS.out (by rw [← HM.out]; omega)).mono ?_
        rintro e w7 ⟨rfl, r7, o7⟩
        rw [← HN.out, ← HQ.out]
        have R7 := Lib.hid r7
        have LC7 := Lib.hid (LC.out.only o7 NE.out.2.2.2.1)
        have LO7 := Lib.hid (LO.out.only o7 NE.out.2.2.2.2.1)
        have LX7 := Lib.hid (LX.out.only o7 NE.out.2.2.2.2.2.1)
        have LY7 := Lib.hid (LY.out.only o7 NE.out.2.2.2.2.2.2.1)
        have On7 := Lib.hid (LOn.out.trans o7)
        have p1 : w7.cell? ⟨gO, i, none⟩ = some (.int .i64 (o : Int)) := by rw [LO7.out.cell, arr_get _ hi19, ← HOD.out]
        have p2 : w7.cell? ⟨gc, o, none⟩ = some (.int .i64 (clI N (a + 14) i o)) := by rw [LC7.out.cell, arr_get _ ho19]
        have f2 := LC7.out.frozen o
        clear r7 o7 ho hq
        go_wp2
        go_roundw
        case rel =>
          obtain ⟨hgcO, hgcX, hgcY, hgcg, _, _, _, hwgc⟩ := NE.out
          refine ⟨i + 1, by go_num, by omega, by omega, Lib.hid ?_, Lib.hid ?_, Lib.hid ?_, Lib.hid ?_, Lib.hid ?_, Lib.hid ?_⟩
          · have h3 := LC7.out.store o (.int .i64 (q : Int))
            rw [arr_set, arr_congr (g := clI N (a + 14) (i + 1)) (fun j _ => by
              unfold clI
              rw [clM, ← HOD.out, ← HQ.out]
              by_cases e : j = o
              · rw [if_pos e, if_pos e]
              · rw [if_neg e, if_neg e])] at h3
            exact h3
          · exact LO7.out.apartStore (fun e => hgcO e.symm)
          · exact Blk.apartStore R7.out (fun e => hgcg e.symm)
          · exact LX7.out.apartStore hgcX
          · exact LY7.out.apartStore hgcY
          · exact On7.out.store (p := ⟨gc, o, none⟩) (.inr hwgc) _
        case measure => simp [intOf]; omega
    · obtain rfl : i = u + 4 := by omega
      have hiu' : ¬ ((u : Int) + 4 < (u : Int) + 4) := by omega
      have HF := Lib.hid (rFits_any (cap := 19) (n := 19) false (by omega) (Lib.hid (row_of_blk LC.out)))
      obtain ⟨er, her⟩ : ∃ er, er = fit 19 (clI N (a + 14) (u + 4)) false := ⟨_, rfl⟩
      rw [← her] at HF
      by_cases he0 : er = 0
      · have hfit := her.symm.trans he0
        have HE := Lib.hid (fit_zero hfit)
        obtain ⟨C, hC⟩ : ∃ C, C = L 19 (clI N (a + 14) (u + 4)) := ⟨_, rfl⟩
        have hC19 : C.length = 19 := by rw [hC, L_length]
        have h15 : ∀ j, nth C j ≤ 15 := fun j => by rw [hC]; exact clI_le _ _ _ j
        obtain ⟨R, hR⟩ : ∃ R, R = seqM C N M (X + D) (a + 14 + 3 * (u + 4)) [] := ⟨_, rfl⟩
        have HDY : Hid (DM = (if R.1 ≠ 0 then (R.1, ([], []), 0)
            else if fitsM (R.2.1.take X) (R.2.1.drop X) ≠ 0 then (fitsM (R.2.1.take X) (R.2.1.drop X), ([], []), 0)
            else (0, (R.2.1.take X, R.2.1.drop X), R.2.2))) := Lib.hid (by
          rw [HD0.out, if_neg (by omega), if_neg (by rw [hfit]; exact fun h => h rfl), ← hC, hR])
        have HRF : Hid (R.1 = 0 → R.2.1.length = X + D) := Lib.hid (fun h0 => by
          rw [hR] at h0 ⊢
          exact (seq_facts h15 _ _ [] (Nat.le_refl _) (by simp) (fun x hx => by cases hx) hiM h0).1)
        have HRW : Hid (∀ v, Below wr.heap.size wr v → Calls Tryz.prog 135 #[.pointer (some ⟨g, 0, none⟩), .slice (some ⟨gc, 0, none⟩) 19 19, .int .i64 ((X + D : Nat) : Int)] v fun e w' =>
            ∃ A m c, e = .returned (.tuple #[.slice A m c, .int .i64 R.1]) ∧ (R.1 = 0 → ints w' v.heap.size 3 (.slice A m c) (ofN R.2.1) ∧ rr w' g s R.2.2) ∧ (∃ a', rr w' g s a') ∧ Only (At g) v w') := Lib.hid (fun v hv => by
          have hh := rrow_any (z := ((X + D : Nat) : Int)) (n := X + D) rfl HE.out (Lib.hid (LC.out.below hv)) (Lib.hid (LR.out.below hv)) HS.out (by rw [← HM.out]; exact hiM) (by omega)
          unfold rrowP at hh
          rw [← HN.out, ← HM.out, ← hC, ← hR] at hh
          exact hh)
        subst he0
        clear her hfit hR hC hC19 h15 HD0
        go_wp2_with fail
        refine HF.out.mono ?_
        rintro e w7 ⟨rfl, b7⟩
        have B7 := Lib.hid b7
        clear b7 HF
        go_wp2_with fail
        rw [EXD.out]
        refine (HRW.out w7 B7.out).mono ?_
        rintro e w8 ⟨A8, m8, c8, rfl, i8, ⟨a8, r8⟩, o8⟩
        have R8 := Lib.hid r8
        have On8 := Lib.hid ((LOn.out.trans (Only.of_below B7.out)).trans o8)
        have LX8 := Lib.hid ((LX.out.below B7.out).only o8 NE.out.2.2.2.2.2.1)
        have LY8 := Lib.hid ((LY.out.below B7.out).only o8 NE.out.2.2.2.2.2.2.1)
        have I8 := Lib.hid i8
        have HWY : Hid (w.heap.size + 1 < w7.heap.size) := Lib.hid (Nat.lt_of_lt_of_le LY.out.lt B7.out.size)
        clear r8 o8 i8 HRW LC LO LR LX LY
        obtain ⟨x1, hx1⟩ : ∃ x1, x1 = R.1 := ⟨_, rfl⟩
        rw [← hx1]
        by_cases hx10 : x1 = 0
        · obtain ⟨s8, rr8⟩ := I8.out (hx1.symm.trans hx10)
          have hlen := HRF.out (hx1.symm.trans hx10)
          have hm8 : m8 = X + D := by
            obtain ⟨A', c', e⟩ := ints.form s8
            rw [ofN_length, hlen] at e
            injection e
          subst hm8
          have hrow := ints_row' s8 hlen
          obtain ⟨b, off0, hA8, hb8, _⟩ := hrow 0 (by omega)
          have hoff : off0 = 0 := by
            rcases s8.2 with ⟨e0, h0⟩ | ⟨b', cap', _, e1, _⟩
            · rw [ofN_length, hlen] at h0; omega
            · injection e1 with e1 _ _
              rw [hA8] at e1
              injection e1 with e1
              injection e1
          subst hoff
          subst hA8
          have hc8 : X + D ≤ c8 := by
            obtain ⟨_, cc, e, hle⟩ := ints.le s8
            injection e with _ _ e
            rw [ofN_length, hlen] at hle
            omega
          have row1 : Hid (row w8 (some ⟨b, 0, none⟩) X (ix R.2.1)) := Lib.hid (fun i hi => hrow i (by omega))
          have row2 : Hid (row w8 (some ⟨b, X, none⟩) D (fun i => ix R.2.1 (X + i))) := Lib.hid (fun i hi => by
            obtain ⟨b', off, e, hb, hcell⟩ := hrow (X + i) (by omega)
            injection e with e
            injection e with e1 e2 _
            subst e1; subst e2
            exact ⟨b, X, rfl, hb, by rw [Nat.zero_add] at hcell; exact hcell⟩)
          have FP := Lib.hid (fitsI_parts (l := R.2.1) (X := X) (D := D) hlen.symm (by omega))
          have UP := Lib.hid (upto_parts (l := R.2.1) (X := X) (D := D) hlen.symm)
          have RR8 := Lib.hid rr8
          have HX1 := Lib.hid (hx1.symm.trans hx10)
          subst hx10
          have HBX : Hid (b ≠ w.heap.size) := Lib.hid (fun e => by
            have h1 := (s8.lo b rfl).1
            have h2 := NE.out.2.2.2.2.2.2.2
            have h3 := LY8.out.lt
            have h4 := HWY.out
            omega)
          have HW8 : Hid (w.heap.size + 1 < w8.heap.size) := Lib.hid LY8.out.lt
          clear hx1 hlen hrow s8 rr8 hb8 I8 HRF
          have cX3 := LX8.out.cell 3
          obtain ⟨i0, hi0, hz0, hz1, hz2⟩ := info_parts infoI
          have hX0 : 0 < X := by omega
          have hXm : 0 + X ≤ maxLen := by unfold maxLen; omega
          have hXb : (0 + X) * 8 ≤ 140737488355328 := by omega
          have hDm : 0 + D ≤ maxLen := by unfold maxLen; omega
          have hDb : (0 + D) * 8 ≤ 140737488355328 := by omega
          have hXc : (X : Int) ≤ (c8 : Int) := by omega
          have hXn : (X : Int) ≤ (X : Int) + (D : Int) := by omega
          have hXne : c8 ≠ X := by omega
          have eW : IntKind.i64.wrap (X : Int) = (X : Int) := i64_at _ X rfl (by omega)
          have eX := EX.out
          clear hc8
          go_wp2_with fail
          go_region_law (first | (refine step_append_lies _ (by rfl) _ _ _ (by rfl) w8.heap.size 3 i0 _ 1 8 Tryz.underlying22 hi0 hz0 hz1 hz2 rfl (by decide) (.slice none 0 0) 0 [] (by rfl) (World.ownsRow_nil _ _ _ _) ⟨b, 0, none⟩ X c8 (Is (upto X (ix R.2.1))) (by rfl) (by rw [Is_length, upto_length, Nat.mul_one]) (news_of_row row1.out) (Is_one _) hX0 hXm hXb (Nat.le_refl _) w8.heap.size rfl ?_; intro gg cap1 w9 hown1 hgrow _ _; have B9 := Lib.hid ((below_drew (Below.refl w8.heap.size w8)).grown hgrow (Nat.le_refl _) (fun k hk => by cases hk)); have KX9 := Lib.hid (LX8.out.below B9.out); have H91 := Lib.hid (ints_copy hown1); have cz := KX9.out.cell 3; have fz := KX9.out.frozen 3; clear hown1 hgrow))
          obtain ⟨V9, hV9⟩ : ∃ V, V = w9.setCell ⟨w.heap.size, 3, none⟩ (.slice (some ⟨gg, 0, none⟩) X cap1) := ⟨_, rfl⟩
          have o9 : Only (fun i => i = w.heap.size) w9 V9 := by rw [hV9]; exact (Only.refl (fun i => i = w.heap.size) w9).store (p := ⟨w.heap.size, 3, none⟩) (.inl rfl) _
          have KV9 : Hid (Blk V9 w.heap.size 77 #[.bool fb, .int .i64 (k : Int), .int .i64 0, .slice (some ⟨gg, 0, none⟩) X cap1, .slice none 0 0]) := Lib.hid (by rw [hV9]; exact KX9.out.store 3 _)
          have I9 : Hid (ints V9 w8.heap.size 3 (.slice (some ⟨gg, 0, none⟩) X cap1) (upto X (ix R.2.1))) := Lib.hid (H91.out.only o9 (fun i hi e => by
            have h1 := (H91.out.lo i hi).1
            have h2 := LX8.out.lt
            have : i = w.heap.size := e
            omega))
          have row2' : Hid (row V9 (some ⟨b, X, none⟩) D (fun i => ix R.2.1 (X + i))) := Lib.hid (row_only (row2.out.below B9.out) o9 HBX.out)
          have RR9 := Lib.hid (Blk.only (RR8.out.below B9.out) o9 (fun e => NE.out.2.2.2.2.2.1 e.symm))
          have LY9 := Lib.hid ((LY8.out.below B9.out).only o9 (fun e => by have : w.heap.size + 1 = w.heap.size := e; omega))
          have On9 : Hid (Only (At g) w V9) := Lib.hid ((On8.out.trans (Only.of_below B9.out)).then o9 (fun i hi hlt => by have : i = w.heap.size := hi; omega))
          have S89 : Hid (w8.heap.size ≤ V9.heap.size) := Lib.hid (Nat.le_trans B9.out.size o9.size)
          rw [← hV9]
          clear hV9 o9 cz fz KX9 H91 row1 row2 RR8 LY8 On8 B9 cX3 LX8
          have cX4 := KV9.out.cell 4
          go_wp2_with fail
          go_region_law (first | (refine step_append_lies _ (by rfl) _ _ _ (by rfl) V9.heap.size 3 i0 _ 1 8 Tryz.underlying22 hi0 hz0 hz1 hz2 rfl (by decide) (.slice none 0 0) 0 [] (by rfl) (World.ownsRow_nil _ _ _ _) ⟨b, X, none⟩ D (c8 - X) (Is (upto D (fun i => ix R.2.1 (X + i)))) (by rfl) (by rw [Is_length, upto_length, Nat.mul_one]) (news_of_row row2'.out) (Is_one _) hD1 hDm hDb (Nat.le_refl _) V9.heap.size rfl ?_; intro gg2 cap2 w10 hown2 hgrow2 _ _; have B10 := Lib.hid ((below_drew (Below.refl V9.heap.size V9)).grown hgrow2 (Nat.le_refl _) (fun k hk => by cases hk)); have KX10 := Lib.hid (KV9.out.below B10.out); have H10 := Lib.hid (ints_copy hown2); have cz := KX10.out.cell 4; have fz := KX10.out.frozen 4; clear hown2 hgrow2))
          obtain ⟨V10, hV10⟩ : ∃ V, V = w10.setCell ⟨w.heap.size, 4, none⟩ (.slice (some ⟨gg2, 0, none⟩) D cap2) := ⟨_, rfl⟩
          have o10 : Only (fun i => i = w.heap.size) w10 V10 := by rw [hV10]; exact (Only.refl (fun i => i = w.heap.size) w10).store (p := ⟨w.heap.size, 4, none⟩) (.inl rfl) _
          have KV : Hid (Blk V10 w.heap.size 77 #[.bool fb, .int .i64 (k : Int), .int .i64 0, .slice (some ⟨gg, 0, none⟩) X cap1, .slice (some ⟨gg2, 0, none⟩) D cap2]) := Lib.hid (by rw [hV10]; exact KX10.out.store 4 _)
          have J1 : Hid (ints V10 w8.heap.size 3 (.slice (some ⟨gg, 0, none⟩) X cap1) (upto X (ix R.2.1))) := Lib.hid ((I9.out.below B10.out).only o10 (fun i hi e => by
            have h1 := (I9.out.lo i hi).1
            have : i = w.heap.size := e
            have := HW8.out
            omega))
          have J2 : Hid (ints V10 w8.heap.size 3 (.slice (some ⟨gg2, 0, none⟩) D cap2) (upto D (fun i => ix R.2.1 (X + i)))) := Lib.hid (ints_lower (H10.out.only o10 (fun i hi e => by
            have h1 := (H10.out.lo i hi).1
            have : i = w.heap.size := e
            have := HW8.out
            have := S89.out
            omega)) S89.out)
          have RR10 := Lib.hid (Blk.only (RR9.out.below B10.out) o10 (fun e => NE.out.2.2.2.2.2.1 e.symm))
          have LY10 := Lib.hid ((LY9.out.below B10.out).only o10 (fun e => by have : w.heap.size + 1 = w.heap.size := e; omega))
          have On10 : Hid (Only (At g) w V10) := Lib.hid ((On9.out.trans (Only.of_below B10.out)).then o10 (fun i hi hlt => by have : i = w.heap.size := hi; omega))
          rw [← hV10]
          clear hV10 o10 cz fz KX10 H10 row2' RR9 LY9 On9 B10 cX4 KV9 I9 S89 eW hXc hXn hXne hX0 hXm hXb hDm hDb
          have cV3 := KV.out.cell 3
          have cV4 := KV.out.cell 4
          have HFi := Lib.hid (rfits_any (c1 := cap1) (c2 := cap2) hX2 (by omega) (by omega) (Lib.hid (ints_upto_row J1.out)) (Lib.hid (ints_upto_row J2.out)))
          rw [FP.out] at HFi
          obtain ⟨fe, hfe⟩ : ∃ fe, fe = fitsM (R.2.1.take X) (R.2.1.drop X) := ⟨_, rfl⟩
          rw [← hfe] at HFi
          have HFE := Lib.hid hfe
          clear hfe
          go_wp2_with fail
          refine HFi.out.mono ?_
          rintro e w11 ⟨rfl, b11⟩
          have B11 := Lib.hid b11
          have KV11 := Lib.hid (KV.out.below b11)
          have HYr := Lib.hid (LY10.out.below b11)
          have RR11 := Lib.hid (Blk.below RR10.out b11)
          have On11 := Lib.hid (On10.out.trans (Only.of_below b11))
          clear b11 cV3 cV4 KV LY10 RR10 On10
          by_cases hf0 : fe = 0
          · have HDS : Hid (DM = (0, (R.2.1.take X, R.2.1.drop X), R.2.2)) := Lib.hid (by rw [HDY.out, if_neg (by rw [HX1.out]; exact fun h => h rfl), if_neg (by rw [← HFE.out, hf0]; exact fun h => h rfl)])
            subst hf0
            go_wp2_with (first | (refine wpList_load_row rfl 77 _ rfl w.heap.size rfl _ _ _ _ KV11.out Tryz.underlying77 rfl sizeR ?_) | (refine wpList_store_row rfl 77 _ _ rfl (w.heap.size + 1) #[.bool fb, .int .i64 (k : Int), .int .i64 0, .slice (some ⟨gg, 0, none⟩) X cap1, .slice (some ⟨gg2, 0, none⟩) D cap2] rfl rfl _ _ HYr.out sizeR rfl (one5 _ _ _ _ _ _ _ _ _) ?_))
            refine bodyPost_ret (v := .tuple #[.agg #[.bool fb, .int .i64 (k : Int), .int .i64 0, .slice (some ⟨gg, 0, none⟩) X cap1, .slice (some ⟨gg2, 0, none⟩) D cap2], .int .i64 0]) (results_cell2 rfl _ _ (w.heap.size + 1) 77 _ _ _ rfl rfl (setRow_heap _ _ _ _ _ _ HYr.out) Tryz.underlying77 rfl sizeR) rfl ?_
            have oR : Only (fun i => i = w.heap.size + 1) w11 (w11.setRow (w.heap.size + 1) #[.bool fb, .int .i64 (k : Int), .int .i64 0, .slice (some ⟨gg, 0, none⟩) X cap1, .slice (some ⟨gg2, 0, none⟩) D cap2]) := only_row (S := fun i => i = w.heap.size + 1) (Only.refl _ _) rfl _
            have hw8 := HW8.out
            have j1 := (J1.out.below B11.out).only oR (fun i hi e => by have h1 := (J1.out.lo i hi).1; have : i = w.heap.size + 1 := e; omega)
            have j2 := (J2.out.below B11.out).only oR (fun i hi e => by have h1 := (J2.out.lo i hi).1; have : i = w.heap.size + 1 := e; omega)
            rw [UP.out.1] at j1
            rw [UP.out.2] at j2
            have rf := RR11.out.only oR (fun e => NE.out.2.2.2.2.2.2.1 e.symm)
            rw [HDS.out]
            refine ⟨fb, k, 0, some ⟨gg, 0, none⟩, X, cap1, some ⟨gg2, 0, none⟩, D, cap2, rfl, ?_, fun _ => rf, ⟨_, rf⟩, ?_⟩
            · rw [if_pos rfl]; exact ⟨_, _, rfl, lst_of j1, lst_of j2⟩
            · exact On11.out.then oR (fun i hi hlt => by have : i = w.heap.size + 1 := hi; omega)
          · have hne : (fe != 0) = true := by simpa using hf0
            have HDS : Hid (DM = (fe, ([], []), 0)) := Lib.hid (by rw [HDY.out, if_neg (by rw [HX1.out]; exact fun h => h rfl), if_pos (by rw [← HFE.out]; exact hf0), HFE.out])
            have HNE := Lib.hid hf0
            clear hf0
            have HY9 := Lib.hid (HYr.out)
            go_wp2_with (refine wpList_store_row rfl 77 _ _ rfl (w.heap.size + 1) z5 rfl rfl _ _ HY9.out sizeR rfl (one5 _ _ _ _ _ _ _ _ _) ?_)
            refine bodyPost_ret (v := .tuple #[.agg z5, .int .i64 fe]) (results_cell2 rfl _ _ (w.heap.size + 1) 77 z5 _ _ rfl rfl (setRow_heap _ _ _ _ _ _ HY9.out) Tryz.underlying77 rfl sizeR) rfl ?_
            rw [HDS.out]
            exact end_err On11.out (Nat.le_succ _) HG.out RR11.out HNE.out
        · have hne : (x1 != 0) = true := by simpa using hx10
          have HDS : Hid (DM = (x1, ([], []), 0)) := Lib.hid (by rw [HDY.out, if_pos (by rw [← hx1]; exact hx10), hx1])
          have HNE := Lib.hid hx10
          have HYr := LY8
          clear hx1 hx10
          have HY9 := Lib.hid (HYr.out)
          go_wp2_with (refine wpList_store_row rfl 77 _ _ rfl (w.heap.size + 1) z5 rfl rfl _ _ HY9.out sizeR rfl (one5 _ _ _ _ _ _ _ _ _) ?_)
          refine bodyPost_ret (v := .tuple #[.agg z5, .int .i64 x1]) (results_cell2 rfl _ _ (w.heap.size + 1) 77 z5 _ _ rfl rfl (setRow_heap _ _ _ _ _ _ HY9.out) Tryz.underlying77 rfl sizeR) rfl ?_
          rw [HDS.out]
          exact end_err On8.out (Nat.le_succ _) HG.out R8.out HNE.out
      · have hne : (er != 0) = true := by simpa using he0
        have HDS : Hid (DM = (er, ([], []), 0)) := Lib.hid (by rw [HD0.out, if_neg (by omega), if_pos (by rw [← her]; exact he0), her])
        have HNE := Lib.hid he0
        clear her he0
        go_wp2_with fail
        refine HF.out.mono ?_
        rintro e w7 ⟨rfl, b7⟩
        have R7 := Lib.hid (LR.out.below b7)
        have On7 := Lib.hid (LOn.out.trans (Only.of_below b7))
        have HYr := Lib.hid (LY.out.below b7)
        clear b7
        have HY9 := Lib.hid (HYr.out)
        go_wp2_with (refine wpList_store_row rfl 77 _ _ rfl (w.heap.size + 1) z5 rfl rfl _ _ HY9.out sizeR rfl (one5 _ _ _ _ _ _ _ _ _) ?_)
        refine bodyPost_ret (v := .tuple #[.agg z5, .int .i64 er]) (results_cell2 rfl _ _ (w.heap.size + 1) 77 z5 _ _ rfl rfl (setRow_heap _ _ _ _ _ _ HY9.out) Tryz.underlying77 rfl sizeR) rfl ?_
        rw [HDS.out]
        exact end_err On7.out (Nat.le_succ _) HG.out R7.out HNE.out
end
end Go.Proofs.YtnkninjdpgpkmaaGreatDoor.Mh
namespace Go.Proofs.YtnkninjdpgpkmaaGreatDoor.Mi
open Go.RowKit Go.Proofs.YtnkninjdpgpkmaaGreatDoor.Vm Go.Proofs.YtnkninjdpgpkmaaGreatDoor.Vo Go.Proofs.YtnkninjdpgpkmaaGreatDoor.Bm Go.Proofs.YtnkninjdpgpkmaaGreatDoor.Bt Go.Proofs.YtnkninjdpgpkmaaGreatDoor.Bw Go.Proofs.YtnkninjdpgpkmaaGreatDoor.Bp Go.Proofs.YtnkninjdpgpkmaaGreatDoor.Bs Go.Proofs.YtnkninjdpgpkmaaGreatDoor.Bv Go.Proofs.YtnkninjdpgpkmaaGreatDoor.Bx Go.Proofs.YtnkninjdpgpkmaaGreatDoor.Na Go.Proofs.YtnkninjdpgpkmaaGreatDoor.Nf Go.Proofs.YtnkninjdpgpkmaaGreatDoor.Nm Go.Proofs.YtnkninjdpgpkmaaGreatDoor.Ni Go.Proofs.YtnkninjdpgpkmaaGreatDoor.Ne Go.Proofs.YtnkninjdpgpkmaaGreatDoor.Nh Go.Proofs.YtnkninjdpgpkmaaGreatDoor.Pm Go.Proofs.YtnkninjdpgpkmaaGreatDoor.Pw Go.Proofs.YtnkninjdpgpkmaaGreatDoor.Pi Go.Proofs.YtnkninjdpgpkmaaGreatDoor.Ko Go.Proofs.YtnkninjdpgpkmaaGreatDoor.Ka Go.Proofs.YtnkninjdpgpkmaaGreatDoor.Kb Go.Proofs.YtnkninjdpgpkmaaGreatDoor.Km Go.Proofs.YtnkninjdpgpkmaaGreatDoor.Kw Go.Proofs.YtnkninjdpgpkmaaGreatDoor.Ks Go.Proofs.YtnkninjdpgpkmaaGreatDoor.Kc Go.Proofs.YtnkninjdpgpkmaaGreatDoor.Kd Go.Proofs.YtnkninjdpgpkmaaGreatDoor.Ke Go.Proofs.YtnkninjdpgpkmaaGreatDoor.Ky Go.Proofs.YtnkninjdpgpkmaaGreatDoor.Kx Go.Proofs.YtnkninjdpgpkmaaGreatDoor.Ku Go.Proofs.YtnkninjdpgpkmaaGreatDoor.Kh Go.Proofs.YtnkninjdpgpkmaaGreatDoor.Be Go.Proofs.YtnkninjdpgpkmaaGreatDoor.Ki Go.Proofs.YtnkninjdpgpkmaaGreatDoor.Kl Go.Proofs.YtnkninjdpgpkmaaGreatDoor.Kn Go.Proofs.YtnkninjdpgpkmaaGreatDoor.Ma Go.Proofs.YtnkninjdpgpkmaaGreatDoor.Kp Go.Proofs.YtnkninjdpgpkmaaGreatDoor.Br Go.Proofs.YtnkninjdpgpkmaaGreatDoor.Bq Go.Proofs.YtnkninjdpgpkmaaGreatDoor.Pr Go.Proofs.YtnkninjdpgpkmaaGreatDoor.Me Go.Proofs.YtnkninjdpgpkmaaGreatDoor.Mf Go.Proofs.YtnkninjdpgpkmaaGreatDoor.Mg Go.Proofs.YtnkninjdpgpkmaaGreatDoor.Kz Go.Proofs.YtnkninjdpgpkmaaGreatDoor.Mh

section
variable {w : World} {g : Nat} {s : ByteArray} {a : Nat}
theorem rdynamic_any (fb : Bool) (k : Nat) (h : rr w g s a) (hs : s.size ≤ 281474976710656) (ha : a ≤ 8 * s.size) :
    Calls Tryz.prog 100 #[.pointer (some ⟨g, 0, none⟩), hv fb (k : Int) 0 (.slice none 0 0) (.slice none 0 0)] w (rDyn g s a fb k w) := by
  by_cases hl : 8 * s.size - a < 14
  · exact rdyn_short fb k h hs ha hl
  · by_cases hb : 29 < peekN (num s.data.toList) a 5 ∨ 29 < peekN (num s.data.toList) (a + 5) 5
    · exact rdyn_big fb k h hs ha hl hb
    · exact rdyn_more fb k h hs ha hl hb

theorem end_pass {u : World} {er : Int} {h hh : Hd} {p Y : Nat} {b : Bool} {k z : Int} {A1 A2 : Option Addr} {n1 c1 n2 c2 : Nat} (HO : Only (At g) w u) (hY : w.heap.size ≤ Y) (hg : g < w.heap.size) (kY : Blk u Y 77 z5)
    (i : isH u (hv b k z (.slice A1 n1 c1) (.slice A2 n2 c2)) hh) (e : hh = if er = 0 then h else Hd.zero) (hr : er = 0 → rr u g s p) (ha : ∃ a', rr u g s a') :
    rHd g s w er h p (.returned (.tuple #[.agg #[.bool b, .int .i64 k, .int .i64 z, .slice A1 n1 c1, .slice A2 n2 c2], .int .i64 er])) (u.setRow Y #[.bool b, .int .i64 k, .int .i64 z, .slice A1 n1 c1, .slice A2 n2 c2]) := by
  have o : Only (fun i => i = Y) u (u.setRow Y #[.bool b, .int .i64 k, .int .i64 z, .slice A1 n1 c1, .slice A2 n2 c2]) := only_row (S := fun i => i = Y) (Only.refl _ _) rfl _
  have hgY : ¬ g = Y := by omega
  refine ⟨b, k, z, A1, n1, c1, A2, n2, c2, rfl, ?_, fun e0 => Blk.only (hr e0) o hgY, ?_, only_setRow HO hY _⟩
  · rw [← e]
    exact i.off o (fun q hq => by
      obtain rfl : q = Y := hq
      exact ⟨_, _, kY, by decide⟩)
  · obtain ⟨a', r⟩ := ha
    exact ⟨a', Blk.only r o hgY⟩

/-- What the reference's head answers. -/
def rHead (g : Nat) (s : ByteArray) (a : Nat) (w : World) : Ending → World → Prop := rHd g s w (headM (num s.data.toList) (8 * s.size) a).1 (headM (num s.data.toList) (8 * s.size) a).2.1 (headM (num s.data.toList) (8 * s.size) a).2.2

set_option maxHeartbeats 4000000 in
set_option maxRecDepth 100000 in
theorem rhead_short (h : rr w g s a) (hs : s.size ≤ 281474976710656) (ha : a ≤ 8 * s.size) (hl : 8 * s.size - a < 3) : Calls Tryz.prog 64 #[.pointer (some ⟨g, 0, none⟩)] w (rHead g s a w) := by
  unfold rHead
  rw [head_short hl]
  obtain ⟨w1, hw1⟩ : ∃ w1, w1 = w.alloc (.cells z5 77) := ⟨_, rfl⟩
  have b1 : Below w.heap.size w w1 := by rw [hw1]; exact below_alloc _ _
  have kY : Blk w1 w.heap.size 77 z5 := by rw [hw1]; exact Blk.fresh _ _ _
  have hgl : g < w.heap.size := h.lt
  have HG := Lib.hid hgl
  have H1 : Hid (rr w1 g s a) := Lib.hid (h.below b1)
  have HY : Hid (∀ u, Only (At g) w1 u → Blk u w.heap.size 77 z5) := Lib.hid (fun u o => kY.only o (fun e => by have : w.heap.size = g := e; omega))
  have HO : Hid (∀ u, Only (At g) w1 u → Only (At g) w u) := Lib.hid (fun u o => (Only.of_below b1).trans o)
  have HS := Lib.hid hs
  clear b1 kY hgl h hs
  by_cases h1 : 8 * s.size - a < 1
  · go_enter Tryz.func64, Tryz.ntmps64
    go_wp2_with fail
    rw [← hw1]
    clear hw1
    refine (rBits_short (m := 1) rfl (by omega) H1.out HS.out ha h1).mono ?_
    rintro e w2 ⟨rfl, r2, o2⟩
    have R2 := Lib.hid r2; have O2 := Lib.hid o2; clear r2 o2
    go_wp2_with fail
    refine (rBits_may (m := 2) rfl (by omega) R2.out HS.out ha).mono ?_
    rintro e w3 ⟨v3, er3, a3, rfl, r3, ha3, o3⟩
    have R3 := Lib.hid r3; have O3 := Lib.hid (O2.out.trans o3); clear r3 o3 ha3
    have HY3 := Lib.hid (HY.out _ O3.out)
    go_wp2_with (refine wpList_store_row rfl 77 _ _ rfl w.heap.size z5 rfl rfl _ _ HY3.out sizeR rfl (one5 _ _ _ _ _ _ _ _ _) ?_)
    refine bodyPost_ret (v := .tuple #[.agg z5, .int .i64 2]) (results_cell2 rfl _ _ w.heap.size 77 z5 _ _ rfl rfl (setRow_heap _ _ _ _ _ _ HY3.out) Tryz.underlying77 rfl sizeR) rfl ?_
    exact end_err (HO.out _ O3.out) (Nat.le_refl _) HG.out R3.out (by decide)
  · obtain ⟨x, hx⟩ : ∃ x, x = peekN (num s.data.toList) a 1 := ⟨_, rfl⟩
    have HXv := Lib.hid hx
    clear hx
    go_enter Tryz.func64, Tryz.ntmps64
    go_wp2_with fail
    rw [← hw1]
    clear hw1
    refine (rBits_has (m := 1) rfl (by omega) H1.out HS.out (by omega)).mono ?_
    rintro e w2 ⟨rfl, r2, o2⟩
    rw [← HXv.out]
    have R2 := Lib.hid r2; have O2 := Lib.hid o2; clear r2 o2
    go_wp2_with fail
    refine (rBits_short (m := 2) rfl (by omega) R2.out HS.out (by omega) (by omega)).mono ?_
    rintro e w3 ⟨rfl, r3, o3⟩
    have R3 := Lib.hid r3; have O3 := Lib.hid (O2.out.trans o3); clear r3 o3
    have HY3 := Lib.hid (HY.out _ O3.out)
    go_wp2_with (refine wpList_store_row rfl 77 _ _ rfl w.heap.size z5 rfl rfl _ _ HY3.out sizeR rfl (one5 _ _ _ _ _ _ _ _ _) ?_)
    refine bodyPost_ret (v := .tuple #[.agg z5, .int .i64 2]) (results_cell2 rfl _ _ w.heap.size 77 z5 _ _ rfl rfl (setRow_heap _ _ _ _ _ _ HY3.out) Tryz.underlying77 rfl sizeR) rfl ?_
    exact end_err (HO.out _ O3.out) (Nat.le_refl _) HG.out R3.out (by decide)

set_option maxHeartbeats 4000000 in
set_option maxRecDepth 100000 in
theorem rhead_no (h : rr w g s a) (hs : s.size ≤ 281474976710656) (ha : a ≤ 8 * s.size) (hl : ¬ 8 * s.size - a < 3) (hk : peekN (num s.data.toList) (a + 1) 2 = 3) : Calls Tryz.prog 64 #[.pointer (some ⟨g, 0, none⟩)] w (rHead g s a w) := by
  unfold rHead
  rw [head_no hl hk]
  obtain ⟨w1, hw1⟩ : ∃ w1, w1 = w.alloc (.cells z5 77) := ⟨_, rfl⟩
  have b1 : Below w.heap.size w w1 := by rw [hw1]; exact below_alloc _ _
  have kY : Blk w1 w.heap.size 77 z5 := by rw [hw1]; exact Blk.fresh _ _ _
  have hgl : g < w.heap.size := h.lt
  have HG := Lib.hid hgl
  have H1 : Hid (rr w1 g s a) := Lib.hid (h.below b1)
  have HY : Hid (∀ u, Only (At g) w1 u → Blk u w.heap.size 77 z5) := Lib.hid (fun u o => kY.only o (fun e => by have : w.heap.size = g := e; omega))
  have HO : Hid (∀ u, Only (At g) w1 u → Only (At g) w u) := Lib.hid (fun u o => (Only.of_below b1).trans o)
  have HSz : Hid (∀ u, Only (At g) w1 u → w.heap.size + 1 ≤ u.heap.size) := Lib.hid (fun u o => by have := o.size; rw [hw1, size_alloc] at this; exact this)
  have HS := Lib.hid hs
  have hp1 := peekN_lt (num s.data.toList) a 1
  obtain ⟨x, hx⟩ : ∃ x, x = peekN (num s.data.toList) a 1 := ⟨_, rfl⟩
  have HXv := Lib.hid hx
  obtain ⟨fb, hfb⟩ : ∃ fb : Bool, fb = decide (peekN (num s.data.toList) a 1 = 1) := ⟨_, rfl⟩
  have HFB := Lib.hid hfb
  have e1 : ((x : Int) == 1) = fb := by rw [hfb, Bool.eq_iff_iff, ← hx]; simp; omega
  have HK := Lib.hid hk
  have HB3 := Lib.hid (show a + 1 + 2 ≤ 8 * s.size by omega)
  have HB1 := Lib.hid (show a + 1 ≤ 8 * s.size by omega)
  clear b1 kY hgl h hs hp1 hx hfb hk hl ha
  go_enter Tryz.func64, Tryz.ntmps64
  go_wp2_with fail
  rw [← hw1]
  clear hw1
  refine (rBits_has (m := 1) rfl (by omega) H1.out HS.out HB1.out).mono ?_
  rintro e w2 ⟨rfl, r2, o2⟩
  rw [← HXv.out]
  have R2 := Lib.hid r2; have O2 := Lib.hid o2; clear r2 o2
  go_wp2_with fail
  refine (rBits_has (m := 2) rfl (by omega) R2.out HS.out HB3.out).mono ?_
  rintro e w3 ⟨rfl, r3, o3⟩
  rw [HK.out, show ((3 : Nat) : Int) = 3 from rfl]
  have R3 : Hid (rr w3 g s (a + 3)) := Lib.hid r3
  have O3 := Lib.hid (O2.out.trans o3)
  clear r3 o3
  have HYk := Lib.hid (HY.out _ O3.out)
  have b4 := below_alloc w3 (.cells #[.bool fb, .int .i64 3, .int .i64 0, .slice none 0 0, .slice none 0 0] 77)
  have R4 := Lib.hid (R3.out.below b4)
  have KY4 := Lib.hid (HYk.out.below b4)
  have On4 := Lib.hid ((HO.out _ O3.out).trans (Only.of_below b4))
  clear b4
  go_wp2_with (refine wpList_store_row rfl 77 _ _ rfl w.heap.size z5 rfl rfl _ _ KY4.out sizeR rfl (one5 _ _ _ _ _ _ _ _ _) ?_)
  refine bodyPost_ret (v := .tuple #[.agg z5, .int .i64 11]) (results_cell2 rfl _ _ w.heap.size 77 z5 _ _ rfl rfl (setRow_heap _ _ _ _ _ _ KY4.out) Tryz.underlying77 rfl sizeR) rfl ?_
  exact end_err On4.out (Nat.le_refl _) HG.out R4.out (by decide)

set_option maxHeartbeats 4000000 in
set_option maxRecDepth 100000 in
theorem rhead_sto (h : rr w g s a) (hs : s.size ≤ 281474976710656) (ha : a ≤ 8 * s.size) (hl : ¬ 8 * s.size - a < 3) (hk : peekN (num s.data.toList) (a + 1) 2 = 0) : Calls Tryz.prog 64 #[.pointer (some ⟨g, 0, none⟩)] w (rHead g s a w) := by
  unfold rHead
  have HSM := Lib.hid (show (headM (num s.data.toList) (8 * s.size) a).1 = (stoM (num s.data.toList) (8 * s.size) (a + 3)).1 ∧ ((stoM (num s.data.toList) (8 * s.size) (a + 3)).1 = 0 → headM (num s.data.toList) (8 * s.size) a = (0, ⟨decide (peekN (num s.data.toList) a 1 = 1), 0, (stoM (num s.data.toList) (8 * s.size) (a + 3)).2.1, [], []⟩, (stoM (num s.data.toList) (8 * s.size) (a + 3)).2.2)) ∧ ((stoM (num s.data.toList) (8 * s.size) (a + 3)).1 ≠ 0 → (headM (num s.data.toList) (8 * s.size) a).2.1 = Hd.zero) from by
    by_cases e : (stoM (num s.data.toList) (8 * s.size) (a + 3)).1 = 0
    · have hh := head_sto hl hk e
      exact ⟨by rw [hh, e], fun _ => hh, fun h => absurd e h⟩
    · have hh := head_sto_no hl hk e
      exact ⟨by rw [hh], fun h => absurd h e, fun _ => by rw [hh]⟩)
  obtain ⟨w1, hw1⟩ : ∃ w1, w1 = w.alloc (.cells z5 77) := ⟨_, rfl⟩
  have b1 : Below w.heap.size w w1 := by rw [hw1]; exact below_alloc _ _
  have kY : Blk w1 w.heap.size 77 z5 := by rw [hw1]; exact Blk.fresh _ _ _
  have hgl : g < w.heap.size := h.lt
  have HG := Lib.hid hgl
  have H1 : Hid (rr w1 g s a) := Lib.hid (h.below b1)
  have HY : Hid (∀ u, Only (At g) w1 u → Blk u w.heap.size 77 z5) := Lib.hid (fun u o => kY.only o (fun e => by have : w.heap.size = g := e; omega))
  have HO : Hid (∀ u, Only (At g) w1 u → Only (At g) w u) := Lib.hid (fun u o => (Only.of_below b1).trans o)
  have HSz : Hid (∀ u, Only (At g) w1 u → w.heap.size + 1 ≤ u.heap.size) := Lib.hid (fun u o => by have := o.size; rw [hw1, size_alloc] at this; exact this)
  have HS := Lib.hid hs
  have hp1 := peekN_lt (num s.data.toList) a 1
  obtain ⟨x, hx⟩ : ∃ x, x = peekN (num s.data.toList) a 1 := ⟨_, rfl⟩
  have HXv := Lib.hid hx
  obtain ⟨fb, hfb⟩ : ∃ fb : Bool, fb = decide (peekN (num s.data.toList) a 1 = 1) := ⟨_, rfl⟩
  have HFB := Lib.hid hfb
  have e1 : ((x : Int) == 1) = fb := by rw [hfb, Bool.eq_iff_iff, ← hx]; simp; omega
  have HK := Lib.hid hk
  have HB3 := Lib.hid (show a + 1 + 2 ≤ 8 * s.size by omega)
  have HB1 := Lib.hid (show a + 1 ≤ 8 * s.size by omega)
  clear b1 kY hgl h hs hp1 hx hfb hk hl ha
  go_enter Tryz.func64, Tryz.ntmps64
  go_wp2_with fail
  rw [← hw1]
  clear hw1
  refine (rBits_has (m := 1) rfl (by omega) H1.out HS.out HB1.out).mono ?_
  rintro e w2 ⟨rfl, r2, o2⟩
  rw [← HXv.out]
  have R2 := Lib.hid r2; have O2 := Lib.hid o2; clear r2 o2
  go_wp2_with fail
  refine (rBits_has (m := 2) rfl (by omega) R2.out HS.out HB3.out).mono ?_
  rintro e w3 ⟨rfl, r3, o3⟩
  rw [HK.out, show ((0 : Nat) : Int) = 0 from rfl]
  have R3 : Hid (rr w3 g s (a + 3)) := Lib.hid r3
  have O3 := Lib.hid (O2.out.trans o3)
  clear r3 o3
  have HYk := Lib.hid (HY.out _ O3.out)
  have k4 := Blk.fresh w3 77 #[.bool fb, .int .i64 0, .int .i64 0, .slice none 0 0, .slice none 0 0]
  have b4 := below_alloc w3 (.cells #[.bool fb, .int .i64 0, .int .i64 0, .slice none 0 0, .slice none 0 0] 77)
  obtain ⟨w4, hw4⟩ : ∃ w4, w4 = w3.alloc (.cells #[.bool fb, .int .i64 0, .int .i64 0, .slice none 0 0, .slice none 0 0] 77) := ⟨_, rfl⟩
  rw [← hw4] at k4 b4
  have K4 := Lib.hid k4
  have R4 := Lib.hid (R3.out.below b4)
  have KY4 := Lib.hid (HYk.out.below b4)
  have On4 := Lib.hid ((HO.out _ O3.out).trans (Only.of_below b4))
  have S3 : Hid (w.heap.size + 1 ≤ w3.heap.size) := Lib.hid (HSz.out _ O3.out)
  clear k4 b4 R3 HYk HY HO HSz O2 O3 R2 H1
  have HA3 : Hid (a + 3 ≤ 8 * s.size) := Lib.hid (by have := HB3.out; omega)
  have hc := rstored_any fb 0 R4.out HS.out HA3.out
  rw [show (((0 : Nat)) : Int) = (0 : Int) from rfl] at hc
  have HCl := Lib.hid hc
  clear hc
  go_wp2_with fail
  rw [← hw4]
  refine HCl.out.mono ?_
  rintro e w5 ⟨b5, k5, z5', A1, n1, c1, A2, n2, c2, rfl, i5, r5, ra5, o5⟩
  have I5 := Lib.hid i5
  have R5 := Lib.hid r5
  have RA5 := Lib.hid ra5
  have On5 := Lib.hid (On4.out.trans o5)
  have KY5 := Lib.hid (KY4.out.only o5 (fun e => by have : w.heap.size = g := e; have := HG.out; omega))
  obtain ⟨er, her⟩ : ∃ er, er = (stoM (num s.data.toList) (8 * s.size) (a + 3)).1 := ⟨_, rfl⟩
  have HER := Lib.hid her
  rw [← her]
  clear i5 r5 ra5 o5 her hw4
  go_wp2_with (refine wpList_store_row rfl 77 _ _ rfl w.heap.size #[.bool b5, .int .i64 k5, .int .i64 z5', .slice A1 n1 c1, .slice A2 n2 c2] rfl rfl _ _ KY5.out sizeR rfl (one5 _ _ _ _ _ _ _ _ _) ?_)
  refine bodyPost_ret (v := .tuple #[.agg #[.bool b5, .int .i64 k5, .int .i64 z5', .slice A1 n1 c1, .slice A2 n2 c2], .int .i64 er]) (results_cell2 rfl _ _ w.heap.size 77 _ _ _ rfl rfl (setRow_heap _ _ _ _ _ _ KY5.out) Tryz.underlying77 rfl sizeR) rfl ?_
  have h1 := HSM.out.1
  rw [← HER.out] at h1
  rw [h1]
  refine end_pass On5.out (Nat.le_refl _) HG.out KY5.out I5.out ?_ (fun e0 => ?_) RA5.out
  · rw [← HER.out]
    by_cases e0 : er = 0
    · rw [if_pos e0, if_pos e0, (HSM.out.2.1 (HER.out.symm.trans e0))]
      rw [← HFB.out]
    · rw [if_neg e0, if_neg e0]
  · rw [HSM.out.2.1 (HER.out.symm.trans e0)]
    exact R5.out (HER.out.symm.trans e0)

set_option maxHeartbeats 4000000 in
set_option maxRecDepth 100000 in
theorem rhead_dyn (h : rr w g s a) (hs : s.size ≤ 281474976710656) (ha : a ≤ 8 * s.size) (hl : ¬ 8 * s.size - a < 3) (hk : peekN (num s.data.toList) (a + 1) 2 = 2) : Calls Tryz.prog 64 #[.pointer (some ⟨g, 0, none⟩)] w (rHead g s a w) := by
  unfold rHead
  have HSM := Lib.hid (show (headM (num s.data.toList) (8 * s.size) a).1 = (dynM (num s.data.toList) (8 * s.size) (a + 3)).1 ∧ ((dynM (num s.data.toList) (8 * s.size) (a + 3)).1 = 0 → headM (num s.data.toList) (8 * s.size) a = (0, ⟨decide (peekN (num s.data.toList) a 1 = 1), 2, 0, (dynM (num s.data.toList) (8 * s.size) (a + 3)).2.1.1, (dynM (num s.data.toList) (8 * s.size) (a + 3)).2.1.2⟩, (dynM (num s.data.toList) (8 * s.size) (a + 3)).2.2)) ∧ ((dynM (num s.data.toList) (8 * s.size) (a + 3)).1 ≠ 0 → (headM (num s.data.toList) (8 * s.size) a).2.1 = Hd.zero) from by
    by_cases e : (dynM (num s.data.toList) (8 * s.size) (a + 3)).1 = 0
    · have hh := head_dyn hl hk e
      exact ⟨by rw [hh, e], fun _ => hh, fun h => absurd e h⟩
    · have hh := head_dyn_no hl hk e
      exact ⟨by rw [hh], fun h => absurd h e, fun _ => by rw [hh]⟩)
  obtain ⟨w1, hw1⟩ : ∃ w1, w1 = w.alloc (.cells z5 77) := ⟨_, rfl⟩
  have b1 : Below w.heap.size w w1 := by rw [hw1]; exact below_alloc _ _
  have kY : Blk w1 w.heap.size 77 z5 := by rw [hw1]; exact Blk.fresh _ _ _
  have hgl : g < w.heap.size := h.lt
  have HG := Lib.hid hgl
  have H1 : Hid (rr w1 g s a) := Lib.hid (h.below b1)
  have HY : Hid (∀ u, Only (At g) w1 u → Blk u w.heap.size 77 z5) := Lib.hid (fun u o => kY.only o (fun e => by have : w.heap.size = g := e; omega))
  have HO : Hid (∀ u, Only (At g) w1 u → Only (At g) w u) := Lib.hid (fun u o => (Only.of_below b1).trans o)
  have HSz : Hid (∀ u, Only (At g) w1 u → w.heap.size + 1 ≤ u.heap.size) := Lib.hid (fun u o => by have := o.size; rw [hw1, size_alloc] at this; exact this)
  have HS := Lib.hid hs
  have hp1 := peekN_lt (num s.data.toList) a 1
  obtain ⟨x, hx⟩ : ∃ x, x = peekN (num s.data.toList) a 1 := ⟨_, rfl⟩
  have HXv := Lib.hid hx
  obtain ⟨fb, hfb⟩ : ∃ fb : Bool, fb = decide (peekN (num s.data.toList) a 1 = 1) := ⟨_, rfl⟩
  have HFB := Lib.hid hfb
  have e1 : ((x : Int) == 1) = fb := by rw [hfb, Bool.eq_iff_iff, ← hx]; simp; omega
  have HK := Lib.hid hk
  have HB3 := Lib.hid (show a + 1 + 2 ≤ 8 * s.size by omega)
  have HB1 := Lib.hid (show a + 1 ≤ 8 * s.size by omega)
  clear b1 kY hgl h hs hp1 hx hfb hk hl ha
  go_enter Tryz.func64, Tryz.ntmps64
  go_wp2_with fail
  rw [← hw1]
  clear hw1
  refine (rBits_has (m := 1) rfl (by omega) H1.out HS.out HB1.out).mono ?_
  rintro e w2 ⟨rfl, r2, o2⟩
  rw [← HXv.out]
  have R2 := Lib.hid r2; have O2 := Lib.hid o2; clear r2 o2
  go_wp2_with fail
  refine (rBits_has (m := 2) rfl (by omega) R2.out HS.out HB3.out).mono ?_
  rintro e w3 ⟨rfl, r3, o3⟩
  rw [HK.out, show ((2 : Nat) : Int) = 2 from rfl]
  have R3 : Hid (rr w3 g s (a + 3)) := Lib.hid r3
  have O3 := Lib.hid (O2.out.trans o3)
  clear r3 o3
  have HYk := Lib.hid (HY.out _ O3.out)
  have k4 := Blk.fresh w3 77 #[.bool fb, .int .i64 2, .int .i64 0, .slice none 0 0, .slice none 0 0]
  have b4 := below_alloc w3 (.cells #[.bool fb, .int .i64 2, .int .i64 0, .slice none 0 0, .slice none 0 0] 77)
  obtain ⟨w4, hw4⟩ : ∃ w4, w4 = w3.alloc (.cells #[.bool fb, .int .i64 2, .int .i64 0, .slice none 0 0, .slice none 0 0] 77) := ⟨_, rfl⟩
  rw [← hw4] at k4 b4
  have K4 := Lib.hid k4
  have R4 := Lib.hid (R3.out.below b4)
  have KY4 := Lib.hid (HYk.out.below b4)
  have On4 := Lib.hid ((HO.out _ O3.out).trans (Only.of_below b4))
  have S3 : Hid (w.heap.size + 1 ≤ w3.heap.size) := Lib.hid (HSz.out _ O3.out)
  clear k4 b4 R3 HYk HY HO HSz O2 O3 R2 H1
  have HA3 : Hid (a + 3 ≤ 8 * s.size) := Lib.hid (by have := HB3.out; omega)
  have hc := rdynamic_any fb 2 R4.out HS.out HA3.out
  rw [show (((2 : Nat)) : Int) = (2 : Int) from rfl] at hc
  have HCl := Lib.hid hc
  clear hc
  go_wp2_with fail
  rw [← hw4]
  refine HCl.out.mono ?_
  rintro e w5 ⟨b5, k5, z5', A1, n1, c1, A2, n2, c2, rfl, i5, r5, ra5, o5⟩
  have I5 := Lib.hid i5
  have R5 := Lib.hid r5
  have RA5 := Lib.hid ra5
  have On5 := Lib.hid (On4.out.trans o5)
  have KY5 := Lib.hid (KY4.out.only o5 (fun e => by have : w.heap.size = g := e; have := HG.out; omega))
  obtain ⟨er, her⟩ : ∃ er, er = (dynM (num s.data.toList) (8 * s.size) (a + 3)).1 := ⟨_, rfl⟩
  have HER := Lib.hid her
  rw [← her]
  clear i5 r5 ra5 o5 her hw4
  go_wp2_with (refine wpList_store_row rfl 77 _ _ rfl w.heap.size #[.bool b5, .int .i64 k5, .int .i64 z5', .slice A1 n1 c1, .slice A2 n2 c2] rfl rfl _ _ KY5.out sizeR rfl (one5 _ _ _ _ _ _ _ _ _) ?_)
  refine bodyPost_ret (v := .tuple #[.agg #[.bool b5, .int .i64 k5, .int .i64 z5', .slice A1 n1 c1, .slice A2 n2 c2], .int .i64 er]) (results_cell2 rfl _ _ w.heap.size 77 _ _ _ rfl rfl (setRow_heap _ _ _ _ _ _ KY5.out) Tryz.underlying77 rfl sizeR) rfl ?_
  have h1 := HSM.out.1
  rw [← HER.out] at h1
  rw [h1]
  refine end_pass On5.out (Nat.le_refl _) HG.out KY5.out I5.out ?_ (fun e0 => ?_) RA5.out
  · rw [← HER.out]
    by_cases e0 : er = 0
    · rw [if_pos e0, if_pos e0, (HSM.out.2.1 (HER.out.symm.trans e0))]
      rw [← HFB.out]
    · rw [if_neg e0, if_neg e0]
  · rw [HSM.out.2.1 (HER.out.symm.trans e0)]
    exact R5.out (HER.out.symm.trans e0)

set_option maxHeartbeats 4000000 in
set_option maxRecDepth 100000 in
theorem rhead_fix (h : rr w g s a) (hs : s.size ≤ 281474976710656) (ha : a ≤ 8 * s.size) (hl : ¬ 8 * s.size - a < 3) (hk : peekN (num s.data.toList) (a + 1) 2 = 1) : Calls Tryz.prog 64 #[.pointer (some ⟨g, 0, none⟩)] w (rHead g s a w) := by
  unfold rHead
  rw [head_fix hl hk]
  obtain ⟨w1, hw1⟩ : ∃ w1, w1 = w.alloc (.cells z5 77) := ⟨_, rfl⟩
  have b1 : Below w.heap.size w w1 := by rw [hw1]; exact below_alloc _ _
  have kY : Blk w1 w.heap.size 77 z5 := by rw [hw1]; exact Blk.fresh _ _ _
  have hgl : g < w.heap.size := h.lt
  have HG := Lib.hid hgl
  have H1 : Hid (rr w1 g s a) := Lib.hid (h.below b1)
  have HY : Hid (∀ u, Only (At g) w1 u → Blk u w.heap.size 77 z5) := Lib.hid (fun u o => kY.only o (fun e => by have : w.heap.size = g := e; omega))
  have HO : Hid (∀ u, Only (At g) w1 u → Only (At g) w u) := Lib.hid (fun u o => (Only.of_below b1).trans o)
  have HSz : Hid (∀ u, Only (At g) w1 u → w.heap.size + 1 ≤ u.heap.size) := Lib.hid (fun u o => by have := o.size; rw [hw1, size_alloc] at this; exact this)
  have HS := Lib.hid hs
  have hp1 := peekN_lt (num s.data.toList) a 1
  obtain ⟨x, hx⟩ : ∃ x, x = peekN (num s.data.toList) a 1 := ⟨_, rfl⟩
  have HXv := Lib.hid hx
  obtain ⟨fb, hfb⟩ : ∃ fb : Bool, fb = decide (peekN (num s.data.toList) a 1 = 1) := ⟨_, rfl⟩
  have HFB := Lib.hid hfb
  have e1 : ((x : Int) == 1) = fb := by rw [hfb, Bool.eq_iff_iff, ← hx]; simp; omega
  have HK := Lib.hid hk
  have HB3 := Lib.hid (show a + 1 + 2 ≤ 8 * s.size by omega)
  have HB1 := Lib.hid (show a + 1 ≤ 8 * s.size by omega)
  clear b1 kY hgl h hs hp1 hx hfb hk hl ha
  go_enter Tryz.func64, Tryz.ntmps64
  go_wp2_with fail
  rw [← hw1]
  clear hw1
  refine (rBits_has (m := 1) rfl (by omega) H1.out HS.out HB1.out).mono ?_
  rintro e w2 ⟨rfl, r2, o2⟩
  rw [← HXv.out]
  have R2 := Lib.hid r2; have O2 := Lib.hid o2; clear r2 o2
  go_wp2_with fail
  refine (rBits_has (m := 2) rfl (by omega) R2.out HS.out HB3.out).mono ?_
  rintro e w3 ⟨rfl, r3, o3⟩
  rw [HK.out, show ((1 : Nat) : Int) = 1 from rfl]
  have R3 : Hid (rr w3 g s (a + 3)) := Lib.hid r3
  have O3 := Lib.hid (O2.out.trans o3)
  clear r3 o3
  have HYk := Lib.hid (HY.out _ O3.out)
  have k4 := Blk.fresh w3 77 #[.bool fb, .int .i64 1, .int .i64 0, .slice none 0 0, .slice none 0 0]
  have b4 := below_alloc w3 (.cells #[.bool fb, .int .i64 1, .int .i64 0, .slice none 0 0, .slice none 0 0] 77)
  obtain ⟨w4, hw4⟩ : ∃ w4, w4 = w3.alloc (.cells #[.bool fb, .int .i64 1, .int .i64 0, .slice none 0 0, .slice none 0 0] 77) := ⟨_, rfl⟩
  rw [← hw4] at k4 b4
  have K4 := Lib.hid k4
  have R4 := Lib.hid (R3.out.below b4)
  have KY4 := Lib.hid (HYk.out.below b4)
  have On4 := Lib.hid ((HO.out _ O3.out).trans (Only.of_below b4))
  have S3 : Hid (w.heap.size + 1 ≤ w3.heap.size) := Lib.hid (HSz.out _ O3.out)
  clear k4 b4 R3 HYk HY HO HSz O2 O3 R2 H1
  go_wp2_with fail
  rw [← hw4]
  clear hw4
  refine (rFixedLits_any w4).mono ?_
  rintro e w5 ⟨v5, rfl, k5, b5⟩
  obtain ⟨A1, c1, hv5, _⟩ := ints_row k5
  rw [fixL_length] at hv5
  subst hv5
  have kb := K4.out.below b5
  have f3 := kb.frozen 3
  have t3 := kb.cell 3
  obtain ⟨V5, hV5⟩ : ∃ V, V = w5.setCell ⟨w3.heap.size, 3, none⟩ (.slice A1 288 c1) := ⟨_, rfl⟩
  have o5 : Only (fun i => i = w3.heap.size) w5 V5 := by rw [hV5]; exact (Only.refl (fun i => i = w3.heap.size) w5).store (p := ⟨w3.heap.size, 3, none⟩) (.inl rfl) _
  have s34 : w3.heap.size < w4.heap.size := K4.out.lt
  have KB : Hid (Blk V5 w3.heap.size 77 #[.bool fb, .int .i64 1, .int .i64 0, .slice A1 288 c1, .slice none 0 0]) := Lib.hid (by rw [hV5]; exact kb.store 3 _)
  have I5 : Hid (ints V5 w4.heap.size 3 (.slice A1 288 c1) (ofN fixL)) := Lib.hid (k5.only o5 (fun i hi e => by have h1 := (k5.lo i hi).1; have : i = w3.heap.size := e; omega))
  have KY5 := Lib.hid ((KY4.out.below b5).only o5 (fun e => by have : w.heap.size = w3.heap.size := e; have := S3.out; omega))
  have R5 := Lib.hid (Blk.only (R4.out.below b5) o5 (fun e => by have : g = w3.heap.size := e; have := S3.out; have := HG.out; omega))
  have On5 := Lib.hid ((On4.out.trans (Only.of_below b5)).then o5 (fun i hi hlt => by have : i = w3.heap.size := hi; have := S3.out; omega))
  have S5 : Hid (w4.heap.size ≤ V5.heap.size) := Lib.hid (Nat.le_trans b5.size o5.size)
  have S34 := Lib.hid s34
  clear k5 b5 kb o5 s34 R4 KY4 On4 K4
  go_wp2_with fail
  rw [← hV5]
  clear hV5 f3 t3
  refine (rFixedDists_any V5).mono ?_
  rintro e w6 ⟨v6, rfl, k6, b6⟩
  obtain ⟨A2, c2, hv6, _⟩ := ints_row k6
  rw [fixD_length] at hv6
  subst hv6
  have kb := KB.out.below b6
  have f4 := kb.frozen 4
  have t4 := kb.cell 4
  have o6 : Only (fun i => i = w3.heap.size) w6 (w6.setCell ⟨w3.heap.size, 4, none⟩ (.slice A2 32 c2)) := (Only.refl (fun i => i = w3.heap.size) w6).store (p := ⟨w3.heap.size, 4, none⟩) (.inl rfl) _
  have HL : Hid (Blk (w6.setCell ⟨w3.heap.size, 4, none⟩ (.slice A2 32 c2)) w3.heap.size 77 #[.bool fb, .int .i64 1, .int .i64 0, .slice A1 288 c1, .slice A2 32 c2]) := Lib.hid (kb.store 4 _)
  have HY6 := Lib.hid ((KY5.out.below b6).only o6 (fun e => by have : w.heap.size = w3.heap.size := e; have := S3.out; omega))
  have I6 := Lib.hid ((I5.out.below b6).only o6 (fun i hi e => by have h1 := (I5.out.lo i hi).1; have : i = w3.heap.size := e; have := S34.out; omega))
  have J6 := Lib.hid (k6.only o6 (fun i hi e => by have h1 := (k6.lo i hi).1; have : i = w3.heap.size := e; have := S34.out; have := S5.out; omega))
  have R6 := Lib.hid (Blk.only (R5.out.below b6) o6 (fun e => by have : g = w3.heap.size := e; have := S3.out; have := HG.out; omega))
  have On6 := Lib.hid ((On5.out.trans (Only.of_below b6)).then o6 (fun i hi hlt => by have : i = w3.heap.size := hi; have := S3.out; omega))
  clear k6 b6 kb o6 R5 KY5 On5 KB I5
  go_wp2_with (first | (refine wpList_load_row rfl 77 _ rfl w3.heap.size rfl _ _ _ _ HL.out Tryz.underlying77 rfl sizeR ?_) | (refine wpList_store_row rfl 77 _ _ rfl w.heap.size #[.bool fb, .int .i64 1, .int .i64 0, .slice A1 288 c1, .slice A2 32 c2] rfl rfl _ _ HY6.out sizeR rfl (one5 _ _ _ _ _ _ _ _ _) ?_))
  refine bodyPost_ret (v := .tuple #[.agg #[.bool fb, .int .i64 1, .int .i64 0, .slice A1 288 c1, .slice A2 32 c2], .int .i64 0]) (results_cell2 rfl _ _ w.heap.size 77 _ _ _ rfl rfl (setRow_heap _ _ _ _ _ _ HY6.out) Tryz.underlying77 rfl sizeR) rfl ?_
  refine end_pass (hh := ⟨fb, 1, 0, fixL, fixD⟩) On6.out (Nat.le_refl _) HG.out HY6.out ⟨_, _, rfl, lst_of I6.out, lst_of J6.out⟩ ?_ (fun _ => R6.out) ⟨_, R6.out⟩
  rw [if_pos rfl, HFB.out]

theorem rhead_any (h : rr w g s a) (hs : s.size ≤ 281474976710656) (ha : a ≤ 8 * s.size) : Calls Tryz.prog 64 #[.pointer (some ⟨g, 0, none⟩)] w (rHead g s a w) := by
  by_cases hl : 8 * s.size - a < 3
  · exact rhead_short h hs ha hl
  · have hp := peekN_lt (num s.data.toList) (a + 1) 2
    rcases (show peekN (num s.data.toList) (a + 1) 2 = 0 ∨ peekN (num s.data.toList) (a + 1) 2 = 1 ∨ peekN (num s.data.toList) (a + 1) 2 = 2 ∨ peekN (num s.data.toList) (a + 1) 2 = 3 by omega) with k | k | k | k
    · exact rhead_sto h hs ha hl k
    · exact rhead_fix h hs ha hl k
    · exact rhead_dyn h hs ha hl k
    · exact rhead_no h hs ha hl k

/-- What the reference's Read answers. -/
def rReads (g : Nat) (s : ByteArray) (a : Nat) (w : World) (e : Ending) (w' : World) : Prop :=
  ∃ b k z A1 n1 c1 A2 n2 c2, e = .returned (.tuple #[hv b k z (.slice A1 n1 c1) (.slice A2 n2 c2), .int .i64 (headM (num s.data.toList) (8 * s.size) a).1]) ∧
    isH w' (hv b k z (.slice A1 n1 c1) (.slice A2 n2 c2)) (headM (num s.data.toList) (8 * s.size) a).2.1 ∧ rr w' g s (headM (num s.data.toList) (8 * s.size) a).2.2 ∧ Only (At g) w w'
set_option maxHeartbeats 4000000 in
set_option maxRecDepth 100000 in
theorem rRead_all (h : rr w g s a) (hs : s.size ≤ 281474976710656) (ha : a ≤ 8 * s.size) : Calls Tryz.prog 32 #[.pointer (some ⟨g, 0, none⟩)] w (rReads g s a w) := by
  obtain ⟨w1, hw1⟩ : ∃ w1, w1 = w.alloc (.cells z5 77) := ⟨_, rfl⟩
  have b1 : Below w.heap.size w w1 := by rw [hw1]; exact below_alloc _ _
  have kY : Blk w1 w.heap.size 77 z5 := by rw [hw1]; exact Blk.fresh _ _ _
  have hgl : g < w.heap.size := h.lt
  have HG := Lib.hid hgl
  have h1 : rr w1 g s a := h.below b1
  have s1 : w1.heap.size = w.heap.size + 1 := by rw [hw1, size_alloc]
  have HHd := Lib.hid (rhead_any h1 hs ha)
  have KY1 := Lib.hid kY
  have B1 := Lib.hid b1
  have S1 := Lib.hid s1
  have c1r := h1.c1
  rw [hw1] at c1r
  unfold rHead at HHd
  obtain ⟨er, her⟩ : ∃ er, er = (headM (num s.data.toList) (8 * s.size) a).1 := ⟨_, rfl⟩
  have HER := Lib.hid her
  have HERR : Hid (er ≠ 0 → (headM (num s.data.toList) (8 * s.size) a).2.1 = Hd.zero ∧ (headM (num s.data.toList) (8 * s.size) a).2.2 = a) := Lib.hid (fun e => head_err (by rw [← her]; exact e))
  rw [← her] at HHd
  unfold rReads
  rw [← her]
  obtain ⟨HH, hHH⟩ : ∃ HH, HH = (headM (num s.data.toList) (8 * s.size) a).2 := ⟨_, rfl⟩
  rw [← hHH] at HHd HERR ⊢
  clear b1 kY hgl h h1 hs ha s1 her hHH
  go_enter Tryz.func32, Tryz.ntmps32
  go_wp2_with fail
  rw [← hw1]
  clear hw1 c1r
  refine HHd.out.mono ?_
  rintro e w2 ⟨b, k, z, A1, n1, c1, A2, n2, c2, rfl, i2, r2, ra2, o2⟩
  have I2 := Lib.hid i2
  have R2 := Lib.hid r2
  have RA2 := Lib.hid ra2
  have KY2 := Lib.hid (KY1.out.only o2 (fun e => by have : w.heap.size = g := e; have := HG.out; omega))
  have On2 := Lib.hid ((Only.of_below (S := At g) B1.out).trans o2)
  have S2 : Hid (w.heap.size + 1 ≤ w2.heap.size) := Lib.hid (by have := o2.size; have := S1.out; omega)
  clear i2 r2 ra2 o2
  have k3 := Blk.fresh w2 77 #[.bool b, .int .i64 k, .int .i64 z, .slice A1 n1 c1, .slice A2 n2 c2]
  have b3 := below_alloc w2 (.cells #[.bool b, .int .i64 k, .int .i64 z, .slice A1 n1 c1, .slice A2 n2 c2] 77)
  obtain ⟨w3, hw3⟩ : ∃ w3, w3 = w2.alloc (.cells #[.bool b, .int .i64 k, .int .i64 z, .slice A1 n1 c1, .slice A2 n2 c2] 77) := ⟨_, rfl⟩
  rw [← hw3] at k3 b3
  have K3 := Lib.hid k3
  have KY3 := Lib.hid (KY2.out.below b3)
  have I3 := Lib.hid (I2.out.below b3)
  have On3 := Lib.hid (On2.out.trans (Only.of_below b3))
  have HW3 := Lib.hid hw3
  by_cases he : er = 0
  · have R3 := Lib.hid ((R2.out he).below b3)
    have HIE : Hid ((if er = 0 then HH.1 else Hd.zero) = HH.1) := Lib.hid (by rw [if_pos he])
    subst he
    clear k3 b3
    rw [hw3] at K3 KY3
    clear hw3
    go_wp2_with (first | (refine wpList_load_row rfl 77 _ rfl w2.heap.size rfl _ _ _ _ K3.out Tryz.underlying77 rfl sizeR ?_) | (refine wpList_store_row rfl 77 _ _ rfl w.heap.size #[.bool b, .int .i64 k, .int .i64 z, .slice A1 n1 c1, .slice A2 n2 c2] rfl rfl _ _ KY3.out sizeR rfl (one5 _ _ _ _ _ _ _ _ _) ?_))
    refine bodyPost_ret (v := .tuple #[.agg #[.bool b, .int .i64 k, .int .i64 z, .slice A1 n1 c1, .slice A2 n2 c2], .int .i64 0]) (results_cell2 rfl _ _ w.heap.size 77 _ _ _ rfl rfl (setRow_heap _ _ _ _ _ _ KY3.out) Tryz.underlying77 rfl sizeR) rfl ?_
    rw [← HW3.out]
    rw [← HW3.out] at KY3
    have oR : Only (fun i => i = w.heap.size) w3 (w3.setRow w.heap.size #[.bool b, .int .i64 k, .int .i64 z, .slice A1 n1 c1, .slice A2 n2 c2]) := only_row (S := fun i => i = w.heap.size) (Only.refl _ _) rfl _
    refine ⟨b, k, z, A1, n1, c1, A2, n2, c2, rfl, ?_, Blk.only R3.out oR (fun e => by have : g = w.heap.size := e; have := HG.out; omega), only_setRow On3.out (Nat.le_refl _) _⟩
    have hi := I3.out
    rw [HIE.out] at hi
    exact hi.off oR (fun q hq => by
      obtain rfl : q = w.heap.size := hq
      exact ⟨_, _, KY3.out, by decide⟩)
  · obtain ⟨a2, ra⟩ := RA2.out
    have r3 := ra.below b3
    have c1r := r3.c1
    have f1r := r3.f1
    have hne : (er != 0) = true := by simpa using he
    obtain ⟨z1, z2⟩ := HERR.out he
    have hiz : (if er = 0 then HH.1 else Hd.zero) = HH.1 := by rw [if_neg he, z1]
    have HIE := Lib.hid hiz
    have r4 := rr_put r3 (x := (a : Int)) (b := a) rfl
    have oP : Only (At g) w3 (w3.setCell ⟨g, 1, none⟩ (.int .i64 (a : Int))) := (Only.refl _ _).store (p := ⟨g, 1, none⟩) (.inl (At.self g)) _
    have K4 := Lib.hid (K3.out.only oP (fun e => by have : w2.heap.size = g := e; have := HG.out; have := S2.out; omega))
    have KY4 := Lib.hid (KY3.out.only oP (fun e => by have : w.heap.size = g := e; have := HG.out; omega))
    have hi4 := I3.out.off oP (fun q hq => by
      obtain rfl : q = g := hq
      exact ⟨_, _, r3, by decide⟩)
    rw [hiz] at hi4
    have I4 := Lib.hid hi4
    have R4 : Hid (rr (w3.setCell ⟨g, 1, none⟩ (.int .i64 (a : Int))) g s HH.2) := Lib.hid (by rw [z2]; exact r4)
    have On4 := Lib.hid (On3.out.trans oP)
    clear k3 b3 ra r3 z1 z2 hiz r4 oP hi4 he
    rw [hw3] at c1r f1r K4 KY4
    clear hw3
    go_wp2_with (first | (refine wpList_load_row rfl 77 _ rfl w2.heap.size rfl _ _ _ _ K4.out Tryz.underlying77 rfl sizeR ?_) | (refine wpList_store_row rfl 77 _ _ rfl w.heap.size #[.bool b, .int .i64 k, .int .i64 z, .slice A1 n1 c1, .slice A2 n2 c2] rfl rfl _ _ KY4.out sizeR rfl (one5 _ _ _ _ _ _ _ _ _) ?_))
    refine bodyPost_ret (v := .tuple #[.agg #[.bool b, .int .i64 k, .int .i64 z, .slice A1 n1 c1, .slice A2 n2 c2], .int .i64 er]) (results_cell2 rfl _ _ w.heap.size 77 _ _ _ rfl rfl (setRow_heap _ _ _ _ _ _ KY4.out) Tryz.underlying77 rfl sizeR) rfl ?_
    rw [← HW3.out]
    rw [← HW3.out] at KY4
    have oR : Only (fun i => i = w.heap.size) (w3.setCell ⟨g, 1, none⟩ (.int .i64 (a : Int))) ((w3.setCell ⟨g, 1, none⟩ (.int .i64 (a : Int))).setRow w.heap.size #[.bool b, .int .i64 k, .int .i64 z, .slice A1 n1 c1, .slice A2 n2 c2]) := only_row (S := fun i => i = w.heap.size) (Only.refl _ _) rfl _
    refine ⟨b, k, z, A1, n1, c1, A2, n2, c2, rfl, ?_, Blk.only R4.out oR (fun e => by have : g = w.heap.size := e; have := HG.out; omega), only_setRow On4.out (Nat.le_refl _) _⟩
    exact I4.out.off oR (fun q hq => by
      obtain rfl : q = w.heap.size := hq
      exact ⟨_, _, KY4.out, by decide⟩)
end
end Go.Proofs.YtnkninjdpgpkmaaGreatDoor.Mi
