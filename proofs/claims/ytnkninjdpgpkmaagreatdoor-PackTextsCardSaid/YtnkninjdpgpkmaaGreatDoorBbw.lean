/-
  Parts that come, as the program has them: given: its result.
  Conditions: as each theorem says.
-/
import Derived.Test.YtnkninjdpgpkmaaGreatDoorBav
import Derived.Deep.AppendLies
import Derived.Deep.RegionLaw
import Derived.BigQuiet
import Derived.Deep.QuietTactic
import Derived.Deep.RegionHeld3
namespace Go.Proofs.YtnkninjdpgpkmaaGreatDoor.Hg
open Go.RowKit Go.Proofs.YtnkninjdpgpkmaaGreatDoor.Vm Go.Proofs.YtnkninjdpgpkmaaGreatDoor.Vo Go.Proofs.YtnkninjdpgpkmaaGreatDoor.Bm Go.Proofs.YtnkninjdpgpkmaaGreatDoor.Bw Go.Proofs.YtnkninjdpgpkmaaGreatDoor.Na Go.Proofs.YtnkninjdpgpkmaaGreatDoor.Gp Go.Proofs.YtnkninjdpgpkmaaGreatDoor.Gt

theorem cells_new (w : World) (cs : List Value) (e : TypeId) : ∀ (j : Nat) (u : Value), cs[j]? = some u → (w.alloc (.cells cs.toArray e)).cell? ((⟨w.heap.size, 0, none⟩ : Addr).add j) = some u := by
  intro j u hu
  rw [Go.WideShapes.add_plain, Nat.zero_add, Blk.cell (Blk.fresh w e _) j, ← hu]
  simp
theorem cells_one (k : Int) (t : ByteArray) (A : Option Addr) (n c : Nat) (A1 : Option Addr) (n1 c1 : Nat) (A2 : Option Addr) (n2 c2 : Nat) : ∀ u ∈ ([.int .i64 k, .string t, .slice A n c, .slice A1 n1 c1, .slice A2 n2 c2] : List Value), u.oneCell' = true := by
  intro u hu
  simp at hu
  rcases hu with rfl | rfl | rfl | rfl | rfl <;> rfl
/-- A part in memory: where its lists lie. -/
structure Gc where
  p : Pz
  A : Option Addr
  c : Nat
  A1 : Option Addr
  c1 : Nat
  A2 : Option Addr
  c2 : Nat
def Gc.cells (g : Gc) : List Value := [.int .i64 g.p.k, .string g.p.t, .slice g.A g.p.os.length g.c, .slice g.A1 g.p.n1 g.c1, .slice g.A2 g.p.n2 g.c2]
def Gcs (L : List Gc) : List Value := L.flatMap Gc.cells
theorem Gcs_snoc (L : List Gc) (p : Gc) : Gcs (L ++ [p]) = Gcs L ++ p.cells := by simp [Gcs]
theorem Gcs_get : ∀ (L : List Gc) (i : Nat) (p : Gc), L[i]? = some p → ∀ j v, p.cells[j]? = some v → (Gcs L)[i * 5 + j]? = some v
  | [], _, _, h, _, _, _ => by simp at h
  | y :: L, 0, p, h, j, v, hv => by
    simp at h
    subst h
    have e : Gcs (y :: L) = y.cells ++ Gcs L := rfl
    rw [e, Nat.zero_mul, Nat.zero_add, List.getElem?_append_left (List.getElem?_eq_some_iff.1 hv).1]
    exact hv
  | y :: L, i + 1, p, h, j, v, hv => by
    rw [List.getElem?_cons_succ] at h
    have e : Gcs (y :: L) = y.cells ++ Gcs L := rfl
    rw [e, List.getElem?_append_right (by show 5 ≤ _; omega)]
    have e2 : (i + 1) * 5 + j - y.cells.length = i * 5 + j := by show (i + 1) * 5 + j - 5 = i * 5 + j; omega
    rw [e2]
    exact Gcs_get L i p h j v hv
structure gcM (W : World) (g : Gc) : Prop where
  k : in64 g.p.k
  o : opr W g.A g.p.os
  r1 : row W g.A1 g.p.n1 g.p.f1
  l1 : g.p.n1 ≤ 9223372036854775807
  r2 : row W g.A2 g.p.n2 g.p.f2
  l2 : g.p.n2 ≤ 9223372036854775807
theorem gc_of {W : World} {A : Option Addr} {l : List Pz} (h : ptr W A l) {i : Nat} {p : Pz} (hp : l[i]? = some p) :
    ∃ (b off : Nat) (g : Gc), A = some ⟨b, off, none⟩ ∧ b < W.heap.size ∧ g.p = p ∧ gcM W g ∧ ∀ j v, g.cells[j]? = some v → W.cell? ⟨b, off + i * 5 + j, none⟩ = some v := by
  obtain ⟨b, off, hA, hb, hq⟩ := h i p hp
  obtain ⟨A0, c0, e0, r0⟩ := hq.os
  obtain ⟨A1, c1, e1, r1, l1⟩ := hq.l1
  obtain ⟨A2, c2, e2, r2, l2⟩ := hq.l2
  refine ⟨b, off, ⟨p, A0, c0, A1, c1, A2, c2⟩, hA, hb, rfl, ⟨hq.k, r0, r1, l1, r2, l2⟩, fun j v hv => ?_⟩
  match j, hv with
  | 0, hv => rw [← hv]; exact hq.c0
  | 1, hv => rw [← hv]; exact hq.c1
  | 2, hv => rw [← hv]; exact e0
  | 3, hv => rw [← hv]; exact e1
  | 4, hv => rw [← hv]; exact e2
  | j + 5, hv => simp [Gc.cells] at hv
/-- Parts of a row of the call's own, read. -/
theorem gcs_read {W w : World} {base : Nat} {T : TypeId} {A : Option Addr} {n c : Nat} {L : List Gc} (ho : w.ownsRow base T 5 (.slice A n c) L.length (Gcs L)) (hm : ∀ g ∈ L, gcM W g) (b : Below W.heap.size W w) : ptr w A (L.map Gc.p) := by
  intro i z hz
  rw [List.getElem?_map] at hz
  obtain ⟨p, hp, rfl⟩ := Option.map_eq_some_iff.1 hz
  have h := hm p (List.mem_of_getElem? hp)
  rcases ho.2 with ⟨e0, h0⟩ | ⟨g, c', cur, e1, hbl, hh, _⟩
  · have := (List.getElem?_eq_some_iff.1 hp).1
    omega
  · injection e1 with e1 _ _
    have e : ∀ j, (⟨g, 0, none⟩ : Addr).add j = ⟨g, j, none⟩ := fun j => by unfold Addr.add; split <;> simp_all
    have cc := World.ownsRow.cells (g := g) ho (by rw [e1]; rfl)
    have cg : ∀ j v, p.cells[j]? = some v → w.cell? ⟨g, i * 5 + j, none⟩ = some v := fun j v hv => by
      have := cc _ _ (Gcs_get L i p hp j v hv)
      rw [e] at this
      exact this
    refine ⟨g, 0, e1, (World.ownsRow.lt ho g (by rw [e1]; rfl)).2, ?_⟩
    rw [Nat.zero_add]
    exact ⟨h.k, cg 0 _ rfl, cg 1 _ rfl, ⟨p.A, p.c, cg 2 _ rfl, h.o.below b⟩, ⟨p.A1, p.c1, cg 3 _ rfl, h.r1.below b, h.l1⟩, ⟨p.A2, p.c2, cg 4 _ rfl, h.r2.below b, h.l2⟩⟩
theorem infoGv : (Tryz.prog.info? 92).map (fun i => (i.zero, i.size, i.bytes)) = some (some (.agg #[.int .i64 0, .string ⟨#[]⟩, .slice none 0 0, .slice none 0 0, .slice none 0 0]), 5, 96) := by kernel_rfl

set_option maxHeartbeats 2000000 in
set_option maxRecDepth 100000 in
theorem given_any {w : World} {A : Option Addr} {cp : Nat} {l : List Pz} (h : ptr w A l) (hl : l.length ≤ 1000000) :
    Calls Tryz.prog 22 #[.slice A l.length cp] w fun e w' => ∃ A' c', e = .returned (.slice A' l.length c') ∧ ptr w' A' l ∧ Below w.heap.size w w' := by
  obtain ⟨n, hn⟩ : ∃ n, n = l.length := ⟨_, rfl⟩
  have H := Lib.hid h
  have HN := Lib.hid hn
  rw [← hn]
  rw [← hn] at hl
  obtain ⟨i0, hi, hz0, hz1, hz2⟩ := info_parts infoGv
  clear h hn
  go_enter Tryz.func22, Tryz.ntmps22
  go_wp2
  go_loopw [3, 4] (fun s3 s4 wr => ∃ (j m c : Nat) (A' : Option Addr) (L : List Gc), s4 = .int .i64 (j : Int) ∧ s3 = .slice A' m c ∧ j ≤ n ∧ Hid (m = j ∧ m = L.length) ∧ Hid (L.map Gc.p = l.take j) ∧ Hid (∀ g ∈ L, gcM w g) ∧ Hid (wr.ownsRow w.heap.size 92 5 (.slice A' m c) m (Gcs L)) ∧ Hid (Below w.heap.size w wr)) (fun _ s4 _ => n - (intOf s4).toNat)
  case atStart => exact ⟨0, 0, 0, none, [], rfl, rfl, Nat.zero_le _, Lib.hid ⟨rfl, rfl⟩, Lib.hid (by rw [List.take_zero]; rfl), Lib.hid (fun g h => by cases h), Lib.hid (World.ownsRow_nil _ _ _ _), Lib.hid (Below.refl _ _)⟩
  case round =>
    obtain ⟨j, m, c, A', L, rfl, rfl, hj, HM, HR, HG, HOW, HBW⟩ := hrel
    by_cases hjn : j < n
    · have hjn' : (j : Int) < (n : Int) := by omega
      have hj0 : (0 : Int) ≤ (j : Int) := by omega
      obtain ⟨p, hp⟩ : ∃ p, l[j]? = some p := ⟨_, List.getElem?_eq_getElem (by rw [← HN.out]; exact hjn)⟩
      obtain ⟨bb, off, g, hA, hbb, hgp, hgm, hgc⟩ := gc_of H.out hp
      subst hA
      obtain ⟨x0, hx0⟩ : ∃ x, x = g.p.k := ⟨_, rfl⟩
      obtain ⟨x1, hx1⟩ : ∃ x, x = g.p.t := ⟨_, rfl⟩
      obtain ⟨a2, ha2⟩ : ∃ x, x = g.A := ⟨_, rfl⟩
      obtain ⟨n2, hn2⟩ : ∃ x, x = g.p.os.length := ⟨_, rfl⟩
      obtain ⟨c2, hc2⟩ : ∃ x, x = g.c := ⟨_, rfl⟩
      obtain ⟨a3, ha3⟩ : ∃ x, x = g.A1 := ⟨_, rfl⟩
      obtain ⟨n3, hn3⟩ : ∃ x, x = g.p.n1 := ⟨_, rfl⟩
      obtain ⟨c3, hc3⟩ : ∃ x, x = g.c1 := ⟨_, rfl⟩
      obtain ⟨a4, ha4⟩ : ∃ x, x = g.A2 := ⟨_, rfl⟩
      obtain ⟨n4, hn4⟩ : ∃ x, x = g.p.n2 := ⟨_, rfl⟩
      obtain ⟨c4, hc4⟩ : ∃ x, x = g.c2 := ⟨_, rfl⟩
      have hce : g.cells = [.int .i64 x0, .string x1, .slice a2 n2 c2, .slice a3 n3 c3, .slice a4 n4 c4] := by rw [hx0, hx1, ha2, hn2, hc2, ha3, hn3, hc3, ha4, hn4, hc4]; rfl
      have HCE := Lib.hid hce
      have HW7 : Hid (∀ u, Below w.heap.size w u → u.cell? ⟨bb, off + j * 5, none⟩ = some (.int .i64 x0) ∧ u.cell? ⟨bb, off + j * 5 + 1, none⟩ = some (.string x1) ∧ u.cell? ⟨bb, off + j * 5 + 2, none⟩ = some (.slice a2 n2 c2) ∧ u.cell? ⟨bb, off + j * 5 + 3, none⟩ = some (.slice a3 n3 c3) ∧ u.cell? ⟨bb, off + j * 5 + 4, none⟩ = some (.slice a4 n4 c4)) := Lib.hid (fun u hu => by
        have hcc : ∀ j' v, g.cells[j']? = some v → u.cell? ⟨bb, off + j * 5 + j', none⟩ = some v := fun j' v hv => (hu.cell (p := ⟨bb, off + j * 5 + j', none⟩) hbb).trans (hgc j' v hv)
        rw [hce] at hcc
        exact ⟨hcc 0 _ rfl, hcc 1 _ rfl, hcc 2 _ rfl, hcc 3 _ rfl, hcc 4 _ rfl⟩)
      have k0 := (HW7.out wr HBW.out)
      have HP := Lib.hid hp
      have HGP := Lib.hid hgp
      have HGM := Lib.hid hgm
      have hO : wr.ownsRow w.heap.size 92 5 (.slice A' m c) m (Gcs L) := HOW.out
      have hbs := HBW.out.size
      clear hp hgp hgm hgc hce hx0 hx1 ha2 hn2 hc2 ha3 hn3 hc3 ha4 hn4 hc4
      have KS1 := HW7.out (wr.drew.alloc (.cells #[.int .i64 x0, .string x1, .slice a2 n2 c2, .slice a3 n3 c3, .slice a4 n4 c4] 92)) (HBW.out.drew.alloc HBW.out.size _)
      have HBB : Hid (bb < w.heap.size) := Lib.hid hbb
      have hbs := HBW.out.size
      have HJN := Lib.hid hjn
      clear hbb
      go_wp2_with fail
      go_region_held3 (fun u => u.cell? ⟨bb, off + j * 5, none⟩ = some (.int .i64 x0) ∧ u.cell? ⟨bb, off + j * 5 + 1, none⟩ = some (.string x1) ∧ u.cell? ⟨bb, off + j * 5 + 2, none⟩ = some (.slice a2 n2 c2) ∧ u.cell? ⟨bb, off + j * 5 + 3, none⟩ = some (.slice a3 n3 c3) ∧ u.cell? ⟨bb, off + j * 5 + 4, none⟩ = some (.slice a4 n4 c4))
        (first | exact k0 | exact KS1 | assumption)
        (first | (refine step_append_lies _ (by rfl) _ _ _ (by rfl) w.heap.size 92 i0 _ 5 96 Tryz.underlying48 hi hz0 hz1 hz2 rfl (by omega) (.slice A' m c) m (Gcs L) (by rfl) ((hO.drew).alloc _) ⟨wr.heap.size, 0, none⟩ 1 1 [.int .i64 x0, .string x1, .slice a2 n2 c2, .slice a3 n3 c3, .slice a4 n4 c4] (by rfl) (by rfl) (World.news_of_block (cs := #[.int .i64 x0, .string x1, .slice a2 n2 c2, .slice a3 n3 c3, .slice a4 n4 c4]) (t := 92) (fr := (0, 0)) (heap_alloc_new _ _)) (by simp [Value.oneCell']) (by omega) (by have := HM.out; unfold maxLen; omega) (by have := HM.out; omega) (by simp; omega) (wr.heap.size + 1) (by simp) ?_; intro gg cap1 w7 hown hgrow hat hlt; have KB : Hid (Below w.heap.size w w7) := Lib.hid ((HBW.out.drew.alloc hbs _).grown hgrow (by simp; omega) (fun q hq => (hO.lt q hq).1)); have KS7 := HW7.out w7 KB.out))
      have HM' : Hid (m + 1 = j + 1 ∧ m + 1 = (L ++ [g]).length) := Lib.hid ⟨by rw [HM.out.1], by rw [List.length_append, HM.out.2]; rfl⟩
      have HR' : Hid ((L ++ [g]).map Gc.p = l.take (j + 1)) := Lib.hid (by
        rw [List.map_append, HR.out, List.take_add_one, HP.out]
        show _ ++ [g.p] = _ ++ [p]
        rw [HGP.out])
      have HG' : Hid (∀ q ∈ L ++ [g], gcM w q) := Lib.hid (fun q hq => by
        rcases List.mem_append.1 hq with h | h
        · exact HG.out q h
        · obtain rfl : q = g := by simpa using h
          exact HGM.out)
      have HOW' : Hid (w7.ownsRow w.heap.size 92 5 (.slice (some ⟨gg, 0, none⟩) (m + 1) cap1) (m + 1) (Gcs (L ++ [g]))) := Lib.hid (by rw [Gcs_snoc, HCE.out]; exact hown)
      obtain ⟨m', hm'⟩ : ∃ m', m' = m + 1 := ⟨_, rfl⟩
      rw [← hm'] at HM' HOW' ⊢
      clear hown hgrow hat hlt k0 KS1 KS7
      go_wp2
      go_roundw
      case rel => exact ⟨j + 1, m', cap1, _, L ++ [g], by go_num, rfl, by have := HJN.out; omega, HM', HR', HG', HOW', KB⟩
      case measure => have := HJN.out; simp [intOf]; omega
    · obtain rfl : j = n := by omega
      have hjn' : ¬ ((j : Int) < (j : Int)) := by omega
      go_wp2
      go_ret
      have e : L.map Gc.p = l := by rw [HR.out, List.take_of_length_le (by rw [← HN.out]; exact Nat.le_refl _)]
      have hP : ptr wr A' l := by
        rw [← e]
        exact gcs_read (by rw [← HM.out.2]; exact HOW.out) HG.out HBW.out
      first | exact ⟨A', c, by rw [HM.out.1]; rfl, hP, HBW.out⟩ | exact ⟨A', ⟨c, by rw [HM.out.1]; rfl⟩, hP, HBW.out⟩ | exact ⟨⟨c, by rw [HM.out.1]; rfl⟩, hP, HBW.out⟩ | exact ⟨HM.out.1, hP, HBW.out⟩ | exact ⟨hP, HBW.out⟩
end Go.Proofs.YtnkninjdpgpkmaaGreatDoor.Hg
