/-
  collimatorlaw02.CrcTable returns true for every state and every byte: the table's entries and Byte answer as the document's own functions answer.
  Conditions: none.
-/
import Derived.Test.YtfmpmjbgimeedaaCk
import Derived.Test.YtfmpmjbgimeedaaLw
import Derived.Deep.RegionHeld3
namespace Go.Proofs.Ytfmpmjbgimeedaa.crcTable
open Go.ChangeShapes Go.WideShapes Go.ChangeAt Go.RowKit
open Go.ChangeMaps (open_string shut_string)
open Go.Proofs.Ytfmpmjbgimeedaa.Lw Go.Proofs.Ytfmpmjbgimeedaa.Cm Go.Proofs.Ytfmpmjbgimeedaa.Ce Go.Proofs.Ytfmpmjbgimeedaa.Ct Go.Proofs.Ytfmpmjbgimeedaa.Co Go.Proofs.Ytfmpmjbgimeedaa.Ck

theorem own : ownKnob Try.prog.godebug = none := by kernel_rfl
theorem laidOut : laidOutB Try.prog = true := by kernel_rfl

theorem keeps {w : World} {g i j : Nat} {u v : Value} {a b : World} (hb : Below a.heap.size a b) (h : a.cell? ⟨g, i, none⟩ = some u ∧ a.cell? ⟨g, j, none⟩ = some v ∧ Below w.heap.size w a) :
    b.cell? ⟨g, i, none⟩ = some u ∧ b.cell? ⟨g, j, none⟩ = some v ∧ Below w.heap.size w b := ⟨tab_later h.1 hb, tab_later h.2.1 hb, grows h.2.2 hb⟩

set_option maxHeartbeats 4000000 in
set_option maxRecDepth 100000 in
theorem walk (c b : Int) (w0 : (Lit.int .u32 c).wf = true) (w1 : (Lit.int .u8 b).wf = true) (w : World) :
    Calls Try.prog 4 #[.int .u32 c, .int .u8 b] w fun e w' => e = .returned (.bool true) ∧ Below w.heap.size w w' := by
  have hc0 : 0 ≤ c ∧ c ≤ 4294967295 := by simpa [Lit.wf, IntKind.min, IntKind.max, IntKind.signed, IntKind.bits] using w0
  have hb0 : 0 ≤ b ∧ b ≤ 255 := by simpa [Lit.wf, IntKind.min, IntKind.max, IntKind.signed, IntKind.bits] using w1
  obtain ⟨n, rfl⟩ := Int.eq_ofNat_of_zero_le hc0.1
  obtain ⟨m, rfl⟩ := Int.eq_ofNat_of_zero_le hb0.1
  have hn : n < 4294967296 := by omega
  have hm : m < 256 := by omega
  clear w0 w1 hc0 hb0
  obtain ⟨hz, hsz⟩ := zero_of_info info27
  rw [← tabTo_zero] at hz
  have HZ := Lib.hid hsz
  clear hsz
  have m1 := mix8 n m hm
  have m2 := mixE n m hn hm
  have m1w : bits .xor .u8 (IntKind.u8.wrap (n : Int)) (m : Int) = ((n % 256 ^^^ m : Nat) : Int) := by rw [IntKind.wrap_u8']; exact mix8 n m hm
  have m3 := mix_lt (c := n) hm
  go_enter Try.func4, Try.ntmps4
  go_wp2_with fail
  refine (Table_any _).mono ?_
  rintro e w1 ⟨rfl, b1⟩
  go_wp2_with (refine wpList_store_row rfl 27 _ _ rfl w1.heap.size (tabTo 256) rfl rfl _ _ (heap_alloc_last w1 _) (by rw [tabTo_size]; exact HZ.out) (by rw [tabTo_size, tabTo_size]) (tabTo_one 256) ?_; rw [World.setRow_alloc_new])
  clear hz HZ
  have c0 := tab_cell w1 m hm
  have c1 := tab_cell w1 (n % 256 ^^^ m) m3
  have b2 : Below w.heap.size w (w1.alloc (.cells (tabTo 256) 27)) := b1.alloc b1.size _
  generalize w1.alloc (.cells (tabTo 256) 27) = w2 at *
  generalize HJ : (n % 256 ^^^ m) = j at *
  generalize w1.heap.size = g at *
  clear b1
  have c0' := Lib.hid c0
  have c1' := Lib.hid c1
  have hm' : (m : Int) < 256 := by omega
  have hj' : (j : Int) < 256 := by omega
  go_region_held3 (fun w' => w'.cell? ⟨g, m, none⟩ = some (.int .u32 (entry m)) ∧ w'.cell? ⟨g, j, none⟩ = some (.int .u32 (entry j)) ∧ Below w.heap.size w w')
    (first | exact ⟨c0, c1, b2.drew⟩ | assumption | (apply keeps; assumption; assumption))
    (first | (go_at_call 14; refine (rEntry_any m hm _).mono ?_; rintro e w' ⟨rfl, rfl⟩) | (go_at_call 15; refine (Byte_any n m hn hm _).mono ?_; rintro e w' ⟨rfl, hb⟩) | (go_at_call 16; refine (rByte_any n m hn hm _).mono ?_; rintro e w' ⟨rfl, rfl⟩) | (go_at_call 8; refine (known_any _).mono ?_; rintro e w' ⟨rfl, hb⟩))
  have hB := (show _ ∧ _ ∧ Below w.heap.size w _ by assumption).2.2
  go_wp2
  go_ret
  exact ⟨rfl, hB⟩

set_option maxRecDepth 100000 in
theorem lifted (os : Os) (started : os.Started) (H : Type) (enc : TypeId × Value → H) :
    ReturnsInHanded {} Try.checked os 4 .any (Rows.crcTableSpec.pre6 enc Try.prog Try.f4 Rows.crcTableRow.domain false) (Rows.crcTableSpec.post enc Try.prog Try.f4 false true false false) := by
  refine returnsInHanded_of_change (C := Try.checked) own started (by kernel_rfl) Try.func4
    (ChangeSpec.witness6 (enc := enc) (C := Try.checked) false ⟨#[], #[.int .u32 0, .int .u8 0], []⟩ 8 (by kernel_rfl) (by kernel_rfl) (by kernel_rfl) (by kernel_rfl)) ?_
  intro W base args ds gs before hval0 hW _ _
  have hval : ∀ (j : Nat) t v, Try.f4.params[j]? = some t → args[j]? = some v → Value.okWide Try.prog W .any base t v := hval0
  have hW' := hW
  obtain ⟨p, q, hA0, hV, rfl, hfz, hnd⟩ := hW
  have hA : DataW.TrodAll enc Try.prog W 0 (fun _ => true) true Try.f4.params.toList args.toList ds p := hA0
  rw [Try.params4] at hA hval
  obtain ⟨v0, vs0, d0, ds0, p0, q0, hargs, rfl, rfl, h0, r0⟩ := trodAll_cons hA
  obtain ⟨v1, vs1, d1, ds1, p1, q1, rfl, rfl, rfl, h1, r1⟩ := trodAll_cons r0
  obtain ⟨rfl, rfl, rfl⟩ := trodAll_nil r1
  obtain rfl : args = #[v0, v1] := by cases args; simp_all
  obtain ⟨rfl, rfl⟩ := trodVars_none hV
  obtain ⟨a0, rfl, rfl, rfl, w0⟩ := open_int Try.underlying22 (hval 0 22 v0 rfl rfl) h0
  obtain ⟨a1, rfl, rfl, rfl, w1⟩ := open_int Try.underlying5 (hval 1 5 v1 rfl rfl) h1
  refine (walk a0 a1 w0 w1 W).mono fun e W' ⟨he, hb⟩ => ?_
  subst he
  exact ⟨_, rfl, law_post (P := Try.prog) (f := Try.f4) laidOut (by kernel_rfl) (by kernel_rfl) Try.underlying4 rfl hW' rfl hb⟩

theorem proved : Rows.CrcTableSaid :=
  OpenClaim.holds_of_wide 4 Try.f4 rfl rfl rfl rfl rfl rfl rfl ⟨rfl, rfl, rfl, rfl, rfl⟩ rfl rfl rfl rfl rfl (by kernel_rfl) Try.func4 (by kernel_rfl)
    (of_decide_eq_true (by kernel_rfl)) (by unfold Func.isWrapper; first | (rw [if_pos (by decide +kernel)]; kernel_rfl) | (rw [if_neg (by decide +kernel)]; exact ⟨rfl, rfl⟩))
    (fun os started H enc _ => lifted os started H enc)
#print axioms proved
end Go.Proofs.Ytfmpmjbgimeedaa.crcTable
