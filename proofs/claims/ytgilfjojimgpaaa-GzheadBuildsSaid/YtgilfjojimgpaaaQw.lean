/-
  Layer 12: what the laws' walks take: Right and Build as answers; how long a head's bytes are; heads compared.
  Conditions: as each theorem says.
-/
import Derived.Test.YtgilfjojimgpaaaQk
import Derived.Test.YtgilfjojimgpaaaQg
import Derived.Test.YtgilfjojimgpaaaQy
namespace Go.Proofs.Ytgilfjojimgpaaa.Qw
open Go.RowKit Go.Proofs.Ytgilfjojimgpaaa.Vm Go.Proofs.Ytgilfjojimgpaaa.Vo Go.Proofs.Ytgilfjojimgpaaa.Vf Go.Proofs.Ytgilfjojimgpaaa.Bw Go.Proofs.Ytgilfjojimgpaaa.Bm Go.Proofs.Ytgilfjojimgpaaa.Qm Go.Proofs.Ytgilfjojimgpaaa.Qa Go.Proofs.Ytgilfjojimgpaaa.Qb Go.Proofs.Ytgilfjojimgpaaa.Qc Go.Proofs.Ytgilfjojimgpaaa.Qd Go.Proofs.Ytgilfjojimgpaaa.Qf Go.Proofs.Ytgilfjojimgpaaa.Qg Go.Proofs.Ytgilfjojimgpaaa.Qn Go.Proofs.Ytgilfjojimgpaaa.Qk

theorem Right_is {t : Int} {e n c : ByteArray} {v o : Int} {x m : Bool} {f : Int} {β : Bool} (hβ : β = true ↔ rightQ (hq t e n c v o x m f)) (h0 : -9223372036854775808 ≤ f) (h1 : f ≤ 9223372036854775807) (w : World) :
    Calls Try.prog 11 #[.agg (cs9 t e n c v o x m f)] w fun e' w' => e' = .returned (.bool β) ∧ Below w.heap.size w w' :=
  (Right_any t e n c v o x m f w h0 h1).mono fun e' w' ⟨⟨b, hb, hi⟩, hB⟩ => ⟨by rw [hb, show b = β by rw [Bool.eq_iff_iff, hi, hβ]], hB⟩
theorem rRight_is {t : Int} {e n c : ByteArray} {v o : Int} {x m : Bool} {f : Int} {β : Bool} (hβ : β = true ↔ rightQ (hq t e n c v o x m f)) (hn : n.size ≤ 9223372036854775807) (hc : c.size ≤ 9223372036854775807) (w : World) :
    Calls Try.prog 12 #[.agg (cs9 t e n c v o x m f)] w fun e' w' => e' = .returned (.bool β) ∧ Below w.heap.size w w' :=
  (rRight_any t e n c v o x m f w hn hc).mono fun e' w' ⟨⟨b, hb, hi⟩, hB⟩ => ⟨by rw [hb, show b = β by rw [Bool.eq_iff_iff, hi, hβ]], hB⟩
/-- What Build answers. -/
def bdS (q : Hq) (β : Bool) : ByteArray := if β = true then ⟨(encQ crl q).toArray⟩ else ⟨#[]⟩
def bdE (β : Bool) : Int := if β = true then 0 else 4
theorem Build_is {t : Int} {e n c : ByteArray} {v o : Int} {x m : Bool} {f : Int} {β : Bool} (hβ : β = true ↔ rightQ (hq t e n c v o x m f)) (h0 : -9223372036854775808 ≤ f) (h1 : f ≤ 9223372036854775807) (hn : n.size ≤ 1099511627776) (hc : c.size ≤ 1099511627776) (w : World) :
    Calls Try.prog 9 #[.agg (cs9 t e n c v o x m f)] w fun e' w' => e' = .returned (.tuple #[.string (bdS (hq t e n c v o x m f) β), .int .i64 (bdE β)]) ∧ Below w.heap.size w w' := by
  cases β
  · exact Build_no t e n c v o x m f w h0 h1 (fun k => by cases hβ.2 k)
  · exact Build_yes t e n c v o x m f w hn hc (hβ.1 rfl)
theorem rBuild_is {t : Int} {e n c : ByteArray} {v o : Int} {x m : Bool} {f : Int} {β : Bool} (hβ : β = true ↔ rightQ (hq t e n c v o x m f)) (hn : n.size ≤ 1099511627776) (hc : c.size ≤ 1099511627776) (w : World) :
    Calls Try.prog 10 #[.agg (cs9 t e n c v o x m f)] w fun e' w' => e' = .returned (.tuple #[.string (bdS (hq t e n c v o x m f) β), .int .i64 (bdE β)]) ∧ Below w.heap.size w w' := by
  cases β
  · exact rBuild_no t e n c v o x m f w hn hc (fun k => by cases hβ.2 k)
  · exact rBuild_yes t e n c v o x m f w hn hc (hβ.1 rfl)
theorem right_bool (q : Hq) : ∃ β : Bool, β = true ↔ rightQ q := by
  by_cases h : rightQ q
  · exact ⟨true, ⟨fun _ => h, fun _ => rfl⟩⟩
  · exact ⟨false, ⟨fun k => (by cases k), fun k => absurd k h⟩⟩
theorem enc_len (q : Hq) : (encQ crl q).length ≤ 16 + q.e.length + q.n.length + q.c.length ∧ 10 ≤ (encQ crl q).length := by
  have h1 : (exQ q).length ≤ 2 + q.e.length := by unfold exQ; split <;> simp [le_length]
  have h2 : (naQ q).length ≤ q.n.length + 1 := by unfold naQ; split <;> simp
  have h3 : (noQ q).length ≤ q.c.length + 1 := by unfold noQ; split <;> simp
  have h4 : (smQ crl q).length ≤ 2 := by unfold smQ; split <;> simp [le_length]
  have h5 : (encQ crl q).length = 10 + ((exQ q).length + ((naQ q).length + (noQ q).length)) + (smQ crl q).length := by
    unfold encQ boQ; simp only [List.length_append, hd_length]
  omega
theorem enc_ge {q : Hq} (h : rightQ q) : q.n.length ≤ (encQ crl q).length ∧ q.c.length ≤ (encQ crl q).length ∧ q.e.length ≤ (encQ crl q).length := by
  obtain ⟨_, _, _, _, ⟨_, e1⟩, ⟨_, n1⟩, _, c1⟩ := h
  have h1 : q.e.length ≤ (exQ q).length := by
    unfold exQ
    by_cases k : q.f / 4 % 2 = 1
    · rw [if_pos k, List.length_append]; omega
    · rw [e1 k]; exact Nat.zero_le _
  have h2 : q.n.length ≤ (naQ q).length := by
    unfold naQ
    by_cases k : q.f / 8 % 2 = 1
    · rw [if_pos k, List.length_append]; omega
    · rw [n1 k]; exact Nat.zero_le _
  have h3 : q.c.length ≤ (noQ q).length := by
    unfold noQ
    by_cases k : q.f / 16 % 2 = 1
    · rw [if_pos k, List.length_append]; omega
    · rw [c1 k]; exact Nat.zero_le _
  have h5 : (encQ crl q).length = 10 + ((exQ q).length + ((naQ q).length + (noQ q).length)) + (smQ crl q).length := by
    unfold encQ boQ; simp only [List.length_append, hd_length]
  omega
theorem cut_low {S : ByteArray} {k : Nat} (h : k ≤ S.size) (u : World) : (Instr.slice 9 (.string S) none (some (.int .i64 (k : Int))) none).run Try.prog u = .ok (.string (S.extract 0 k)) u := by
  have g1 : ¬ S.size < k := by omega
  go_simp
/-- What comes with an error. -/
theorem ps_err {l : List UInt8} {p : Nat} {q : Hq} {z er : Int} (h : psR l (p : Int) q z er) (he : er ≠ 0) : q = zQ ∧ z = 0 := by
  obtain ⟨k, h1, h2⟩ := ps_at h
  have h3 := prs_err (cr := crl) (r := l.drop p) (by rw [h1]; exact he)
  rw [h1] at h3
  injection h3 with _ h3
  injection h3 with h3 _
  exact ⟨h3, by rw [h2, if_neg he]⟩
theorem hq_zero {t : Int} {e n c : ByteArray} {v o : Int} {x m : Bool} {f : Int} (h : hq t e n c v o x m f = zQ) : t = 0 ∧ e = ⟨#[]⟩ ∧ n = ⟨#[]⟩ ∧ c = ⟨#[]⟩ ∧ v = 0 ∧ o = 0 ∧ x = false ∧ m = false ∧ f = 0 := by
  unfold hq zQ at h
  injection h with f1 f2 f3 f4 f5 f6 f7 f8 f9
  exact ⟨f1, nil_str f2, nil_str f3, nil_str f4, f5, f6, f7, f8, f9⟩
theorem li_of {e n c : ByteArray} (h : liB e n c = true) : e.size ≤ 70000 ∧ n.size ≤ 2000 ∧ c.size ≤ 2000 := of_decide_eq_true h
theorem i64_b {z : Int} (h : Qy.i64 z) : -9223372036854775808 ≤ z ∧ z ≤ 9223372036854775807 := h
end Go.Proofs.Ytgilfjojimgpaaa.Qw
