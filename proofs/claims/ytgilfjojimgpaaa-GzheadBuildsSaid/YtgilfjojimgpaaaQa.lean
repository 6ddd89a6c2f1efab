/-
  strings.IndexByte and strings.HasPrefix, called with any values: their results; the world is as it was.
  Conditions: as each theorem says.
-/
import Derived.Test.YtgilfjojimgpaaaQm
import Derived.Test.YtgilfjojimgpaaaVo
import Derived.Test.YtgilfjojimgpaaaBw
import Derived.Test.YtgilfjojimgpaaaVf
import Derived.Shelf.Strings.Search1
import Derived.Lib.IndexLaws
namespace Go.Proofs.Ytgilfjojimgpaaa.Qa
open Go.RowKit Go.Proofs.Ytgilfjojimgpaaa.Vm Go.Proofs.Ytgilfjojimgpaaa.Vo Go.Proofs.Ytgilfjojimgpaaa.Qm

def ren : Shelf.Ren := ⟨fun | 217 => 46 | _ => 51, fun | 3 => 3 | 5 => 5 | _ => 9, fun x => x⟩
theorem lays : Lays.n217 Try.prog ren := by
  constructor <;> (intros; kernel_rfl)
theorem slIndexByte_any (s : ByteArray) (w : World) :
    Calls Try.prog 46 #[.string s, .int .u8 0] w fun e w' => e = .returned (.int .i64 (Lib.indexByte s.data.toList 0)) ∧ w = w' :=
  (Any.stringslite_IndexByte lays s 0 w).mono fun _ _ ⟨h, k⟩ => ⟨h, k.symm⟩
theorem IndexByte_any (s : ByteArray) (w : World) :
    Calls Try.prog 38 #[.string s, .int .u8 0] w fun e w' => e = .returned (.int .i64 (Lib.indexByte s.data.toList 0)) ∧ w = w' := by
  go_enter Try.func38, Try.ntmps38
  go_wp2_with (go_at_call 46; refine (slIndexByte_any _ _).mono ?_; rintro e w' ⟨rfl, rfl⟩)
  go_ret
  exact ⟨rfl, rfl⟩

/-- Where the first byte 0 is, and what stands ahead of it and behind. -/
theorem ix_end : ∀ l : List UInt8, (endQ l = none ∧ Lib.indexByte l 0 = -1) ∨ ∃ t r, endQ l = some (t, r) ∧ Lib.indexByte l 0 = (t.length : Int) ∧ l = t ++ 0 :: r
  | [] => .inl ⟨rfl, rfl⟩
  | b :: l => by
    by_cases h : b = 0
    · subst h
      exact .inr ⟨[], l, rfl, rfl, rfl⟩
    · have hb : (b == 0) = false := by simpa using h
      rcases ix_end l with ⟨h1, h2⟩ | ⟨t, r, h1, h2, h3⟩
      · exact .inl ⟨by simp [endQ, h, h1], by simp [Lib.indexByte, hb, h2]⟩
      · refine .inr ⟨b :: t, r, by simp [endQ, h, h1], ?_, by rw [h3]; rfl⟩
        have hn : (((t.length : Nat) : Int) == -1) = false := by
          rw [beq_eq_false_iff_ne]; omega
        simp [Lib.indexByte, hb, h2, hn]
theorem ix_bare (l : List UInt8) : Lib.indexByte l 0 < 0 ↔ (0 : UInt8) ∉ l := by
  rcases ix_end l with ⟨h1, h2⟩ | ⟨t, r, h1, h2, h3⟩
  · rw [h2]
    refine ⟨fun _ hm => ?_, fun _ => by omega⟩
    obtain ⟨k, hk, e⟩ := List.getElem_of_mem hm
    exact Lib.indexByte_none h2 k (by rw [List.getElem?_eq_getElem hk, e])
  · rw [h2]
    refine ⟨fun h => by omega, fun h => absurd (by rw [h3]; simp) h⟩

theorem extract_zero (s : ByteArray) (n : Nat) : (s.extract 0 n).data.toList = s.data.toList.take n := by
  rw [ByteArray.data_extract, Array.toList_extract, List.extract_eq_take_drop]
  simp
theorem slHasPrefix_any (s p : ByteArray) (w : World) (h : p.size ≤ s.size) :
    Calls Try.prog 47 #[.string s, .string p] w fun e w' => e = .returned (.bool (decide (s.data.toList.take p.size = p.data.toList))) ∧ w = w' := by
  go_enter Try.func47, Try.ntmps47
  go_wp2
  go_ret
  refine ⟨?_, rfl⟩
  show Ending.returned (Value.bool ((s.extract 0 p.size).toList == p.toList)) = _
  rw [Lib.extract_toList, Lib.toList_data]
  have hb : ∀ a b : List UInt8, (a == b) = decide (a = b) := fun a b => by rw [Bool.eq_iff_iff]; simp
  rw [hb]
  simp
theorem HasPrefix_any (s p : ByteArray) (w : World) (h : p.size ≤ s.size) :
    Calls Try.prog 39 #[.string s, .string p] w fun e w' => e = .returned (.bool (decide (s.data.toList.take p.size = p.data.toList))) ∧ w = w' := by
  go_enter Try.func39, Try.ntmps39
  go_wp2_with (go_at_call 47; refine (slHasPrefix_any _ _ _ h).mono ?_; rintro e w' ⟨rfl, rfl⟩)
  go_ret
  exact ⟨rfl, rfl⟩
end Go.Proofs.Ytgilfjojimgpaaa.Qa
