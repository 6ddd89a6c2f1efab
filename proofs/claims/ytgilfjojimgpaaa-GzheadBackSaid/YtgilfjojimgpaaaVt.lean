/-
  strings.Clone, vint.Text and vint.Next, called with any values: their results; nothing that was there has changed.
-/
import Derived.Test.YtgilfjojimgpaaaVg
import Derived.Shelf.Pu.Clone
namespace Go.Proofs.Ytgilfjojimgpaaa.Vt
open Go.RowKit Go.Proofs.Ytgilfjojimgpaaa.Vm Go.Proofs.Ytgilfjojimgpaaa.Vo Go.Proofs.Ytgilfjojimgpaaa.Vw Go.Proofs.Ytgilfjojimgpaaa.Vb Go.Proofs.Ytgilfjojimgpaaa.Vg Go.PlainAid

/-- The library's contract of internal/stringslite.Clone, over this program's numbers. -/
def ren : Shelf.Ren := ⟨fun _ => 52, fun | 0 => 0 | 3 => 3 | 4 => 4 | 5 => 5 | 9 => 9 | 37 => 63 | _ => 72, fun x => x⟩
theorem lays : LaysPu.n25 Try.prog ren := by
  constructor <;> (intros; kernel_rfl)
theorem slClone_any (s : ByteArray) (w : World) (hlim : s.size ≤ 281474976710656) :
    Calls Try.prog 52 #[.string s] w fun e w' => e = .returned (.string s) ∧ Below w.heap.size w w' :=
  AnyPu.stringslite_Clone lays s w hlim

theorem Clone_any (s : ByteArray) (w : World) (hlim : s.size ≤ 281474976710656) :
    Calls Try.prog 48 #[.string s] w fun e w' => e = .returned (.string s) ∧ Below w.heap.size w w' := by
  go_enter Try.func48, Try.ntmps48
  go_wp2_with (go_at_call 52; refine (slClone_any _ _ hlim).mono ?_; rintro e w' ⟨rfl, hb⟩)
  go_ret
  exact ⟨rfl, hb⟩

/-- What Text answers. -/
def textR (s : ByteArray) : List UInt8 := put s.size ++ s.data.toList

theorem extract_take (s : ByteArray) (a n : Nat) : (s.extract a (a + n)).data.toList = (s.data.toList.drop a).take n := by
  rw [ByteArray.data_extract, Array.toList_extract, List.extract_eq_take_drop]
  congr 1
  omega
theorem str_eq {x : ByteArray} {l : List UInt8} (h : x.data.toList = l) : x = ⟨l.toArray⟩ := by
  apply ByteArray.ext
  rw [← h]
theorem ret_str_int2 {s t : ByteArray} {k1 k2 : IntKind} {a b a' b' : Int} (h : s = t) (h1 : a = a') (h2 : b = b') : Ending.returned (.tuple #[.string s, .int k1 a, .int k2 b]) = .returned (.tuple #[.string t, .int k1 a', .int k2 b']) := by rw [h, h1, h2]

/-- What Next answers. -/
def nextR (s : ByteArray) (a : Int) : List UInt8 × Int × Int :=
  if (getR s a).2.2 = 0 then
    if (s.size : Int) - (getR s a).2.1 < (getR s a).1 then ([], 0, 2)
    else ((s.data.toList.drop (getR s a).2.1.toNat).take (getR s a).1.toNat, (getR s a).2.1 + (getR s a).1, 0)
  else ([], 0, (getR s a).2.2)

end Go.Proofs.Ytgilfjojimgpaaa.Vt
