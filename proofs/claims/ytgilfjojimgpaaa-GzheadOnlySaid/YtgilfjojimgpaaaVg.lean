/-
  vint.Get, called with any string and any offset: its results; nothing that was there has changed.
-/
import Derived.Test.YtgilfjojimgpaaaVw
import Derived.Test.YtgilfjojimgpaaaVb
namespace Go.Proofs.Ytgilfjojimgpaaa.Vg
open Go.RowKit Go.Proofs.Ytgilfjojimgpaaa.Vm Go.Proofs.Ytgilfjojimgpaaa.Vo Go.Proofs.Ytgilfjojimgpaaa.Vb Go.PlainAid

theorem extract_toList (s : ByteArray) (a : Nat) : (s.extract a s.size).data.toList = s.data.toList.drop a := by
  rw [ByteArray.data_extract, Array.toList_extract]
  have : s.data.toList.length = s.size := by rw [Array.length_toList]; rfl
  rw [List.extract_eq_take_drop, List.take_of_length_le (by rw [List.length_drop]; omega)]

end Go.Proofs.Ytgilfjojimgpaaa.Vg
