/-
  The zero value of a table.
  Conditions: none.
-/
import Derived.Test.YtgbdecnaamlekaaDoorPc
namespace Go.Proofs.YtgbdecnaamlekaaDoor.Pz
open Go.RowKit Go.Proofs.YtgbdecnaamlekaaDoor.Pc

/-- A table's zero cells. -/
def tz : Array Value := (((Array.replicate 1027 (Value.int .u16 0)).setIfInBounds 0 (.pointer none)).setIfInBounds 1 (.int .i64 0)).setIfInBounds 1026 (.slice none 0 0)
theorem infoZ : (Tryd.prog.info? 128).map (·.zero) = some (some (.agg tz)) := by kernel_rfl
theorem places : (Tryd.prog.underlying 128).map (fun d => match d with | .struct fs => fs.toList.mapM (fun f => (Tryd.prog.info? f.type).map fun i => (f.offset, i.size)) | _ => none) = some (some [(0, 1), (1, 1), (2, 1024), (1026, 1)]) := by kernel_rfl
end Go.Proofs.YtgbdecnaamlekaaDoor.Pz
