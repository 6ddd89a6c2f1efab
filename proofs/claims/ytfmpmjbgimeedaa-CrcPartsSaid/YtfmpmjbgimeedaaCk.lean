/-
  The calls with fixed values that stand at the end of each law of layer 2: they answer as they must.
-/
import Derived.Test.YtfmpmjbgimeedaaCo
namespace Go.Proofs.Ytfmpmjbgimeedaa.Ck
open Go.RowKit Go.Proofs.Ytfmpmjbgimeedaa.Cm Go.Proofs.Ytfmpmjbgimeedaa.Ce Go.Proofs.Ytfmpmjbgimeedaa.Ct Go.Proofs.Ytfmpmjbgimeedaa.Co Go.PlainAid

theorem grows {a b c : World} (h : Below a.heap.size a b) (k : Below b.heap.size b c) : Below a.heap.size a c := h.trans (k.mono h.size)

theorem k1 : con 0 (⟨#[49, 50, 51, 52, 53, 54, 55, 56, 57]⟩ : ByteArray).data.toList = 3421780262 := by decide +kernel
theorem k2 : con 0 (⟨#[]⟩ : ByteArray).data.toList = 0 := by decide +kernel
theorem k3 : con 0 (⟨#[97]⟩ : ByteArray).data.toList = 3904355907 := by decide +kernel
theorem k4 : con (con 0 (⟨#[49, 50, 51, 52]⟩ : ByteArray).data.toList) (⟨#[53, 54, 55, 56, 57]⟩ : ByteArray).data.toList = 3421780262 := by decide +kernel
theorem k5 : entry 1 = 1996959894 := by decide +kernel
theorem k6 : entry 0 = 0 := by decide +kernel

/-- A new variable that holds the table. -/
theorem tab_cell (w : World) (j : Nat) (hj : j < 256) : (w.alloc (.cells (tabTo 256) 27)).cell? ⟨w.heap.size, j, none⟩ = some (.int .u32 (entry j)) := by
  rw [cell_of_row _ _ _ _ _ _ (heap_alloc_last w _)]; exact tabTo_get j hj
/-- .. still, wherever only new memory was made. -/
theorem tab_later {w w' : World} {g j : Nat} {v : Value} (h : w.cell? ⟨g, j, none⟩ = some v) (hb : Below w.heap.size w w') : w'.cell? ⟨g, j, none⟩ = some v := by
  rw [hb.cell (block_lt_of_cell h)]; exact h

set_option maxRecDepth 100000 in
theorem known_any (w : World) : Calls Try.prog 8 #[] w fun e w' => e = .returned (.bool true) ∧ Below w.heap.size w w' := by
  obtain ⟨hz, hsz⟩ := zero_of_info info27
  rw [← tabTo_zero] at hz
  have HZ := Lib.hid hsz
  clear hsz
  go_enter Try.func8, Try.ntmps8
  go_wp2_with fail
  refine (Table_any _).mono ?_
  rintro e w1 ⟨rfl, b1⟩
  go_wp2_with (refine wpList_store_row rfl 27 _ _ rfl w1.heap.size (tabTo 256) rfl rfl _ _ (heap_alloc_last w1 _) (by rw [tabTo_size]; exact HZ.out) (by rw [tabTo_size, tabTo_size]) (tabTo_one 256) ?_; rw [World.setRow_alloc_new])
  clear hz HZ
  have c0 := Lib.hid (tab_cell w1 0 (by omega))
  have c1 := Lib.hid (tab_cell w1 1 (by omega))
  have b2 : Below w.heap.size w (w1.alloc (.cells (tabTo 256) 27)) := b1.alloc b1.size _
  generalize w1.alloc (.cells (tabTo 256) 27) = w2 at *
  refine (Of_any _ _ (by decide)).mono ?_
  rintro e w3 ⟨rfl, b3⟩
  rw [k1]
  go_wp2_with fail
  refine (Of_any _ _ (by decide)).mono ?_
  rintro e w4 ⟨rfl, b4⟩
  rw [k2]
  go_wp2_with fail
  refine (Of_any _ _ (by decide)).mono ?_
  rintro e w5 ⟨rfl, b5⟩
  rw [k3]
  go_wp2_with fail
  refine (Of_any _ _ (by decide)).mono ?_
  rintro e w6 ⟨rfl, b6⟩
  go_wp2_with fail
  refine (On_any _ (on_lt _ _) _ _ (by decide)).mono ?_
  rintro e w7 ⟨rfl, b7⟩
  rw [k4]
  have b := grows (grows (grows (grows b3 b4) b5) b6) b7
  have d0 := tab_later c0.out b
  have d1 := tab_later c1.out b
  rw [k6] at d0
  rw [k5] at d1
  go_wp2
  go_ret
  exact ⟨rfl, grows b2 b⟩

end Go.Proofs.Ytfmpmjbgimeedaa.Ck
