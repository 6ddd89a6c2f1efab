/-
  strings.Clone, vint.Text and vint.Next, called with any values: their results; nothing that was there has changed.
-/
import Derived.Test.YtacklgianijbpaaVg
import Derived.Shelf.Pu.Clone
namespace Go.Proofs.Ytacklgianijbpaa.Vt
open Go.RowKit Go.Proofs.Ytacklgianijbpaa.Vm Go.Proofs.Ytacklgianijbpaa.Vo Go.Proofs.Ytacklgianijbpaa.Vw Go.Proofs.Ytacklgianijbpaa.Vb Go.Proofs.Ytacklgianijbpaa.Vg Go.PlainAid

/-- The library's contract of internal/stringslite.Clone, over this program's numbers. -/
def ren : Shelf.Ren := ⟨fun _ => 25, fun | 0 => 0 | 3 => 3 | 4 => 4 | 5 => 5 | 9 => 9 | 37 => 43 | _ => 47, fun x => x⟩
theorem lays : LaysPu.n25 Try.prog ren := by
  constructor <;> (intros; kernel_rfl)
theorem slClone_any (s : ByteArray) (w : World) (hlim : s.size ≤ 281474976710656) :
    Calls Try.prog 25 #[.string s] w fun e w' => e = .returned (.string s) ∧ Below w.heap.size w w' :=
  AnyPu.stringslite_Clone lays s w hlim

theorem Clone_any (s : ByteArray) (w : World) (hlim : s.size ≤ 281474976710656) :
    Calls Try.prog 24 #[.string s] w fun e w' => e = .returned (.string s) ∧ Below w.heap.size w w' := by
  go_enter Try.func24, Try.ntmps24
  go_wp2_with (go_at_call 25; refine (slClone_any _ _ hlim).mono ?_; rintro e w' ⟨rfl, hb⟩)
  go_ret
  exact ⟨rfl, hb⟩

/-- What Text answers. -/
def textR (s : ByteArray) : List UInt8 := put s.size ++ s.data.toList

theorem Text_any (s : ByteArray) (w : World) (hs : s.size ≤ 9223372036854775000) :
    Calls Try.prog 19 #[.string s] w fun e w' => e = .returned (.string ⟨(textR s).toArray⟩) ∧ Below w.heap.size w w' := by
  have hl := put_length9 (n := s.size) (by omega)
  go_enter Try.func19, Try.ntmps19
  go_wp2_with (go_at_call 21; refine (varint_any _ _ (by omega)).mono ?_; rintro e w' ⟨rfl, hb⟩)
  go_ret
  exact ⟨ret_str (by apply ByteArray.ext; simp [textR]), hb⟩

theorem extract_take (s : ByteArray) (a n : Nat) : (s.extract a (a + n)).data.toList = (s.data.toList.drop a).take n := by
  rw [ByteArray.data_extract, Array.toList_extract, List.extract_eq_take_drop]
  congr 1
  omega
theorem str_eq {x : ByteArray} {l : List UInt8} (h : x.data.toList = l) : x = ⟨l.toArray⟩ := by
  apply ByteArray.ext
  rw [← h]
theorem ret_str_int2 {s t : ByteArray} {k1 k2 : IntKind} {a b a' b' : Int} (h : s = t) (h1 : a = a') (h2 : b = b') : Ending.returned (.tuple #[.string s, .int k1 a, .int k2 b]) = .returned (.tuple #[.string t, .int k1 a', .int k2 b']) := by rw [h, h1, h2]

/-- What Next answers. -/
def nextR (s : ByteArray) (a : Int) : List UInt8 × Int × Int :=
  if (getR s a).2.2 = 0 then
    if (s.size : Int) - (getR s a).2.1 < (getR s a).1 then ([], 0, 2)
    else ((s.data.toList.drop (getR s a).2.1.toNat).take (getR s a).1.toNat, (getR s a).2.1 + (getR s a).1, 0)
  else ([], 0, (getR s a).2.2)

theorem Next_any (s : ByteArray) (a : Int) (w : World) (hs : s.size ≤ 281474976710656) (ha : a ≤ 9223372036854775807) :
    Calls Try.prog 17 #[.string s, .int .i64 a] w fun e w' => e = .returned (.tuple #[.string ⟨(nextR s a).1.toArray⟩, .int .i64 (nextR s a).2.1, .int .i64 (nextR s a).2.2]) ∧ Below w.heap.size w w' := by
  by_cases he : (getR s a).2.2 = 0
  · obtain ⟨b, n, z, rfl, hg, hR, hn, hz1, hz9, hbz⟩ := getR_inv he
    by_cases hsh : (s.size : Int) - ((b : Int) + (z : Int)) < (n : Int)
    · have H := Lib.hid (show nextR s b = ([], 0, 2) by simp [nextR, hR, hsh])
      have HR := Lib.hid hR
      clear he hR hg
      go_enter Try.func17, Try.ntmps17
      go_wp2_with (go_at_call 13; refine (Get_any _ _ _ (by omega) ha).mono ?_; rintro e w' ⟨rfl, rfl⟩; rw [HR.out])
      go_ret3
      exact ⟨ret_str_int2 (by rw [H.out]) (by rw [H.out]) (by rw [H.out]), Below.refl _ _⟩
    · have H := Lib.hid (show nextR s b = ((s.data.toList.drop (b + z)).take n, (b : Int) + (z : Int) + (n : Int), 0) by simp [nextR, hR, hsh, show ((b : Int) + (z : Int)).toNat = b + z by omega])
      have HR := Lib.hid hR
      obtain ⟨x, hx⟩ : ∃ x, s.extract (b + z) (b + z + n) = x := ⟨_, rfl⟩
      have HX : Hid (x.data.toList = (s.data.toList.drop (b + z)).take n) := Lib.hid (by rw [← hx]; exact extract_take s (b + z) n)
      have hxs : x.size ≤ s.size := by rw [← hx, ByteArray.size_extract]; omega
      clear he hR hg
      go_enter Try.func17, Try.ntmps17
      go_wp2_with (first | (go_at_call 13; refine (Get_any _ _ _ (by omega) ha).mono ?_; rintro e w' ⟨rfl, rfl⟩; rw [HR.out]) | (go_at_call 24; refine (Clone_any _ _ (by omega)).mono ?_; rintro e w' ⟨rfl, hb⟩))
      go_ret3
      exact ⟨ret_str_int2 (by rw [H.out]; exact str_eq HX.out) (by rw [H.out]) (by rw [H.out]), hb⟩
  · have H := Lib.hid (show nextR s a = ([], 0, (getR s a).2.2) by simp [nextR, he])
    have hE := getR_err he
    generalize (getR s a).2.2 = e0 at *
    have HR := Lib.hid hE
    have hne : (e0 != 0) = true := by simpa using he
    clear he hE
    go_enter Try.func17, Try.ntmps17
    go_wp2_with (go_at_call 13; refine (Get_any _ _ _ (by omega) ha).mono ?_; rintro e w' ⟨rfl, rfl⟩; rw [HR.out])
    go_ret3
    exact ⟨ret_str_int2 (by rw [H.out]) (by rw [H.out]) (by rw [H.out]), Below.refl _ _⟩

end Go.Proofs.Ytacklgianijbpaa.Vt
