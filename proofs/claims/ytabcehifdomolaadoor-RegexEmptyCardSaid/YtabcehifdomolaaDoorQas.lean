/-
  strings.Join and strconv.Itoa, by the library's contracts.
  The table of powers of ten in memory; strconv.Itoa of any int; texts as lists of numbers; bounds of a tree's text.
  The reference's Digits, of one digit and of two.
  The program's sign: what a repetition puts behind its child.
  The program's enclose.
  The program's list.
  Conditions: as each theorem says.
-/
import Derived.Test.YtabcehifdomolaaDoorQan
import Derived.Shelf.Strings.OnBuilder
import Derived.Shelf.Strconv.Itoa3
import Derived.Test.YtabcehifdomolaaDoorQaj
import Derived.Test.YtabcehifdomolaaDoorQba
import Derived.Deep.RegionHeld3
import Derived.Deep.DeepCutAuto
namespace Go.Proofs.YtabcehifdomolaaDoor.Ej
open Go.RowKit Go.Proofs.YtabcehifdomolaaDoor.Bw Go.Proofs.YtabcehifdomolaaDoor.Ed

def renJ : Shelf.Ren := ⟨fun | 156 => 45 | 165 => 60 | 166 => 61 | 169 => 62 | 240 => 71 | 241 => 72 | 276 => 81 | 277 => 82 | _ => 0, fun | 0 => 0 | 3 => 3 | 4 => 4 | 5 => 5 | 9 => 9 | 20 => 20 | 31 => 64 | 37 => 59 | 70 => 75 | 72 => 77 | 75 => 80 | 76 => 81 | 80 => 83 | 127 => 90 | 164 => 97 | _ => 0, fun x => x⟩
def renI : Shelf.Ren := ⟨fun | 129 => 91 | 171 => 46 | 243 => 63 | 246 => 73 | 283 => 83 | 284 => 84 | 285 => 85 | 286 => 86 | 317 => 90 | 318 => 92 | 319 => 93 | 320 => 94 | 337 => 97 | 338 => 98 | _ => 0, fun | 0 => 0 | 2 => 2 | 3 => 3 | 4 => 4 | 5 => 5 | 9 => 9 | 20 => 20 | 37 => 59 | 46 => 89 | 51 => 110 | 53 => 34 | 171 => 100 | 173 => 102 | 212 => 109 | 213 => 111 | 232 => 115 | 233 => 116 | _ => 0, fun | 17 => 1 | 18 => 2 | 19 => 3 | _ => 0⟩
set_option maxRecDepth 100000 in
theorem laysJ : Lays.n156 Tryd.prog renJ := by
  constructor <;> (intros; kernel_rfl)
set_option maxRecDepth 100000 in
theorem extraJ : Builder.Extra Tryd.prog renJ := by
  refine { sizeBuilder := by kernel_rfl, liesBuilder := by kernel_rfl, t5 := by kernel_rfl, a5 := by intro w; kernel_rfl, z5 := by intro w; kernel_rfl, v5 := by intro w; kernel_rfl, infoByte := by kernel_rfl, cellsByte := by kernel_rfl, sizeByte := by kernel_rfl, neB5 := by decide }
set_option maxRecDepth 100000 in
theorem laysI : Lays.n171 Tryd.prog renI := by
  constructor <;> (intros; kernel_rfl)
theorem Itoa_any (i : Nat) (hi : i < 100) (w : World) :
    Calls Tryd.prog 46 #[.int .i64 i] w fun e w' => e = .returned (.string ⟨(Lib.decDigits i).toArray⟩) ∧ w' = w := Any.strconv_Itoa_small laysI i hi w
theorem Join_any (bk o c : Nat) (xs : List ByteArray) (sep : ByteArray) (w : World) (hcells : ∀ (j : Nat) x, xs[j]? = some x → w.cell? ⟨bk, o + j, none⟩ = some (.string x)) (hbk : bk < w.heap.size) (hN : xs.length ≤ 140737488355328) (hcap : xs.length ≤ c)
    (hlen : (Lib.join (xs.map (·.data.toList)) sep.data.toList).length ≤ 140737488355328) :
    Calls Tryd.prog 45 #[.slice (some ⟨bk, o, none⟩) xs.length c, .string sep] w fun e w' => e = .returned (.string ⟨(Lib.join (xs.map (·.data.toList)) sep.data.toList).toArray⟩) ∧ Below w.heap.size w w' := Any.strings_Join laysJ extraJ bk o c xs sep w hcells hbk hN hcap hlen
end Go.Proofs.YtabcehifdomolaaDoor.Ej
namespace Go.Proofs.YtabcehifdomolaaDoor.Etb
open Go.RowKit Go.Proofs.YtabcehifdomolaaDoor.Bw Go.Proofs.YtabcehifdomolaaDoor.Tm Go.Proofs.YtabcehifdomolaaDoor.Ts Go.Proofs.YtabcehifdomolaaDoor.Ta Go.Proofs.YtabcehifdomolaaDoor.Tb Go.Proofs.YtabcehifdomolaaDoor.Tf Go.Proofs.YtabcehifdomolaaDoor.Th Go.Proofs.YtabcehifdomolaaDoor.Tn Go.Proofs.YtabcehifdomolaaDoor.Rm Go.Proofs.YtabcehifdomolaaDoor.Rs Go.Proofs.YtabcehifdomolaaDoor.Rv Go.Proofs.YtabcehifdomolaaDoor.Ed Go.Proofs.YtabcehifdomolaaDoor.Ej

theorem var?_below {P : Program} {B g : Nat} {W W' : World} {n : String} {cs : Array Value} (h : Below B W W') (hg : P.globalNamed n = some g) (hgB : g < B) (hv : W.var? P n = some cs) : W'.var? P n = some cs := by
  unfold World.var? at hv ⊢
  simp only [hg, Option.bind_some] at hv ⊢
  rw [h.block g hgB]
  exact hv
/-- The table of powers of ten lies in memory. -/
def tab (w : World) : Prop := 1 < w.heap.size ∧ Lib.TabIs Tryd.prog w "internal/strconv.uint64pow10" .u64 Lib.pow10Tab
theorem gTab : Tryd.prog.globalNamed "internal/strconv.uint64pow10" = some 1 := by kernel_rfl
theorem tab.below {w w' : World} (h : tab w) (k : Below w.heap.size w w') : tab w' := ⟨Nat.lt_of_lt_of_le h.1 k.size, var?_below k gTab h.1 h.2⟩
set_option maxRecDepth 100000 in
theorem laysMI : LaysM.n171 Tryd.prog renI := by
  constructor <;> first | exact laysI | kernel_rfl
theorem below_grow (w : World) (os : Array Obj) : Below w.heap.size w (Go.Sort.grow w os) := ⟨rfl, rfl, rfl, by simp [Go.Sort.grow], fun k hk => by show (w.heap ++ os)[k]? = _; exact Array.getElem?_append_left hk⟩
theorem Itoa_int (n : Int) (h0 : -9223372036854775808 ≤ n) (h1 : n ≤ 9223372036854775807) (w : World) (ht : tab w) :
    Calls Tryd.prog 46 #[.int .i64 n] w fun e w' => e = .returned (.string ⟨(Lib.itoa n).toArray⟩) ∧ Below w.heap.size w w' := by
  refine (Any.strconv_Itoa laysMI n h0 h1 w ht.2).mono ?_
  rintro e w' ⟨he, k, os, rfl⟩
  exact ⟨he, grows (below_draws w k) (below_grow _ os)⟩
/-- A text, by its bytes' numbers. -/
def str (l : List Nat) : ByteArray := ⟨(l.map UInt8.ofNat).toArray⟩
theorem str_list (l : List Nat) : (str l).data.toList = l.map UInt8.ofNat := rfl
theorem str_size (l : List Nat) : (str l).size = l.length := by show (l.map UInt8.ofNat).toArray.size = _; simp
theorem str_app (a b : List Nat) : str a ++ str b = str (a ++ b) := by
  apply ByteArray.ext
  rw [ByteArray.data_append]
  show (a.map UInt8.ofNat).toArray ++ (b.map UInt8.ofNat).toArray = ((a ++ b).map UInt8.ofNat).toArray
  simp
theorem str_nb (l : List UInt8) : (⟨l.toArray⟩ : ByteArray) = str (nb l) := by
  unfold str nb
  rw [List.map_map]
  have : (UInt8.ofNat ∘ fun x : UInt8 => x.toNat) = id := by funext x; simp
  rw [this, List.map_id]
theorem str_shN (a : List Nat) : (⟨(shwQ a (notL a)).toArray⟩ : ByteArray) = str (shN a) := str_nb _
theorem nb_str {l : List Nat} (h : ∀ x ∈ l, x < 256) : nb (str l).data.toList = l := by
  rw [str_list]
  unfold nb
  rw [List.map_map]
  conv => rhs; rw [← List.map_id l]
  apply List.map_congr_left
  intro x hx
  have := h x hx
  simp
  omega
theorem dec_30 : ∀ i < 31, nb (Lib.decDigits i) = Rt.decQ i := by decide +kernel
theorem itoa_m1 : nb (Lib.itoa (-1)) = [45, 49] := by decide +kernel
theorem shN_len (a : List Nat) : (shN a).length ≤ 1027 := by
  unfold shN nb
  rw [List.length_map]
  have hb : ∀ x : List Nat, (byt x).length ≤ 256 := fun x => by
    have := Td.btTo_len x 256
    rw [Td.btTo_all] at this
    unfold Td.bts at this
    rwa [List.length_map] at this
  by_cases h1 : (byt a).length = 1
  · obtain ⟨x, hx⟩ : ∃ x, byt a = [x] := List.length_eq_one_iff.1 h1
    rw [shw_one hx]
    have := nota_len x
    omega
  · by_cases h2 : 128 < (byt a).length
    · rw [shw_big h1 h2]
      have h3 := lstQ_le (byt (notL a))
      have := hb (notL a)
      simp only [List.length_cons, List.length_append, List.length_nil]
      omega
    · rw [shw_low h1 h2]
      have h3 := lstQ_le (byt a)
      have := hb a
      simp only [List.length_cons, List.length_append, List.length_nil]
      omega
theorem par_len (b : Bool) (l : List Nat) : (Rt.par b l).length ≤ l.length + 2 := by
  unfold Rt.par
  split
  · simp
  · omega
theorem decQ_len (n : Nat) : (Rt.decQ n).length ≤ 2 := by unfold Rt.decQ; split <;> simp
theorem timQ_len (lo : Nat) (hi : Int) : (Rt.timQ lo hi).length ≤ 7 := by
  unfold Rt.timQ
  have h1 := decQ_len lo
  have h2 := decQ_len hi.toNat
  simp only [List.length_cons, List.length_append, List.length_nil]
  split
  · simp only [List.length_cons, List.length_nil]; omega
  · split
    · simp only [List.length_cons]; omega
    · simp only [List.length_nil]; omega
mutual
/-- A tree's text is no longer than so. -/
theorem tx_len : ∀ t : T, (Rt.tx t).length + 3 ≤ 1200 * (enc t).length
  | .set a => by have := shN_len a; simp only [Rt.tx, enc, List.length_cons, List.length_nil]; omega
  | .emp => by simp only [Rt.tx, enc, List.length_cons, List.length_nil]; omega
  | .cat l => by have := txC_len l; simp only [Rt.tx, enc, List.length_cons]; omega
  | .alt l => by have := txA_len l; simp only [Rt.tx, enc, List.length_cons]; omega
  | .star t => by have h1 := tx_len t; have h2 := par_len (!Rt.isAtm t) (Rt.tx t); simp only [Rt.tx, enc, List.length_cons, List.length_append, List.length_nil]; omega
  | .plus t => by have h1 := tx_len t; have h2 := par_len (!Rt.isAtm t) (Rt.tx t); simp only [Rt.tx, enc, List.length_cons, List.length_append, List.length_nil]; omega
  | .opt t => by have h1 := tx_len t; have h2 := par_len (!Rt.isAtm t) (Rt.tx t); simp only [Rt.tx, enc, List.length_cons, List.length_append, List.length_nil]; omega
  | .rep lo hi t => by have h1 := tx_len t; have h2 := par_len (!Rt.isAtm t) (Rt.tx t); have h3 := timQ_len lo hi; simp only [Rt.tx, enc, List.length_cons, List.length_append]; omega
theorem txC_len : ∀ l : List T, (Rt.txC l).length ≤ 1200 * (encs l).length
  | [] => by simp [Rt.txC]
  | t :: l => by have h1 := tx_len t; have h2 := txC_len l; have h3 := par_len (Rt.isAlt t || Rt.isCat t) (Rt.tx t); simp only [Rt.txC, encs, List.length_append]; omega
theorem txB_len : ∀ l : List T, (Rt.txB l).length ≤ 1200 * (encs l).length
  | [] => by simp [Rt.txB]
  | t :: l => by have h1 := tx_len t; have h2 := txB_len l; have h3 := par_len (Rt.isAlt t) (Rt.tx t); simp only [Rt.txB, encs, List.length_append, List.length_cons]; omega
theorem txA_len : ∀ l : List T, (Rt.txA l).length ≤ 1200 * (encs l).length
  | [] => by simp [Rt.txA]
  | t :: l => by have h1 := tx_len t; have h2 := txB_len l; have h3 := par_len (Rt.isAlt t) (Rt.tx t); simp only [Rt.txA, encs, List.length_append]; omega
end
end Go.Proofs.YtabcehifdomolaaDoor.Etb
namespace Go.Proofs.YtabcehifdomolaaDoor.Rb
open Go.RowKit Go.PlainAid Go.Proofs.YtabcehifdomolaaDoor.Vm Go.Proofs.YtabcehifdomolaaDoor.Vo Go.Proofs.YtabcehifdomolaaDoor.Bw Go.Proofs.YtabcehifdomolaaDoor.Ba Go.Proofs.YtabcehifdomolaaDoor.Na Go.Proofs.YtabcehifdomolaaDoor.Tm Go.Proofs.YtabcehifdomolaaDoor.Ts Go.Proofs.YtabcehifdomolaaDoor.Ta Go.Proofs.YtabcehifdomolaaDoor.Tb Go.Proofs.YtabcehifdomolaaDoor.Td Go.Proofs.YtabcehifdomolaaDoor.Te Go.Proofs.YtabcehifdomolaaDoor.Tf Go.Proofs.YtabcehifdomolaaDoor.Tg Go.Proofs.YtabcehifdomolaaDoor.Th Go.Proofs.YtabcehifdomolaaDoor.To Go.Proofs.YtabcehifdomolaaDoor.Rw Go.Proofs.YtabcehifdomolaaDoor.Ez Go.Proofs.YtabcehifdomolaaDoor.Etb

theorem retS {a b : ByteArray} (h : a = b) : Ending.returned (.string a) = .returned (.string b) := by rw [h]
theorem w64 {z : Int} (m : Nat) (h : z = (m : Int)) (hm : m ≤ 1000) : IntKind.i64.wrap z = (m : Int) := by rw [IntKind.wrap_i64]; omega
theorem w64' {z : Int} (m : Nat) (h : z = (m : Int)) (hm : m ≤ 1000) : wrap64 z = (m : Int) := by rw [wrap64_in (by omega) (by omega)]; exact h
theorem w8 {z : Int} (m : Nat) (h : z = (m : Int)) (hm : m < 256) : IntKind.u8.wrap z = (m : Int) := by show z % 256 = _; omega
theorem ob_lit1 (c : Nat) (hc : c < 256) (x y : World) (k : Below (x.heap.size + 1) (x.alloc (.cells #[Value.int .u8 (c : Int)] 5)) y) : ob x.heap.size y (.slice (some ⟨x.heap.size, 0, none⟩) 1 1) [UInt8.ofNat c] := by
  have h : ob x.heap.size (x.alloc (.cells #[Value.int .u8 (c : Int)] 5)) (.slice (some ⟨x.heap.size, 0, none⟩) 1 1) [UInt8.ofNat c] := by
    rw [show #[Value.int .u8 (c : Int)] = (Bs [UInt8.ofNat c]).toArray from by rw [byte_val hc]; rfl]
    exact ob_lit (c := [UInt8.ofNat c]) (by simp) (Nat.le_refl _)
  exact h.below (by rw [size_alloc]; exact k)
set_option maxHeartbeats 2000000 in
set_option maxRecDepth 100000 in
theorem digit_two {n q r c : Nat} (hq : n = 10 * q + r) (hr : r < 10) (hq1 : 0 < q) (hq9 : q < 10) (hc : c = 48 + r) (w : World) :
    Calls Tryd.prog 32 #[.int .i64 (n : Int)] w fun e w' => e = .returned (.string (str [48 + q, c])) ∧ Below w.heap.size w w' := by
  have h2 : ¬ (n : Int) < 10 := by omega
  have e1 : (n : Int).tdiv 10 = (q : Int) := by rw [Int.tdiv_eq_ediv_of_nonneg (by omega)]; omega
  have e1' : (n : Int) / 10 = (q : Int) := by omega
  have e2 : (n : Int).tmod 10 = (r : Int) := by rw [Int.tmod_eq_emod_of_nonneg (by omega)]; omega
  have e2' : (n : Int) % 10 = (r : Int) := by omega
  have HCV := Lib.hid (ob_lit1 c (by omega))
  obtain ⟨Q, hQ⟩ : ∃ Q : ByteArray, Q = ⟨([UInt8.ofNat (48 + q)] : List UInt8).toArray⟩ := ⟨_, rfl⟩
  have HQ := Lib.hid (digit_one (n := q) (by omega))
  rw [← hQ] at HQ
  have hQz : Q.size = 1 := by rw [hQ]; rfl
  have hz : ¬ 9223372036854775807 < Q.size + 1 := by omega
  have HRES : Hid (Q ++ ⟨([UInt8.ofNat c] : List UInt8).toArray⟩ = str [48 + q, c]) := Lib.hid (by rw [hQ]; rfl)
  have e3 : IntKind.i64.wrap (48 + (r : Int)) = (c : Int) := w64 c (by omega) (by omega)
  have e3' : wrap64 (48 + (r : Int)) = (c : Int) := w64' c (by omega) (by omega)
  have e4 : IntKind.u8.wrap (c : Int) = (c : Int) := w8 c rfl (by omega)
  have e4' : (c : Int) % 256 = (c : Int) := by have := w8 c rfl (by omega); exact this
  have e5 : IntKind.i64.wrap (q : Int) = (q : Int) := w64 q rfl (by omega)
  have e5' : wrap64 (q : Int) = (q : Int) := w64' q rfl (by omega)
  have e6 : IntKind.i64.wrap (r : Int) = (r : Int) := w64 r rfl (by omega)
  have e6' : wrap64 (r : Int) = (r : Int) := w64' r rfl (by omega)
  clear hq hr hc hq1 hq9 hQ
  go_enter Tryd.func32, Tryd.ntmps32
  go_wp2
  refine wp_region_noPanic ?_
  refine wp_region_any (by kernel_rfl) ?_
  show wpAny _ _ _ _ _ _ _ w.drew
  have HK := Lib.hid (below_draws w 1)
  refine takeA (i := 0) (d := some 10) (v := .int .i64 (n : Int)) rfl rfl (by kernel_rfl) (by kernel_rfl) (by kernel_rfl) (fun _ _ _ h => h) (Or.inl ⟨by rfl, ?hy1⟩) ?rest1
  case hy1 => (intro w9; first | (go_simp; done) | (go_simp; with_reducible rfl))
  try simp only [Act.put, List.setIfInBounds_toArray, List.set_cons_zero, List.set_cons_succ]
  refine takeA (i := 1) (d := some 11) (v := .int .i64 (q : Int)) rfl rfl (by kernel_rfl) (by kernel_rfl) (by kernel_rfl) (fun _ _ _ h => h) (Or.inl ⟨by rfl, ?hy2⟩) ?rest2
  case hy2 => (intro w9; first | (go_simp; done) | (go_simp; with_reducible rfl))
  try simp only [Act.put, List.setIfInBounds_toArray, List.set_cons_zero, List.set_cons_succ]
  refine takeA (i := 3) (d := some 13) (v := .int .i64 (n : Int)) rfl rfl (by kernel_rfl) (by kernel_rfl) (by kernel_rfl) (fun _ _ _ h => h) (Or.inl ⟨by rfl, ?hy3⟩) ?rest3
  case hy3 => (intro w9; first | (go_simp; done) | (go_simp; with_reducible rfl))
  try simp only [Act.put, List.setIfInBounds_toArray, List.set_cons_zero, List.set_cons_succ]
  refine takeA (i := 4) (d := some 14) (v := .int .i64 (r : Int)) rfl rfl (by kernel_rfl) (by kernel_rfl) (by kernel_rfl) (fun _ _ _ h => h) (Or.inl ⟨by rfl, ?hy4⟩) ?rest4
  case hy4 => (intro w9; first | (go_simp; done) | (go_simp; with_reducible rfl))
  try simp only [Act.put, List.setIfInBounds_toArray, List.set_cons_zero, List.set_cons_succ]
  refine takeA (i := 5) (d := some 15) (v := .int .i64 (c : Int)) rfl rfl (by kernel_rfl) (by kernel_rfl) (by kernel_rfl) (fun _ _ _ h => h) (Or.inl ⟨by rfl, ?hy5⟩) ?rest5
  case hy5 => (intro w9; first | (go_simp; done) | (go_simp; with_reducible rfl))
  try simp only [Act.put, List.setIfInBounds_toArray, List.set_cons_zero, List.set_cons_succ]
  refine takeA (i := 6) (d := some 16) (v := .int .u8 (c : Int)) rfl rfl (by kernel_rfl) (by kernel_rfl) (by kernel_rfl) (fun _ _ _ h => h) (Or.inl ⟨by rfl, ?hy6⟩) ?rest6
  case hy6 => (intro w9; first | (go_simp; done) | (go_simp; with_reducible rfl))
  try simp only [Act.put, List.setIfInBounds_toArray, List.set_cons_zero, List.set_cons_succ]
  refine twoA (i := 2) (j := 7) (by kernel_rfl) ?_ ?_
  · skip
    refine opA (d := some 12) rfl rfl (by rfl) (fun K hK => ?_)
    go_simp
    go_at_call 32
    refine (HQ.out _).mono ?_
    rintro e wb7 ⟨rfl, k⟩
    have HK := Lib.hid (show Below w.heap.size w wb7 from grows HK.out k)
    refine hK.out _ _ ?_
    clear hK K
    try simp only [Act.put, List.setIfInBounds_toArray, List.set_cons_zero, List.set_cons_succ]
    clear k
    refine oneA (i := 7) (by kernel_rfl) ?_
    refine opA (d := some 17) rfl rfl (by rfl) (fun K hK => ?_)
    go_simp
    refine hK.out _ _ ?_
    clear hK K
    try simp only [Act.put, List.setIfInBounds_toArray, List.set_cons_zero, List.set_cons_succ]
    have HO : Hid (ob wb7.heap.size (wb7.alloc (.cells #[.int .u8 (c : Int)] 5)) (.slice (some ⟨wb7.heap.size, 0, none⟩) 1 1) [UInt8.ofNat c]) := Lib.hid (HCV.out wb7 _ (Below.refl _ _))
    obtain ⟨wa8, hwa⟩ : ∃ x, x = wb7.alloc (.cells #[.int .u8 (c : Int)] 5) := ⟨_, rfl⟩
    have HK := Lib.hid (show Below w.heap.size w wa8 from by rw [hwa]; exact grows HK.out (below_alloc _ _))
    rw [← hwa] at HO
    show wpAny _ _ _ _ _ _ _ (wb7.alloc (.cells #[.int .u8 (c : Int)] 5))
    rw [← hwa]
    have hb8 : Hid (wb7.heap.size < wa8.heap.size) := Lib.hid (by rw [hwa, size_alloc]; omega)
    clear hwa
    refine oneA (i := 8) (by kernel_rfl) ?_
    refine opA (d := some 18) rfl rfl (by rfl) (fun K hK => ?_)
    have hcv := ob_string HO.out
    go_simp
    refine hK.out _ _ ?_
    clear hK K hcv
    try simp only [Act.put, List.setIfInBounds_toArray, List.set_cons_zero, List.set_cons_succ]
    refine takeA (i := 9) (d := some 19) (v := .string (Q ++ ⟨([UInt8.ofNat c] : List UInt8).toArray⟩)) rfl rfl (by kernel_rfl) (by kernel_rfl) (by kernel_rfl) (fun _ _ _ h => h) (Or.inl ⟨by rfl, ?hy10⟩) ?rest10
    case hy10 => (intro w9; first | (go_simp; done) | (go_simp; with_reducible rfl))
    try simp only [Act.put, List.setIfInBounds_toArray, List.set_cons_zero, List.set_cons_succ]
    refine takeA (i := 10) (d := some 2) (v := .string (Q ++ ⟨([UInt8.ofNat c] : List UInt8).toArray⟩)) rfl rfl (by kernel_rfl) (by kernel_rfl) (by kernel_rfl) (fun _ _ _ h => h) (Or.inl ⟨by rfl, ?hy11⟩) ?rest11
    case hy11 => (intro w9; first | (go_simp; done) | (go_simp; with_reducible rfl))
    try simp only [Act.put, List.setIfInBounds_toArray, List.set_cons_zero, List.set_cons_succ]
    refine wpAny_done (by kernel_rfl) ?_ _
    refine NoPanic.normal ?_
    simp only [Exit.then]
    go_wp2
    go_ret
    exact ⟨retS HRES.out, HK.out⟩
  · skip
    refine opA (d := some 17) rfl rfl (by rfl) (fun K hK => ?_)
    go_simp
    refine hK.out _ _ ?_
    clear hK K
    try simp only [Act.put, List.setIfInBounds_toArray, List.set_cons_zero, List.set_cons_succ]
    have HO : Hid (ob w.heap.size (w.drew.alloc (.cells #[.int .u8 (c : Int)] 5)) (.slice (some ⟨w.heap.size, 0, none⟩) 1 1) [UInt8.ofNat c]) := Lib.hid (HCV.out w.drew _ (Below.refl _ _))
    obtain ⟨wa12, hwa⟩ : ∃ x, x = w.drew.alloc (.cells #[.int .u8 (c : Int)] 5) := ⟨_, rfl⟩
    have HK := Lib.hid (show Below w.heap.size w wa12 from by rw [hwa]; exact grows HK.out (below_alloc _ _))
    rw [← hwa] at HO
    show wpAny _ _ _ _ _ _ _ (w.drew.alloc (.cells #[.int .u8 (c : Int)] 5))
    rw [← hwa]
    have hb12 : Hid (w.drew.heap.size < wa12.heap.size) := Lib.hid (by rw [hwa, size_alloc]; omega)
    clear hwa
    refine twoA (i := 2) (j := 8) (by kernel_rfl) ?_ ?_
    · skip
      refine opA (d := some 12) rfl rfl (by rfl) (fun K hK => ?_)
      go_simp
      go_at_call 32
      refine (HQ.out _).mono ?_
      rintro e wb13 ⟨rfl, k⟩
      have HK := Lib.hid (show Below w.heap.size w wb13 from grows HK.out k)
      refine hK.out _ _ ?_
      clear hK K
      try simp only [Act.put, List.setIfInBounds_toArray, List.set_cons_zero, List.set_cons_succ]
      have HO := Lib.hid (HO.out.below k)
      clear k
      refine oneA (i := 8) (by kernel_rfl) ?_
      refine opA (d := some 18) rfl rfl (by rfl) (fun K hK => ?_)
      have hcv := ob_string HO.out
      go_simp
      refine hK.out _ _ ?_
      clear hK K hcv
      try simp only [Act.put, List.setIfInBounds_toArray, List.set_cons_zero, List.set_cons_succ]
      refine takeA (i := 9) (d := some 19) (v := .string (Q ++ ⟨([UInt8.ofNat c] : List UInt8).toArray⟩)) rfl rfl (by kernel_rfl) (by kernel_rfl) (by kernel_rfl) (fun _ _ _ h => h) (Or.inl ⟨by rfl, ?hy15⟩) ?rest15
      case hy15 => (intro w9; first | (go_simp; done) | (go_simp; with_reducible rfl))
      try simp only [Act.put, List.setIfInBounds_toArray, List.set_cons_zero, List.set_cons_succ]
      refine takeA (i := 10) (d := some 2) (v := .string (Q ++ ⟨([UInt8.ofNat c] : List UInt8).toArray⟩)) rfl rfl (by kernel_rfl) (by kernel_rfl) (by kernel_rfl) (fun _ _ _ h => h) (Or.inl ⟨by rfl, ?hy16⟩) ?rest16
      case hy16 => (intro w9; first | (go_simp; done) | (go_simp; with_reducible rfl))
      try simp only [Act.put, List.setIfInBounds_toArray, List.set_cons_zero, List.set_cons_succ]
      refine wpAny_done (by kernel_rfl) ?_ _
      refine NoPanic.normal ?_
      simp only [Exit.then]
      go_wp2
      go_ret
      exact ⟨retS HRES.out, HK.out⟩
    · skip
      refine opA (d := some 18) rfl rfl (by rfl) (fun K hK => ?_)
      have hcv := ob_string HO.out
      go_simp
      refine hK.out _ _ ?_
      clear hK K hcv
      try simp only [Act.put, List.setIfInBounds_toArray, List.set_cons_zero, List.set_cons_succ]
      refine oneA (i := 2) (by kernel_rfl) ?_
      refine opA (d := some 12) rfl rfl (by rfl) (fun K hK => ?_)
      go_simp
      go_at_call 32
      refine (HQ.out _).mono ?_
      rintro e wb18 ⟨rfl, k⟩
      have HK := Lib.hid (show Below w.heap.size w wb18 from grows HK.out k)
      refine hK.out _ _ ?_
      clear hK K
      try simp only [Act.put, List.setIfInBounds_toArray, List.set_cons_zero, List.set_cons_succ]
      have HO := Lib.hid (HO.out.below k)
      clear k
      refine takeA (i := 9) (d := some 19) (v := .string (Q ++ ⟨([UInt8.ofNat c] : List UInt8).toArray⟩)) rfl rfl (by kernel_rfl) (by kernel_rfl) (by kernel_rfl) (fun _ _ _ h => h) (Or.inl ⟨by rfl, ?hy19⟩) ?rest19
      case hy19 => (intro w9; first | (go_simp; done) | (go_simp; with_reducible rfl))
      try simp only [Act.put, List.setIfInBounds_toArray, List.set_cons_zero, List.set_cons_succ]
      refine takeA (i := 10) (d := some 2) (v := .string (Q ++ ⟨([UInt8.ofNat c] : List UInt8).toArray⟩)) rfl rfl (by kernel_rfl) (by kernel_rfl) (by kernel_rfl) (fun _ _ _ h => h) (Or.inl ⟨by rfl, ?hy20⟩) ?rest20
      case hy20 => (intro w9; first | (go_simp; done) | (go_simp; with_reducible rfl))
      try simp only [Act.put, List.setIfInBounds_toArray, List.set_cons_zero, List.set_cons_succ]
      refine wpAny_done (by kernel_rfl) ?_ _
      refine NoPanic.normal ?_
      simp only [Exit.then]
      go_wp2
      go_ret
      exact ⟨retS HRES.out, HK.out⟩
theorem Digits_any {n : Nat} (hn : n ≤ 30) (w : World) : Calls Tryd.prog 32 #[.int .i64 (n : Int)] w fun e w' => e = .returned (.string (str (Rt.decQ n))) ∧ Below w.heap.size w w' := by
  unfold Rt.decQ
  split
  · next h => exact digit_one h w
  · next h => exact digit_two (n := n) (q := n / 10) (r := n % 10) (by omega) (by omega) (by omega) (by omega) rfl w
end Go.Proofs.YtabcehifdomolaaDoor.Rb
namespace Go.Proofs.YtabcehifdomolaaDoor.Esg
open Go.RowKit Go.Proofs.YtabcehifdomolaaDoor.Bw Go.Proofs.YtabcehifdomolaaDoor.Na Go.Proofs.YtabcehifdomolaaDoor.Tm Go.Proofs.YtabcehifdomolaaDoor.Ts Go.Proofs.YtabcehifdomolaaDoor.Ta Go.Proofs.YtabcehifdomolaaDoor.Tb Go.Proofs.YtabcehifdomolaaDoor.Tf Go.Proofs.YtabcehifdomolaaDoor.Rm Go.Proofs.YtabcehifdomolaaDoor.Rs Go.Proofs.YtabcehifdomolaaDoor.Rv Go.Proofs.YtabcehifdomolaaDoor.Ra Go.Proofs.YtabcehifdomolaaDoor.Rn Go.Proofs.YtabcehifdomolaaDoor.Ed Go.Proofs.YtabcehifdomolaaDoor.Ej Go.Proofs.YtabcehifdomolaaDoor.Etb

/-- The sign behind a tree's child. -/
def sgQ : T → List Nat
  | .star _ => [42]
  | .plus _ => [43]
  | .opt _ => [63]
  | .rep lo hi _ => Rt.timQ lo hi
  | _ => []
theorem retS {a b : ByteArray} (h : a = b) : Ending.returned (.string a) = .returned (.string b) := by rw [h]
set_option maxHeartbeats 2000000 in
set_option maxRecDepth 100000 in
theorem sign_kind {k : Int} (lo hi n : Int) (x0 x1 x2 x3 : Int) (hk : k = 5 ∨ k = 6 ∨ k = 7) (w : World) :
    Calls Tryd.prog 30 #[.agg #[.int .i64 k, .int .i64 n, .int .u64 x0, .int .u64 x1, .int .u64 x2, .int .u64 x3, .int .i64 lo, .int .i64 hi]] w fun e w' => e = .returned (.string (str [if k = 5 then 42 else if k = 6 then 43 else 63])) ∧ Below w.heap.size w w' := by
  rcases hk with rfl | rfl | rfl
  all_goals
    go_enter Tryd.func30, Tryd.ntmps30
    go_wp2
    go_ret
    exact ⟨rfl, below_alloc w _⟩
set_option maxHeartbeats 2000000 in
set_option maxRecDepth 100000 in
theorem sign_rep {lo : Nat} {hi : Int} (h1 : lo ≤ 30) (h2 : hi = -1 ∨ ((lo : Int) ≤ hi ∧ hi ≤ 30)) (n x0 x1 x2 x3 : Int) {w : World} (ht : Hid (tab w)) :
    Calls Tryd.prog 30 #[.agg #[.int .i64 8, .int .i64 n, .int .u64 x0, .int .u64 x1, .int .u64 x2, .int .u64 x3, .int .i64 (lo : Int), .int .i64 hi]] w fun e w' => e = .returned (.string (str (Rt.timQ lo hi))) ∧ Below w.heap.size w w' := by
  obtain ⟨w1, hw1⟩ : ∃ w1, w1 = w.alloc (.cells #[.int .i64 8, .int .i64 n, .int .u64 x0, .int .u64 x1, .int .u64 x2, .int .u64 x3, .int .i64 (lo : Int), .int .i64 hi] 38) := ⟨_, rfl⟩
  have HB1 : Hid (Below w.heap.size w w1) := Lib.hid (by rw [hw1]; exact below_alloc _ _)
  have HK1 : Hid (Blk w1 w.heap.size 38 #[.int .i64 8, .int .i64 n, .int .u64 x0, .int .u64 x1, .int .u64 x2, .int .u64 x3, .int .i64 (lo : Int), .int .i64 hi]) := Lib.hid (by rw [hw1]; exact Blk.fresh _ _ _)
  obtain ⟨L, hL⟩ : ∃ L, L = Rt.decQ lo := ⟨_, rfl⟩
  obtain ⟨H, hH⟩ : ∃ H, H = (if hi = -1 then [45, 49] else Rt.decQ hi.toNat) := ⟨_, rfl⟩
  have HL2 : L.length ≤ 2 := by rw [hL]; exact decQ_len _
  have HH2 : H.length ≤ 2 := by rw [hH]; split; decide; exact decQ_len _
  have HIL : Hid (∀ u, tab u → Calls Tryd.prog 46 #[.int .i64 (lo : Int)] u fun e w' => e = .returned (.string (str L)) ∧ Below u.heap.size u w') := Lib.hid (fun u t => by
    have := Itoa_int (lo : Int) (by omega) (by omega) u t
    rw [Lib.itoa_nonneg, str_nb, dec_30 lo (by omega), ← hL] at this
    exact this)
  have HIH : Hid (∀ u, tab u → Calls Tryd.prog 46 #[.int .i64 hi] u fun e w' => e = .returned (.string (str H)) ∧ Below u.heap.size u w') := Lib.hid (fun u t => by
    have := Itoa_int hi (by omega) (by omega) u t
    by_cases h : hi = -1
    · subst h
      rw [str_nb, itoa_m1] at this
      rw [if_pos rfl] at hH
      rw [hH]
      exact this
    · rw [if_neg h] at hH
      obtain ⟨m, rfl⟩ := Int.eq_ofNat_of_zero_le (show 0 ≤ hi by omega)
      rw [Lib.itoa_nonneg, str_nb, dec_30 m (by omega)] at this
      rw [hH]
      exact this)
  have HQ : Hid (Rt.timQ lo hi = 123 :: (L ++ (if hi = -1 then [44] else if (lo : Int) = hi then [] else 44 :: H) ++ [125])) := Lib.hid (by
    unfold Rt.timQ
    rw [← hL]
    by_cases h : hi = -1
    · rw [if_pos (by omega), if_pos h]
    · rw [if_neg (by omega), if_neg h]
      rw [if_neg h] at hH
      by_cases h3 : (lo : Int) = hi
      · rw [if_neg (by omega), if_pos h3]
      · rw [if_pos (by omega), if_neg h3, hH])
  have HT1 : Hid (tab w1) := Lib.hid (ht.out.below HB1.out)
  obtain ⟨SL, hSL⟩ : ∃ SL, SL = str L := ⟨_, rfl⟩
  obtain ⟨SH, hSH⟩ : ∃ SH, SH = str H := ⟨_, rfl⟩
  have hz1 : SL.size ≤ 2 := by rw [hSL, str_size]; exact HL2
  have hz2 : SH.size ≤ 2 := by rw [hSH, str_size]; exact HH2
  have HSL := Lib.hid hSL
  have HSH := Lib.hid hSH
  rw [← hSL] at HIL
  rw [← hSH] at HIH
  have HS : Hid (∀ u, Below w1.heap.size w1 u → u.cell? ⟨w.heap.size, 6, none⟩ = some (.int .i64 (lo : Int)) ∧ u.cell? ⟨w.heap.size, 7, none⟩ = some (.int .i64 hi)) := Lib.hid (fun u k => ⟨(HK1.out.below k).cell 6, (HK1.out.below k).cell 7⟩)
  have d0 : w1.cell? ⟨w.heap.size, 0, none⟩ = some (.int .i64 8) := HK1.out.cell 0
  have HC : Hid (∀ u, Below w1.heap.size w1 u → u.cell? ⟨w.heap.size, 6, none⟩ = some (.int .i64 (lo : Int)) ∧ u.cell? ⟨w.heap.size, 7, none⟩ = some (.int .i64 hi)) := HS
  clear hL hH HL2 HH2 hSL hSH HS
  have HEND : Hid (∀ u, Below w1.heap.size w1 u → Below w.heap.size w u) := Lib.hid (fun u k => grows HB1.out k)
  obtain ⟨b1, hb1⟩ : ∃ b1, (hi == (lo : Int)) = b1 := ⟨_, rfl⟩
  obtain ⟨b2, hb2⟩ : ∃ b2, (hi == -1) = b2 := ⟨_, rfl⟩
  cases b1 with
  | true =>
    have HR : Hid ((⟨#[123]⟩ : ByteArray) ++ SL ++ ⟨#[125]⟩ = str (Rt.timQ lo hi)) := Lib.hid (by
      have h := eq_of_beq hb1
      rw [HQ.out, HSL.out, if_neg (by omega), if_pos h.symm]
      show str [123] ++ str L ++ str [125] = _
      rw [str_app, str_app, List.append_nil]
      rfl)
    clear hb2
    go_enter Tryd.func30, Tryd.ntmps30
    go_upto_region 1 with fail
    rw [← hw1]
    clear hw1
    go_wp2
    clear d0
    have HK : Hid (Below w1.heap.size w1 w1.drew) := Lib.hid (below_draws w1 1)
    obtain ⟨d6, d7⟩ := HC.out _ HK.out
    go_region_with (first | (go_at_call 46; (with_reducible refine (HIL.out _ (HT1.out.below HK.out)).mono ?_); rintro e w4 ⟨rfl, k⟩; have HK := Lib.hid (grows HK.out k); clear k; obtain ⟨d6, d7⟩ := HC.out _ HK.out) | (go_at_call 46; (with_reducible refine (HIH.out _ (HT1.out.below HK.out)).mono ?_); rintro e w5 ⟨rfl, k⟩; have HK := Lib.hid (grows HK.out k); clear k; obtain ⟨d6, d7⟩ := HC.out _ HK.out))
    all_goals try simp only [Exit.then]
    all_goals go_wp2
    all_goals go_ret
    all_goals exact ⟨retS HR.out, HEND.out _ HK.out⟩
  | false =>
    cases b2 with
    | true =>
      have HR : Hid ((⟨#[123]⟩ : ByteArray) ++ SL ++ ⟨#[44, 125]⟩ = str (Rt.timQ lo hi)) := Lib.hid (by
        have h := eq_of_beq hb2
        rw [HQ.out, HSL.out, if_pos h]
        show str [123] ++ str L ++ str [44, 125] = _
        rw [str_app, str_app]
        congr 1
        simp)
      go_enter Tryd.func30, Tryd.ntmps30
      go_upto_region 1 with fail
      rw [← hw1]
      clear hw1
      go_wp2
      clear d0
      have HK : Hid (Below w1.heap.size w1 w1.drew) := Lib.hid (below_draws w1 1)
      obtain ⟨d6, d7⟩ := HC.out _ HK.out
      go_region_with (first | (go_at_call 46; (with_reducible refine (HIL.out _ (HT1.out.below HK.out)).mono ?_); rintro e w4 ⟨rfl, k⟩; have HK := Lib.hid (grows HK.out k); clear k; obtain ⟨d6, d7⟩ := HC.out _ HK.out) | (go_at_call 46; (with_reducible refine (HIH.out _ (HT1.out.below HK.out)).mono ?_); rintro e w5 ⟨rfl, k⟩; have HK := Lib.hid (grows HK.out k); clear k; obtain ⟨d6, d7⟩ := HC.out _ HK.out))
      all_goals try simp only [Exit.then]
      all_goals go_wp2
      all_goals go_ret
      all_goals exact ⟨retS HR.out, HEND.out _ HK.out⟩
    | false =>
      have HR : Hid ((⟨#[123]⟩ : ByteArray) ++ SL ++ ⟨#[44]⟩ ++ SH ++ ⟨#[125]⟩ = str (Rt.timQ lo hi)) := Lib.hid (by
        have h := ne_of_beq_false hb2
        have h' := ne_of_beq_false hb1
        rw [HQ.out, HSL.out, HSH.out, if_neg h, if_neg (fun e => h' e.symm)]
        show str [123] ++ str L ++ str [44] ++ str H ++ str [125] = _
        rw [str_app, str_app, str_app, str_app]
        congr 1
        simp)
      go_enter Tryd.func30, Tryd.ntmps30
      go_upto_region 1 with fail
      rw [← hw1]
      clear hw1
      go_wp2
      clear d0
      have HK : Hid (Below w1.heap.size w1 w1.drew) := Lib.hid (below_draws w1 1)
      obtain ⟨d6, d7⟩ := HC.out _ HK.out
      go_region_with (first | (go_at_call 46; (with_reducible refine (HIL.out _ (HT1.out.below HK.out)).mono ?_); rintro e w4 ⟨rfl, k⟩; have HK := Lib.hid (grows HK.out k); clear k; obtain ⟨d6, d7⟩ := HC.out _ HK.out) | (go_at_call 46; (with_reducible refine (HIH.out _ (HT1.out.below HK.out)).mono ?_); rintro e w5 ⟨rfl, k⟩; have HK := Lib.hid (grows HK.out k); clear k; obtain ⟨d6, d7⟩ := HC.out _ HK.out))
      all_goals try simp only [Exit.then]
      all_goals go_wp2
      all_goals go_ret
      all_goals exact ⟨retS HR.out, HEND.out _ HK.out⟩
end Go.Proofs.YtabcehifdomolaaDoor.Esg
namespace Go.Proofs.YtabcehifdomolaaDoor.Een
open Go.RowKit Go.Proofs.YtabcehifdomolaaDoor.Bw Go.Proofs.YtabcehifdomolaaDoor.Na Go.Proofs.YtabcehifdomolaaDoor.Tm Go.Proofs.YtabcehifdomolaaDoor.Ts Go.Proofs.YtabcehifdomolaaDoor.Ta Go.Proofs.YtabcehifdomolaaDoor.Tb Go.Proofs.YtabcehifdomolaaDoor.Tf Go.Proofs.YtabcehifdomolaaDoor.Rm Go.Proofs.YtabcehifdomolaaDoor.Rs Go.Proofs.YtabcehifdomolaaDoor.Rv Go.Proofs.YtabcehifdomolaaDoor.Ra Go.Proofs.YtabcehifdomolaaDoor.Rn Go.Proofs.YtabcehifdomolaaDoor.Ed Go.Proofs.YtabcehifdomolaaDoor.Ej Go.Proofs.YtabcehifdomolaaDoor.Etb Go.Proofs.YtabcehifdomolaaDoor.Esg

def nth (l : List Nat) (i : Nat) : Nat := l.getD i 0
/-- Is a kind one of some. -/
def isK (ks : List Nat) (k : Int) : Bool := ks.any (fun x => (x : Int) == k)
theorem isK_at {ks : List Nat} {k : Int} {j : Nat} (hj : j < ks.length) (h : (nth ks j : Int) = k) : isK ks k = true := by
  unfold isK
  rw [List.any_eq_true]
  refine ⟨nth ks j, ?_, by rw [h]; simp⟩
  unfold nth
  rw [List.getD_eq_getElem?_getD, List.getElem?_eq_getElem hj]
  exact List.getElem_mem hj
theorem isK_no {ks : List Nat} {k : Int} (h : ∀ j, j < ks.length → (nth ks j : Int) ≠ k) : isK ks k = false := by
  unfold isK
  rw [List.any_eq_false]
  intro x hx hk
  obtain ⟨j, hj, rfl⟩ := List.mem_iff_getElem.1 hx
  refine h j hj ?_
  unfold nth
  rw [List.getD_eq_getElem?_getD, List.getElem?_eq_getElem hj]
  exact eq_of_beq hk
set_option maxHeartbeats 2000000 in
set_option maxRecDepth 100000 in
theorem enclose_any {ks : List Nat} (hks : ks.length ≤ 100) {b off N cap kc : Nat} {K : Option Addr} (hN : 0 < N) (hN1 : N ≤ 1000000) {X : List Nat} (hX : X.length ≤ 1000000) {k : Int} {w : World} (hc : w.cell? ⟨b, off, none⟩ = some (.int .i64 k)) (HK : Hid (row w K ks.length (fun i => (nth ks i : Int))))
    (HSH : Hid (Calls Tryd.prog 20 #[.slice (some ⟨b, off, none⟩) N cap] w fun e w' => e = .returned (.string (str X)) ∧ Below w.heap.size w w')) :
    Calls Tryd.prog 44 #[.slice (some ⟨b, off, none⟩) N cap, .slice K ks.length kc] w fun e w' => e = .returned (.string (str (Rt.par (isK ks k) X))) ∧ Below w.heap.size w w' := by
  obtain ⟨SX, hSX⟩ : ∃ SX, SX = str X := ⟨_, rfl⟩
  have hz : SX.size ≤ 1000000 := by rw [hSX, str_size]; exact hX
  have HSX := Lib.hid hSX
  rw [← hSX] at HSH
  have hN2 : (0 : Int) < (N : Int) := by omega
  obtain ⟨n, hn⟩ : ∃ n, n = ks.length := ⟨_, rfl⟩
  have HN := Lib.hid hn
  rw [← hn] at hks ⊢
  clear hSX hn
  go_enter Tryd.func44, Tryd.ntmps44
  go_wp2
  go_loopw [9] (fun s9 wr => ∃ j : Nat, s9 = .int .i64 (j : Int) ∧ j ≤ n ∧ wr = w ∧ Hid (∀ i, i < j → (nth ks i : Int) ≠ k)) (fun s9 _ => n - (intOf s9).toNat)
  case atStart => exact ⟨0, rfl, Nat.zero_le _, rfl, Lib.hid (fun i h => by omega)⟩
  case round =>
    obtain ⟨j, rfl, hj, rfl, HNO⟩ := hrel
    by_cases hjn : j < n
    · have hj1 : (j : Int) < (n : Int) := by omega
      have hj0 : (0 : Int) ≤ (j : Int) := by omega
      obtain ⟨kb, ko, rfl, _, hcell0⟩ := HK.out j (by rw [← HN.out]; exact hjn)
      obtain ⟨y, hy⟩ : ∃ y : Int, y = (nth ks j : Int) := ⟨_, rfl⟩
      have hcell : wr.cell? ⟨kb, ko + j, none⟩ = some (.int .i64 y) := by rw [hy]; exact hcell0
      clear hcell0
      have HY := Lib.hid hy
      have HJ := Lib.hid hjn
      by_cases hk : k = y
      · have hkb : (k == y) = true := by simp [hk]
        have HR : Hid ((⟨#[40]⟩ : ByteArray) ++ SX ++ ⟨#[41]⟩ = str (Rt.par (isK ks k) X)) := Lib.hid (by
          rw [isK_at (j := j) (by rw [← HN.out]; exact hjn) (by rw [← hy, hk]), HSX.out]
          unfold Rt.par
          rw [if_pos rfl]
          show str [40] ++ str X ++ str [41] = _
          rw [str_app, str_app]
          rfl)
        clear hk hy hjn
        go_wp2_with (go_at_call 20; refine HSH.out.mono ?_; rintro e w1 ⟨rfl, k1⟩; have HK1 := Lib.hid k1; clear k1)
        go_ret
        exact ⟨retS HR.out, HK1.out⟩
      · have hkb : (k == y) = false := by simp [hk]
        have HNE : Hid ((nth ks j : Int) ≠ k) := Lib.hid (fun e => hk (by rw [hy, e]))
        clear hk hy hjn
        go_wp2
        go_roundw
        case rel =>
          refine ⟨j + 1, by go_num, by have := HJ.out; omega, by trivial, Lib.hid (fun i hi => ?_)⟩
          rcases (show i < j ∨ i = j by omega) with h | rfl
          · exact HNO.out i h
          · exact HNE.out
        case measure => have := HJ.out; simp [intOf]; omega
    · obtain rfl : j = n := by omega
      have hj1 : ¬ (j : Int) < (j : Int) := by omega
      have HR : Hid (SX = str (Rt.par (isK ks k) X)) := Lib.hid (by
        rw [isK_no (fun i hi => HNO.out i (by rw [HN.out]; exact hi)), HSX.out]
        rfl)
      clear hjn
      go_wp2_with (go_at_call 20; refine HSH.out.mono ?_; rintro e w1 ⟨rfl, k1⟩; have HK1 := Lib.hid k1; clear k1)
      go_ret
      exact ⟨retS HR.out, HK1.out⟩
end Go.Proofs.YtabcehifdomolaaDoor.Een
namespace Go.Proofs.YtabcehifdomolaaDoor.Eli
open Go.RowKit Go.Proofs.YtabcehifdomolaaDoor.Bw Go.Proofs.YtabcehifdomolaaDoor.Na Go.Proofs.YtabcehifdomolaaDoor.Tm Go.Proofs.YtabcehifdomolaaDoor.Ts Go.Proofs.YtabcehifdomolaaDoor.Ta Go.Proofs.YtabcehifdomolaaDoor.Tb Go.Proofs.YtabcehifdomolaaDoor.Tf Go.Proofs.YtabcehifdomolaaDoor.Rm Go.Proofs.YtabcehifdomolaaDoor.Rs Go.Proofs.YtabcehifdomolaaDoor.Rv Go.Proofs.YtabcehifdomolaaDoor.Ra Go.Proofs.YtabcehifdomolaaDoor.Rn Go.Proofs.YtabcehifdomolaaDoor.Ed Go.Proofs.YtabcehifdomolaaDoor.Ee Go.Proofs.YtabcehifdomolaaDoor.Ej Go.Proofs.YtabcehifdomolaaDoor.Etb Go.Proofs.YtabcehifdomolaaDoor.Esg Go.Proofs.YtabcehifdomolaaDoor.Een

/-- Texts with a separator between them. -/
def joinQ (sep : List Nat) : List (List Nat) → List Nat
  | [] => []
  | x :: r => x ++ (r.map (sep ++ ·)).flatten
theorem join_str (sep : List Nat) (ls : List (List Nat)) : (⟨(Lib.join ((ls.map str).map (·.data.toList)) (str sep).data.toList).toArray⟩ : ByteArray) = str (joinQ sep ls) := by
  cases ls with
  | nil => rfl
  | cons x r =>
    have : Lib.join (((x :: r).map str).map (·.data.toList)) (str sep).data.toList = (joinQ sep (x :: r)).map UInt8.ofNat := by
      show Lib.join ((str x).data.toList :: (r.map str).map (·.data.toList)) _ = _
      rw [Lib.join_cons]
      unfold Lib.joinTail joinQ
      rw [List.map_append, str_list, str_list, List.map_flatten, List.map_map, List.map_map, List.map_map]
      congr 2
      apply List.map_congr_left
      intro y _
      simp [str_list]
    rw [this]
    rfl
/-- The program's show, of a tree. -/
def shows (t : T) : Prop := ∀ (u : World) (x : Value), sl u x (enc t) → tab u → Calls Tryd.prog 20 #[x] u fun e w' => e = .returned (.string (str (Rt.tx t))) ∧ Below u.heap.size u w'
theorem made_st (n : Nat) (hn : n ≤ 1000000) (u : World) : (Instr.makeSlice 64 (.int .i64 0) (.int .i64 (n : Int))).run Tryd.prog u = .ok (.slice (some ⟨u.heap.size, 0, none⟩) 0 n) (u.alloc (.cells (madeCells #[.string ⟨#[]⟩] n) 9)) := by
  obtain ⟨i0, hi, hz0, hz1, hz2⟩ := info_parts infoST
  have h := run_make (P := Tryd.prog) u 64 9 i0 (.string ⟨#[]⟩) Tryd.underlying64 hi hz0 .i64 .i64 0 (n : Int) (by omega) (by omega) (by rw [hz2]; omega) (by omega)
  rw [hz1] at h
  simpa [Value.cells] using h
/-- A tree's text as a part. -/
def ptx (ks : List Nat) (t : T) : List Nat := Rt.par (isK ks (hd t).k) (Rt.tx t)
set_option maxHeartbeats 4000000 in
set_option maxRecDepth 100000 in
theorem list_any {ts : List T} (h0 : ts ≠ []) (hts : ts.length ≤ 1000) {ks : List Nat} (hks : ks.length ≤ 100) {sep : List Nat} {A K : Option Addr} {cap kc base : Nat} {L : List Value} {w0 w : World} (HB0 : Hid (Below w0.heap.size w0 w)) (HV : Hid (vs w base 22 (.slice A ts.length cap) L)) (HKV : Hid (kidV w0 L ts)) (HKS : Hid (row w K ks.length (fun i => (Een.nth ks i : Int)))) (HT : Hid (tab w)) (HSH : Hid (∀ t ∈ ts, shows t))
    (hlen : ∀ t ∈ ts, (enc t).length ≤ 1000 ∧ (Rt.tx t).length ≤ 1000000) (hJ : (joinQ sep (ts.map (ptx ks))).length ≤ 10000000) :
    Calls Tryd.prog 29 #[.slice A ts.length cap, .string (str sep), .slice K ks.length kc] w fun e w' => e = .returned (.string (str (joinQ sep (ts.map (ptx ks))))) ∧ Below w.heap.size w w' := by
  obtain ⟨n, hn⟩ : ∃ n, n = ts.length := ⟨_, rfl⟩
  have HN := Lib.hid hn
  have HJJ := Lib.hid hJ
  have HLN := Lib.hid hlen
  have HKS1 := Lib.hid hks
  have hn0 : 0 < n := by
    rw [hn]
    cases ts with
    | nil => exact absurd rfl h0
    | cons x y => simp
  rw [← hn] at hts
  obtain ⟨w1, hw1⟩ : ∃ w1, w1 = w.alloc (.cells (madeCells #[.string ⟨#[]⟩] n) 9) := ⟨_, rfl⟩
  have HV1 : Hid (vs w1 w.heap.size 9 (.slice (some ⟨w.heap.size, 0, none⟩) 0 n) []) := Lib.hid (by rw [hw1]; exact vs_made (by omega) (Nat.le_refl _))
  have HB1 : Hid (Below w.heap.size w w1) := Lib.hid (by rw [hw1]; exact below_alloc _ _)
  have hmk := made_st n (by omega)
  rw [← hn] at HV ⊢
  obtain ⟨SEP, hsep⟩ : ∃ S, S = str sep := ⟨_, rfl⟩
  have HSEP := Lib.hid hsep
  rw [← hsep]
  obtain ⟨kn, hkn⟩ : ∃ kn, kn = ks.length := ⟨_, rfl⟩
  have HKN := Lib.hid hkn
  rw [← hkn]
  clear hn h0 hJ hlen hks hsep hkn
  go_enter Tryd.func29, Tryd.ntmps29
  go_wp2
  rw [← hw1]
  clear hw1 hmk
  go_loopw [7, 9, 15] (fun s7 _ s15 wr => ∃ (j : Nat) (v7 : Value), s7 = v7 ∧ s15 = .int .i64 (j : Int) ∧ j ≤ n ∧ Hid (vs wr w.heap.size 9 v7 (((ts.take j).map (ptx ks)).map (fun q => .string (str q)))) ∧ Hid (Below w.heap.size w wr)) (fun _ _ s15 _ => n - (intOf s15).toNat)
  case atStart => exact ⟨0, _, rfl, rfl, Nat.zero_le _, HV1, HB1⟩
  case round =>
    obtain ⟨j, v7, rfl, rfl, hj, HV7, HB⟩ := hrel
    obtain ⟨A7, c7, hv7, hc7⟩ := HV7.out.le
    subst hv7
    by_cases hjn : j < n
    · have hj1 : (j : Int) < (n : Int) := by omega
      have hj0 : (0 : Int) ≤ (j : Int) := by omega
      have htl : ((((ts.take j).map (ptx ks)).map (fun q => Value.string (str q))).length) = j := by
        rw [List.length_map, List.length_map, List.length_take, ← HN.out]; omega
      obtain ⟨t, ht⟩ : ∃ t, ts[j]? = some t := ⟨_, List.getElem?_eq_getElem (by rw [← HN.out]; exact hjn)⟩
      have hmem := List.mem_of_getElem? ht
      obtain ⟨x, hx, hsl⟩ := HKV.out.2 j t ht
      obtain ⟨ga, hga, _, hcell⟩ := (HV.out.below HB.out).cell hx
      subst hga
      have hsl2 : sl wr x (enc t) := (hsl.below HB0.out).below HB.out
      obtain ⟨A2, c2, rfl, hc2, hnd⟩ := hsl2
      obtain ⟨b, off, rfl, _, hp⟩ := hnd _ _ (tat_zero t).node
      have hk := hp.c0
      rw [show off + 0 * 8 = off by omega] at hk
      have HEN : Hid (Calls Tryd.prog 44 #[.slice (some ⟨b, off, none⟩) (enc t).length c2, .slice K ks.length kc] wr fun e w' => e = .returned (.string (str (ptx ks t))) ∧ Below wr.heap.size wr w') := Lib.hid (enclose_any HKS1.out (enc_pos t) (by have := (HLN.out t hmem).1; omega) (HLN.out t hmem).2 hk (Lib.hid (HKS.out.below HB.out)) (Lib.hid (HSH.out t hmem wr _ ⟨_, c2, rfl, hc2, hnd⟩ (HT.out.below HB.out))))
      rw [← HKN.out] at HEN
      have HTK : Hid ((((ts.take (j + 1)).map (ptx ks)).map (fun q => Value.string (str q))) = (((ts.take j).map (ptx ks)).map (fun q => Value.string (str q))) ++ [.string (str (ptx ks t))]) := Lib.hid (by
        rw [List.take_add_one, ht]
        simp)
      obtain ⟨SE, hse⟩ : ∃ S, S = str (ptx ks t) := ⟨_, rfl⟩
      rw [← hse] at HEN HTK
      obtain ⟨N2, hN2⟩ : ∃ N2, N2 = (enc t).length := ⟨_, rfl⟩
      rw [← hN2] at HEN hcell
      have HJ := Lib.hid hjn
      have HLL : Hid ((((ts.take j).map (ptx ks)).map (fun q => Value.string (str q))).length ≤ 1000000000) := Lib.hid (by rw [htl]; omega)
      rw [htl] at HV7 hc7 ⊢
      obtain ⟨xs, hxs⟩ : ∃ xs, xs = (((ts.take j).map (ptx ks)).map (fun q => Value.string (str q))) := ⟨_, rfl⟩
      rw [← hxs] at HV7 HTK HLL
      clear ht hmem hx hsl hc2 hnd hp hk hse hN2 hjn htl hxs
      go_wp2_with (first | (go_at_call 44; refine HEN.out.mono ?_; rintro e w3 ⟨rfl, k3⟩; have HB3 := Lib.hid (grows HB.out k3); have HV3 := Lib.hid (HV7.out.below k3); clear k3) | (at_builtin; refine wpList_vs Tryd.underlying64 infoST rfl (by decide) rfl _ _ rfl HB3.out (Nat.le_refl _) (by rfl) HV3.out (.string SE) rfl rfl (by rfl) HLL.out ?_; intro v4 w4 h4 b4; have HV4 := Lib.hid h4; have HB4 := Lib.hid b4; clear h4 b4))
      go_roundw
      case rel => exact ⟨j + 1, _, rfl, by go_num, by have := HJ.out; omega, Lib.hid (by rw [HTK.out]; exact HV4.out), HB4⟩
      case measure => have := HJ.out; simp [intOf]; omega
    · obtain rfl : j = n := by omega
      have hj1 : ¬ (j : Int) < (j : Int) := by omega
      have HV8 : Hid (vs wr w.heap.size 9 (.slice A7 ((((ts.take j).map (ptx ks)).map (fun q => Value.string (str q))).length) c7) (((ts.map (ptx ks)).map str).map (fun q => Value.string q))) := Lib.hid (by
        have h := HV7.out
        rw [List.take_of_length_le (by rw [← HN.out]; exact Nat.le_refl _)] at h ⊢
        rw [List.map_map (g := fun q => Value.string q)]
        exact h)
      have htl : ((((ts.take j).map (ptx ks)).map (fun q => Value.string (str q))).length) = ((ts.map (ptx ks)).map str).length := by
        rw [List.length_map, List.length_map, List.length_take, ← HN.out, List.length_map, List.length_map, ← HN.out]; omega
      rw [htl] at HV8 hc7 ⊢
      obtain ⟨xs, hxs⟩ : ∃ xs, xs = (ts.map (ptx ks)).map str := ⟨_, rfl⟩
      have hxl : xs.length = j := by rw [hxs, List.length_map, List.length_map, ← HN.out]
      rw [← hxs] at HV8 hc7 ⊢
      obtain ⟨g7, hg7, hgl, hce⟩ := HV8.out.cell (j := 0) (x := .string (xs[0]'(by omega))) (by simp)
      subst hg7
      have HJO : Hid (Calls Tryd.prog 45 #[.slice (some ⟨g7, 0, none⟩) xs.length c7, .string (str sep)] wr fun e w' => e = .returned (.string (str (joinQ sep (ts.map (ptx ks))))) ∧ Below wr.heap.size wr w') := Lib.hid (by
        have hjs := join_str sep (ts.map (ptx ks))
        rw [← hxs] at hjs
        have hj2 : (Lib.join (xs.map (·.data.toList)) (str sep).data.toList).length ≤ 140737488355328 := by
          have h1 := congrArg (fun z : ByteArray => z.data.toList.length) hjs
          have h2 : (str (joinQ sep (ts.map (ptx ks)))).data.toList.length ≤ 10000000 := by rw [str_list, List.length_map]; exact HJJ.out
          have h3 : (Lib.join (xs.map (·.data.toList)) (str sep).data.toList).length = (str (joinQ sep (ts.map (ptx ks)))).data.toList.length := by simpa using h1
          omega
        have h := Join_any g7 0 c7 xs (str sep) wr (fun i x hi => by
          obtain ⟨g', hg', _, hc⟩ := HV8.out.cell (j := i) (x := .string x) (by rw [List.getElem?_map, hi]; rfl)
          injection hg' with hg'
          injection hg' with hg' _ _
          rw [hg', Nat.zero_add]
          exact hc) hgl (by omega) hc7 hj2
        rw [hjs] at h
        exact h)
      rw [← HSEP.out] at HJO
      obtain ⟨q, hq⟩ : ∃ q, q = xs.length := ⟨_, rfl⟩
      rw [← hq] at HJO ⊢
      clear hce hjn htl hxs hxl hgl HV8 hc7 hq HV7
      go_wp2_with (go_at_call 45; refine HJO.out.mono ?_; rintro e w3 ⟨rfl, k3⟩; have HB3 := Lib.hid (grows HB.out k3); clear k3)
      go_ret
      exact ⟨rfl, HB3.out⟩
end Go.Proofs.YtabcehifdomolaaDoor.Eli
