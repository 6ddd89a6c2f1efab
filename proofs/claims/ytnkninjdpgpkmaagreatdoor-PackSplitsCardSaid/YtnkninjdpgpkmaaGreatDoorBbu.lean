/-
  produce: the machine goes on until more bytes than asked for are ready, or up to the end or an error.
  New, Out, Done, End and Starts, called with a machine that New made: their results.
  Step, called with a machine that New made: the next bytes, or what is wrong.
  All: the text, its blocks' starts and the end, or what is wrong.
  Conditions: as each theorem says.
-/
import Derived.Test.YtnkninjdpgpkmaaGreatDoorBbt
import Derived.Deep.LoopGhost
import Derived.WalkMore
import Derived.Test.YtnkninjdpgpkmaaGreatDoorBbq
import Derived.Test.YtnkninjdpgpkmaaGreatDoorBbp
import Derived.Test.YtnkninjdpgpkmaaGreatDoorBaf
namespace Go.Proofs.YtnkninjdpgpkmaaGreatDoor.Ij
open Go.RowKit Go.Proofs.YtnkninjdpgpkmaaGreatDoor.Vm Go.Proofs.YtnkninjdpgpkmaaGreatDoor.Bm Go.Proofs.YtnkninjdpgpkmaaGreatDoor.Bw Go.Proofs.YtnkninjdpgpkmaaGreatDoor.Br Go.Proofs.YtnkninjdpgpkmaaGreatDoor.Bs Go.Proofs.YtnkninjdpgpkmaaGreatDoor.Ky Go.Proofs.YtnkninjdpgpkmaaGreatDoor.Fm Go.Proofs.YtnkninjdpgpkmaaGreatDoor.Im Go.Proofs.YtnkninjdpgpkmaaGreatDoor.Ia Go.Proofs.YtnkninjdpgpkmaaGreatDoor.Ib Go.Proofs.YtnkninjdpgpkmaaGreatDoor.Ic Go.Proofs.YtnkninjdpgpkmaaGreatDoor.If Go.Proofs.YtnkninjdpgpkmaaGreatDoor.Ig Go.Proofs.YtnkninjdpgpkmaaGreatDoor.Ih Go.Proofs.YtnkninjdpgpkmaaGreatDoor.Ii

/-- Where a machine stands, from w on. -/
def stands (a0 : Nat) (w : World) (m : Nat) (t : ByteArray) (p : List UInt8) (o : Ob) (k : Nat) (s' : St) (o' : Ob) (w' : World) : Prop :=
  mach w' m t p o' k s' ∧ did w m o w' o' ∧ inv (num t.data.toList) (8 * t.size) a0 p s'
/-- What produce leaves. -/
def made (a0 : Nat) (w : World) (m : Nat) (t : ByteArray) (p : List UInt8) (o : Ob) (k : Nat) (n : Int) (e : Ending) (w' : World) : Prop :=
  e = .returned (.tuple #[]) ∧ ∃ s' o', stands a0 w m t p o k s' o' w' ∧ (s'.over ∨ n < ((s'.T.length - k : Nat) : Int))
/-- What goes leaves, stored. -/
theorem goes_on {a0 : Nat} {w w1 w2 : World} {m : Nat} {t : ByteArray} {p : List UInt8} {o o1 : Ob} {k : Nat} {s1 : St} {e : Ending} (h1 : stands a0 w m t p o k s1 o1 w1) (g : goes a0 w1 m t p o1 k s1 e w2) :
    ∃ (x : Int) (s2 : St) (o2 : Ob), e = .returned (.int .i64 x) ∧ mach w2 m t p o2 k ({ s2 with e := 0 } : St) ∧ stands a0 w m t p o k ({ s2 with e := x } : St) o2 (w2.setCell ⟨m, 6, none⟩ (.int .i64 x)) ∧ St.far (8 * t.size) ({ s2 with e := x } : St) < St.far (8 * t.size) s1 := by
  obtain ⟨x, s2, o2, rfl, m2, d2, e2, i2, f2⟩ := g
  have g6 := set_err m2 x
  refine ⟨x, s2, o2, rfl, ?_, ⟨g6.1, h1.2.1.trans (d2.trans g6.2), i2⟩, f2⟩
  have e3 : ({ s2 with e := 0 } : St) = s2 := by rw [← e2]
  rw [e3]; exact m2

set_option maxHeartbeats 2000000 in
set_option maxRecDepth 100000 in
theorem produce_any {a0 : Nat} {w : World} {m : Nat} {t : ByteArray} {p : List UInt8} {o : Ob} {k : Nat} {s : St} (h : mach w m t p o k s) (hv : inv (num t.data.toList) (8 * t.size) a0 p s) (hO : ordM w) (hlo : low m o) (h6 : limM (num t.data.toList) t.size a0 p) (ha0 : a0 ≤ 8 * t.size) (n : Int) :
    Calls Tryz.prog 30 #[.pointer (some ⟨m, 0, none⟩), .int .i64 n] w (made a0 w m t p o k n) := by
  have HO := Lib.hid hO
  have HLO := Lib.hid hlo
  have H6 := Lib.hid h6
  have HA0 := Lib.hid ha0
  have HS : Hid (stands a0 w m t p o k s o w) := Lib.hid ⟨h, did.refl _ _ _, hv⟩
  clear h hv hO hlo h6 ha0
  go_enter Tryz.func30, Tryz.ntmps30
  go_wp2
  go_step3
  go_wp2
  go_step3
  go_wp2
  go_loopg [] (St.far (8 * t.size) s) (fun gk wr => ∃ s' o', Hid (gk = St.far (8 * t.size) s') ∧ Hid (stands a0 w m t p o k s' o' wr))
  case atStart => exact ⟨s, o, Lib.hid rfl, HS⟩
  case round =>
    obtain ⟨s1, o1, HK, H1⟩ := hrel
    have HI := Lib.hid (isOver_any H1.out.1)
    by_cases hov : s1.over
    · rw [over_yes hov] at HI
      have HOV := Lib.hid hov
      clear hov
      go_wp2_with (go_at_call 62; refine HI.out.mono ?_; rintro e w' ⟨rfl, rfl⟩)
      rw [Exit.noGoto_normal]
      go_end0
      exact ⟨rfl, s1, o1, H1.out, .inl HOV.out⟩
    · rw [over_not hov] at HI
      have HOV := Lib.hid hov
      clear hov
      -- the loop within, wherever it begins
      have HE1 : Hid (s1.e = 0) := Lib.hid (by
        rcases Classical.em (s1.e = 0) with h | h
        · exact h
        · exact absurd (.inl h) HOV.out)
      by_cases hx : s1.nx = .no
      · have hfin : s1.fin = false := by
          cases hf : s1.fin
          · rfl
          · exact absurd (.inr ⟨hx, hf⟩) HOV.out
        have HB := Lib.hid (begin_any H1.out.1 H1.out.2.2 HE1.out hx hfin (did.ord H1.out.2.1 HO.out HLO.out) H6.out HA0.out)
        have c7 : wr.cell? ⟨m, 7, none⟩ = some .nilFunc := by have k := H1.out.1.b.cell 7; rw [hx] at k; exact k
        have hq := run_fun_eql wr .no
        have hq : (binOp .eql 63 .nilFunc .nilFunc).run Tryz.prog wr = .ok (.bool true) wr := hq
        clear hx hfin
        go_wp2_with (go_at_call 62; refine HI.out.mono ?_; rintro e w' ⟨rfl, rfl⟩)
        refine HB.out.mono ?_
        intro e w2 hg
        obtain ⟨x, s2, o2, rfl, m2, st2, lt2⟩ := goes_on H1.out hg
        have f6 : w2.frozen? ⟨m, 6, none⟩ = false := m2.b.frozen 6
        have c6 : w2.cell? ⟨m, 6, none⟩ = some (.int .i64 0) := m2.b.cell 6
        have ST2 := Lib.hid st2
        have LT2 := Lib.hid lt2
        clear m2 st2 lt2 hg
        go_wp2
        obtain ⟨K, hK⟩ : ∃ K, K = gk := ⟨_, rfl⟩
        have HKK := Lib.hid hK
        clear hK
        go_loopg [] (St.far (8 * t.size) ({ s2 with e := x } : St)) (fun g2 wy => ∃ s3 o3, Hid (g2 = St.far (8 * t.size) s3) ∧ Hid (stands a0 w m t p o k s3 o3 wy) ∧ Hid (St.far (8 * t.size) s3 ≤ K ∧ (St.far (8 * t.size) s3 < K ∨ s3.nx ≠ .no)))
        case atStart => exact ⟨({ s2 with e := x } : St), o2, Lib.hid rfl, ST2, Lib.hid (by have h1 := HKK.out; have h2 := HK.out; have h3 := LT2.out; exact ⟨by omega, .inl (by omega)⟩)⟩
        case round =>
          obtain ⟨s3, o3, HK3, H3, HF3⟩ := hrel
          rcases h3 : s3.nx with _ | q | ⟨Li, Di⟩
          · have c7 : wr.cell? ⟨m, 7, none⟩ = some .nilFunc := by have k := H3.out.1.b.cell 7; rw [h3] at k; exact k
            have hq : (binOp .neq 63 .nilFunc .nilFunc).run Tryz.prog wr = .ok (.bool false) wr := run_fun_neq wr .no
            have HX3 := Lib.hid h3
            clear h3
            go_wp2
            go_roundg (St.far (8 * t.size) s3)
            case measure => have h1 := HKK.out; have h2 := HF3.out.2; have h3 := HX3.out; rcases h2 with h2 | h2; omega; exact absurd h3 h2
            case rel => exact ⟨s3, o3, Lib.hid rfl, H3⟩
          · -- stored
            have c7 : wr.cell? ⟨m, 7, none⟩ = some (.func (.func 96) #[] #[]) := by have k := H3.out.1.b.cell 7; rw [h3] at k; exact k
            have hq : (binOp .neq 63 (.func (.func 96) #[] #[]) .nilFunc).run Tryz.prog wr = .ok (.bool true) wr := run_fun_neq wr (.sto q)
            obtain ⟨E, hE⟩ : ∃ E, E = s3.e := ⟨_, rfl⟩
            have c6 : wr.cell? ⟨m, 6, none⟩ = some (.int .i64 E) := by rw [hE]; exact H3.out.1.b.cell 6
            by_cases hE0 : E = 0
            · have hEb : (E != 0) = false := by simp [hE0]
              have HE3 : Hid (s3.e = 0) := Lib.hid (by rw [← hE]; exact hE0)
              obtain ⟨A5, cap5, hvr5, _⟩ := H3.out.1.h.y.form
              obtain ⟨n5, hn5⟩ : ∃ n5, n5 = (s3.T.drop k).length := ⟨_, rfl⟩
              rw [← hn5] at hvr5
              have c5 : wr.cell? ⟨m, 5, none⟩ = some (.slice A5 n5 cap5) := by rw [← hvr5]; exact H3.out.1.b.cell 5
              have HN5 : Hid (n5 = s3.T.length - k) := Lib.hid (by rw [hn5, List.length_drop])
              by_cases hnn : n < (n5 : Int)
              · have HNN := Lib.hid hnn
                clear hE hE0 hvr5 hn5 h3
                go_wp2
                go_end0
                exact ⟨rfl, s3, o3, H3.out, .inr (by have := HNN.out; have := HN5.out; omega)⟩
              · have HB := Lib.hid (stored_any H3.out.1 H3.out.2.2 HE3.out h3 H6.out)
                clear hE hE0 hvr5 hn5 h3
                go_wp2_with fail
                refine HB.out.mono ?_
                intro e w5 hg
                obtain ⟨x, s5, o5, rfl, m5, st5, lt5⟩ := goes_on H3.out hg
                have f6' : w5.frozen? ⟨m, 6, none⟩ = false := m5.b.frozen 6
                have c6' : w5.cell? ⟨m, 6, none⟩ = some (.int .i64 0) := m5.b.cell 6
                have ST5 := Lib.hid st5
                have LT5 := Lib.hid lt5
                clear m5 st5 lt5 hg
                go_wp2
                go_roundg (St.far (8 * t.size) ({ s5 with e := x } : St))
                case measure => have h1 := LT5.out; have h2 := HK3.out; omega
                case rel => exact ⟨_, o5, Lib.hid rfl, ST5, Lib.hid (by have h1 := LT5.out; have h2 := HF3.out.1; exact ⟨by omega, .inl (by omega)⟩)⟩
            · have hEb : (E != 0) = true := by simp [hE0]
              have HEN : Hid (s3.e ≠ 0) := Lib.hid (by rw [← hE]; exact hE0)
              clear hE hE0 h3
              go_wp2
              go_end0
              exact ⟨rfl, s3, o3, H3.out, .inl (.inl HEN.out)⟩
          · -- symbol
            have c7 : wr.cell? ⟨m, 7, none⟩ = some (.func (.func 98) #[] #[]) := by have k := H3.out.1.b.cell 7; rw [h3] at k; exact k
            have hq : (binOp .neq 63 (.func (.func 98) #[] #[]) .nilFunc).run Tryz.prog wr = .ok (.bool true) wr := run_fun_neq wr (.sym Li Di)
            obtain ⟨E, hE⟩ : ∃ E, E = s3.e := ⟨_, rfl⟩
            have c6 : wr.cell? ⟨m, 6, none⟩ = some (.int .i64 E) := by rw [hE]; exact H3.out.1.b.cell 6
            by_cases hE0 : E = 0
            · have hEb : (E != 0) = false := by simp [hE0]
              have HE3 : Hid (s3.e = 0) := Lib.hid (by rw [← hE]; exact hE0)
              obtain ⟨A5, cap5, hvr5, _⟩ := H3.out.1.h.y.form
              obtain ⟨n5, hn5⟩ : ∃ n5, n5 = (s3.T.drop k).length := ⟨_, rfl⟩
              rw [← hn5] at hvr5
              have c5 : wr.cell? ⟨m, 5, none⟩ = some (.slice A5 n5 cap5) := by rw [← hvr5]; exact H3.out.1.b.cell 5
              have HN5 : Hid (n5 = s3.T.length - k) := Lib.hid (by rw [hn5, List.length_drop])
              by_cases hnn : n < (n5 : Int)
              · have HNN := Lib.hid hnn
                clear hE hE0 hvr5 hn5 h3
                go_wp2
                go_end0
                exact ⟨rfl, s3, o3, H3.out, .inr (by have := HNN.out; have := HN5.out; omega)⟩
              · have HB := Lib.hid (symbol_any H3.out.1 H3.out.2.2 HE3.out h3 H6.out)
                clear hE hE0 hvr5 hn5 h3
                go_wp2_with fail
                refine HB.out.mono ?_
                intro e w5 hg
                obtain ⟨x, s5, o5, rfl, m5, st5, lt5⟩ := goes_on H3.out hg
                have f6' : w5.frozen? ⟨m, 6, none⟩ = false := m5.b.frozen 6
                have c6' : w5.cell? ⟨m, 6, none⟩ = some (.int .i64 0) := m5.b.cell 6
                have ST5 := Lib.hid st5
                have LT5 := Lib.hid lt5
                clear m5 st5 lt5 hg
                go_wp2
                go_roundg (St.far (8 * t.size) ({ s5 with e := x } : St))
                case measure => have h1 := LT5.out; have h2 := HK3.out; omega
                case rel => exact ⟨_, o5, Lib.hid rfl, ST5, Lib.hid (by have h1 := LT5.out; have h2 := HF3.out.1; exact ⟨by omega, .inl (by omega)⟩)⟩
            · have hEb : (E != 0) = true := by simp [hE0]
              have HEN : Hid (s3.e ≠ 0) := Lib.hid (by rw [← hE]; exact hE0)
              clear hE hE0 h3
              go_wp2
              go_end0
              exact ⟨rfl, s3, o3, H3.out, .inl (.inl HEN.out)⟩
      · have HX := Lib.hid hx
        rcases hz : s1.nx with _ | q | ⟨Li, Di⟩
        · exact absurd hz hx
        · have c7 : wr.cell? ⟨m, 7, none⟩ = some (.func (.func 96) #[] #[]) := by have k := H1.out.1.b.cell 7; rw [hz] at k; exact k
          have hq : (binOp .eql 63 (.func (.func 96) #[] #[]) .nilFunc).run Tryz.prog wr = .ok (.bool false) wr := run_fun_eql wr (.sto 0)
          clear hx hz
          go_wp2_with (go_at_call 62; refine HI.out.mono ?_; rintro e w' ⟨rfl, rfl⟩)
          obtain ⟨K, hK⟩ : ∃ K, K = gk := ⟨_, rfl⟩
          have HKK := Lib.hid hK
          clear hK
          go_loopg [] (St.far (8 * t.size) s1) (fun g2 wy => ∃ s3 o3, Hid (g2 = St.far (8 * t.size) s3) ∧ Hid (stands a0 w m t p o k s3 o3 wy) ∧ Hid (St.far (8 * t.size) s3 ≤ K ∧ (St.far (8 * t.size) s3 < K ∨ s3.nx ≠ .no)))
          case atStart => exact ⟨s1, o1, Lib.hid rfl, H1, Lib.hid (by have h1 := HKK.out; have h2 := HK.out; exact ⟨by omega, .inr HX.out⟩)⟩
          case round =>
            obtain ⟨s3, o3, HK3, H3, HF3⟩ := hrel
            rcases h3 : s3.nx with _ | q | ⟨Li, Di⟩
            · have c7 : wr.cell? ⟨m, 7, none⟩ = some .nilFunc := by have k := H3.out.1.b.cell 7; rw [h3] at k; exact k
              have hq : (binOp .neq 63 .nilFunc .nilFunc).run Tryz.prog wr = .ok (.bool false) wr := run_fun_neq wr .no
              have HX3 := Lib.hid h3
              clear h3
              go_wp2
              go_roundg (St.far (8 * t.size) s3)
              case measure => have h1 := HKK.out; have h2 := HF3.out.2; have h3 := HX3.out; rcases h2 with h2 | h2; omega; exact absurd h3 h2
              case rel => exact ⟨s3, o3, Lib.hid rfl, H3⟩
            · -- stored
              have c7 : wr.cell? ⟨m, 7, none⟩ = some (.func (.func 96) #[] #[]) := by have k := H3.out.1.b.cell 7; rw [h3] at k; exact k
              have hq : (binOp .neq 63 (.func (.func 96) #[] #[]) .nilFunc).run Tryz.prog wr = .ok (.bool true) wr := run_fun_neq wr (.sto q)
              obtain ⟨E, hE⟩ : ∃ E, E = s3.e := ⟨_, rfl⟩
              have c6 : wr.cell? ⟨m, 6, none⟩ = some (.int .i64 E) := by rw [hE]; exact H3.out.1.b.cell 6
              by_cases hE0 : E = 0
              · have hEb : (E != 0) = false := by simp [hE0]
                have HE3 : Hid (s3.e = 0) := Lib.hid (by rw [← hE]; exact hE0)
                obtain ⟨A5, cap5, hvr5, _⟩ := H3.out.1.h.y.form
                obtain ⟨n5, hn5⟩ : ∃ n5, n5 = (s3.T.drop k).length := ⟨_, rfl⟩
                rw [← hn5] at hvr5
                have c5 : wr.cell? ⟨m, 5, none⟩ = some (.slice A5 n5 cap5) := by rw [← hvr5]; exact H3.out.1.b.cell 5
                have HN5 : Hid (n5 = s3.T.length - k) := Lib.hid (by rw [hn5, List.length_drop])
                by_cases hnn : n < (n5 : Int)
                · have HNN := Lib.hid hnn
                  clear hE hE0 hvr5 hn5 h3
                  go_wp2
                  go_end0
                  exact ⟨rfl, s3, o3, H3.out, .inr (by have := HNN.out; have := HN5.out; omega)⟩
                · have HB := Lib.hid (stored_any H3.out.1 H3.out.2.2 HE3.out h3 H6.out)
                  clear hE hE0 hvr5 hn5 h3
                  go_wp2_with fail
                  refine HB.out.mono ?_
                  intro e w5 hg
                  obtain ⟨x, s5, o5, rfl, m5, st5, lt5⟩ := goes_on H3.out hg
                  have f6' : w5.frozen? ⟨m, 6, none⟩ = false := m5.b.frozen 6
                  have c6' : w5.cell? ⟨m, 6, none⟩ = some (.int .i64 0) := m5.b.cell 6
                  have ST5 := Lib.hid st5
                  have LT5 := Lib.hid lt5
                  clear m5 st5 lt5 hg
                  go_wp2
                  go_roundg (St.far (8 * t.size) ({ s5 with e := x } : St))
                  case measure => have h1 := LT5.out; have h2 := HK3.out; omega
                  case rel => exact ⟨_, o5, Lib.hid rfl, ST5, Lib.hid (by have h1 := LT5.out; have h2 := HF3.out.1; exact ⟨by omega, .inl (by omega)⟩)⟩
              · have hEb : (E != 0) = true := by simp [hE0]
                have HEN : Hid (s3.e ≠ 0) := Lib.hid (by rw [← hE]; exact hE0)
                clear hE hE0 h3
                go_wp2
                go_end0
                exact ⟨rfl, s3, o3, H3.out, .inl (.inl HEN.out)⟩
            · -- symbol
              have c7 : wr.cell? ⟨m, 7, none⟩ = some (.func (.func 98) #[] #[]) := by have k := H3.out.1.b.cell 7; rw [h3] at k; exact k
              have hq : (binOp .neq 63 (.func (.func 98) #[] #[]) .nilFunc).run Tryz.prog wr = .ok (.bool true) wr := run_fun_neq wr (.sym Li Di)
              obtain ⟨E, hE⟩ : ∃ E, E = s3.e := ⟨_, rfl⟩
              have c6 : wr.cell? ⟨m, 6, none⟩ = some (.int .i64 E) := by rw [hE]; exact H3.out.1.b.cell 6
              by_cases hE0 : E = 0
              · have hEb : (E != 0) = false := by simp [hE0]
                have HE3 : Hid (s3.e = 0) := Lib.hid (by rw [← hE]; exact hE0)
                obtain ⟨A5, cap5, hvr5, _⟩ := H3.out.1.h.y.form
                obtain ⟨n5, hn5⟩ : ∃ n5, n5 = (s3.T.drop k).length := ⟨_, rfl⟩
                rw [← hn5] at hvr5
                have c5 : wr.cell? ⟨m, 5, none⟩ = some (.slice A5 n5 cap5) := by rw [← hvr5]; exact H3.out.1.b.cell 5
                have HN5 : Hid (n5 = s3.T.length - k) := Lib.hid (by rw [hn5, List.length_drop])
                by_cases hnn : n < (n5 : Int)
                · have HNN := Lib.hid hnn
                  clear hE hE0 hvr5 hn5 h3
                  go_wp2
                  go_end0
                  exact ⟨rfl, s3, o3, H3.out, .inr (by have := HNN.out; have := HN5.out; omega)⟩
                · have HB := Lib.hid (symbol_any H3.out.1 H3.out.2.2 HE3.out h3 H6.out)
                  clear hE hE0 hvr5 hn5 h3
                  go_wp2_with fail
                  refine HB.out.mono ?_
                  intro e w5 hg
                  obtain ⟨x, s5, o5, rfl, m5, st5, lt5⟩ := goes_on H3.out hg
                  have f6' : w5.frozen? ⟨m, 6, none⟩ = false := m5.b.frozen 6
                  have c6' : w5.cell? ⟨m, 6, none⟩ = some (.int .i64 0) := m5.b.cell 6
                  have ST5 := Lib.hid st5
                  have LT5 := Lib.hid lt5
                  clear m5 st5 lt5 hg
                  go_wp2
                  go_roundg (St.far (8 * t.size) ({ s5 with e := x } : St))
                  case measure => have h1 := LT5.out; have h2 := HK3.out; omega
                  case rel => exact ⟨_, o5, Lib.hid rfl, ST5, Lib.hid (by have h1 := LT5.out; have h2 := HF3.out.1; exact ⟨by omega, .inl (by omega)⟩)⟩
              · have hEb : (E != 0) = true := by simp [hE0]
                have HEN : Hid (s3.e ≠ 0) := Lib.hid (by rw [← hE]; exact hE0)
                clear hE hE0 h3
                go_wp2
                go_end0
                exact ⟨rfl, s3, o3, H3.out, .inl (.inl HEN.out)⟩
        · have c7 : wr.cell? ⟨m, 7, none⟩ = some (.func (.func 98) #[] #[]) := by have k := H1.out.1.b.cell 7; rw [hz] at k; exact k
          have hq : (binOp .eql 63 (.func (.func 98) #[] #[]) .nilFunc).run Tryz.prog wr = .ok (.bool false) wr := run_fun_eql wr (.sym [] [])
          clear hx hz
          go_wp2_with (go_at_call 62; refine HI.out.mono ?_; rintro e w' ⟨rfl, rfl⟩)
          obtain ⟨K, hK⟩ : ∃ K, K = gk := ⟨_, rfl⟩
          have HKK := Lib.hid hK
          clear hK
          go_loopg [] (St.far (8 * t.size) s1) (fun g2 wy => ∃ s3 o3, Hid (g2 = St.far (8 * t.size) s3) ∧ Hid (stands a0 w m t p o k s3 o3 wy) ∧ Hid (St.far (8 * t.size) s3 ≤ K ∧ (St.far (8 * t.size) s3 < K ∨ s3.nx ≠ .no)))
          case atStart => exact ⟨s1, o1, Lib.hid rfl, H1, Lib.hid (by have h1 := HKK.out; have h2 := HK.out; exact ⟨by omega, .inr HX.out⟩)⟩
          case round =>
            obtain ⟨s3, o3, HK3, H3, HF3⟩ := hrel
            rcases h3 : s3.nx with _ | q | ⟨Li, Di⟩
            · have c7 : wr.cell? ⟨m, 7, none⟩ = some .nilFunc := by have k := H3.out.1.b.cell 7; rw [h3] at k; exact k
              have hq : (binOp .neq 63 .nilFunc .nilFunc).run Tryz.prog wr = .ok (.bool false) wr := run_fun_neq wr .no
              have HX3 := Lib.hid h3
              clear h3
              go_wp2
              go_roundg (St.far (8 * t.size) s3)
              case measure => have h1 := HKK.out; have h2 := HF3.out.2; have h3 := HX3.out; rcases h2 with h2 | h2; omega; exact absurd h3 h2
              case rel => exact ⟨s3, o3, Lib.hid rfl, H3⟩
            · -- stored
              have c7 : wr.cell? ⟨m, 7, none⟩ = some (.func (.func 96) #[] #[]) := by have k := H3.out.1.b.cell 7; rw [h3] at k; exact k
              have hq : (binOp .neq 63 (.func (.func 96) #[] #[]) .nilFunc).run Tryz.prog wr = .ok (.bool true) wr := run_fun_neq wr (.sto q)
              obtain ⟨E, hE⟩ : ∃ E, E = s3.e := ⟨_, rfl⟩
              have c6 : wr.cell? ⟨m, 6, none⟩ = some (.int .i64 E) := by rw [hE]; exact H3.out.1.b.cell 6
              by_cases hE0 : E = 0
              · have hEb : (E != 0) = false := by simp [hE0]
                have HE3 : Hid (s3.e = 0) := Lib.hid (by rw [← hE]; exact hE0)
                obtain ⟨A5, cap5, hvr5, _⟩ := H3.out.1.h.y.form
                obtain ⟨n5, hn5⟩ : ∃ n5, n5 = (s3.T.drop k).length := ⟨_, rfl⟩
                rw [← hn5] at hvr5
                have c5 : wr.cell? ⟨m, 5, none⟩ = some (.slice A5 n5 cap5) := by rw [← hvr5]; exact H3.out.1.b.cell 5
                have HN5 : Hid (n5 = s3.T.length - k) := Lib.hid (by rw [hn5, List.length_drop])
                by_cases hnn : n < (n5 : Int)
                · have HNN := Lib.hid hnn
                  clear hE hE0 hvr5 hn5 h3
                  go_wp2
                  go_end0
                  exact ⟨rfl, s3, o3, H3.out, .inr (by have := HNN.out; have := HN5.out; omega)⟩
                · have HB := Lib.hid (stored_any H3.out.1 H3.out.2.2 HE3.out h3 H6.out)
                  clear hE hE0 hvr5 hn5 h3
                  go_wp2_with fail
                  refine HB.out.mono ?_
                  intro e w5 hg
                  obtain ⟨x, s5, o5, rfl, m5, st5, lt5⟩ := goes_on H3.out hg
                  have f6' : w5.frozen? ⟨m, 6, none⟩ = false := m5.b.frozen 6
                  have c6' : w5.cell? ⟨m, 6, none⟩ = some (.int .i64 0) := m5.b.cell 6
                  have ST5 := Lib.hid st5
                  have LT5 := Lib.hid lt5
                  clear m5 st5 lt5 hg
                  go_wp2
                  go_roundg (St.far (8 * t.size) ({ s5 with e := x } : St))
                  case measure => have h1 := LT5.out; have h2 := HK3.out; omega
                  case rel => exact ⟨_, o5, Lib.hid rfl, ST5, Lib.hid (by have h1 := LT5.out; have h2 := HF3.out.1; exact ⟨by omega, .inl (by omega)⟩)⟩
              · have hEb : (E != 0) = true := by simp [hE0]
                have HEN : Hid (s3.e ≠ 0) := Lib.hid (by rw [← hE]; exact hE0)
                clear hE hE0 h3
                go_wp2
                go_end0
                exact ⟨rfl, s3, o3, H3.out, .inl (.inl HEN.out)⟩
            · -- symbol
              have c7 : wr.cell? ⟨m, 7, none⟩ = some (.func (.func 98) #[] #[]) := by have k := H3.out.1.b.cell 7; rw [h3] at k; exact k
              have hq : (binOp .neq 63 (.func (.func 98) #[] #[]) .nilFunc).run Tryz.prog wr = .ok (.bool true) wr := run_fun_neq wr (.sym Li Di)
              obtain ⟨E, hE⟩ : ∃ E, E = s3.e := ⟨_, rfl⟩
              have c6 : wr.cell? ⟨m, 6, none⟩ = some (.int .i64 E) := by rw [hE]; exact H3.out.1.b.cell 6
              by_cases hE0 : E = 0
              · have hEb : (E != 0) = false := by simp [hE0]
                have HE3 : Hid (s3.e = 0) := Lib.hid (by rw [← hE]; exact hE0)
                obtain ⟨A5, cap5, hvr5, _⟩ := H3.out.1.h.y.form
                obtain ⟨n5, hn5⟩ : ∃ n5, n5 = (s3.T.drop k).length := ⟨_, rfl⟩
                rw [← hn5] at hvr5
                have c5 : wr.cell? ⟨m, 5, none⟩ = some (.slice A5 n5 cap5) := by rw [← hvr5]; exact H3.out.1.b.cell 5
                have HN5 : Hid (n5 = s3.T.length - k) := Lib.hid (by rw [hn5, List.length_drop])
                by_cases hnn : n < (n5 : Int)
                · have HNN := Lib.hid hnn
                  clear hE hE0 hvr5 hn5 h3
                  go_wp2
                  go_end0
                  exact ⟨rfl, s3, o3, H3.out, .inr (by have := HNN.out; have := HN5.out; omega)⟩
                · have HB := Lib.hid (symbol_any H3.out.1 H3.out.2.2 HE3.out h3 H6.out)
                  clear hE hE0 hvr5 hn5 h3
                  go_wp2_with fail
                  refine HB.out.mono ?_
                  intro e w5 hg
                  obtain ⟨x, s5, o5, rfl, m5, st5, lt5⟩ := goes_on H3.out hg
                  have f6' : w5.frozen? ⟨m, 6, none⟩ = false := m5.b.frozen 6
                  have c6' : w5.cell? ⟨m, 6, none⟩ = some (.int .i64 0) := m5.b.cell 6
                  have ST5 := Lib.hid st5
                  have LT5 := Lib.hid lt5
                  clear m5 st5 lt5 hg
                  go_wp2
                  go_roundg (St.far (8 * t.size) ({ s5 with e := x } : St))
                  case measure => have h1 := LT5.out; have h2 := HK3.out; omega
                  case rel => exact ⟨_, o5, Lib.hid rfl, ST5, Lib.hid (by have h1 := LT5.out; have h2 := HF3.out.1; exact ⟨by omega, .inl (by omega)⟩)⟩
              · have hEb : (E != 0) = true := by simp [hE0]
                have HEN : Hid (s3.e ≠ 0) := Lib.hid (by rw [← hE]; exact hE0)
                clear hE hE0 h3
                go_wp2
                go_end0
                exact ⟨rfl, s3, o3, H3.out, .inl (.inl HEN.out)⟩
end Go.Proofs.YtnkninjdpgpkmaaGreatDoor.Ij
namespace Go.Proofs.YtnkninjdpgpkmaaGreatDoor.Ik
open Go.RowKit Go.Proofs.YtnkninjdpgpkmaaGreatDoor.Vm Go.Proofs.YtnkninjdpgpkmaaGreatDoor.Bm Go.Proofs.YtnkninjdpgpkmaaGreatDoor.Bw Go.Proofs.YtnkninjdpgpkmaaGreatDoor.Br Go.Proofs.YtnkninjdpgpkmaaGreatDoor.Bs Go.Proofs.YtnkninjdpgpkmaaGreatDoor.Wr Go.Proofs.YtnkninjdpgpkmaaGreatDoor.Ww Go.Proofs.YtnkninjdpgpkmaaGreatDoor.Wn Go.Proofs.YtnkninjdpgpkmaaGreatDoor.Ky Go.Proofs.YtnkninjdpgpkmaaGreatDoor.Fm Go.Proofs.YtnkninjdpgpkmaaGreatDoor.Im Go.Proofs.YtnkninjdpgpkmaaGreatDoor.Ia Go.Proofs.YtnkninjdpgpkmaaGreatDoor.Ib Go.Proofs.YtnkninjdpgpkmaaGreatDoor.Ic Go.Proofs.YtnkninjdpgpkmaaGreatDoor.Ih Go.Proofs.YtnkninjdpgpkmaaGreatDoor.Ij

/-- All that comes of a text from a0 on, behind p. -/
noncomputable def tot (t : ByteArray) (a0 : Nat) (p : List UInt8) : Res := allM (num t.data.toList) (8 * t.size) a0 p 0
/-- A machine that is ahead of what it has handed out, or at the end. -/
structure up (a0 : Nat) (w : World) (m : Nat) (t : ByteArray) (p : List UInt8) (o : Ob) (k : Nat) (s : St) : Prop where
  m : mach w m t p o k s
  v : inv (num t.data.toList) (8 * t.size) a0 p s
  d : s.over ∨ k < s.T.length
section
variable {a0 : Nat} {w w' : World} {m : Nat} {t : ByteArray} {p : List UInt8} {o : Ob} {k : Nat} {s : St}
theorem up.at_end (h : up a0 w m t p o k s) (hk : ¬ k < s.T.length) : (tot t a0 p).1 = s.e ∧ (tot t a0 p).2.2.2 = s.T ∧ (s.e = 0 → (tot t a0 p).2.1 = s.L ∧ (tot t a0 p).2.2.1 = s.a) := by
  rcases h.d.resolve_right hk with he | ⟨hn, hf⟩
  · have g := h.v.wrong he
    exact ⟨g.1, g.2, fun e => absurd e he⟩
  · by_cases he : s.e = 0
    · have g := h.v.done he hn hf
      exact ⟨g.1.trans he.symm, g.2.2.2, fun _ => ⟨g.2.1, g.2.2.1⟩⟩
    · have g := h.v.wrong he
      exact ⟨g.1, g.2, fun e => absurd e he⟩
theorem up.text (h : up a0 w m t p o k s) : ∃ r, (tot t a0 p).2.2.2 = s.T ++ r := h.v.text
theorem up.iff (h : up a0 w m t p o k s) : k < (tot t a0 p).2.2.2.length ↔ k < s.T.length := by
  constructor
  · intro h1
    rcases Nat.lt_or_ge k s.T.length with h2 | h2
    · exact h2
    · rw [(h.at_end (by omega)).2.1] at h1; exact h1
  · intro h1
    obtain ⟨r, hr⟩ := h.text
    rw [hr, List.length_append]; omega
theorem up.below (h : up a0 w m t p o k s) (hk : Below w.heap.size w w') : up a0 w' m t p o k s := ⟨h.m.below hk, h.v, h.d⟩
theorem up.len (h : up a0 w m t p o k s) (h6 : limM (num t.data.toList) t.size a0 p) : s.T.length ≤ 9000000 := h.v.fewT h6

theorem Out_any (h : up a0 w m t p o k s) : Calls Tryz.prog 13 #[.pointer (some ⟨m, 0, none⟩)] w fun e w' => e = .returned (.int .i64 (k : Int)) ∧ w = w' := by
  have HN := Lib.hid (mNone_any h.m)
  have c4 : w.cell? ⟨m, 4, none⟩ = some (.int .i64 (k : Int)) := h.m.b.cell 4
  clear h
  go_enter Tryz.func13, Tryz.ntmps13
  go_wp2_with (go_at_call 35; refine HN.out.mono ?_; rintro e w' ⟨rfl, rfl⟩)
  go_ret
  exact ⟨rfl, rfl⟩
/-- Whether all was handed out and nothing is wrong. -/
def doneB (t : ByteArray) (a0 : Nat) (p : List UInt8) (k : Nat) (b : Bool) : Prop := b = true ↔ k = (tot t a0 p).2.2.2.length ∧ (tot t a0 p).1 = 0
theorem Done_any (h : up a0 w m t p o k s) : ∃ b, doneB t a0 p k b ∧ Calls Tryz.prog 14 #[.pointer (some ⟨m, 0, none⟩)] w fun e w' => e = .returned (.bool b) ∧ w = w' := by
  have HN := Lib.hid (mNone_any h.m)
  obtain ⟨A, cap, hvr, _⟩ := h.m.h.y.form
  obtain ⟨n, hn⟩ : ∃ n, n = (s.T.drop k).length := ⟨_, rfl⟩
  have hn2 : n = s.T.length - k := by rw [hn, List.length_drop]
  rw [← hn] at hvr
  have c5 : w.cell? ⟨m, 5, none⟩ = some (.slice A n cap) := by rw [← hvr]; exact h.m.b.cell 5
  obtain ⟨E, hE⟩ : ∃ E, E = s.e := ⟨_, rfl⟩
  have c6 : w.cell? ⟨m, 6, none⟩ = some (.int .i64 E) := by rw [hE]; exact h.m.b.cell 6
  have hk := h.m.h.k
  have hiff := h.iff
  by_cases h0 : n = 0
  · have hnb : ((n : Int) == 0) = true := by simp; omega
    have he := h.at_end (by omega)
    refine ⟨E == 0, ?_, ?_⟩
    · unfold doneB
      rw [he.1, he.2.1, hE]
      simp only [beq_iff_eq]
      exact ⟨fun h => ⟨by omega, h⟩, fun h => h.2⟩
    · clear h hvr hn hn2 hE hk hiff h0 he
      go_enter Tryz.func14, Tryz.ntmps14
      go_wp2_with (go_at_call 35; refine HN.out.mono ?_; rintro e w' ⟨rfl, rfl⟩)
      go_ret
      exact ⟨rfl, rfl⟩
  · have hnb : ((n : Int) == 0) = false := by simp; omega
    refine ⟨false, ?_, ?_⟩
    · unfold doneB
      constructor
      · intro h; cases h
      · intro h2; have := hiff.2 (by omega); omega
    · clear h hvr hn hn2 hE hk hiff h0
      go_enter Tryz.func14, Tryz.ntmps14
      go_wp2_with (go_at_call 35; refine HN.out.mono ?_; rintro e w' ⟨rfl, rfl⟩)
      go_ret
      exact ⟨rfl, rfl⟩
theorem done_end {b : Bool} (h : up a0 w m t p o k s) (hb : doneB t a0 p k b) (hbt : b = true) : s.L = (tot t a0 p).2.1 ∧ s.a = (tot t a0 p).2.2.1 := by
  have h1 := hb.1 hbt
  have h2 := h.at_end (fun e => by have := h.iff.2 e; omega)
  have h3 := h2.2.2 (h2.1.symm.trans h1.2)
  exact ⟨h3.1.symm, h3.2.symm⟩
theorem End_any (h : up a0 w m t p o k s) : ∃ b, doneB t a0 p k b ∧ Calls Tryz.prog 18 #[.pointer (some ⟨m, 0, none⟩)] w fun e w' => e = .returned (.int .i64 (if b = true then (((tot t a0 p).2.2.1 : Nat) : Int) else 0)) ∧ w = w' := by
  obtain ⟨b, hb, hD⟩ := Done_any h
  have HD := Lib.hid hD
  have HA := Lib.hid (At_any h.m.h.r)
  have c1 : w.cell? ⟨m, 1, none⟩ = some (.pointer (some ⟨o.r, 0, none⟩)) := h.m.b.cell 1
  refine ⟨b, hb, ?_⟩
  cases hbt : b
  · rw [hbt] at HD
    clear h hD hb hbt
    go_enter Tryz.func18, Tryz.ntmps18
    go_wp2_with (go_at_call 14; refine HD.out.mono ?_; rintro e w' ⟨rfl, rfl⟩)
    go_ret
    exact ⟨rfl, rfl⟩
  · have HE := Lib.hid (done_end h hb hbt).2
    rw [hbt] at HD
    clear h hD hb hbt
    go_enter Tryz.func18, Tryz.ntmps18
    go_wp2_with (first | (go_at_call 14; refine HD.out.mono ?_; rintro e w' ⟨rfl, rfl⟩) | (go_at_call 40; refine HA.out.mono ?_; rintro e w' ⟨rfl, rfl⟩))
    go_ret
    exact ⟨by rw [HE.out]; rfl, rfl⟩
theorem Starts_any (h : up a0 w m t p o k s) (hL : s.L.length ≤ 1000000) : ∃ b, doneB t a0 p k b ∧ Calls Tryz.prog 17 #[.pointer (some ⟨m, 0, none⟩)] w fun e w' => ∃ v', e = .returned v' ∧ strt w.heap.size w' v' (if b = true then (tot t a0 p).2.1 else []) ∧ Below w.heap.size w w' := by
  obtain ⟨b, hb, hD⟩ := Done_any h
  have HD := Lib.hid hD
  have HC := Lib.hid (Clone_starts h.m.h.s hL)
  have c3 : w.cell? ⟨m, 3, none⟩ = some o.vs := h.m.b.cell 3
  obtain ⟨A, cap, hvs, _⟩ := h.m.h.s.form
  obtain ⟨n, hn⟩ : ∃ n, n = s.L.length := ⟨_, rfl⟩
  rw [← hn] at hvs
  rw [hvs] at c3 HC
  refine ⟨b, hb, ?_⟩
  cases hbt : b
  · rw [hbt] at HD
    clear h hD hb hbt hvs hn
    go_enter Tryz.func17, Tryz.ntmps17
    go_wp2_with (go_at_call 14; refine HD.out.mono ?_; rintro e w' ⟨rfl, rfl⟩)
    go_ret
    exact ⟨_, rfl, strt_nil _ _, Below.refl _ _⟩
  · have HE := Lib.hid (done_end h hb hbt).1
    rw [hbt] at HD
    clear h hD hb hbt hvs hn
    go_enter Tryz.func17, Tryz.ntmps17
    go_wp2_with (first | (go_at_call 14; refine HD.out.mono ?_; rintro e w' ⟨rfl, rfl⟩) | (go_at_call 38; refine HC.out.mono ?_; rintro e w2 ⟨v2, rfl, h2, b2⟩; obtain ⟨A2, cap2, hv2, hq2⟩ := h2.form; clear hq2; subst hv2))
    go_ret
    exact ⟨_, rfl, by have k2 := h2; rw [HE.out] at k2; rw [HE.out]; exact k2, b2⟩

set_option maxRecDepth 100000 in
theorem New_no (s : ByteArray) (z : Int) (q : ByteArray) (w : World) (hs : s.size ≤ 281474976710656) (hz : z < 0 ∨ 8 * (s.size : Int) < z) :
    Calls Tryz.prog 9 #[.string s, .int .i64 z, .string q] w fun e w' => e = .returned (.tuple #[.pointer none, .int .i64 1]) ∧ w = w' := by
  have HN := Lib.hid (Bs.New_no s z w hs hz)
  clear hz
  go_enter Tryz.func9, Tryz.ntmps9
  go_wp2_with (go_at_call 28; refine HN.out.mono ?_; rintro e w' ⟨rfl, rfl⟩)
  go_ret2
  exact ⟨rfl, rfl⟩
end

set_option maxHeartbeats 1000000 in
set_option maxRecDepth 100000 in
theorem New_lim (t : ByteArray) (a0 : Nat) (q : ByteArray) (w : World) (hO : ordM w) (h6 : limM (num t.data.toList) t.size a0 (Wm.lastN 32768 q.data.toList)) (ha0 : a0 ≤ 8 * t.size) (hq : q.size ≤ 10000000) :
    Calls Tryz.prog 9 #[.string t, .int .i64 (a0 : Int), .string q] w fun e w' => ∃ m o s, e = .returned (.tuple #[.pointer (some ⟨m, 0, none⟩), .int .i64 0]) ∧ up a0 w' m t (Wm.lastN 32768 q.data.toList) o 0 s ∧ (∀ i, own m o i → w.heap.size ≤ i) ∧ Below w.heap.size w w' := by
  have HR := Lib.hid (Bs.New_ok t a0 w (by have := h6.z; omega) ha0)
  have HW := Lib.hid (fun u => New_any q (by omega) u)
  have HO := Lib.hid hO
  have H6 := Lib.hid h6
  have HA0 := Lib.hid ha0
  clear hO h6 ha0 hq
  go_enter Tryz.func9, Tryz.ntmps9
  go_wp2_with fail
  refine HR.out.mono ?_
  rintro e w1 ⟨r, rfl, r1, hr, b1⟩
  have R1 := Lib.hid r1
  have B1 := Lib.hid b1
  have HRE := Lib.hid hr
  clear r1 b1 hr
  go_wp2_with fail
  refine (HW.out w1).mono ?_
  rintro e w2 ⟨v, l, x, rfl, hw, hc, b2⟩
  obtain ⟨g, hg⟩ : ∃ g, g = w1.heap.size := ⟨_, rfl⟩
  rw [← hg] at hw b2
  rw [← hg]
  have HWI := Lib.hid hw
  have HC := Lib.hid hc
  have B2 := Lib.hid b2
  have HG := Lib.hid hg
  clear hw hc b2 hg HR HW
  go_wp2_with fail
  obtain ⟨m, hm⟩ : ∃ m, m = w2.heap.size := ⟨_, rfl⟩
  obtain ⟨o0, ho⟩ : ∃ o0 : Ob, o0 = ⟨r, g, v, .slice none 0 0, .slice none 0 0, 0, none, none⟩ := ⟨_, rfl⟩
  obtain ⟨w3, hw3⟩ : ∃ w3, w3 = w2.alloc (.cells (mc w2.heap.size o0 0 0 .no false) 66) := ⟨_, rfl⟩
  have B3 : Hid (Below w2.heap.size w2 w3) := Lib.hid (by rw [hw3]; exact (Below.refl _ w2).alloc (Nat.le_refl _) _)
  have hs1 := B1.out.size
  have hs2 := B2.out.size
  have hs3 := HG.out
  have BW : Hid (Below w.heap.size w w3) := Lib.hid (grows (grows B1.out (by rw [← HG.out]; exact B2.out)) B3.out)
  have M3 : Hid (mach w3 m t (Wm.lastN 32768 q.data.toList) o0 0 ⟨0, false, .no, a0, [], []⟩) := Lib.hid (by
    refine ⟨?_, ⟨?_, ⟨l, x, ?_, ?_⟩, ?_, ?_, Nat.le_refl _, trivial, ?_⟩⟩
    · rw [hw3, hm]; exact Blk.fresh w2 _ _
    · rw [ho]; exact (R1.out.below (by rw [← HG.out]; exact B2.out)).below B3.out
    · rw [ho]; exact (Wo.win_mono HWI.out (Nat.zero_le _)).below B3.out
    · rw [List.append_nil, Fm.last_last]; exact HC.out
    · rw [ho]; exact strt_nil _ _
    · rw [ho]; exact rdy_nil _
    · rw [ho]; rintro i _ ⟨_, _, _, e, _⟩; cases e)
  have HLO : Hid (∀ i, own m o0 i → w.heap.size ≤ i) := Lib.hid (by
    rw [ho]
    rintro i (rfl | hi | hi | hi | ⟨_, _, _, e, _⟩)
    · omega
    · have h1 : i = r := hi
      have h2 := HRE.out
      omega
    · have := HWI.out.lo i hi; omega
    · cases hi
    · cases e)
  have HPR := Lib.hid (produce_any M3.out (inv.start _ HA0.out) (HO.out.below BW.out) (fun i hi => by have h1 := HLO.out i hi; have h2 := HO.out.1; omega) H6.out HA0.out 0)
  have e3 : w2.alloc (.cells #[.pointer (some ⟨w2.heap.size, 0, none⟩), .pointer (some ⟨r, 0, none⟩), .pointer (some ⟨g, 0, none⟩), .slice none 0 0, .int .i64 0, .slice none 0 0, .int .i64 0, .nilFunc, .bool false, .int .i64 0, .pointer none, .pointer none] 66) = w3 := by rw [hw3, ho]; rfl
  rw [e3, ← hm]
  clear e3 hw3 hm ho hs1 hs2 hs3
  refine HPR.out.mono ?_
  rintro e w4 ⟨rfl, s', o', h4, hd4⟩
  have H4 := Lib.hid h4
  have HD4 := Lib.hid hd4
  clear h4 hd4
  go_wp2
  go_ret2
  refine ⟨m, o', s', rfl, ⟨H4.out.1, H4.out.2.2, ?_⟩, ?_, ?_⟩
  · rcases HD4.out with h | h
    · exact .inl h
    · exact .inr (by omega)
  · intro i hi
    rcases H4.out.2.1.nw i hi with h1 | h1
    · exact HLO.out i h1
    · have := BW.out.size; omega
  · exact H4.out.2.1.on.below BW.out BW.out.size HLO.out
theorem New_yes (t : ByteArray) (a0 : Nat) (q : ByteArray) (w : World) (hO : ordM w) (h6 : t.size ≤ 600) (ha0 : a0 ≤ 8 * t.size) (hq : q.size ≤ 10000000) :
    Calls Tryz.prog 9 #[.string t, .int .i64 (a0 : Int), .string q] w fun e w' => ∃ m o s, e = .returned (.tuple #[.pointer (some ⟨m, 0, none⟩), .int .i64 0]) ∧ up a0 w' m t (Wm.lastN 32768 q.data.toList) o 0 s ∧ (∀ i, own m o i → w.heap.size ≤ i) ∧ Below w.heap.size w w' :=
  New_lim t a0 q w hO (lim_600 h6 ha0) ha0 hq
end Go.Proofs.YtnkninjdpgpkmaaGreatDoor.Ik
namespace Go.Proofs.YtnkninjdpgpkmaaGreatDoor.Il
open Go.RowKit Go.Proofs.YtnkninjdpgpkmaaGreatDoor.Vm Go.Proofs.YtnkninjdpgpkmaaGreatDoor.Bm Go.Proofs.YtnkninjdpgpkmaaGreatDoor.Bw Go.Proofs.YtnkninjdpgpkmaaGreatDoor.Br Go.Proofs.YtnkninjdpgpkmaaGreatDoor.Bs Go.Proofs.YtnkninjdpgpkmaaGreatDoor.Wr Go.Proofs.YtnkninjdpgpkmaaGreatDoor.Wc Go.Proofs.YtnkninjdpgpkmaaGreatDoor.Ww Go.Proofs.YtnkninjdpgpkmaaGreatDoor.Wx Go.Proofs.YtnkninjdpgpkmaaGreatDoor.Ky Go.Proofs.YtnkninjdpgpkmaaGreatDoor.Fm Go.Proofs.YtnkninjdpgpkmaaGreatDoor.Im Go.Proofs.YtnkninjdpgpkmaaGreatDoor.Ia Go.Proofs.YtnkninjdpgpkmaaGreatDoor.Ib Go.Proofs.YtnkninjdpgpkmaaGreatDoor.Ic Go.Proofs.YtnkninjdpgpkmaaGreatDoor.Ih Go.Proofs.YtnkninjdpgpkmaaGreatDoor.Ij Go.Proofs.YtnkninjdpgpkmaaGreatDoor.Ik

/-- Bytes are handed out. -/
theorem mach_take {w : World} {m : Nat} {t : ByteArray} {p : List UInt8} {o : Ob} {k : Nat} {s : St} (h : mach w m t p o k s) {k' : Nat} {v' : Value} (hk : k' ≤ s.T.length) (hy : rdy w v' (s.T.drop k')) (ho : ∀ i, ofR v' i → ofR o.vr i) {z : Int} (hz : z = (k' : Int)) :
    mach ((w.setCell ⟨m, 5, none⟩ v').setCell ⟨m, 4, none⟩ (.int .i64 z)) m t p { o with vr := v' } k' s ∧ did w m o ((w.setCell ⟨m, 5, none⟩ v').setCell ⟨m, 4, none⟩ (.int .i64 z)) { o with vr := v' } := by
  subst hz
  have O4 : Only (At m) w ((w.setCell ⟨m, 5, none⟩ v').setCell ⟨m, 4, none⟩ (.int .i64 (k' : Int))) := ((Only.refl (At m) w).store (p := ⟨m, 5, none⟩) (.inl (At.self m)) v').store (p := ⟨m, 4, none⟩) (.inl (At.self m)) _
  have hn : ∀ i, At m i → i < w.heap.size → notab w i := fun i hi _ => by obtain rfl : i = m := hi; exact ⟨_, _, h.b, by decide, by decide, by decide⟩
  have r := h.h.keep O4 (fun j hj e => h.ne hj e) hn
  refine ⟨⟨(h.b.store 5 v').store 4 (.int .i64 (k' : Int)), ⟨r.r, r.wi, r.s, ?_, hk, ?_, fun i hi e => h.h.a i hi (ho i e)⟩⟩, ⟨O4.mono (fun i hi => .inl hi), ?_⟩⟩
  · exact hy.only O4 (fun i hi e => h.ne (.inr (.inr (.inr (ho i hi)))) e)
  · have := r.n; unfold nxt at this ⊢; exact this
  · rintro i (hi | hi | hi | hi | hi)
    · exact .inl (.inl hi)
    · exact .inl (.inr (.inl hi))
    · exact .inl (.inr (.inr (.inl hi)))
    · exact .inl (.inr (.inr (.inr (.inl hi))))
    · exact .inl (.inr (.inr (.inr (.inr (ho i hi)))))

section
variable {a0 : Nat} {w : World} {m : Nat} {t : ByteArray} {p : List UInt8} {o : Ob} {k : Nat} {s : St}
theorem Step_arg (h : up a0 w m t p o k s) {n : Int} (hn : n < 1) : Calls Tryz.prog 12 #[.pointer (some ⟨m, 0, none⟩), .int .i64 n] w fun e w' => e = .returned (.tuple #[.string ⟨#[]⟩, .int .i64 1]) ∧ w = w' := by
  have HN := Lib.hid (mNone_any h.m)
  clear h
  go_enter Tryz.func12, Tryz.ntmps12
  go_wp2_with (go_at_call 35; refine HN.out.mono ?_; rintro e w' ⟨rfl, rfl⟩)
  go_ret2
  exact ⟨rfl, rfl⟩
/-- The next n bytes. -/
noncomputable def next (t : ByteArray) (a0 : Nat) (p : List UInt8) (k n : Nat) : List UInt8 := ((tot t a0 p).2.2.2.drop k).take n
/-- What Step leaves. -/
def steps (a0 : Nat) (w : World) (m : Nat) (t : ByteArray) (p : List UInt8) (o : Ob) (k n : Nat) (e : Ending) (w' : World) : Prop :=
  ∃ s' o', e = .returned (.tuple #[.string ⟨(next t a0 p k n).toArray⟩, .int .i64 (if k < (tot t a0 p).2.2.2.length then 0 else (tot t a0 p).1)]) ∧ up a0 w' m t p o' (k + (next t a0 p k n).length) s' ∧ did w m o w' o'
theorem next_of {n : Nat} {T r : List UInt8} (h : (tot t a0 p).2.2.2 = T ++ r) (hk : k ≤ T.length) (h2 : r = [] ∨ n ≤ T.length - k) : next t a0 p k n = (T.drop k).take n := by
  unfold next
  rw [h, List.drop_append_of_le_length hk]
  rcases h2 with rfl | h2
  · rw [List.append_nil]
  · rw [List.take_append_of_le_length (by rw [List.length_drop]; exact h2)]

set_option maxHeartbeats 1000000 in
set_option maxRecDepth 100000 in
theorem Step_lim (h : up a0 w m t p o k s) (hO : ordM w) (hlo : low m o) (h6 : limM (num t.data.toList) t.size a0 p) (ha0 : a0 ≤ 8 * t.size) {n : Nat} (hn : 1 ≤ n) (hn2 : n ≤ 9223372036854775807) :
    Calls Tryz.prog 12 #[.pointer (some ⟨m, 0, none⟩), .int .i64 (n : Int)] w (steps a0 w m t p o k n) := by
  have HN := Lib.hid (mNone_any h.m)
  have HPR := Lib.hid (produce_any h.m h.v hO hlo h6 ha0 (n : Int))
  have H6 := Lib.hid h6
  clear h hO hlo h6 ha0
  go_enter Tryz.func12, Tryz.ntmps12
  go_wp2_with (go_at_call 35; refine HN.out.mono ?_; rintro e w' ⟨rfl, rfl⟩)
  refine HPR.out.mono ?_
  rintro e w1 ⟨rfl, s1, o1, h1, hd1⟩
  have H1 := Lib.hid h1
  have HU : Hid (up a0 w1 m t p o1 k s1) := Lib.hid ⟨h1.1, h1.2.2, hd1.imp id (fun h => by omega)⟩
  have HD1 := Lib.hid hd1
  obtain ⟨A, cap, hvr, hcap, _⟩ := h1.1.h.y.form
  obtain ⟨q, hq⟩ : ∃ q, q = (s1.T.drop k).length := ⟨_, rfl⟩
  rw [← hq] at hvr hcap
  have HVR := Lib.hid hvr
  have HQ : Hid (q = s1.T.length - k) := Lib.hid (by rw [hq, List.length_drop])
  have HK : Hid (k ≤ s1.T.length) := Lib.hid h1.1.h.k
  have c5 : w1.cell? ⟨m, 5, none⟩ = some (.slice A q cap) := by rw [← hvr]; exact h1.1.b.cell 5
  have HY : Hid (rdy w1 (.slice A q cap) (s1.T.drop k)) := Lib.hid (by rw [← hvr]; exact h1.1.h.y)
  have HT : Hid (s1.T.length ≤ 9000000) := Lib.hid (HU.out.len H6.out)
  clear h1 hd1 hvr hq
  by_cases h0 : q = 0
  · have hq0 : ((q : Int) == 0) = true := by simp; omega
    have HE := Lib.hid (HU.out.at_end (by have := HQ.out; omega))
    obtain ⟨E, hE⟩ : ∃ E, E = s1.e := ⟨_, rfl⟩
    have c6 : w1.cell? ⟨m, 6, none⟩ = some (.int .i64 E) := by rw [hE]; exact H1.out.1.b.cell 6
    have HEE := Lib.hid hE
    have HQ0 := Lib.hid h0
    clear hE h0
    go_wp2
    go_quiet (fail)
    go_wp2
    go_ret2
    have hkT : k = s1.T.length := by have := HQ.out; have := HQ0.out; have := HK.out; omega
    have hnx : next t a0 p k n = [] := by unfold next; rw [HE.out.2.1, List.drop_eq_nil_of_le (by omega), List.take_nil]
    have e1 : Ending.returned (.tuple #[.string ⟨#[]⟩, .int .i64 E]) = .returned (.tuple #[.string ⟨(next t a0 p k n).toArray⟩, .int .i64 (if k < (tot t a0 p).2.2.2.length then 0 else (tot t a0 p).1)]) := by
      rw [hnx, if_neg (by rw [HE.out.2.1]; omega), HE.out.1, HEE.out]
    refine ⟨s1, o1, e1, ?_, H1.out.2.1.trans (did.below (below_draws w1 _))⟩
    · rw [hnx]; exact HU.out.below (below_draws w1 _)
  · have hq0 : ((q : Int) == 0) = false := by simp; omega
    obtain ⟨x, hx⟩ : ∃ x, x = min n q := ⟨_, rfl⟩
    have hmin : min (n : Int) (q : Int) = (x : Int) := by omega
    have hx1 : (0 : Int) ≤ (x : Int) := by omega
    have hx2 : (x : Int) ≤ (cap : Int) := by omega
    have HXX := Lib.hid hx
    have HH0 := Lib.hid h0
    have HXQ : Hid (x ≤ (s1.T.drop k).length) := Lib.hid (by rw [List.length_drop, ← HQ.out]; omega)
    obtain ⟨S, hS⟩ : ∃ S : ByteArray, S = ⟨((s1.T.drop k).take x).toArray⟩ := ⟨_, rfl⟩
    have hcv := rdy_take (w := w1) (cp := cap) HY.out HXQ.out
    have hcv2 := rdy_take (w := w1.drew) (cp := cap) (HY.out.draws 1) HXQ.out
    rw [← hS] at hcv hcv2
    have HSS := Lib.hid hS
    clear hx h0 hS
    go_wp2
    go_region_held3 (fun u => u.cell? ⟨m, 5, none⟩ = some (.slice A q cap) ∧ (convert 62 9 (.slice A x cap)).run Tryz.prog u = .ok (.string S) u)
      (first | exact ⟨c5, hcv2⟩ | exact ⟨c5, hcv⟩ | assumption)
      (first | fail "NO CALL")
    have HLS : Hid (S.data.toList = (s1.T.drop k).take x) := Lib.hid (by rw [HSS.out])
    have HSz : Hid (S.size = x) := Lib.hid (by have := HXQ.out; show S.data.size = x; rw [← Array.length_toList, HLS.out, List.length_take]; omega)
    have M2 : Hid (mach w1.drew m t p o1 k s1 ∧ did w m o w1.drew o1) := Lib.hid ⟨H1.out.1.draws 1, H1.out.2.1.trans (did.below (below_draws w1 1))⟩
    obtain ⟨A', hcut, hy', ho'⟩ := rdy_drop (w := w1.drew) (HY.out.draws 1) (x := S.size) (by have := HXQ.out; have := HSz.out; omega)
    have HY' := Lib.hid hy'
    have HO' := Lib.hid ho'
    have HQL : Hid (S.size ≤ q) := Lib.hid (by have := HSz.out; have := HXX.out; omega)
    have c5' : w1.drew.cell? ⟨m, 5, none⟩ = some (.slice A q cap) := c5
    have f5 : w1.drew.frozen? ⟨m, 5, none⟩ = false := M2.out.1.b.frozen 5
    have c4 : w1.drew.cell? ⟨m, 4, none⟩ = some (.int .i64 (k : Int)) := M2.out.1.b.cell 4
    have f4 : w1.drew.frozen? ⟨m, 4, none⟩ = false := M2.out.1.b.frozen 4
    obtain ⟨kk, hkk⟩ : ∃ kk, kk = k + S.size := ⟨_, rfl⟩
    have hsum : IntKind.i64.wrap ((k : Int) + (S.size : Int)) = (kk : Int) := by
      have h1 := HK.out; have h2 := HT.out; have h3 := HQL.out; have h4 := HQ.out
      rw [IntKind.wrap_i64]; omega
    have HKK := Lib.hid hkk
    clear hcv hcv2 hmin hx1 hx2 hy' ho' hkk c5
    generalize w1.drew = w2 at M2 HY' c5' f5 c4 f4 ⊢
    go_wp2_with (refine wpList_cut rfl (.tmp 43) (.tmp 45) rfl (.slice A q cap) (.int .i64 (S.size : Int)) (.slice A' (q - S.size) (cap - S.size)) rfl rfl hcut ?_)
    go_ret2
    have hk2 : kk ≤ s1.T.length := by have := HQL.out; have := HQ.out; have := HKK.out; have := HK.out; have := HH0.out; omega
    have hdd : (s1.T.drop k).drop S.size = s1.T.drop kk := by rw [List.drop_drop, HKK.out]
    have hy2 := HY'.out
    rw [hdd] at hy2
    have g := mach_take M2.out.1 hk2 hy2 (fun i hi => by rw [HVR.out]; exact HO'.out i hi) (z := (kk : Int)) rfl
    obtain ⟨r, hr⟩ := HU.out.text
    have hnx : next t a0 p k n = S.data.toList := by
      have h1 := HSz.out; have h2 := HXX.out; have h3 := HQ.out
      rw [HLS.out]
      rcases HD1.out with h | h
      · -- all has come
        rw [next_of hr HK.out (.inl ?_)]
        · rw [h2]
          have hle : (s1.T.drop k).length = q := by rw [List.length_drop]; omega
          rcases Nat.le_total n q with h5 | h5
          · rw [Nat.min_eq_left h5]
          · rw [Nat.min_eq_right h5, List.take_of_length_le (by omega), List.take_of_length_le (by omega)]
        · have hU : up a0 w1 m t p o1 s1.T.length s1 → r = [] := fun hu => by
            have := (hu.at_end (Nat.lt_irrefl _)).2.1
            rw [hr] at this
            simpa using this
          rcases h with he | ⟨hn0, hf0⟩
          · have := (H1.out.2.2.wrong he).2
            have hr' : tot t a0 p = allM (num t.data.toList) (8 * t.size) a0 p 0 := rfl
            rw [hr'] at hr
            rw [hr] at this
            simpa using this
          · by_cases he : s1.e = 0
            · have := (H1.out.2.2.done he hn0 hf0).2.2.2
              have hr' : tot t a0 p = allM (num t.data.toList) (8 * t.size) a0 p 0 := rfl
              rw [hr'] at hr
              rw [hr] at this
              simpa using this
            · have := (H1.out.2.2.wrong he).2
              have hr' : tot t a0 p = allM (num t.data.toList) (8 * t.size) a0 p 0 := rfl
              rw [hr'] at hr
              rw [hr] at this
              simpa using this
      · rw [next_of hr HK.out (.inr (by omega))]
        rw [h2, Nat.min_eq_left (by omega)]
    have hlt : k < (tot t a0 p).2.2.2.length := HU.out.iff.2 (by have := HQ.out; have := HH0.out; omega)
    have hnl : k + (next t a0 p k n).length = kk := by rw [hnx, HKK.out]; rw [Array.length_toList]; rfl
    have e1 : Ending.returned (.tuple #[.string S, .int .i64 0]) = .returned (.tuple #[.string ⟨(next t a0 p k n).toArray⟩, .int .i64 (if k < (tot t a0 p).2.2.2.length then 0 else (tot t a0 p).1)]) := by
      rw [if_pos hlt, hnx]
    refine ⟨s1, { o1 with vr := .slice A' (q - S.size) (cap - S.size) }, e1, ⟨?_, H1.out.2.2, ?_⟩, M2.out.2.trans g.2⟩
    · rw [hnl]; exact g.1
    · rcases HD1.out with h | h
      · exact .inl h
      · refine .inr ?_
        rw [hnl]
        have := HSz.out; have := HXX.out; have := HQ.out; have := HKK.out
        omega
theorem Step_any (h : up a0 w m t p o k s) (hO : ordM w) (hlo : low m o) (h6 : t.size ≤ 600) (ha0 : a0 ≤ 8 * t.size) {n : Nat} (hn : 1 ≤ n) (hn2 : n ≤ 9223372036854775807) :
    Calls Tryz.prog 12 #[.pointer (some ⟨m, 0, none⟩), .int .i64 (n : Int)] w (steps a0 w m t p o k n) := Step_lim h hO hlo (lim_600 h6 ha0) ha0 hn hn2
end
end Go.Proofs.YtnkninjdpgpkmaaGreatDoor.Il
namespace Go.Proofs.YtnkninjdpgpkmaaGreatDoor.In
open Go.RowKit Go.Proofs.YtnkninjdpgpkmaaGreatDoor.Sb Go.Proofs.YtnkninjdpgpkmaaGreatDoor.Vm Go.Proofs.YtnkninjdpgpkmaaGreatDoor.Bm Go.Proofs.YtnkninjdpgpkmaaGreatDoor.Bw Go.Proofs.YtnkninjdpgpkmaaGreatDoor.Br Go.Proofs.YtnkninjdpgpkmaaGreatDoor.Bs Go.Proofs.YtnkninjdpgpkmaaGreatDoor.Wr Go.Proofs.YtnkninjdpgpkmaaGreatDoor.Wc Go.Proofs.YtnkninjdpgpkmaaGreatDoor.Ww Go.Proofs.YtnkninjdpgpkmaaGreatDoor.Ky Go.Proofs.YtnkninjdpgpkmaaGreatDoor.Fm Go.Proofs.YtnkninjdpgpkmaaGreatDoor.Im Go.Proofs.YtnkninjdpgpkmaaGreatDoor.Ia Go.Proofs.YtnkninjdpgpkmaaGreatDoor.Ib Go.Proofs.YtnkninjdpgpkmaaGreatDoor.Ic Go.Proofs.YtnkninjdpgpkmaaGreatDoor.Ih Go.Proofs.YtnkninjdpgpkmaaGreatDoor.Ij Go.Proofs.YtnkninjdpgpkmaaGreatDoor.Ik Go.Proofs.YtnkninjdpgpkmaaGreatDoor.Il

theorem all_arg (t : ByteArray) (z : Int) (q : ByteArray) (w : World) (hs : t.size ≤ 281474976710656) (hz : z < 0 ∨ 8 * (t.size : Int) < z) :
    Calls Tryz.prog 26 #[.string t, .int .i64 z, .string q] w fun e w' => e = .returned (.tuple #[.string ⟨#[]⟩, .slice none 0 0, .int .i64 0, .int .i64 1]) ∧ w = w' := by
  have HN := Lib.hid (New_no t z q w hs hz)
  clear hz
  go_enter Tryz.func26, Tryz.ntmps26
  go_wp2_with (go_at_call 9; refine HN.out.mono ?_; rintro e w' ⟨rfl, rfl⟩)
  refine bodyPost_ret (results_tmp4 rfl _ _ _) rfl ?_
  exact ⟨rfl, rfl⟩
/-- What All leaves. -/
def alls (t : ByteArray) (a0 : Nat) (q : ByteArray) (w : World) (e : Ending) (w' : World) : Prop :=
  Below w.heap.size w w' ∧
    (((tot t a0 (Wm.lastN 32768 q.data.toList)).1 ≠ 0 ∧ e = .returned (.tuple #[.string ⟨#[]⟩, .slice none 0 0, .int .i64 0, .int .i64 (tot t a0 (Wm.lastN 32768 q.data.toList)).1]))
      ∨ ((tot t a0 (Wm.lastN 32768 q.data.toList)).1 = 0 ∧ ∃ v', e = .returned (.tuple #[.string ⟨(tot t a0 (Wm.lastN 32768 q.data.toList)).2.2.2.toArray⟩, v', .int .i64 ((tot t a0 (Wm.lastN 32768 q.data.toList)).2.2.1 : Int), .int .i64 0]) ∧ strt w.heap.size w' v' (tot t a0 (Wm.lastN 32768 q.data.toList)).2.1))

set_option maxHeartbeats 1000000 in
set_option maxRecDepth 100000 in
theorem all_lim (t : ByteArray) (a0 : Nat) (q : ByteArray) (w : World) (hO : ordM w) (h6 : limM (num t.data.toList) t.size a0 (Wm.lastN 32768 q.data.toList)) (ha0 : a0 ≤ 8 * t.size) (hq : q.size ≤ 10000000) :
    Calls Tryz.prog 26 #[.string t, .int .i64 (a0 : Int), .string q] w (alls t a0 q w) := by
  have HN := Lib.hid (New_lim t a0 q w hO h6 ha0 hq)
  have HO := Lib.hid hO
  have H6 := Lib.hid h6
  have HA0 := Lib.hid ha0
  obtain ⟨p, hp⟩ : ∃ p, p = Wm.lastN 32768 q.data.toList := ⟨_, rfl⟩
  unfold alls
  rw [← hp] at HN H6 ⊢
  clear hO h6 ha0 hq hp
  go_enter Tryz.func26, Tryz.ntmps26
  go_wp2_with fail
  refine HN.out.mono ?_
  rintro e w1 ⟨m, o, s, rfl, hu, hlo, hb⟩
  have HU := Lib.hid hu
  have HLO := Lib.hid hlo
  have HB := Lib.hid hb
  have HPR := Lib.hid (produce_any hu.m hu.v (HO.out.below hb) (fun i hi => by have h1 := hlo i hi; have h2 := HO.out.1; omega) H6.out HA0.out 16777216)
  clear hu hlo hb HN
  go_wp2_with fail
  refine HPR.out.mono ?_
  rintro e w2 ⟨rfl, s2, o2, h2, hd2⟩
  have HT : Hid (s2.T.length ≤ 9000000) := Lib.hid (h2.2.2.fewT H6.out)
  have HU2 : Hid (up a0 w2 m t p o2 0 s2) := Lib.hid ⟨h2.1, h2.2.2, .inl (hd2.resolve_right (by have := HT.out; omega))⟩
  have HB2 : Hid (Below w.heap.size w w2) := Lib.hid (h2.2.1.on.below HB.out HB.out.size HLO.out)
  have HOV := Lib.hid (hd2.resolve_right (by have := HT.out; omega))
  have HV2 := Lib.hid h2.2.2
  clear h2 hd2 HPR HU
  obtain ⟨E, hE⟩ : ∃ E, E = s2.e := ⟨_, rfl⟩
  have c6 : w2.cell? ⟨m, 6, none⟩ = some (.int .i64 E) := by rw [hE]; exact HU2.out.m.b.cell 6
  have HEE := Lib.hid hE
  by_cases h0 : E = 0
  · have hne : (E != 0) = false := by simp [h0]
    have HR : Hid ((tot t a0 p).1 = 0 ∧ (tot t a0 p).2.1 = s2.L ∧ (tot t a0 p).2.2.1 = s2.a ∧ (tot t a0 p).2.2.2 = s2.T) := Lib.hid (by
      have he : s2.e = 0 := by rw [← hE]; exact h0
      rcases HOV.out with h | ⟨hn, hf⟩
      · exact absurd he h
      · exact HV2.out.done he hn hf)
    subst h0
    obtain ⟨A, cap, hvr, hcap, _⟩ := HU2.out.m.h.y.form
    obtain ⟨n, hn⟩ : ∃ n, n = (s2.T.drop 0).length := ⟨_, rfl⟩
    rw [← hn] at hvr
    obtain ⟨A3, cap3, hvs, _⟩ := HU2.out.m.h.s.form
    obtain ⟨n3, hn3⟩ : ∃ n3, n3 = s2.L.length := ⟨_, rfl⟩
    rw [← hn3] at hvs
    have c5 : w2.cell? ⟨m, 5, none⟩ = some (.slice A n cap) := by rw [← hvr]; exact HU2.out.m.b.cell 5
    have c3 : w2.cell? ⟨m, 3, none⟩ = some (.slice A3 n3 cap3) := by rw [← hvs]; exact HU2.out.m.b.cell 3
    have c1 : w2.cell? ⟨m, 1, none⟩ = some (.pointer (some ⟨o2.r, 0, none⟩)) := HU2.out.m.b.cell 1
    have HY : Hid (rdy w2 (.slice A n cap) s2.T) := Lib.hid (by have := HU2.out.m.h.y; rw [hvr, List.drop_zero] at this; exact this)
    have HNN : Hid (n = s2.T.length) := Lib.hid (by rw [hn, List.drop_zero])
    have HM : Hid (m < w2.heap.size) := Lib.hid HU2.out.m.b.lt
    obtain ⟨S, hS⟩ : ∃ S : ByteArray, S = ⟨s2.T.toArray⟩ := ⟨_, rfl⟩
    have HCV : Hid (∀ u, Below w2.heap.size w2 u → (convert 62 9 (.slice A n cap)).run Tryz.prog u = .ok (.string S) u) := Lib.hid (fun u hu => by
      have k := rdy_take (w := u) (cp := cap) (HY.out.below hu) (x := n) (by rw [HNN.out]; exact Nat.le_refl _)
      rw [List.take_of_length_le (by rw [HNN.out]; exact Nat.le_refl _), ← hS] at k
      exact k)
    have HSS := Lib.hid hS
    have HCL : Hid (∀ u, Below w2.heap.size w2 u → Calls Tryz.prog 38 #[.slice A3 n3 cap3] u fun e w' => ∃ v', e = .returned v' ∧ strt u.heap.size w' v' s2.L ∧ Below u.heap.size u w') := Lib.hid (fun u hu => by
      have k := HU2.out.m.h.s
      rw [hvs] at k
      exact Clone_starts (k.below hu) (by have := HV2.out.fewL H6.out; omega))
    have HAT : Hid (∀ u, Below w2.heap.size w2 u → Calls Tryz.prog 40 #[.pointer (some ⟨o2.r, 0, none⟩)] u fun e w' => e = .returned (.int .i64 s2.a) ∧ w' = u) := Lib.hid (fun u hu => At_any (HU2.out.m.h.r.below hu))
    have d0 : Below w2.heap.size w2 w2.drew := (Below.refl _ w2).drew
    have hcv0 := HCV.out _ d0
    have keeps : ∀ u, Below w2.heap.size w2 u → (u.cell? ⟨m, 5, none⟩ = some (.slice A n cap) ∧ u.cell? ⟨m, 3, none⟩ = some (.slice A3 n3 cap3) ∧ u.cell? ⟨m, 1, none⟩ = some (.pointer (some ⟨o2.r, 0, none⟩)) ∧ (convert 62 9 (.slice A n cap)).run Tryz.prog u = .ok (.string S) u ∧ Below w2.heap.size w2 u) := fun u hu =>
      ⟨(Below.cell hu (p := ⟨m, 5, none⟩) HM.out).trans c5, (Below.cell hu (p := ⟨m, 3, none⟩) HM.out).trans c3, (Below.cell hu (p := ⟨m, 1, none⟩) HM.out).trans c1, HCV.out u hu, hu⟩
    obtain ⟨aa, haa⟩ : ∃ aa, aa = s2.a := ⟨_, rfl⟩
    rw [← haa] at HAT
    have HAA := Lib.hid haa
    clear hE hvr hn hvs hn3 hS hcap haa
    go_wp2
    have S0 := keeps _ d0
    go_region_held3 (fun u => u.cell? ⟨m, 5, none⟩ = some (.slice A n cap) ∧ u.cell? ⟨m, 3, none⟩ = some (.slice A3 n3 cap3) ∧ u.cell? ⟨m, 1, none⟩ = some (.pointer (some ⟨o2.r, 0, none⟩)) ∧ (convert 62 9 (.slice A n cap)).run Tryz.prog u = .ok (.string S) u ∧ Below w2.heap.size w2 u)
      (first | exact S0 | assumption)
      (first | (go_at_call 38; refine (HCL.out _ (show _ ∧ _ ∧ _ ∧ _ ∧ Below _ w2 _ by assumption).2.2.2.2).mono ?_; rintro e u1 ⟨v1, rfl, hv1, hb1⟩; have hbb1 := grows (show _ ∧ _ ∧ _ ∧ _ ∧ Below _ w2 _ by assumption).2.2.2.2 hb1; have S1 := keeps _ hbb1; have BB1 := Lib.hid hbb1; obtain ⟨A9, cap9, hv9, hq9⟩ := hv1.form; clear hq9 hbb1; subst hv9; have HV1 := Lib.hid hv1; clear hv1) | (go_at_call 40; refine (HAT.out _ (show _ ∧ _ ∧ _ ∧ _ ∧ Below _ w2 _ by assumption).2.2.2.2).mono ?_; rintro e u2 ⟨rfl, rfl⟩))
    go_wp2
    refine bodyPost_ret (results_tmp4 rfl _ _ _) rfl ?_
    refine ⟨grows HB2.out BB1.out, .inr ⟨HR.out.1, .slice A9 s2.L.length cap9, ?_, ?_⟩⟩
    · rw [HR.out.2.2.2, HR.out.2.2.1, ← HAA.out, ← HSS.out]
      rfl
    · rw [HR.out.2.1]
      refine HV1.out.lower ?_
      have h1 := HB2.out.size
      first | exact Nat.le_trans h1 d0.size | omega
  · have hne : (E != 0) = true := by simp [h0]
    have HR : Hid ((tot t a0 p).1 = E) := Lib.hid (by rw [hE]; exact (HV2.out.wrong (by rw [← hE]; exact h0)).1)
    have H0 := Lib.hid h0
    clear hE h0
    go_wp2
    go_quiet (fail)
    go_wp2
    refine bodyPost_ret (results_tmp4 rfl _ _ _) rfl ?_
    refine ⟨grows HB2.out (below_draws w2 _), .inl ⟨by rw [HR.out]; exact H0.out, ?_⟩⟩
    rw [HR.out]
    rfl
theorem all_any (t : ByteArray) (a0 : Nat) (q : ByteArray) (w : World) (hO : ordM w) (h6 : t.size ≤ 600) (ha0 : a0 ≤ 8 * t.size) (hq : q.size ≤ 10000000) :
    Calls Tryz.prog 26 #[.string t, .int .i64 (a0 : Int), .string q] w (alls t a0 q w) := all_lim t a0 q w hO (lim_600 h6 ha0) ha0 hq
end Go.Proofs.YtnkninjdpgpkmaaGreatDoor.In
