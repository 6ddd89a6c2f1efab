/-
  window: Clear, Twin, Copy.
  Conditions: as each theorem says.
-/
import Derived.Test.YtoniejpbgidmfaaWn
namespace Go.Proofs.Ytoniejpbgidmfaa.Wo
open Go.RowKit Go.Proofs.Ytoniejpbgidmfaa.Vm Go.Proofs.Ytoniejpbgidmfaa.Vo Go.Proofs.Ytoniejpbgidmfaa.Bw Go.Proofs.Ytoniejpbgidmfaa.Br Go.Proofs.Ytoniejpbgidmfaa.Wr Go.Proofs.Ytoniejpbgidmfaa.Wc Go.Proofs.Ytoniejpbgidmfaa.Ww Go.Proofs.Ytoniejpbgidmfaa.Wx Go.Proofs.Ytoniejpbgidmfaa.Wp Go.Proofs.Ytoniejpbgidmfaa.Wq Go.Proofs.Ytoniejpbgidmfaa.Wn

theorem byts_none {w : World} {base : Nat} {e : TypeId} {A : Option Addr} {n cap : Nat} {l : List UInt8} (h : byts w base e (.slice A n cap) l) : byts w base e (.slice A 0 cap) [] := by
  rcases h.2 with ⟨e0, _⟩ | ⟨g, c, cur, e1, hb, hc, h1, h2, h3, _⟩
  · injection e0 with e1 _ e2
    subst e1; subst e2
    exact World.ownsRow_nil _ _ _ _
  · injection e1 with e1 _ e2
    subst e1; subst e2
    exact ⟨rfl, .inr ⟨g, cap, cur, rfl, hb, hc, Nat.zero_le _, h2, h3, by simp [Bs]⟩⟩

/-- Clear. -/
theorem Clear_any {base : Nat} {w : World} {g : Nat} {v : Value} {l : List UInt8} {x : Nat} (h : win base w g v l x) :
    Calls Try.prog 17 #[.pointer (some ⟨g, 0, none⟩)] w fun e w' => e = .returned (.tuple #[]) ∧ ∃ v', win base w' g v' [] 0 ∧ Only (own g v) w w' ∧ v'.ownBlock = v.ownBlock := by
  have hN := Lib.hid (none_any h.b)
  have c1 := h.b.c1
  have hgr := Lib.hid (h.b.apart h.o)
  obtain ⟨A, cap, hv⟩ := h.o.form
  subst hv
  obtain ⟨n, hn⟩ : ∃ n, n = l.length := ⟨_, rfl⟩
  rw [← hn] at c1 h hgr ⊢
  clear hn
  have H := Lib.hid h
  clear h
  go_enter Try.func17, Try.ntmps17
  go_wp2_with (first | (go_at_call 20; refine hN.out.mono ?_; rintro e w' ⟨rfl, rfl⟩) | refine wpList_clear rfl (.tmp 7) 43 rfl 5 Try.underlying43 zeroB base (.slice A n cap) rfl l H.out.o ?_)
  intro w1 B1 O1
  have b1 := H.out.b.only (S := of (.slice A n cap)) O1.out (fun e => hgr.out g e rfl)
  have W1 := Lib.hid b1
  have k1 := b1.c1
  have g1 := b1.f1
  have g2 := b1.f2
  have k2 := b1.c2
  clear c1 b1
  go_wp2
  go_end0
  have st : Only (fun k => k = g) w1 ((w1.setCell ⟨g, 1, none⟩ (.slice A 0 cap)).setCell ⟨g, 2, none⟩ (.int .i64 0)) := ((Only.refl (fun k => k = g) _).store (p := ⟨g, 1, none⟩) (.inl rfl) _).store (p := ⟨g, 2, none⟩) (.inl rfl) _
  refine ⟨rfl, .slice A 0 cap, ⟨(W1.out.ring _).next (y := 0) rfl, (byts_none B1.out).only st (fun i hi e => hgr.out i ?_ e), ⟨Nat.zero_le _, by omega, fun _ => rfl⟩, H.out.g0⟩, (O1.out.mono (fun i hi => .inr hi)).then st (fun i hi _ => .inl hi), ?_⟩
  · cases A <;> exact hi
  · cases A <;> rfl

theorem win_mono {base b0 : Nat} {w : World} {g : Nat} {v : Value} {l : List UInt8} {x : Nat} (h : win base w g v l x) (hb : b0 ≤ base) : win b0 w g v l x := by
  refine ⟨h.b, ⟨h.o.1, ?_⟩, h.r, Nat.le_trans hb h.g0⟩
  rcases h.o.2 with k | ⟨g, c, cur, e1, h1, k⟩
  · exact .inl k
  · exact .inr ⟨g, c, cur, e1, Nat.le_trans hb h1, k⟩
/-- Twin: another window with the same content. -/
def isTwin (c : List UInt8) (w : World) (e : Ending) (w' : World) : Prop := ∃ g v l x, e = .returned (.pointer (some ⟨g, 0, none⟩)) ∧ win w.heap.size w' g v l x ∧ cont l x = c ∧ Below w.heap.size w w'
theorem Twin_any {base : Nat} {w : World} {g : Nat} {v : Value} {l : List UInt8} {x : Nat} (h : win base w g v l x) :
    Calls Try.prog 18 #[.pointer (some ⟨g, 0, none⟩)] w (isTwin (cont l x) w) := by
  have hN := Lib.hid (none_any h.b)
  have hc : (cont l x).length ≤ 32768 := by rw [cont_length]; exact h.r.le
  have hL := Last_any h 32768
  have e : Wm.lastN (32768 : Int).toNat (cont l x) = cont l x := Wm.lastN_all hc
  rw [e] at hL
  have HL := Lib.hid hL
  obtain ⟨S, hS⟩ : ∃ S : ByteArray, S = ⟨(cont l x).toArray⟩ := ⟨_, rfl⟩
  rw [← hS] at HL
  have hSl : S.data.toList = cont l x := by rw [hS]
  have hSs : S.size ≤ 9223372036854775807 := by rw [← size_len, hSl]; omega
  have HC : Hid (∀ w1 e w', isNew S.data.toList w1 e w' → Below w.heap.size w w1 → isTwin (cont l x) w e w') := Lib.hid (fun w1 e w' hn hb => by
    obtain ⟨v', l', x', rfl, h1, h2, h3⟩ := hn
    rw [hSl, Wm.lastN_all hc] at h2
    exact ⟨_, v', l', x', rfl, win_mono h1 hb.size, h2, grows hb h3⟩)
  clear hS hSl hc hL e h
  go_enter Try.func18, Try.ntmps18
  go_wp2_with (first | (go_at_call 20; refine hN.out.mono ?_; rintro e w' ⟨rfl, rfl⟩) | (go_at_call 15; refine HL.out.mono ?_; rintro e w1 ⟨rfl, b1⟩; have B1 := Lib.hid b1; clear b1) | (go_at_call 8; refine (New_any S hSs _).mono ?_; rintro e w2 hn; have HT := Lib.hid (HC.out _ _ _ hn B1.out); clear HC; obtain ⟨v2, l2, x2, rfl, _, _, _⟩ := hn))
  go_ret
  exact HT.out
end Go.Proofs.Ytoniejpbgidmfaa.Wo
