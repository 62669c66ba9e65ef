/-
  Layer 11, the program: a reader's run of nothings (written by gen11.py out of rleL.src).
-/
import Derived.Test.YtmdobloncbljeaaRleG
import Derived.Test.YtmdobloncbljeaaRleI
namespace Go.Proofs.Ytmdobloncbljeaa
open Go.RowKit Mem Go.Lib RleM LebM
attribute [local go_sem ↓] Go.wp_at_zero Go.wp_at_succ
set_option linter.unusedVariables false

section
variable {β : Type} {f : β → Value} {T G : TypeId} {fp fg : Value}
theorem Rdr.fr {w w' : World} {base g : Nat} {most : Int} {r : Rs (Bool × β)} (h : Rdr f T G fp fg w base g most r) (hf : Fr (fun _ => False) w w') : Rdr f T G fp fg w' base g most r := by
  obtain ⟨⟨A, n, c, Ag, cg, h1, h2, h3, h4, h5⟩, hb⟩ := h
  exact ⟨⟨A, n, c, Ag, cg, h1.fr hf (fun h => h), h2.fr hf (fun _ _ h => h), h3, h4, h5.fr hf⟩, hb⟩
/-- what is left is turned -/
theorem Rdr.left {w w' : World} {base g : Nat} {most : Int} {L L' : List UInt8} {gs : List ((Bool × β) × Nat)} {cnt : Nat} {A : Option Addr} {n c : Nat} {Ag : Option Addr} {cg : Nat}
    (hrow : Row w g T [fp, fg, .slice A n c, .slice Ag gs.length cg, .int .i64 (cnt : Int), .int .i64 most]) (hO : OwnG f G w base Ag cg gs) (hb : base ≤ g) (hTG : G ≠ T) (hf : Fr (fun b => b = g) w w')
    (h : ∃ A' c' n', Row w' g T [fp, fg, .slice A' n' c', .slice Ag gs.length cg, .int .i64 (cnt : Int), .int .i64 most] ∧ Rd w' A' n' (L'.map bytec) ∧ n' ≤ c' ∧ (0 < n' → ∀ ad, A' = some ad → ad.block < base)) : Rdr f T G fp fg w' base g most ⟨L', gs, cnt⟩ := by
  obtain ⟨A', c', n', h1, h2, h3, h4⟩ := h
  exact ⟨⟨A', n', c', Ag, cg, h1, h2, h3, h4, own_fr hO hf (fun ad e h => own_ne hO hrow hTG (by rw [e, ← h]; rfl))⟩, hb⟩
theorem Rdr.cells {w : World} {base g : Nat} {most : Int} {r : Rs (Bool × β)} (h : Rdr f T G fp fg w base g most r) : w.cell? ⟨g, 4, none⟩ = some (.int .i64 (r.count : Int)) ∧ w.cell? ⟨g, 5, none⟩ = some (.int .i64 most) ∧ w.cell? ⟨g, 0, none⟩ = some fp ∧ w.cell? ⟨g, 1, none⟩ = some fg := by
  obtain ⟨⟨A, n, c, Ag, cg, h1, h2, h3, h4, h5⟩, hb⟩ := h
  exact ⟨h1.cell rfl, h1.cell rfl, h1.cell rfl, h1.cell rfl⟩
/-- how a reader's method ends -/
def Ends (f : β → Value) (T G : TypeId) (fp fg : Value) (base g : Nat) (most : Int) (res : Except Nat (Rs (Bool × β))) (e : Ending) (w' : World) : Prop :=
  match res with
  | .error er => e = .returned (.int .i64 (er : Int)) ∧ er ≠ 0
  | .ok r' => e = .returned (.int .i64 0) ∧ Rdr f T G fp fg w' base g most r'
theorem Rdr.lt {w : World} {base g : Nat} {most : Int} {r : Rs (Bool × β)} (h : Rdr f T G fp fg w base g most r) : g < w.heap.size := by
  obtain ⟨⟨A, n, c, Ag, cg, h1, h2, h3, h4, h5⟩, hb⟩ := h
  exact h1.lt
/-- another block of two cells is written -/
theorem Rdr.other {w w' : World} {base g p : Nat} {most : Int} {r : Rs (Bool × β)} {T' : TypeId} {L : List Value} (h : Rdr f T G fp fg w base g most r) (hp : Row w p T' L) (hpb : base ≤ p ∧ p ≠ g) (hTG : G ≠ T') (hf : Fr (fun b => b = p) w w') : Rdr f T G fp fg w' base g most r := by
  obtain ⟨⟨A, n, c, Ag, cg, h1, h2, h3, h4, h5⟩, hb⟩ := h
  exact ⟨⟨A, n, c, Ag, cg, h1.fr hf (fun e => hpb.2 e.symm), h2.frp hf (fun h0 ad e h => by have := h4 h0 ad e; omega), h3, h4, own_fr h5 hf (fun ad e h => own_ne h5 hp hTG (by rw [e, ← h]; rfl))⟩, hb⟩
theorem Rdr.other2 {w : World} {base g p : Nat} {most : Int} {r : Rs (Bool × β)} {T' : TypeId} {L : List Value} {u v : Value} (h : Rdr f T G fp fg w base g most r) (hp : Row w p T' L) (hpb : base ≤ p ∧ p ≠ g) (hTG : G ≠ T') : Rdr f T G fp fg ((w.setCell ⟨p, 0, none⟩ u).setCell ⟨p, 1, none⟩ v) base g most r :=
  h.other hp hpb hTG ((Fr.set1 w p 0 u).trans (Fr.set1 _ p 1 v) (fun _ _ h => h))
theorem Fr.up {w w' : World} {base g : Nat} (h : Fr (fun b => b = g) w w') (hb : base ≤ g) : Fr (fun k => base ≤ k) w w' := h.mono (fun _ _ e => by rw [e]; exact hb)
theorem Fr.up0 {w w' : World} {base : Nat} (h : Fr (fun _ => False) w w') : Fr (fun k => base ≤ k) w w' := h.mono (fun _ _ e => e.elim)
end
set_option maxRecDepth 100000 in
set_option maxHeartbeats 1600000 in
theorem nothingsC_any {fp fg : Value} {ok : Bool × Int → Prop} (base g : Nat) (most : Int) (r : Rs (Bool × Int)) (w : World) (hR : Rdr nv 63 57 fp fg w base g most r) (hI : Inv ok r) (hz : ok (false, 0)) (hm0 : -9223372036854775808 ≤ most) (hm1 : most ≤ 1000000) :
    Calls Try.prog 41 #[.pointer (some ⟨g, 0, none⟩)] w fun e w' => Fr (fun k => base ≤ k) w w' ∧ Ends nv 63 57 fp fg base g most (noneG (false, 0) most r) e w' := by
  obtain ⟨left, gs, cnt⟩ := r
  obtain ⟨⟨A, nl, c, Ag, cg, hrow, hrd, hnc, hA, hO⟩, hbg⟩ := hR
  simp only at hrow hrd hO
  have hln : left.length = nl := by simpa using hrd.1
  have hlen := hI.len
  have hcnt := hI.cnt
  simp only at hlen hcnt
  have htk := takeN_any base g _ _ _ _ _ _ A nl c left w hrow hrd hnc hA hbg (by omega)
  have hbd := gu_bd left
  have hpos := gu_pos (B := left)
  obtain ⟨RES, hRES⟩ : ∃ R, R = noneG (false, 0) most (⟨left, gs, cnt⟩ : Rs (Bool × Int)) := ⟨_, rfl⟩
  rw [← hRES]
  unfold noneG at hRES
  simp only at hRES
  obtain ⟨N, hN⟩ : ∃ N, N = (gu left).1 := ⟨_, rfl⟩
  obtain ⟨k, hk⟩ : ∃ k, k = (gu left).2.1 := ⟨_, rfl⟩
  obtain ⟨E, hE⟩ : ∃ E, E = (gu left).2.2 := ⟨_, rfl⟩
  rw [← hN, ← hk, ← hE] at hRES
  rw [← hN, ← hk, ← hE] at hbd
  rw [← hk, ← hE] at hpos
  rw [← hN, ← hk, ← hE] at htk
  have HTK := Lib.hid htk
  have HROW := Lib.hid hrow
  have HO := Lib.hid hO
  have HBG := Lib.hid hbg
  have HI := Lib.hid hI
  obtain ⟨hb1, hb2, hb3⟩ := hbd
  clear hN hk hE htk hrow hrd hnc hA hO hI hbg hlen
  go_enter Try.func41, Try.ntmps41
  go_wp2_with fail
  refine HTK.out.mono ?_
  rintro e w2 ⟨rfl, ⟨A2, c2, hrow2, hrd2, hnc2, hA2⟩, hf2⟩
  have hR2 : Rdr nv 63 57 fp fg w2 base g most ⟨left.drop k, gs, cnt⟩ := Rdr.left (L := left) HROW.out HO.out HBG.out (by decide) hf2 ⟨A2, c2, _, hrow2, hrd2, hnc2, hA2⟩
  have HR2 := Lib.hid hR2
  have HF2 := Lib.hid (Fr.up hf2 HBG.out)
  have hft := fitsC_any g cnt N most w2 hR2.cells.1 hR2.cells.2.1 (by omega) hm0 (by omega) hb1
  have HFT := Lib.hid hft
  clear hrow2 hrd2 hnc2 hA2 hf2 hR2 HTK hft
  by_cases he : E = 0
  · have t0 : ((E : Int) != 0) = false := by simp; omega
    have t0' : (E != 0) = false := by simp; omega
    rw [if_neg (by omega)] at hRES
    obtain ⟨Q, hQ⟩ : ∃ Q, decide ((cnt : Int) + (N : Nat) ≤ most) = Q := ⟨_, rfl⟩
    rw [hQ] at HFT
    have hk1 := hpos he
    have HQ := Lib.hid hQ
    clear he hpos hQ
    cases Q with
    | true =>
      have hfit : (cnt : Int) + (N : Nat) ≤ most := of_decide_eq_true HQ.out
      rw [if_pos hfit] at hRES
      have HRES := Lib.hid hRES
      have r1 : IntKind.i64.wrap (N : Int) = (N : Int) := by rw [IntKind.wrap_i64]; omega
      have hN6 : cnt + N ≤ 1000000 := by omega
      have HK := Lib.hid (And.intro hk1 hb2)
      clear hRES hfit hk1 hb2
      go_wp2_with fail
      refine HFT.out.mono ?_
      rintro e w3 ⟨rfl, hf3⟩
      have HR3 := Lib.hid (HR2.out.fr hf3)
      have HF3 := Lib.hid (HF2.out.trans (Fr.up0 hf3) (fun _ _ h => h))
      clear hf3 HFT HR2
      go_wp2_with fail
      obtain ⟨w4, hw4⟩ : ∃ w4, w3.alloc (.cells #[.bool false, (.int .i64 0)] 30) = w4 := ⟨_, rfl⟩
      rw [hw4]
      have hf4 : Fr (fun _ => False) w3 w4 := by rw [← hw4]; exact (Fr.refl _ _).alloc _
      have had := raddC_any fp fg base g most (left.drop k) gs cnt N false 0 w4 (HR3.out.fr hf4) (HI.out.small.1) (fun g hg => HI.out.small.2 g hg N (by omega)) (by omega)
      have HAD := Lib.hid had
      have HF4 := Lib.hid (HF3.out.trans (Fr.up0 hf4) (fun _ _ h => h))
      clear hw4 hf4 had HR3
      refine HAD.out.mono ?_
      rintro e w5 ⟨rfl, hR5, hf5⟩
      have HR5 := Lib.hid hR5
      have HF5 := Lib.hid (HF4.out.trans hf5 (fun _ _ h => h))
      clear hR5 hf5 HAD
      go_wp2_with fail
      go_ret
      rw [HRES.out]
      exact ⟨HF5.out, rfl, HR5.out⟩
    | false =>
      have hfit : ¬ (cnt : Int) + (N : Nat) ≤ most := of_decide_eq_false HQ.out
      rw [if_neg hfit] at hRES
      have HRES := Lib.hid hRES
      clear hRES hfit hk1
      go_wp2_with fail
      refine HFT.out.mono ?_
      rintro e w3 ⟨rfl, hf3⟩
      have HF3 := Lib.hid (HF2.out.trans (Fr.up0 hf3) (fun _ _ h => h))
      clear hf3 HFT
      go_wp2_with fail
      go_ret
      rw [HRES.out]
      exact ⟨HF3.out, rfl, by decide⟩
  · have t0 : ((E : Int) != 0) = true := by simp; omega
    have t0' : (E != 0) = true := by simp; omega
    rw [if_pos he] at hRES
    have HRES := Lib.hid hRES
    have HE := Lib.hid he
    clear hRES he hpos
    go_wp2_with fail
    go_ret
    rw [HRES.out]
    exact ⟨HF2.out, rfl, HE.out⟩

end Go.Proofs.Ytmdobloncbljeaa
