/-
  Layer 10's program: fixed.
  Layer 10's program: dynamic (written by gen_odyn.py).
-/
import Derived.Test.YtgpkiijmembggaaGreatDoorZm37
import Derived.Test.YtgpkiijmembggaaGreatDoorZm38
namespace Go.Proofs.YtgpkiijmembggaaGreatDoor
open Go.RowKit CoM BitsM HuffM LzM Mem Go.Lib
attribute [local go_sem ↓] Go.wp_at_zero Go.wp_at_succ
set_option linter.unusedVariables false
set_option maxRecDepth 100000

theorem fix_good : ¬ BadC SyM.fixA SyM.fixB := by
  rintro (h | ⟨_, h⟩)
  · rw [DeM.fix_right.1] at h; cases h
  · rw [DeM.fix_right.2] at h; cases h
theorem coded_good {a b : List Nat} {most : Int} {out : List UInt8} {bs : List Bool} (h : ¬ BadC a b) : InM.codedR a b most out bs = InM.toksR a b most (bs.length + 1) out bs := by
  unfold BadC at h
  unfold InM.codedR
  rw [if_neg h]
theorem coded_bad {a b : List Nat} {most : Int} {out : List UInt8} {bs : List Bool} (h : BadC a b) : InM.codedR a b most out bs = .error 3 := by
  unfold BadC at h
  unfold InM.codedR
  rw [if_pos h]
section
variable {w w1 w' : World} {base o r c : Nat} {A : Option Addr} {B : List UInt8} {p : Nat} {ao : Option Addr} {co : Nat} {out : List UInt8} {most : Int} {pl pd : Option Addr}
theorem OutP.from {e : Ending} {R : Except Nat (List UInt8 × List Bool)} (h : OutP w1 w' e base o r c A B ao most R) (hf : Fr (Fo o r ao) w w1) : OutP w w' e base o r c A B ao most R := by
  cases R with
  | error k => exact ⟨h.1, fo_trans hf (Nxo.refl w ao) h.2⟩
  | ok x =>
    obtain ⟨X, rest⟩ := x
    obtain ⟨h1, ao', co', p', pl', pd', h2, h3, h4, h5, h6⟩ := h
    exact ⟨h1, ao', co', p', pl', pd', h2, h3, h4, (Nxo.refl w ao).trans h5 hf.size, fo_trans hf (Nxo.refl w ao) h6⟩
theorem OutP.ends {e : Ending} {R : Except Nat (List UInt8 × List Bool)} (h : OutP w w' e base o r c A B ao most R) : ∃ k : Int, e = .returned (.int .i64 k) := by
  cases R with
  | error k => exact ⟨_, h.1⟩
  | ok x => exact ⟨_, h.1⟩
/-- the agreed coding is put into the opener -/
theorem Opn.agree (H : Opn w base o r c A B p ao co out most pl pd) (ql qd : Option Addr) :
    Opn ((w.setCell ⟨o, 3, none⟩ (.pointer ql)).setCell ⟨o, 4, none⟩ (.pointer qd)) base o r c A B p ao co out most ql qd ∧ Fr (fun k => k = o) w ((w.setCell ⟨o, 3, none⟩ (.pointer ql)).setCell ⟨o, 4, none⟩ (.pointer qd)) := by
  have hf : Fr (fun k => k = o) w ((w.setCell ⟨o, 3, none⟩ (.pointer ql)).setCell ⟨o, 4, none⟩ (.pointer qd)) := (Fr.set1 w o 3 _).trans (Fr.set1 _ o 4 _) (fun _ _ h => h)
  refine ⟨⟨?_, H.re.fr hf H.or.symm (fun k hk e => H.ANo k hk (.inl e)), hf.own H.own (fun k hk e => own_ne H.own H.row (by decide) (by rw [hk, e])), H.ne, H.gl.fr hf (fun k hk => by have := H.bo; have := H.tb; omega), H.tb, H.bo, H.br, H.lB, H.lo, H.lm, H.hm⟩, hf⟩
  exact (H.row.set 3 (.pointer ql)).set 4 (.pointer qd)
set_option maxHeartbeats 3200000 in
theorem ofixed_any (H : Opn w base o r c A B p ao co out most pl pd) (hA : Agr w pl pd) :
    Calls Tryz.prog 61 #[.pointer (some ⟨o, 0, none⟩)] w fun e w' => OutP w w' e base o r c A B ao most (InM.codedR SyM.fixA SyM.fixB most out ((bitsOf B).drop p)) := by
  rw [coded_good fix_good]
  obtain ⟨RES, hRES⟩ : ∃ R, R = InM.toksR SyM.fixA SyM.fixB most (((bitsOf B).drop p).length + 1) out ((bitsOf B).drop p) := ⟨_, rfl⟩
  rw [← hRES]
  have HRES := Lib.hid hRES
  have hla : SyM.fixA.length = 288 := SyM.fix_len.1
  have hlb : SyM.fixB.length = 32 := SyM.fix_len.2
  have HLL := Lib.hid (And.intro hla hlb)
  have HO := Lib.hid H
  have c3 : w.cell? ⟨o, 3, none⟩ = some (.pointer pl) := H.row.cell rfl
  have c4 : w.cell? ⟨o, 4, none⟩ = some (.pointer pd) := H.row.cell rfl
  rcases hA with rfl | hc
  · have HFX := Lib.hid (fixedN_any w)
    clear hRES hla hlb
    go_enter Tryz.func61, Tryz.ntmps61
    go_wp2_with (refine HFX.out.mono ?_)
    rintro e w2 ⟨ga, gb, rfl, hra, hrb, hf2, hga, hgb⟩
    have hcod := codingOfI_any (some ⟨ga, 0, none⟩) SyM.fixA.length 288 SyM.fixA (some ⟨gb, 0, none⟩) SyM.fixB.length 32 SyM.fixB w2 hra hrb (by rw [HLL.out.1]; omega) (by rw [HLL.out.2]; omega) (fun h0 ad h => hra.lt h0 ad h) (fun h0 ad h => hrb.lt h0 ad h)
    have HCD := Lib.hid hcod
    have HF2 := Lib.hid hf2
    clear hcod hra hrb hf2 HFX hga hgb
    obtain ⟨la, hla⟩ : ∃ n, n = SyM.fixA.length := ⟨_, rfl⟩
    obtain ⟨lb, hlb⟩ : ∃ n, n = SyM.fixB.length := ⟨_, rfl⟩
    rw [← hla, ← hlb] at HCD ⊢
    clear hla hlb
    go_wp2_with (refine HCD.out.mono ?_)
    rintro e w3 ⟨hcp, hf3⟩
    rcases hcp with ⟨ql, qd, rfl, hcod, -⟩ | ⟨-, hbad⟩
    · have hf23 := HF2.out.trans hf3 (fun _ _ h => h)
      have ho3 := HO.out.fr0 hf23
      obtain ⟨ho4, hf4⟩ := ho3.agree ql qd
      have HF4 : Hid (Fr (Fo o r ao) w ((w3.setCell ⟨o, 3, none⟩ (.pointer ql)).setCell ⟨o, 4, none⟩ (.pointer qd))) := Lib.hid (fo_trans (to_fo0 hf23) (Nxo.refl w ao) (hf4.mono (fun _ _ h => .inl h)))
      have HC4 := Lib.hid (hcod.fo ho3 (hf4.mono (fun _ _ h => .inl h)))
      have HO4 := Lib.hid ho4
      have d3 : w3.cell? ⟨o, 3, none⟩ = some (.pointer none) := ho3.row.cell rfl
      have d4 : w3.cell? ⟨o, 4, none⟩ = some (.pointer pd) := ho3.row.cell rfl
      have f3 : w3.frozen? ⟨o, 3, none⟩ = false := ho3.row.free 3
      have f4 : w3.frozen? ⟨o, 4, none⟩ = false := ho3.row.free 4
      clear hcod hf3 hf23 ho3 ho4 hf4 HCD c3 c4
      go_upto_region 3 with fail
      obtain ⟨w4, hw4⟩ : ∃ w4, w4 = (w3.setCell ⟨o, 3, none⟩ (.pointer ql)).setCell ⟨o, 4, none⟩ (.pointer qd) := ⟨_, rfl⟩
      rw [← hw4] at HF4 HC4 HO4 ⊢
      have e3 : w4.cell? ⟨o, 3, none⟩ = some (.pointer ql) := HO4.out.row.cell rfl
      have e4 : w4.cell? ⟨o, 4, none⟩ = some (.pointer qd) := HO4.out.row.cell rfl
      have HTK := Lib.hid (tokens_any HO4.out (.inr HC4.out) SyM.fixA SyM.fixB (by rw [HLL.out.1]; omega) (by rw [HLL.out.2]; omega) ql qd HC4.out)
      clear hw4 d3 d4 f3 f4
      go_wp2_with (refine HTK.out.mono ?_)
      rintro e w5 h5
      obtain ⟨k, rfl⟩ := h5.ends
      have H5 := Lib.hid (h5.from HF4.out)
      clear h5 HTK e3 e4
      go_wp2_with fail
      go_ret
      rw [HRES.out]
      exact H5.out
    · exact absurd hbad fix_good
  · obtain ⟨la, rfl, _⟩ := id hc
    have HC := Lib.hid hc
    have HTK := Lib.hid (tokens_any HO.out (.inr HC.out) SyM.fixA SyM.fixB (by rw [HLL.out.1]; omega) (by rw [HLL.out.2]; omega) (some la) pd HC.out)
    rw [← HRES.out] at HTK
    clear hRES hla hlb hc H
    go_enter Tryz.func61, Tryz.ntmps61
    go_wp2_with (refine HTK.out.mono ?_)
    rintro e w5 h5
    obtain ⟨k, rfl⟩ := h5.ends
    have H5 := Lib.hid h5
    clear h5 HTK c3 c4
    go_wp2_with fail
    go_ret
    exact H5.out
end
end Go.Proofs.YtgpkiijmembggaaGreatDoor
namespace Go.Proofs.YtgpkiijmembggaaGreatDoor
open Go.RowKit CoM BitsM HuffM LzM Mem Go.Lib
attribute [local go_sem ↓] Go.wp_at_zero Go.wp_at_succ
set_option linter.unusedVariables false
set_option maxRecDepth 100000

/-- what follows the lengths of a block's codes -/
def dynR (most : Int) (out : List UInt8) : Option (List Nat × List Nat × List Bool) → Except Nat (List UInt8 × List Bool)
  | none => .error 3
  | some (a, b, r) => InM.codedR a b most out r
section
variable {w : World} {base o r c : Nat} {A : Option Addr} {B : List UInt8} {p : Nat} {ao : Option Addr} {co : Nat} {out : List UInt8} {most : Int} {pl pd : Option Addr}
set_option maxHeartbeats 3200000 in
theorem odynamic_any (H : Opn w base o r c A B p ao co out most pl pd) (hA : Agr w pl pd) :
    Calls Tryz.prog 62 #[.pointer (some ⟨o, 0, none⟩)] w fun e w' => OutP w w' e base o r c A B ao most (dynR most out (getB ((bitsOf B).drop p))) := by
  have hg := pGet_any r c p A B w H.gl.2 (by have := H.br; have := H.tb; unfold top9 at this; omega) H.re (by have := H.lB; omega)
  obtain ⟨G, hG⟩ : ∃ G, G = getB ((bitsOf B).drop p) := ⟨_, rfl⟩
  rw [← hG] at hg ⊢
  have HGT := Lib.hid hg
  have HO := Lib.hid H
  have HA := Lib.hid hA
  have HGE := Lib.hid hG
  have c0 : w.cell? ⟨o, 0, none⟩ = some (.pointer (some ⟨r, 0, none⟩)) := H.row.cell rfl
  clear hg H hA hG
  go_enter Tryz.func62, Tryz.ntmps62
  go_wp2_with (refine HGT.out.mono ?_)
  rintro e w2 ⟨p2, hre2, hf2, hgp⟩
  have HO2 := Lib.hid (HO.out.read hf2 hre2)
  have HA2 := Lib.hid (HA.out.fo HO.out (to_fo hf2))
  have HF2 : Hid (Fr (Fo o r ao) w w2) := Lib.hid (to_fo hf2)
  clear hre2 hf2 HGT c0
  cases G with
  | none =>
    obtain ⟨A1, k1, A2, k2, rfl⟩ := hgp
    go_wp2_with fail
    go_ret
    exact ⟨rfl, HF2.out⟩
  | some uvr =>
    obtain ⟨u, v, rest⟩ := uvr
    obtain ⟨A1, k1, A2, k2, rfl, hk1, hk2, h1, h2, hb1, hb2, hrest⟩ := hgp
    obtain ⟨hul, hvl, -, -, -⟩ := InM.get_le HGE.out.symm
    have hcod := codingOfI_any A1 u.length k1 u A2 v.length k2 v w2 h1 h2 (by omega) (by omega) (fun h0 ad h => h1.lt h0 ad h) (fun h0 ad h => h2.lt h0 ad h)
    have HCD := Lib.hid hcod
    have HUV := Lib.hid (And.intro hul hvl)
    have HRS := Lib.hid hrest
    obtain ⟨lu, hlu⟩ : ∃ n, n = u.length := ⟨_, rfl⟩
    obtain ⟨lv, hlv⟩ : ∃ n, n = v.length := ⟨_, rfl⟩
    rw [← hlu, ← hlv] at HCD ⊢
    clear hcod h1 h2 hb1 hb2 hrest hul hvl hk1 hk2 hlu hlv
    go_wp2_with (refine HCD.out.mono ?_)
    rintro e w3 ⟨hcp, hf3⟩
    have HO3 := Lib.hid (HO2.out.fr0 hf3)
    have HA3 := Lib.hid (HA2.out.fr0 hf3)
    have HF3 := Lib.hid (fo_trans HF2.out (Nxo.refl w ao) (to_fo0 (o := o) (r := r) (ao := ao) hf3))
    clear hf3 HCD
    rcases hcp with ⟨ql, qd, rfl, hcod, hgood⟩ | ⟨rfl, hbad⟩
    · have HC3 := Lib.hid hcod
      have HX : Hid (dynR most out (some (u, v, rest)) = InM.toksR u v most (rest.length + 1) out rest) := Lib.hid (coded_good hgood)
      clear hcod hgood
      go_wp2_with (refine store_st codSz rfl (.tmp 6) (.tmp 22) rfl w3.heap.size (by rfl) [Value.pointer ql, .pointer qd] (by rfl) _ _ (Row.new w3 _ [Value.pointer none, .pointer none]) rfl rfl (cod_one _ _) ?_)
      intro w4 hr4 hf4
      have hf34 : Fr (fun _ => False) w3 w4 := ((Fr.refl (fun _ => False) w3).alloc _).trans hf4 (fun b hb h => by omega)
      have HO4 := Lib.hid (HO3.out.fr0 hf34)
      have HA4 := Lib.hid (HA3.out.fr0 hf34)
      have HF4 := Lib.hid (fo_trans HF3.out (Nxo.refl w ao) (to_fo0 (o := o) (r := r) (ao := ao) hf34))
      have HC4 := Lib.hid (HC3.out.fr0 hf34)
      obtain ⟨g, hg⟩ : ∃ g, g = w3.heap.size := ⟨_, rfl⟩
      rw [← hg] at hr4 ⊢
      have d0 : w4.cell? ⟨g, 0, none⟩ = some (.pointer ql) := hr4.cell rfl
      have d1 : w4.cell? ⟨g, 1, none⟩ = some (.pointer qd) := hr4.cell rfl
      have HTK := Lib.hid (tokens_any HO4.out HA4.out u v (by have := HUV.out.1; omega) (by have := HUV.out.2; omega) ql qd HC4.out)
      clear hr4 hf4 hf34 hg
      go_wp2_with (refine HTK.out.mono ?_)
      rintro e w5 h5
      obtain ⟨k, rfl⟩ := h5.ends
      have H5 := Lib.hid (h5.from HF4.out)
      clear h5 HTK d0 d1
      go_wp2_with fail
      go_ret
      rw [HX.out, HRS.out]
      exact H5.out
    · have HX : Hid (dynR most out (some (u, v, rest)) = .error 3) := Lib.hid (coded_bad hbad)
      clear hbad
      go_wp2_with (refine store_st codSz rfl (.tmp 6) (.tmp 22) rfl w3.heap.size (by rfl) [Value.pointer none, .pointer none] (by rfl) _ _ (Row.new w3 _ [Value.pointer none, .pointer none]) rfl rfl (cod_one _ _) ?_)
      intro w4 hr4 hf4
      have hf34 : Fr (fun _ => False) w3 w4 := ((Fr.refl (fun _ => False) w3).alloc _).trans hf4 (fun b hb h => by omega)
      have HO4 := Lib.hid (HO3.out.fr0 hf34)
      have HA4 := Lib.hid (HA3.out.fr0 hf34)
      have HF4 := Lib.hid (fo_trans HF3.out (Nxo.refl w ao) (to_fo0 (o := o) (r := r) (ao := ao) hf34))
      clear hr4 hf4 hf34
      go_wp2_with fail
      go_ret
      rw [HX.out]
      exact ⟨rfl, HF4.out⟩
end
end Go.Proofs.YtgpkiijmembggaaGreatDoor
