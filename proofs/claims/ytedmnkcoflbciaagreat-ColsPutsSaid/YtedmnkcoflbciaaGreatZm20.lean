/-
  Layer 11, the program: gather, spread (written by gen11.py out of rleE.src).
  Layer 11, the program: how a kind's cells are put and read (written by gen11.py out of rleH.src).
  Taking a loop's body out of a function's code, by a region that it holds; what the program is does not matter here.
-/
import Derived.Test.YtedmnkcoflbciaaGreatZm19
import Derived.Test.YtedmnkcoflbciaaGreatZm04
import Derived.Test.YtedmnkcoflbciaaGreatZm18
import Derived.Deep.DeepCutAuto
import Derived.Deep.CutRange
import Derived.Deep.DrawnRows
import Derived.WalkKit
namespace Go.Proofs.YtedmnkcoflbciaaGreat
open Go.RowKit Mem Go.Lib RleM
attribute [local go_sem ↓] Go.wp_at_zero Go.wp_at_succ
set_option linter.unusedVariables false

theorem cellTC : ElemTyS Tryz.prog 63 77 (.agg #[.bool false, (.int .i64 0)]) 2 16 := ⟨Tryz.underlying63, by kernel_rfl, rfl, by decide⟩
set_option maxRecDepth 100000 in
set_option maxHeartbeats 1600000 in
theorem gatherC_any (A : Option Addr) (n c : Nat) (L : List (Bool × Int)) (w : World) (hL : Cls nv w A n L) (hn : n ≤ 1000000) :
    Calls Tryz.prog 92 #[.slice A n c] w fun e w' => ∃ A' c', e = .returned (.slice A' (gatherG L).length c') ∧ OwnG nv 205 w' w.heap.size A' c' (gatherG L) ∧ Fr (fun _ => False) w w' := by
  have HL := Lib.hid hL
  have hln := hL.1
  have HLN := Lib.hid hln
  clear hL hln
  obtain ⟨base, hbase⟩ : ∃ base, base = w.heap.size := ⟨_, rfl⟩
  have HB := Lib.hid hbase
  rw [← hbase]
  clear hbase
  obtain ⟨R, hR⟩ : ∃ R, R = gatherG L := ⟨_, rfl⟩
  rw [← hR]
  have HR := Lib.hid hR
  clear hR
  go_enter Tryz.func92, Tryz.ntmps92
  go_wp2_with fail
  go_loopw [3, 8] (fun s v wr => ∃ (k : Nat) (G : List ((Bool × Int) × Nat)) (A1 : Option Addr) (c1 : Nat), k ≤ n ∧ v = .int .i64 (k : Int) ∧ s = .slice A1 G.length c1 ∧ Hid (G = gatherG (L.take k)) ∧ Hid (OwnG nv 205 wr base A1 c1 G) ∧ Hid (Fr (fun _ => False) w wr)) (fun _ v _ => n - (intOf v).toNat)
  case atStart => exact ⟨0, [], none, 0, Nat.zero_le _, rfl, rfl, by rw [List.take_zero]; rfl, OwnG.nil _ _ _, Fr.refl _ _⟩
  case round =>
    obtain ⟨k, G, A1, c1, hk, rfl, rfl, HG, HO, HF⟩ := hrel
    rename World => wr
    by_cases hlt : k < n
    · obtain ⟨t, ht⟩ : ∃ t, L[k]? = some t := ⟨_, List.getElem?_eq_getElem (by have := HLN.out; omega)⟩
      obtain ⟨g, o, rfl, hg, h1, h2⟩ := (HL.out.fr HF.out (fun _ _ => id)).2 k t ht
      obtain ⟨i, x⟩ := t
      simp only [nv] at h1 h2
      have hnext : gatherG (L.take (k + 1)) = addG G (i, x) 1 := by
        rw [HG.out, ← gather_snoc, List.take_add_one, ht]
        rfl
      have hgl : G.length ≤ 1000000 := by rw [HG.out]; have := gather_len (L.take k); rw [List.length_take] at this; omega
      have hgm : ∀ g ∈ G, g.2 + 1 < 9223372036854775808 := by
        intro g hg
        rw [HG.out] at hg
        have := gather_mem hg
        rw [List.length_take] at this
        omega
      have HM := Lib.hid hgm
      have HNX := Lib.hid hnext
      clear ht hnext hgm
      go_wp2_with fail
      obtain ⟨w1, hw1⟩ : ∃ w1, wr.alloc (.cells #[.bool i, (.int .i64 x)] 77) = w1 := ⟨_, rfl⟩
      rw [hw1]
      have hf1 : Fr (fun _ => False) wr w1 := by rw [← hw1]; exact (Fr.refl _ _).alloc _
      have hc := addC_any base A1 c1 G i x 1 w1 (HO.out.fr hf1) (by have := HB.out; have := HF.out.size; have := hf1.size; omega) (by omega) HM.out (by omega)
      have HC := Lib.hid hc
      have HF1 := Lib.hid (HF.out.trans hf1 (fun _ _ h => h))
      obtain ⟨G2, hG2⟩ : ∃ G2, G2 = addG G (i, x) 1 := ⟨_, rfl⟩
      rw [← hG2] at HC HNX
      clear hw1 hf1 h1 h2 hc hG2
      go_wp2_with fail
      refine HC.out.mono ?_
      rintro e w2 ⟨A2, c2, rfl, hO2, hf2⟩
      have HO2 := Lib.hid hO2
      have HF2 : Hid (Fr (fun _ => False) w w2) := Lib.hid (HF1.out.trans hf2 (fun b hb h => by have := HO.out.lt _ h; have := HB.out; omega))
      clear hO2 hf2
      go_wp2_with fail
      exact ⟨⟨k + 1, G2, A2, c2, by omega, by go_num, rfl, HNX.out.symm, HO2.out, HF2.out⟩, by simp [intOf]; omega⟩
    · obtain rfl : k = n := by omega
      have he : R = G := by rw [HG.out, HR.out, List.take_of_length_le (by have := HLN.out; omega)]
      have HE2 := Lib.hid he
      clear he
      go_wp2_with fail
      go_ret
      rw [HE2.out]
      exact ⟨A1, c1, rfl, HO.out, HF.out⟩
theorem cellTW : ElemTyS Tryz.prog 66 80 (.agg #[.bool false, (.string (txt []))]) 2 24 := ⟨Tryz.underlying66, by kernel_rfl, rfl, by decide⟩
set_option maxRecDepth 100000 in
set_option maxHeartbeats 1600000 in
theorem gatherW_any (A : Option Addr) (n c : Nat) (L : List (Bool × (List UInt8))) (w : World) (hL : Cls sv w A n L) (hn : n ≤ 1000000) :
    Calls Tryz.prog 97 #[.slice A n c] w fun e w' => ∃ A' c', e = .returned (.slice A' (gatherG L).length c') ∧ OwnG sv 211 w' w.heap.size A' c' (gatherG L) ∧ Fr (fun _ => False) w w' := by
  have HL := Lib.hid hL
  have hln := hL.1
  have HLN := Lib.hid hln
  clear hL hln
  obtain ⟨base, hbase⟩ : ∃ base, base = w.heap.size := ⟨_, rfl⟩
  have HB := Lib.hid hbase
  rw [← hbase]
  clear hbase
  obtain ⟨R, hR⟩ : ∃ R, R = gatherG L := ⟨_, rfl⟩
  rw [← hR]
  have HR := Lib.hid hR
  clear hR
  go_enter Tryz.func97, Tryz.ntmps97
  go_wp2_with fail
  go_loopw [3, 8] (fun s v wr => ∃ (k : Nat) (G : List ((Bool × (List UInt8)) × Nat)) (A1 : Option Addr) (c1 : Nat), k ≤ n ∧ v = .int .i64 (k : Int) ∧ s = .slice A1 G.length c1 ∧ Hid (G = gatherG (L.take k)) ∧ Hid (OwnG sv 211 wr base A1 c1 G) ∧ Hid (Fr (fun _ => False) w wr)) (fun _ v _ => n - (intOf v).toNat)
  case atStart => exact ⟨0, [], none, 0, Nat.zero_le _, rfl, rfl, by rw [List.take_zero]; rfl, OwnG.nil _ _ _, Fr.refl _ _⟩
  case round =>
    obtain ⟨k, G, A1, c1, hk, rfl, rfl, HG, HO, HF⟩ := hrel
    rename World => wr
    by_cases hlt : k < n
    · obtain ⟨t, ht⟩ : ∃ t, L[k]? = some t := ⟨_, List.getElem?_eq_getElem (by have := HLN.out; omega)⟩
      obtain ⟨g, o, rfl, hg, h1, h2⟩ := (HL.out.fr HF.out (fun _ _ => id)).2 k t ht
      obtain ⟨i, x⟩ := t
      simp only [sv] at h1 h2
      have hnext : gatherG (L.take (k + 1)) = addG G (i, x) 1 := by
        rw [HG.out, ← gather_snoc, List.take_add_one, ht]
        rfl
      have hgl : G.length ≤ 1000000 := by rw [HG.out]; have := gather_len (L.take k); rw [List.length_take] at this; omega
      have hgm : ∀ g ∈ G, g.2 + 1 < 9223372036854775808 := by
        intro g hg
        rw [HG.out] at hg
        have := gather_mem hg
        rw [List.length_take] at this
        omega
      have HM := Lib.hid hgm
      have HNX := Lib.hid hnext
      clear ht hnext hgm
      go_wp2_with fail
      obtain ⟨w1, hw1⟩ : ∃ w1, wr.alloc (.cells #[.bool i, (.string (txt x))] 80) = w1 := ⟨_, rfl⟩
      rw [hw1]
      have hf1 : Fr (fun _ => False) wr w1 := by rw [← hw1]; exact (Fr.refl _ _).alloc _
      have hc := addW_any base A1 c1 G i x 1 w1 (HO.out.fr hf1) (by have := HB.out; have := HF.out.size; have := hf1.size; omega) (by omega) HM.out (by omega)
      have HC := Lib.hid hc
      have HF1 := Lib.hid (HF.out.trans hf1 (fun _ _ h => h))
      obtain ⟨G2, hG2⟩ : ∃ G2, G2 = addG G (i, x) 1 := ⟨_, rfl⟩
      rw [← hG2] at HC HNX
      clear hw1 hf1 h1 h2 hc hG2
      go_wp2_with fail
      refine HC.out.mono ?_
      rintro e w2 ⟨A2, c2, rfl, hO2, hf2⟩
      have HO2 := Lib.hid hO2
      have HF2 : Hid (Fr (fun _ => False) w w2) := Lib.hid (HF1.out.trans hf2 (fun b hb h => by have := HO.out.lt _ h; have := HB.out; omega))
      clear hO2 hf2
      go_wp2_with fail
      exact ⟨⟨k + 1, G2, A2, c2, by omega, by go_num, rfl, HNX.out.symm, HO2.out, HF2.out⟩, by simp [intOf]; omega⟩
    · obtain rfl : k = n := by omega
      have he : R = G := by rw [HG.out, HR.out, List.take_of_length_le (by have := HLN.out; omega)]
      have HE2 := Lib.hid he
      clear he
      go_wp2_with fail
      go_ret
      rw [HE2.out]
      exact ⟨A1, c1, rfl, HO.out, HF.out⟩
end Go.Proofs.YtedmnkcoflbciaaGreat
namespace Go.Proofs.YtedmnkcoflbciaaGreat
open Go.RowKit Mem Go.Lib RleM LebM
attribute [local go_sem ↓] Go.wp_at_zero Go.wp_at_succ
set_option linter.unusedVariables false

set_option maxRecDepth 100000 in
set_option maxHeartbeats 1600000 in
theorem putU_any (i : Bool) (x : Int) (w : World) (hx : okU (i, x)) : Calls Tryz.prog 123 #[.agg #[.bool i, (.int .i64 x)]] w (Gives w (kU.put (i, x))) := by
  obtain ⟨m, rfl⟩ : ∃ m : Nat, x = (m : Int) := ⟨x.toNat, by have h : 0 ≤ x := hx.1; omega⟩
  have hm : m < 9223372036854775808 := by have h : (m : Int) < 9223372036854775808 := hx.2; omega
  rw [show kU.put (i, (m : Int)) = u m from rfl]
  have r1 : IntKind.u64.wrap (m : Int) = (m : Int) := by rw [IntKind.wrap_u64]; omega
  clear hx
  go_enter Tryz.func123, Tryz.ntmps123
  go_wp2_with fail
  refine (U_any m _ (by omega)).mono ?_
  rintro e w2 ⟨A2, c2, rfl, hown2, hfr2⟩
  have H2 := Lib.hid (hown2.base (b' := w.heap.size) (by simp))
  have HF2 := Lib.hid (((Fr.refl (fun _ => False) w).alloc _).trans hfr2 (fun _ _ h => h))
  clear hown2 hfr2
  go_wp2_with fail
  go_ret
  exact ⟨A2, c2, rfl, H2.out, HF2.out⟩

set_option maxRecDepth 100000 in
set_option maxHeartbeats 1600000 in
theorem putS_any (i : Bool) (x : Int) (w : World) (hx : okS (i, x)) : Calls Tryz.prog 156 #[.agg #[.bool i, (.int .i64 x)]] w (Gives w (kS.put (i, x))) := by
  obtain ⟨h0, h1⟩ := hx
  simp only at h0 h1
  rw [show kS.put (i, x) = s x from rfl]
  go_enter Tryz.func156, Tryz.ntmps156
  go_wp2_with fail
  refine (S_any x _ h0 h1).mono ?_
  rintro e w2 ⟨A2, c2, rfl, hown2, hfr2⟩
  have H2 := Lib.hid (hown2.base (b' := w.heap.size) (by simp))
  have HF2 := Lib.hid (((Fr.refl (fun _ => False) w).alloc _).trans hfr2 (fun _ _ h => h))
  clear hown2 hfr2
  go_wp2_with fail
  go_ret
  exact ⟨A2, c2, rfl, H2.out, HF2.out⟩

set_option maxRecDepth 100000 in
set_option maxHeartbeats 1600000 in
theorem putW_any (i : Bool) (x : (List UInt8)) (w : World) (hx : okW (i, x)) : Calls Tryz.prog 130 #[.agg #[.bool i, (.string (txt x))]] w (Gives w (kW.put (i, x))) := by
  have hl : x.length ≤ 1000000 := hx
  obtain ⟨n, hn⟩ : ∃ n, n = x.length := ⟨_, rfl⟩
  have hsz : (txt x).size = n := by rw [hn]; rfl
  have r1 : IntKind.u64.wrap (n : Int) = (n : Int) := by rw [IntKind.wrap_u64]; omega
  obtain ⟨w1, hw1⟩ : ∃ w1, w.alloc (.cells #[.bool i, (.string (txt x))] 80) = w1 := ⟨_, rfl⟩
  obtain ⟨q, hq⟩ : ∃ q, w.heap.size = q := ⟨_, rfl⟩
  have hf1 : Fr (fun _ => False) w w1 := by rw [← hw1]; exact (Fr.refl _ _).alloc _
  have hqb : Row w1 q 80 [.bool i, (.string (txt x))] := by rw [← hw1, ← hq]; exact Row.new w _ _
  have hqlt := hqb.lt
  have hu := U_any n w1.drew (by omega)
  have HU := Lib.hid hu
  have HQB := Lib.hid hqb
  have HF1 := Lib.hid hf1
  have j1 : w1.cell? ⟨q, 1, none⟩ = some (.string (txt x)) := hqb.cell rfl
  obtain ⟨D, hD⟩ : ∃ D, D = u n ++ x := ⟨_, rfl⟩
  have hDl : D.length ≤ 1000000000 := by rw [hD, List.length_append]; have := u_len10 (n := n) (by omega); omega
  rw [show kW.put (i, x) = u x.length ++ x from rfl, ← hn, ← hD]
  have HD := Lib.hid hD
  have hs0 : w.heap.size ≤ w1.drew.heap.size := hf1.size
  have HS0 := Lib.hid hs0
  have HQ := Lib.hid hq
  clear hx hn hf1 hqb hqlt hu hD hs0
  go_enter Tryz.func130, Tryz.ntmps130
  go_upto_region 1 with fail
  clear hw1 hq
  refine wp_region_held_drew (S := fun w' => w'.cell? ⟨q, 1, none⟩ = some (.string (txt x))) (by kernel_rfl) ?_ (fun hHeld => ?_)
  · exact j1
  refine tk 0 hHeld ?_
  refine tk 1 hHeld ?_
  refine tk 2 hHeld ?_
  refine tk 3 hHeld ?_
  refine tk 5 hHeld ?_
  refine tk 6 hHeld ?_
  refine rdo 4 (fun Kx hKx => ?_)
  go_simp
  refine HU.out.mono ?_
  rintro e w4 ⟨A2, c2, rfl, hown2, hfr2⟩
  have HO2 := Lib.hid (hown2.base HS0.out)
  have HF2 := Lib.hid (HF1.out.drew.trans hfr2 (fun _ _ h => h))
  have HQ4 := Lib.hid ((HQB.out.fr (Fr.refl (fun _ => False) w1).drew (fun h => h)).fr hfr2 (fun h => h))
  clear hown2 hfr2 HU
  refine hKx.out _ _ ?_ (fun hHeld => ?_)
  · exact HQ4.out.cell rfl
  clear hKx Kx
  refine rdo 7 (fun Kx hKx => ?_)
  refine step_app_txt Tryz.underlying34 Tryz.underlying9 (by kernel_rfl) _ (by rfl) _ _ (by rfl) w.heap.size A2 c2 (u n) x (txt x) rfl (by rfl) HO2.out (by rfl) D HD.out hDl HF2.out.size ?_
  intro A' c' w6 hown6 hfr6
  have HOW : Hid (Own w6 w.heap.size A' c' D) := Lib.hid hown6
  have HFW : Hid (Fr (fun _ => False) w w6) := Lib.hid (HF2.out.trans hfr6 (fun b hb h => by have := (HO2.out.lt b h).1; omega))
  have HQ6 := Lib.hid (HQ4.out.fr hfr6 (own_ne HO2.out HQ4.out (by decide)))
  clear hown6 hfr6
  refine hKx.out _ _ ?_ (fun hHeld => ?_)
  · exact HQ6.out.cell rfl
  clear hKx Kx
  refine rdo 8 (fun Kx hKx => ?_)
  go_simp
  refine hKx.out _ _ ?_ (fun hHeld => ?_)
  · exact HQ6.out.cell rfl
  clear hKx Kx
  (try simp only [Act.put, List.setIfInBounds_toArray, List.set_cons_zero, List.set_cons_succ, List.getElem_toArray, List.getElem_cons_zero, List.getElem_cons_succ])
  refine wpAnyH_done (by kernel_rfl) ?_ _
  go_wp2_with fail
  go_ret
  exact ⟨A', c', rfl, HOW.out, HFW.out⟩

end Go.Proofs.YtedmnkcoflbciaaGreat
namespace Go.Proofs.YtedmnkcoflbciaaGreat
open Go

def hasRegion (r : Nat) : Code → Bool
  | .region id _ _ => id == r
  | .seq a b => hasRegion r a || hasRegion r b
  | .cond _ a b => hasRegion r a || hasRegion r b
  | .block _ c => hasRegion r c
  | .loop c => hasRegion r c
  | .scope c => hasRegion r c
  | _ => false
/-- the body of the innermost loop that holds region r -/
def loopAt (r : Nat) : Code → Option Code
  | .seq a b => match loopAt r a with
    | some c => some c
    | none => loopAt r b
  | .cond _ a b => match loopAt r a with
    | some c => some c
    | none => loopAt r b
  | .block _ c => loopAt r c
  | .scope c => loopAt r c
  | .loop c => match loopAt r c with
    | some d => some d
    | none => bif hasRegion r c then some c else none
  | _ => none
/-- region r -/
def regionAt (r : Nat) : Code → Option Code
  | .region id ops d => bif id == r then some (.region id ops d) else none
  | .seq a b => match regionAt r a with
    | some c => some c
    | none => regionAt r b
  | .cond _ a b => match regionAt r a with
    | some c => some c
    | none => regionAt r b
  | .block _ c => regionAt r c
  | .loop c => regionAt r c
  | .scope c => regionAt r c
  | _ => none
/-- a post that is asked of one exit alone: blind at a panic (go_region's short way wants that) -/
def onExit (n : Nat) (Q1 : Act → World → Prop) : Exit → Act → World → Prop
  | .exit m, a, w => m = n ∧ Q1 a w
  | _, _, _ => False
theorem onExit_imp {n : Nat} {Q0 : Exit → Act → World → Prop} : ∀ e a w, onExit n (Q0 (.exit n)) e a w → Q0 e a w := by
  intro e a w h
  cases e with
  | exit m => obtain ⟨rfl, h⟩ := h; exact h
  | _ => exact h.elim
end Go.Proofs.YtedmnkcoflbciaaGreat
