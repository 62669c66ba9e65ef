/-
  Layer 11, the program: Put, Get and their like (written by gen11.py out of rleU.src).
  Layer 15, the program: rows of values, slices made whole, rows that lie apart; a value's cell.
-/
import Derived.Test.YtohbcepbodcapaaZm36
import Derived.Test.YtohbcepbodcapaaZm17
import Derived.Test.YtohbcepbodcapaaZm08
import Derived.Test.YtohbcepbodcapaaZm09
namespace Go.Proofs.Ytohbcepbodcapaa
open Go.RowKit Mem Go.Lib RleM LebM
attribute [local go_sem ↓] Go.wp_at_zero Go.wp_at_succ
set_option linter.unusedVariables false

theorem mem_gather {κ : Type} [DecidableEq κ] {p : κ → Prop} {L : List κ} (h : ∀ x ∈ L, p x) : ∀ g ∈ gatherG L, p g.1 := by
  revert h
  refine snoc_ind (p := fun L => (∀ x ∈ L, p x) → ∀ g ∈ gatherG L, p g.1) (fun _ g hg => by cases hg) (fun l x ih h g hg => ?_) L
  rw [gather_snoc] at hg
  rcases mem_addG hg with e | ⟨g', hg', e⟩
  · rw [e]; exact h x (by simp)
  · rw [← e]; exact ih (fun y hy => h y (by simp [hy])) g' hg'
theorem kdSzU : (Try.prog.info? 89).map (·.size) = some 2 := by kernel_rfl
theorem kd_oneU : ([Value.func (.func 52) #[] #[], .func (.func 53) #[] #[]] : List Value).toArray.all (·.oneCell') = true := by simp [Value.oneCell']
set_option maxRecDepth 100000 in
theorem kindU_any (w : World) : Calls Try.prog 36 #[] w fun e w' => e = .returned (.agg #[.func (.func 52) #[] #[], .func (.func 53) #[] #[]]) ∧ Fr (fun _ => False) w w' := by
  obtain ⟨w1, hw1⟩ : ∃ w1, w.alloc (.cells #[Value.nilFunc, Value.nilFunc] 89) = w1 := ⟨_, rfl⟩
  obtain ⟨q, hq⟩ : ∃ q, w.heap.size = q := ⟨_, rfl⟩
  have hf1 : Fr (fun _ => False) w w1 := by rw [← hw1]; exact (Fr.refl _ _).alloc _
  have hqb : Row w1 q 89 [Value.nilFunc, Value.nilFunc] := by rw [← hw1, ← hq]; exact Row.new w _ _
  have HF1 := Lib.hid hf1
  have HQB := Lib.hid hqb
  have HQ := Lib.hid hq
  clear hf1 hqb
  go_enter Try.func36, Try.ntmps36
  go_upto_region 1 with fail
  clear hw1 hq
  go_wp2_with (refine store_st kdSzU rfl (.tmp 0) (.tmp 1) rfl q (by rfl) [.func (.func 52) #[] #[], .func (.func 53) #[] #[]] (by rfl) _ _ HQB.out rfl rfl kd_oneU ?_)
  intro w5 hr5 hf5
  have HF5 : Hid (Fr (fun _ => False) w w5) := Lib.hid (HF1.out.trans hf5 (fun b hb h => by have h1 := HQ.out; omega))
  have d0 : w5.cell? ⟨q, 0, none⟩ = some (.func (.func 52) #[] #[]) := hr5.cell rfl
  have d1 : w5.cell? ⟨q, 1, none⟩ = some (.func (.func 53) #[] #[]) := hr5.cell rfl
  clear hr5 hf5
  go_wp2_with fail
  exact bodyPost_ret (v := .agg #[.func (.func 52) #[] #[], .func (.func 53) #[] #[]]) (by simp [results, Try.results36, go_sem, d0, d1]) rfl ⟨rfl, HF5.out⟩
set_option maxRecDepth 100000 in
set_option maxHeartbeats 1600000 in
theorem pPut_any (A : Option Addr) (n c : Nat) (L : List (Bool × Int)) (w : World) (hL : Cls nv w A n L) (hn : n ≤ 1000000) (hok : ∀ x ∈ L, okU x) :
    Calls Try.prog 23 #[.slice A n c] w (Gives w (tellW kU (gatherG L))) := by
  have HL := Lib.hid hL
  have HLN := Lib.hid hL.1
  have HOK := Lib.hid hok
  clear hL hok
  go_enter Try.func23, Try.ntmps23
  go_wp2_with fail
  refine (kindU_any w).mono ?_
  rintro e w1 ⟨rfl, hf1⟩
  have HF1 := Lib.hid hf1
  clear hf1
  go_wp2_with fail
  refine (gatherC_any A n c L w1 (HL.out.fr HF1.out (fun _ _ h => h)) hn).mono ?_
  rintro e w2 ⟨A2, c2, rfl, hO2, hf2⟩
  have hgl := gather_len L
  rw [HLN.out] at hgl
  have hcap := (own_cap hO2).2.1
  have htell := tellU_any A2 (gatherG L).length c2 (gatherG L) w2 hO2.grs hcap (fun ad e => (hO2.lt ad.block (by rw [e]; rfl)).2) (by omega) (mem_gather HOK.out) (fun g hg => by have h1 := gather_mem hg; have h2 := HLN.out; omega)
  have HTELL := Lib.hid htell
  have HF2 := Lib.hid (HF1.out.trans hf2 (fun _ _ h => h))
  obtain ⟨NG, hNG⟩ : ∃ NG, NG = (gatherG L).length := ⟨_, rfl⟩
  rw [← hNG] at HTELL ⊢
  clear hO2 hf2 hgl hcap htell HF1 hNG
  go_wp2_with fail
  refine HTELL.out.mono ?_
  rintro e w3 ⟨A3, c3, rfl, hO3, hf3⟩
  have HO3 := Lib.hid (hO3.base HF2.out.size)
  have HF3 := Lib.hid (HF2.out.trans hf3 (fun _ _ h => h))
  clear hO3 hf3 HTELL
  go_wp2_with fail
  go_ret
  exact ⟨A3, c3, rfl, HO3.out, HF3.out⟩
theorem kdSzS : (Try.prog.info? 89).map (·.size) = some 2 := by kernel_rfl
theorem kd_oneS : ([Value.func (.func 75) #[] #[], .func (.func 76) #[] #[]] : List Value).toArray.all (·.oneCell') = true := by simp [Value.oneCell']
set_option maxRecDepth 100000 in
theorem kindS_any (w : World) : Calls Try.prog 56 #[] w fun e w' => e = .returned (.agg #[.func (.func 75) #[] #[], .func (.func 76) #[] #[]]) ∧ Fr (fun _ => False) w w' := by
  obtain ⟨w1, hw1⟩ : ∃ w1, w.alloc (.cells #[Value.nilFunc, Value.nilFunc] 89) = w1 := ⟨_, rfl⟩
  obtain ⟨q, hq⟩ : ∃ q, w.heap.size = q := ⟨_, rfl⟩
  have hf1 : Fr (fun _ => False) w w1 := by rw [← hw1]; exact (Fr.refl _ _).alloc _
  have hqb : Row w1 q 89 [Value.nilFunc, Value.nilFunc] := by rw [← hw1, ← hq]; exact Row.new w _ _
  have HF1 := Lib.hid hf1
  have HQB := Lib.hid hqb
  have HQ := Lib.hid hq
  clear hf1 hqb
  go_enter Try.func56, Try.ntmps56
  go_upto_region 1 with fail
  clear hw1 hq
  go_wp2_with (refine store_st kdSzS rfl (.tmp 0) (.tmp 1) rfl q (by rfl) [.func (.func 75) #[] #[], .func (.func 76) #[] #[]] (by rfl) _ _ HQB.out rfl rfl kd_oneS ?_)
  intro w5 hr5 hf5
  have HF5 : Hid (Fr (fun _ => False) w w5) := Lib.hid (HF1.out.trans hf5 (fun b hb h => by have h1 := HQ.out; omega))
  have d0 : w5.cell? ⟨q, 0, none⟩ = some (.func (.func 75) #[] #[]) := hr5.cell rfl
  have d1 : w5.cell? ⟨q, 1, none⟩ = some (.func (.func 76) #[] #[]) := hr5.cell rfl
  clear hr5 hf5
  go_wp2_with fail
  exact bodyPost_ret (v := .agg #[.func (.func 75) #[] #[], .func (.func 76) #[] #[]]) (by simp [results, Try.results56, go_sem, d0, d1]) rfl ⟨rfl, HF5.out⟩
set_option maxRecDepth 100000 in
set_option maxHeartbeats 1600000 in
theorem pPutS_any (A : Option Addr) (n c : Nat) (L : List (Bool × Int)) (w : World) (hL : Cls nv w A n L) (hn : n ≤ 1000000) (hok : ∀ x ∈ L, okS x) :
    Calls Try.prog 38 #[.slice A n c] w (Gives w (tellW kS (gatherG L))) := by
  have HL := Lib.hid hL
  have HLN := Lib.hid hL.1
  have HOK := Lib.hid hok
  clear hL hok
  go_enter Try.func38, Try.ntmps38
  go_wp2_with fail
  refine (kindS_any w).mono ?_
  rintro e w1 ⟨rfl, hf1⟩
  have HF1 := Lib.hid hf1
  clear hf1
  go_wp2_with fail
  refine (gatherC_any A n c L w1 (HL.out.fr HF1.out (fun _ _ h => h)) hn).mono ?_
  rintro e w2 ⟨A2, c2, rfl, hO2, hf2⟩
  have hgl := gather_len L
  rw [HLN.out] at hgl
  have hcap := (own_cap hO2).2.1
  have htell := tellS_any A2 (gatherG L).length c2 (gatherG L) w2 hO2.grs hcap (fun ad e => (hO2.lt ad.block (by rw [e]; rfl)).2) (by omega) (mem_gather HOK.out) (fun g hg => by have h1 := gather_mem hg; have h2 := HLN.out; omega)
  have HTELL := Lib.hid htell
  have HF2 := Lib.hid (HF1.out.trans hf2 (fun _ _ h => h))
  obtain ⟨NG, hNG⟩ : ∃ NG, NG = (gatherG L).length := ⟨_, rfl⟩
  rw [← hNG] at HTELL ⊢
  clear hO2 hf2 hgl hcap htell HF1 hNG
  go_wp2_with fail
  refine HTELL.out.mono ?_
  rintro e w3 ⟨A3, c3, rfl, hO3, hf3⟩
  have HO3 := Lib.hid (hO3.base HF2.out.size)
  have HF3 := Lib.hid (HF2.out.trans hf3 (fun _ _ h => h))
  clear hO3 hf3 HTELL
  go_wp2_with fail
  go_ret
  exact ⟨A3, c3, rfl, HO3.out, HF3.out⟩
theorem kdSzW : (Try.prog.info? 98).map (·.size) = some 2 := by kernel_rfl
theorem kd_oneW : ([Value.func (.func 59) #[] #[], .func (.func 60) #[] #[]] : List Value).toArray.all (·.oneCell') = true := by simp [Value.oneCell']
set_option maxRecDepth 100000 in
theorem kindW_any (w : World) : Calls Try.prog 41 #[] w fun e w' => e = .returned (.agg #[.func (.func 59) #[] #[], .func (.func 60) #[] #[]]) ∧ Fr (fun _ => False) w w' := by
  obtain ⟨w1, hw1⟩ : ∃ w1, w.alloc (.cells #[Value.nilFunc, Value.nilFunc] 98) = w1 := ⟨_, rfl⟩
  obtain ⟨q, hq⟩ : ∃ q, w.heap.size = q := ⟨_, rfl⟩
  have hf1 : Fr (fun _ => False) w w1 := by rw [← hw1]; exact (Fr.refl _ _).alloc _
  have hqb : Row w1 q 98 [Value.nilFunc, Value.nilFunc] := by rw [← hw1, ← hq]; exact Row.new w _ _
  have HF1 := Lib.hid hf1
  have HQB := Lib.hid hqb
  have HQ := Lib.hid hq
  clear hf1 hqb
  go_enter Try.func41, Try.ntmps41
  go_upto_region 1 with fail
  clear hw1 hq
  go_wp2_with (refine store_st kdSzW rfl (.tmp 0) (.tmp 1) rfl q (by rfl) [.func (.func 59) #[] #[], .func (.func 60) #[] #[]] (by rfl) _ _ HQB.out rfl rfl kd_oneW ?_)
  intro w5 hr5 hf5
  have HF5 : Hid (Fr (fun _ => False) w w5) := Lib.hid (HF1.out.trans hf5 (fun b hb h => by have h1 := HQ.out; omega))
  have d0 : w5.cell? ⟨q, 0, none⟩ = some (.func (.func 59) #[] #[]) := hr5.cell rfl
  have d1 : w5.cell? ⟨q, 1, none⟩ = some (.func (.func 60) #[] #[]) := hr5.cell rfl
  clear hr5 hf5
  go_wp2_with fail
  exact bodyPost_ret (v := .agg #[.func (.func 59) #[] #[], .func (.func 60) #[] #[]]) (by simp [results, Try.results41, go_sem, d0, d1]) rfl ⟨rfl, HF5.out⟩
set_option maxRecDepth 100000 in
set_option maxHeartbeats 1600000 in
theorem pPutW_any (A : Option Addr) (n c : Nat) (L : List (Bool × (List UInt8))) (w : World) (hL : Cls sv w A n L) (hn : n ≤ 1000000) (hok : ∀ x ∈ L, okW x) :
    Calls Try.prog 25 #[.slice A n c] w (Gives w (tellW kW (gatherG L))) := by
  have HL := Lib.hid hL
  have HLN := Lib.hid hL.1
  have HOK := Lib.hid hok
  clear hL hok
  go_enter Try.func25, Try.ntmps25
  go_wp2_with fail
  refine (kindW_any w).mono ?_
  rintro e w1 ⟨rfl, hf1⟩
  have HF1 := Lib.hid hf1
  clear hf1
  go_wp2_with fail
  refine (gatherW_any A n c L w1 (HL.out.fr HF1.out (fun _ _ h => h)) hn).mono ?_
  rintro e w2 ⟨A2, c2, rfl, hO2, hf2⟩
  have hgl := gather_len L
  rw [HLN.out] at hgl
  have hcap := (own_cap hO2).2.1
  have htell := tellW_any A2 (gatherG L).length c2 (gatherG L) w2 hO2.grs hcap (fun ad e => (hO2.lt ad.block (by rw [e]; rfl)).2) (by omega) (mem_gather HOK.out) (fun g hg => by have h1 := gather_mem hg; have h2 := HLN.out; omega)
  have HTELL := Lib.hid htell
  have HF2 := Lib.hid (HF1.out.trans hf2 (fun _ _ h => h))
  obtain ⟨NG, hNG⟩ : ∃ NG, NG = (gatherG L).length := ⟨_, rfl⟩
  rw [← hNG] at HTELL ⊢
  clear hO2 hf2 hgl hcap htell HF1 hNG
  go_wp2_with fail
  refine HTELL.out.mono ?_
  rintro e w3 ⟨A3, c3, rfl, hO3, hf3⟩
  have HO3 := Lib.hid (hO3.base HF2.out.size)
  have HF3 := Lib.hid (HF2.out.trans hf3 (fun _ _ h => h))
  clear hO3 hf3 HTELL
  go_wp2_with fail
  go_ret
  exact ⟨A3, c3, rfl, HO3.out, HF3.out⟩
end Go.Proofs.Ytohbcepbodcapaa
namespace Go.Proofs.Ytohbcepbodcapaa
open Go.RowKit Mem Go.Lib RleM LebM VaM
attribute [local go_sem ↓] Go.wp_at_zero Go.wp_at_succ
set_option linter.unusedVariables false

def OwnV (w : World) (base : Nat) (A : Option Addr) (c : Nat) (L : List V) : Prop := w.ownsRow base 38 4 (.slice A L.length c) L.length (L.flatMap vls)
theorem OwnV.nil (w : World) (base : Nat) : OwnV w base none 0 [] := World.ownsRow_nil _ _ _ _
theorem OwnV.base {w : World} {b b' c : Nat} {A : Option Addr} {L : List V} (h : OwnV w b A c L) (hb : b' ≤ b) : OwnV w b' A c L := own_base h hb
theorem OwnV.fr {w w' : World} {base c : Nat} {A : Option Addr} {L : List V} (h : OwnV w base A c L) (hf : Fr (fun _ => False) w w') : OwnV w' base A c L := hf.own h (fun _ _ h => h)
theorem OwnV.snoc {w : World} {base c : Nat} {A : Option Addr} {L : List V} {t : V} {N : Nat} (hN : N = L.length + 1) (h : w.ownsRow base 38 4 (.slice A N c) N (L.flatMap vls ++ vls t)) : OwnV w base A c (L ++ [t]) := by
  unfold OwnV
  rw [List.flatMap_append, List.flatMap_singleton, List.length_append, List.length_singleton, ← hN]
  exact h
theorem OwnV.vls {w : World} {base c : Nat} {A : Option Addr} {L : List V} (h : OwnV w base A c L) : Vls w A L.length L := by
  refine ⟨rfl, fun k t ht => ?_⟩
  have hk := (List.getElem?_eq_some_iff.1 ht).1
  rcases h.2 with ⟨hv, h0⟩ | ⟨g, cap, cur, hv, _⟩
  · injection hv with _ h1 h2
    omega
  · have hA : A = some ⟨g, 0, none⟩ := by injection hv
    subst hA
    have hc := h.cells (g := g) rfl
    have hadd : ∀ j, (⟨g, 0, none⟩ : Addr).add j = ⟨g, j, none⟩ := fun j => by unfold Addr.add; split <;> simp_all
    have hf := v_flat L k t ht
    refine ⟨g, 0, rfl, (h.lt g rfl).2, ?_, ?_, ?_, ?_⟩
    all_goals rw [Nat.zero_add, ← hadd]
    · exact hc _ _ (by rw [show k * 4 = k * 4 + 0 from rfl, hf 0 (by omega)]; rfl)
    · exact hc _ _ (by rw [hf 1 (by omega)]; rfl)
    · exact hc _ _ (by rw [hf 2 (by omega)]; rfl)
    · exact hc _ _ (by rw [hf 3 (by omega)]; rfl)
/-- rows of unlike elements lie apart -/
theorem own_apart {w : World} {b1 b2 s1 s2 n1 n2 : Nat} {e1 e2 : TypeId} {v1 v2 : Value} {x1 x2 : List Value} (h1 : w.ownsRow b1 e1 s1 v1 n1 x1) (h2 : w.ownsRow b2 e2 s2 v2 n2 x2) (hne : e1 ≠ e2) {k : Nat} (hk : v1.ownBlock = some k) : v2.ownBlock ≠ some k := by
  rcases h1.2 with ⟨rfl, _⟩ | ⟨g, cap, cur, rfl, _, hr, _⟩
  · cases hk
  · rcases h2.2 with ⟨rfl, _⟩ | ⟨g', cap', cur', rfl, _, hr', _⟩
    · intro h; cases h
    · intro h
      have e1' : g = k := by simpa [Value.ownBlock] using hk
      have e2' : g' = k := by simpa [Value.ownBlock] using h
      rw [e1'] at hr
      rw [e2', hr] at hr'
      injection hr' with hr'
      injection hr' with _ hr' _
      exact hne hr'
theorem made_rep (zs : List Value) (hz : 0 < zs.length) : ∀ n : Nat, madeCells zs.toArray (n * zs.length) = ((List.replicate n zs).flatten).toArray := by
  intro n
  apply Array.ext'
  show (madeCells _ _).toList = (List.replicate n zs).flatten
  simp only [madeCells, Array.toList_map, Array.toList_range]
  induction n with
  | zero => simp
  | succ n ih =>
    rw [Nat.add_mul, Nat.one_mul, List.range_add, List.map_append, ih, List.replicate_succ', List.flatten_append, List.flatten_singleton]
    congr 1
    rw [List.map_map]
    apply List.ext_getElem (by simp)
    intro j h1 h2
    have e : (n * zs.length + j) % zs.length = j := by rw [Nat.mul_comm, Nat.mul_add_mod, Nat.mod_eq_of_lt h2]
    simp [e, h2]
theorem own_list15 {w : World} {base c N : Nat} {A : Option Addr} {B C D : List UInt8} (hD : D = B ++ C) (hN : N = D.length) (h : w.ownsRow base 5 1 (.slice A N c) N (B.map bytec ++ C.map bytec)) : Own w base A c D := by
  unfold Own
  rw [← hN, hD, List.map_append]
  exact h
theorem valTC : ElemTyS Try.prog 53 38 (valc zeroV) 4 40 := ⟨Try.underlying53, by kernel_rfl, rfl, by decide⟩

/-- 'make([]T, m)' of cells, of values -/
theorem mkCn (m : Nat) (hm : m ≤ 4000000) (w : World) : (Instr.makeSlice 46 (.int .i64 (m : Int)) (.int .i64 (m : Int))).run Try.prog w = .ok (.slice (some ⟨w.heap.size, 0, none⟩) m m) (w.alloc (.cells ((List.replicate m ((false, 0) : Bool × Int)).flatMap (ccells nv)).toArray 68)) := by
  obtain ⟨i, hi, hz, hs, hb⟩ : ∃ i, Try.prog.info? 68 = some i ∧ i.zero = some (.agg #[.bool false, (.int .i64 0)]) ∧ i.size = 2 ∧ i.bytes = 16 := by
    have h := cellTC.info
    cases hq : Try.prog.info? 68 with
    | none => rw [hq] at h; cases h
    | some i =>
      rw [hq] at h
      simp only [Option.map_some, Option.some.injEq, Prod.mk.injEq] at h
      exact ⟨i, rfl, h.1, h.2.1, h.2.2⟩
  have h := run_makeSlice (P := Try.prog) w 46 68 i _ Try.underlying46 hi hz .i64 .i64 (m : Int) (m : Int) (by omega) (by omega) (by rw [hs]; omega) (by rw [hb]; omega) (by omega)
  rw [h, hs, Int.toNat_natCast]
  refine congrArg (fun q => Result.ok _ (w.alloc (.cells q 68))) ?_
  have e := made_rep [.bool false, .int .i64 0] (by simp) m
  rw [List.flatMap_def, List.map_replicate]
  exact e
theorem mkVn (m : Nat) (hm : m ≤ 1000000) (w : World) : (Instr.makeSlice 53 (.int .i64 (m : Int)) (.int .i64 (m : Int))).run Try.prog w = .ok (.slice (some ⟨w.heap.size, 0, none⟩) m m) (w.alloc (.cells ((List.replicate m zeroV).flatMap vls).toArray 38)) := by
  obtain ⟨i, hi, hz, hs, hb⟩ : ∃ i, Try.prog.info? 38 = some i ∧ i.zero = some (valc zeroV) ∧ i.size = 4 ∧ i.bytes = 40 := by
    have h := valTC.info
    cases hq : Try.prog.info? 38 with
    | none => rw [hq] at h; cases h
    | some i =>
      rw [hq] at h
      simp only [Option.map_some, Option.some.injEq, Prod.mk.injEq] at h
      exact ⟨i, rfl, h.1, h.2.1, h.2.2⟩
  have h := run_makeSlice (P := Try.prog) w 53 38 i _ Try.underlying53 hi hz .i64 .i64 (m : Int) (m : Int) (by omega) (by omega) (by rw [hs]; omega) (by rw [hb]; omega) (by omega)
  rw [h, hs, Int.toNat_natCast]
  refine congrArg (fun q => Result.ok _ (w.alloc (.cells q 38))) ?_
  have e := made_rep (vls zeroV) (by simp [vls]) m
  rw [List.flatMap_def, List.map_replicate]
  exact e
theorem vls_len (L : List V) : (L.flatMap vls).length = L.length * 4 := flat_klen _ 4 (fun _ => rfl) L
/-- a block that is known whole is a row of one's own -/
theorem own_rowV {w : World} {base g n : Nat} {G : List V} (hn : G.length = n) (hr : Row w g 38 (G.flatMap vls)) (hb : base ≤ g) (hx : n ≤ maxLen) : OwnV w base (some ⟨g, 0, none⟩) n G := by
  subst hn
  exact ⟨vls_len G, .inr ⟨g, G.length, (G.flatMap vls).toArray, rfl, hb, hr, Nat.le_refl _, hx, by rw [List.size_toArray, vls_len], by rw [← vls_len]; exact List.take_length⟩⟩
theorem own_rowC {w : World} {base g n : Nat} {G : List (Bool × Int)} (hn : G.length = n) (hr : Row w g 68 (G.flatMap (ccells nv))) (hb : base ≤ g) (hx : n ≤ maxLen) : OwnC nv 68 w base (some ⟨g, 0, none⟩) n G := by
  subst hn
  have e : (G.flatMap (ccells nv)).length = G.length * 2 := flat_klen _ 2 (fun _ => rfl) G
  exact ⟨e, .inr ⟨g, G.length, (G.flatMap (ccells nv)).toArray, rfl, hb, hr, Nat.le_refl _, hx, by simp [e], by rw [← e]; exact List.take_length⟩⟩
/-- the row's front is filled -/
def fillV (F : List V) (n : Nat) : List V := F ++ List.replicate (n - F.length) zeroV
theorem fillV_full (F : List V) : fillV F F.length = F := by simp [fillV]
theorem fillV_set (F : List V) (n : Nat) (t : V) (h : F.length < n) : (fillV F n).set F.length t = fillV (F ++ [t]) n := by
  unfold fillV
  obtain ⟨m, hm⟩ : ∃ m, n - F.length = m + 1 := ⟨n - F.length - 1, by omega⟩
  have hm2 : n - (F ++ [t]).length = m := by rw [List.length_append, List.length_singleton]; omega
  rw [hm, hm2, List.set_append_right _ _ (Nat.le_refl _), Nat.sub_self, List.replicate_succ, List.set_cons_zero, List.append_assoc, List.singleton_append]
theorem fillV_at (F : List V) (n : Nat) (h : F.length < n) : (fillV F n)[F.length]? = some zeroV := by
  unfold fillV
  rw [List.getElem?_append_right (Nat.le_refl _), Nat.sub_self, List.getElem?_replicate, if_pos (by omega)]
theorem vls_set : ∀ (G : List V) (k : Nat) (t : V), ((((G.flatMap vls).set (k * 4) (.int .i64 t.k)).set (k * 4 + 1) (.int .u64 (t.u : Int))).set (k * 4 + 2) (.int .i64 t.n)).set (k * 4 + 3) (.string (txt t.s)) = (G.set k t).flatMap vls
  | [], k, t => rfl
  | x :: G, 0, t => rfl
  | x :: G, k + 1, t => by
    have e : (k + 1) * 4 = k * 4 + 1 + 1 + 1 + 1 := by omega
    rw [e]
    show _ :: _ :: _ :: _ :: ((((G.flatMap vls).set (k * 4) (.int .i64 t.k)).set (k * 4 + 1) (.int .u64 (t.u : Int))).set (k * 4 + 2) (.int .i64 t.n)).set (k * 4 + 3) (.string (txt t.s)) = _ :: _ :: _ :: _ :: (G.set k t).flatMap vls
    rw [vls_set G k t]

theorem cSz : (Try.prog.info? 68).map (·.size) = some 2 := by kernel_rfl
theorem c_one (a : Bool) (x : Int) : ([Value.bool a, .int .i64 x] : List Value).toArray.all (·.oneCell') = true := by simp [Value.oneCell']
def cellc (c : Bool × Int) : Value := .agg #[.bool c.1, .int .i64 c.2]
set_option maxRecDepth 100000 in
set_option maxHeartbeats 1600000 in
theorem cellOf_any (k : Int) (m : Nat) (w : World) (hk : 0 ≤ k ∧ k ≤ 8) (hm : m ≤ 4000) :
    Calls Try.prog 34 #[.int .i64 k, .int .i64 (m : Int)] w fun e w' => e = .returned (cellc (if k = 0 then (false, 0) else (true, 16 * (m : Int) + k))) ∧ Fr (fun _ => False) w w' := by
  obtain ⟨g, hg⟩ : ∃ g, w.heap.size = g := ⟨_, rfl⟩
  obtain ⟨w1, hw1⟩ : ∃ w1, w.alloc (.cells #[.bool false, .int .i64 0] 68) = w1 := ⟨_, rfl⟩
  have hf1 : Fr (fun _ => False) w w1 := by rw [← hw1]; exact (Fr.refl _ _).alloc _
  have hr1 : Row w1 g 68 [.bool false, .int .i64 0] := by rw [← hw1, ← hg]; exact Row.new w _ _
  have HF1 := Lib.hid hf1
  have HR1 := Lib.hid hr1
  have HG := Lib.hid hg
  clear hf1 hr1
  by_cases h0 : k = 0
  · subst h0
    rw [if_pos rfl]
    clear hk
    go_enter Try.func34, Try.ntmps34
    go_upto_region 1 with fail
    clear hw1 hg
    go_wp2_with (refine store_st cSz rfl (.tmp 4) (.tmp 7) rfl g (by rfl) [.bool false, .int .i64 0] (by rfl) _ _ HR1.out rfl rfl (c_one _ _) ?_)
    intro w5 hr5 hf5
    have HF5 : Hid (Fr (fun _ => False) w w5) := Lib.hid (HF1.out.trans hf5 (fun b hb h => by have h1 := HG.out; omega))
    have d0 : w5.cell? ⟨g, 0, none⟩ = some (.bool false) := hr5.cell rfl
    have d1 : w5.cell? ⟨g, 1, none⟩ = some (.int .i64 0) := hr5.cell rfl
    clear hr5 hf5
    go_wp2_with fail
    exact bodyPost_ret (v := cellc (false, 0)) (by simp [results, cellc, Try.results34, go_sem, d0, d1]) rfl ⟨rfl, HF5.out⟩
  · rw [if_neg h0]
    have t0 : (k == 0) = false := by simp; exact h0
    have r1 : IntKind.i64.wrap ((m : Int) * 16) = (m : Int) * 16 := by rw [IntKind.wrap_i64]; omega
    have r2 : IntKind.i64.wrap ((m : Int) * 16 + k) = 16 * (m : Int) + k := by rw [IntKind.wrap_i64]; omega
    clear hk hm h0
    go_enter Try.func34, Try.ntmps34
    go_upto_region 1 with fail
    clear hw1 hg
    go_wp2_with (refine store_st cSz rfl (.tmp 4) (.tmp 12) rfl g (by rfl) [.bool true, .int .i64 (16 * (m : Int) + k)] (by rfl) _ _ HR1.out rfl rfl (c_one _ _) ?_)
    intro w5 hr5 hf5
    have HF5 : Hid (Fr (fun _ => False) w w5) := Lib.hid (HF1.out.trans hf5 (fun b hb h => by have h1 := HG.out; omega))
    have d0 : w5.cell? ⟨g, 0, none⟩ = some (.bool true) := hr5.cell rfl
    have d1 : w5.cell? ⟨g, 1, none⟩ = some (.int .i64 (16 * (m : Int) + k)) := hr5.cell rfl
    clear hr5 hf5
    go_wp2_with fail
    exact bodyPost_ret (v := cellc (true, 16 * (m : Int) + k)) (by simp [results, cellc, Try.results34, go_sem, d0, d1]) rfl ⟨rfl, HF5.out⟩
end Go.Proofs.Ytohbcepbodcapaa
