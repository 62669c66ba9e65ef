import Derived.Test.YtbabgnadgdidmaaGreatZm00
import Derived.Test.YtbabgnadgdidmaaGreatZm18
import Derived.Test.YtbabgnadgdidmaaGreatZm05
import Derived.Lib.Hide
import Derived.Deep.QuietTactic
import Derived.BigQuiet
import Derived.StillTailTactics
import Derived.Deep.DrawnRows
import Derived.Test.YtbabgnadgdidmaaGreatZm27
set_option linter.unusedVariables false
set_option maxRecDepth 100000
set_option maxHeartbeats 12800000
namespace Go.Proofs.YtbabgnadgdidmaaGreat
section
open Go.RowKit Mem Go.Lib BooM
attribute [local go_sem ↓] Go.wp_at_zero Go.wp_at_succ
def boc (b : Bool) : Value := .bool b
theorem boc_one (l : List Bool) : ∀ u ∈ l.map boc, u.oneCell' = true := by
 intro u hu;obtain ⟨b, _, rfl⟩ := List.mem_map.1 hu;rfl
theorem uT13 : ElemTy Tryz.prog 179 51 (.int .u64 0) 8 := ⟨Tryz.underlying179, by kernel_rfl, rfl⟩
theorem bT13 : ElemTy Tryz.prog 70 4 (.bool false) 1 := ⟨Tryz.underlying70, by kernel_rfl, rfl⟩
def OwU (w : World) (base : Nat) (A : Option Addr) (c : Nat) (N : List Nat) : Prop := w.ownsRow base 51 1 (.slice A N.length c) N.length (N.map numc)
def OwB (w : World) (base : Nat) (A : Option Addr) (c : Nat) (L : List Bool) : Prop := w.ownsRow base 4 1 (.slice A L.length c) L.length (L.map boc)
theorem OwU.nil (w : World) (base : Nat) : OwU w base none 0 [] := World.ownsRow_nil _ _ _ _
theorem OwB.nil (w : World) (base : Nat) : OwB w base none 0 [] := World.ownsRow_nil _ _ _ _
theorem OwU.fr {w w' : World} {base c : Nat} {A : Option Addr} {N : List Nat} (h : OwU w base A c N) (hf : Fr (fun _ => False) w w') : OwU w' base A c N := hf.own h (fun _ _ h => h)
theorem OwB.fr {w w' : World} {base c : Nat} {A : Option Addr} {L : List Bool} (h : OwB w base A c L) (hf : Fr (fun _ => False) w w') : OwB w' base A c L := hf.own h (fun _ _ h => h)
theorem OwU.rd {w : World} {base c : Nat} {A : Option Addr} {N : List Nat} (h : OwU w base A c N) : Rd w A N.length (N.map numc) := Rd.of_own h
theorem OwB.rd {w : World} {base c : Nat} {A : Option Addr} {L : List Bool} (h : OwB w base A c L) : Rd w A L.length (L.map boc) := Rd.of_own h
theorem OwU.snoc {w : World} {base c n : Nat} {A : Option Addr} {N : List Nat} {x : Nat} (hn : N.length = n) (h : w.ownsRow base 51 1 (.slice A (n + 1) c) (n + 1) (N.map numc ++ [.int .u64 (x : Int)])) : OwU w base A c (N ++ [x]) := by
 subst hn;unfold OwU;rw [List.length_append, List.map_append, List.map_singleton];exact h
theorem OwB.snoc {w : World} {base c n : Nat} {A : Option Addr} {N : List Bool} {x : Bool} (hn : N.length = n) (h : w.ownsRow base 4 1 (.slice A (n + 1) c) (n + 1) (N.map boc ++ [.bool x])) : OwB w base A c (N ++ [x]) := by
 subst hn;unfold OwB;rw [List.length_append, List.map_append, List.map_singleton];exact h
theorem OwU.last {w : World} {base g c m : Nat} {L : List Nat} (h : OwU w base (some ⟨g, 0, none⟩) c (L ++ [m])) (m' : Nat) :
    OwU (w.setCell ⟨g, L.length, none⟩ (.int .u64 (m' : Int))) base (some ⟨g, 0, none⟩) c (L ++ [m']) := by
 have hl : (L ++ [m']).length = (L ++ [m]).length := by simp
 unfold OwU at h ⊢;rw [hl];have h2 := (h.stored L.length (.int .u64 (m' : Int))).1;have e : ((L ++ [m]).map numc).set L.length (.int .u64 (m' : Int)) = (L ++ [m']).map numc := by
  rw [List.map_append, List.map_append, List.set_append_right _ _ (by simp)];simp [numc]
 rw [e] at h2;exact h2
theorem own_u1 {w : World} (b base : Nat) (hb : base ≤ w.heap.size) {k : Nat} (hk : k = w.heap.size) : OwU (w.alloc (.cells #[.int .u64 (b : Int)] 51)) base (some ⟨k, 0, none⟩) 1 [b] := by
 subst hk;exact World.ownsRow_lit (size := 1) w #[numc b] 1 hb (by decide) rfl
theorem numbers_any (A : Option Addr) (n c : Nat) (L : List Bool) (w : World) (hL : Rd w A n (L.map boc)) (hn : n ≤ 1000000) :
    Calls Tryz.prog 99 #[.slice A n c] w fun e w' => ∃ A' c', e = .returned (.slice A' (numsB L).length c') ∧ OwU w' w.heap.size A' c' (numsB L) ∧ Fr (fun _ => False) w w' := by
 have HL := hid hL;have hln : L.length = n := by simpa using hL.1
 have HLN := hid hln;clear hL hln;obtain ⟨base, hbase⟩ : ∃ base, base = w.heap.size := ⟨_, rfl⟩
 have HB := hid hbase;rw [← hbase];clear hbase;obtain ⟨R, hR⟩ : ∃ R, R = numsB L := ⟨_, rfl⟩
 rw [← hR];have HR := hid hR;clear hR;go_enter Tryz.func99, Tryz.ntmps99;go_wp2_with fail;obtain ⟨w0, hw0⟩ := nm_ (w.alloc (.cells #[.int .u64 0] 51));rw [hw0];obtain ⟨g0, hg0⟩ := nm_ w.heap.size;rw [hg0];have HO0 : Hid (OwU w0 base (some ⟨g0, 0, none⟩) 1 [0]) := hid (by rw [← hw0]; exact own_u1 0 base (Nat.le_of_eq HB.out) hg0.symm);have HF0 : Hid (Fr (fun _ => False) w w0) := hid (by rw [← hw0]; exact (Fr.refl _ _).alloc _);clear hw0 hg0
 go_loopw [3, 4, 10] (fun s x v wr => ∃ (j : Nat) (M : List Nat) (k : Nat) (y : Bool) (g c1 p : Nat), j ≤ n ∧ v = .int .i64 (j : Int) ∧ x = .bool y ∧ s = .slice (some ⟨g, 0, none⟩) (p + 1) c1 ∧ Hid (p = M.length) ∧ p ≤ j ∧ k ≤ j ∧ Hid (stB (L.take j) = (M ++ [k], y)) ∧
  Hid (OwU wr base (some ⟨g, 0, none⟩) c1 (M ++ [k])) ∧ Hid (Fr (fun _ => False) w wr)) (fun _ _ v _ => n - (intOf v).toNat)
 case atStart => exact ⟨0, [], 0, false, g0, 1, 0, Nat.zero_le _, rfl, rfl, rfl, rfl, Nat.le_refl _, Nat.le_refl _, rfl, HO0.out, HF0.out⟩
 case round =>
  obtain ⟨j, M, k, y, g, c1, p, hj, rfl, rfl, rfl, HP, hpj, hkj, HS, HO, HF⟩ := hrel
  rename World => wr
  have hp := HP.out;by_cases hlt : j < n
  · obtain ⟨ad, v, rfl, hv, hcell⟩ := (HL.out.fr HF.out (fun _ _ h => h)).at_ hlt;obtain ⟨x, hx⟩ : ∃ x, L[j]? = some x := ⟨L[j]'(by have := HLN.out; omega), List.getElem?_eq_getElem _⟩
    obtain rfl : boc x = v := by simpa [hx] using hv
    unfold boc at hcell;have hnext : stB (L.take (j + 1)) = addB (stB (L.take j)) x := by rw [List.take_add_one, hx]; exact st_snoc _ _
    by_cases hxy : x = y
    · subst hxy;have hs2 : stB (L.take (j + 1)) = (M ++ [k + 1], x) := by rw [hnext, HS.out, add_same]
      have HS2 := hid hs2;obtain ⟨g', e', hc, hfz⟩ := own_at (i := p) (u := numc k) HO.out (by rw [hp]; simp);obtain rfl : g = g' := by injection e' with e'; injection e'
      unfold numc at hc;have t1 : (x != x) = false := by simp
      have r1 : IntKind.u64.wrap ((k : Int) + 1) = ((k + 1 : Nat) : Int) := by rw [IntKind.wrap_u64]; omega
      have r2 : IntKind.i64.wrap (((p + 1 : Nat) : Int) - 1) = (p : Int) := by rw [IntKind.wrap_i64]; omega
      have hlast := HO.out.last (k + 1);rw [← hp] at hlast;have HO2 := hid hlast;have HF2 := hid ((HF.out).setCell (p := ⟨g, p, none⟩) (fun h => by have h1 := (HO.out.lt g rfl).1; have h2 := HB.out; dsimp only at h; omega) (.int .u64 ((k + 1 : Nat) : Int)));clear hv hx hnext hs2 hlast hp;go_wp2_with fail
      go_roundw
      case rel => exact ⟨j + 1, M, k + 1, x, g, c1, p, by omega, by go_num, rfl, rfl, HP.out, by omega, by omega, HS2.out, HO2.out, HF2.out⟩
      case measure => simp [intOf] <;> omega
    · have hs2 : stB (L.take (j + 1)) = (M ++ [k] ++ [1], x) := by rw [hnext, HS.out, add_other _ _ _ hxy]
      have HS2 := hid hs2;have t1 : (x == y) = false := by simpa using hxy
      have hown : wr.ownsRow base 51 1 (.slice (some ⟨g, 0, none⟩) (p + 1) c1) (p + 1) ((M ++ [k]).map numc) := by have h := HO.out; unfold OwU at h; rw [List.length_append, List.length_singleton, ← hp] at h; exact h
      obtain ⟨X, hX⟩ : ∃ X, X = (M ++ [k]).map numc := ⟨_, rfl⟩
      rw [← hX] at hown;have HX := hid hX;have HOW := hid hown;have hb : base ≤ wr.heap.size := by have := HB.out; have := HF.out.size; omega
      have hpn : p ≤ 1000000 := by omega
      clear hv hx hnext hs2 hown hp hX;go_wp2_with (at_builtin; refine wpList_app uT13 _ rfl _ _ rfl base _ _ _ rfl (HOW.out.alloc _) _ _ _ _ rfl (Rd.one _ _ _) (one_one _ _) (by unfold maxLen; omega) (by omega) (by simp; omega) ?_)
      intro A' c' w' _ _ hown' hfr' _;have hp := HP.out;rw [HX.out] at hown';have hO3 : OwU w' base A' c' (M ++ [k] ++ [0]) := OwU.snoc (by rw [List.length_append, List.length_singleton, hp]) hown';obtain ⟨g', e', hc, hfz⟩ := own_at (i := p + 1) (u := numc 0) hO3 (by rw [hp]; simp);subst e';unfold numc at hc;have r1 : IntKind.u64.wrap (((0 : Nat) : Int) + 1) = ((1 : Nat) : Int) := by rw [IntKind.wrap_u64]; omega
      have r2 : IntKind.i64.wrap (((p + 1 + 1 : Nat) : Int) - 1) = ((p + 1 : Nat) : Int) := by rw [IntKind.wrap_i64]; omega
      have hlast := hO3.last 1;rw [List.length_append, List.length_singleton, ← hp] at hlast;have HO2 := hid hlast;have hfw : Fr (fun _ => False) w w' := (HF.out.alloc _).trans hfr' (fun b hb h => by have h1 := (HOW.out.lt b h).1; have := HB.out; omega);have HF2 := hid (hfw.setCell (p := ⟨g', p + 1, none⟩) (fun h => by have h1 := (hO3.lt g' rfl).1; have h2 := HB.out; dsimp only at h; omega) (.int .u64 ((1 : Nat) : Int)));clear hlast hfw hO3 hown' hfr' hp;go_wp2_with fail
      go_roundw
      case rel => exact ⟨j + 1, M ++ [k], 1, x, g', c', p + 1, by omega, by go_num, rfl, rfl, by show _ = _; rw [List.length_append, List.length_singleton, HP.out], by omega, by omega, HS2.out, HO2.out, HF2.out⟩
      case measure => simp [intOf] <;> omega
  · obtain rfl : j = n := by omega
    have he : R = M ++ [k] := by
     have h := HS.out;rw [List.take_of_length_le (by have := HLN.out; omega)] at h;rw [HR.out];exact congrArg Prod.fst h
    have hRl : R.length = p + 1 := by rw [he, List.length_append, List.length_singleton, hp]
    have HE := hid he;have HRL := hid hRl;clear he hRl hp;go_wp2_with fail;go_ret;refine ⟨some ⟨g, 0, none⟩, c1, by rw [HRL.out]; rfl, ?_, HF.out⟩;rw [HE.out];exact HO.out
end
section
open Go.RowKit Mem Go.Lib RleM LebM
attribute [local go_sem ↓] Go.wp_at_zero Go.wp_at_succ
theorem mem_gather {κ : Type} [DecidableEq κ] {p : κ → Prop} {L : List κ} (h : ∀ x ∈ L, p x) : ∀ g ∈ gatherG L, p g.1 := by
 revert h;refine snoc_ind (p := fun L => (∀ x ∈ L, p x) → ∀ g ∈ gatherG L, p g.1) (fun _ g hg => by cases hg) (fun l x ih h g hg => ?_) L;rw [gather_snoc] at hg;rcases mem_addG hg with e | ⟨g', hg', e⟩
 · rw [e]; exact h x (by simp)
 · rw [← e]; exact ih (fun y hy => h y (by simp [hy])) g' hg'
theorem kdSzU : (Tryz.prog.info? 166).map (·.size) = some 2 := by kernel_rfl
theorem kd_oneU : ([Value.func (.func 124) #[] #[], .func (.func 125) #[] #[]] : List Value).toArray.all (·.oneCell') = true := by simp [Value.oneCell']
theorem kindU_any (w : World) : Calls Tryz.prog 92 #[] w fun e w' => e = .returned (.agg #[.func (.func 124) #[] #[], .func (.func 125) #[] #[]]) ∧ Fr (fun _ => False) w w' := by
 obtain ⟨w1, hw1⟩ := nm_ (w.alloc (.cells #[Value.nilFunc, Value.nilFunc] 166));obtain ⟨q, hq⟩ := nm_ w.heap.size;have hf1 : Fr (fun _ => False) w w1 := by rw [← hw1]; exact (Fr.refl _ _).alloc _
 have hqb : Row w1 q 166 [Value.nilFunc, Value.nilFunc] := by rw [← hw1, ← hq]; exact Row.new w _ _
 have HF1 := hid hf1;have HQB := hid hqb;have HQ := hid hq;clear hf1 hqb;go_enter Tryz.func92, Tryz.ntmps92
 go_upto_region 1 with fail
 clear hw1 hq;go_wp2_with (refine store_st kdSzU rfl (.tmp 0) (.tmp 1) rfl q (by rfl) [.func (.func 124) #[] #[], .func (.func 125) #[] #[]] (by rfl) _ _ HQB.out rfl rfl kd_oneU ?_)
 intro w5 hr5 hf5;have HF5 : Hid (Fr (fun _ => False) w w5) := hid (HF1.out.trans hf5 (fun b hb h => by have h1 := HQ.out; omega));have d0 : w5.cell? ⟨q, 0, none⟩ = some (.func (.func 124) #[] #[]) := hr5.cell rfl;have d1 : w5.cell? ⟨q, 1, none⟩ = some (.func (.func 125) #[] #[]) := hr5.cell rfl;clear hr5 hf5;go_wp2_with fail;exact bodyPost_ret (v := .agg #[.func (.func 124) #[] #[], .func (.func 125) #[] #[]]) (by simp [results, Tryz.results92, go_sem, d0, d1]) rfl ⟨rfl, HF5.out⟩
theorem pPut_any (A : Option Addr) (n c : Nat) (L : List (Bool × Int)) (w : World) (hL : Cls nv w A n L) (hn : n ≤ 1000000) (hok : ∀ x ∈ L, okU x) :
    Calls Tryz.prog 51 #[.slice A n c] w (Gives w (tellW kU (gatherG L))) := by
 have HL := hid hL;have HLN := hid hL.1;have HOK := hid hok;clear hL hok;go_enter Tryz.func51, Tryz.ntmps51;go_wp2_with fail;refine (kindU_any w).mono ?_;rintro e w1 ⟨rfl, hf1⟩;have HF1 := hid hf1;clear hf1;go_wp2_with fail;refine (gatherC_any A n c L w1 (HL.out.fr HF1.out (fun _ _ h => h)) hn).mono ?_;rintro e w2 ⟨A2, c2, rfl, hO2, hf2⟩;have hgl := gather_len L;rw [HLN.out] at hgl;have hcap := (own_cap hO2).2.1;have htell := tellU_any A2 (gatherG L).length c2 (gatherG L) w2 hO2.grs hcap (fun ad e => (hO2.lt ad.block (by rw [e]; rfl)).2) (by omega) (mem_gather HOK.out) (fun g hg => by have h1 := gather_mem hg; have h2 := HLN.out; omega);have HTELL := hid htell;have HF2 := hid (HF1.out.trans hf2 im_);obtain ⟨NG, hNG⟩ : ∃ NG, NG = (gatherG L).length := ⟨_, rfl⟩
 rw [← hNG] at HTELL ⊢;clear hO2 hf2 hgl hcap htell HF1 hNG;go_wp2_with fail;refine HTELL.out.mono ?_;rintro e w3 ⟨A3, c3, rfl, hO3, hf3⟩;have HO3 := hid (hO3.base HF2.out.size);have HF3 := hid (HF2.out.trans hf3 im_);clear hO3 hf3 HTELL;go_wp2_with fail;go_ret;exact ⟨A3, c3, rfl, HO3.out, HF3.out⟩
theorem pGet_any (A : Option Addr) (n c : Nat) (B : List UInt8) (most : Int) (w : World) (hr : Rd w A n (B.map bytec)) (hc : n ≤ c) (hn : n ≤ 1000000) (hm0 : -9223372036854775808 ≤ most) (hm1 : most ≤ 1000000) :
    Calls Tryz.prog 63 #[.slice A n c, .int .i64 most] w fun e w' =>
     ∃ A' c', e = .returned (.tuple #[.slice A' (toC (readG kU most B)).1.length c', .int .i64 ((toC (readG kU most B)).2 : Nat)]) ∧ OwnC nv 78 w' w.heap.size A' c' (toC (readG kU most B)).1 ∧ Fr (fun _ => False) w w' := by
 have HR := hid hr;have hread := fun (w1 : World) (hf : Fr (fun _ => False) w w1) => readU_any A n c B most w1 (HR.out.fr hf (fun _ _ h => h)) hc hn hm0 hm1;obtain ⟨X, hX⟩ : ∃ X, X = toC (readG kU most B) := ⟨_, rfl⟩
 rw [← hX] at hread ⊢;have HREAD := hid hread;clear hr hread hX;go_enter Tryz.func63, Tryz.ntmps63;go_wp2_with fail;refine (kindU_any w).mono ?_;rintro e w1 ⟨rfl, hf1⟩;have HF1 := hid hf1;clear hf1;go_wp2_with fail;refine (HREAD.out w1 HF1.out).mono ?_;rintro e w2 ⟨A2, c2, rfl, hO2, hf2⟩;have HO2 := hid (hO2.base HF1.out.size);have HF2 := hid (HF1.out.trans hf2 im_);clear hO2 hf2;go_wp2_with fail;refine bodyPost_ret (v := .tuple #[.slice A2 X.1.length c2, .int .i64 (X.2 : Nat)]) (by simp [results, Tryz.results63, go_sem]) rfl ⟨A2, c2, rfl, HO2.out, HF2.out⟩
theorem kdSzS : (Tryz.prog.info? 166).map (·.size) = some 2 := by kernel_rfl
theorem kd_oneS : ([Value.func (.func 157) #[] #[], .func (.func 158) #[] #[]] : List Value).toArray.all (·.oneCell') = true := by simp [Value.oneCell']
theorem kindS_any (w : World) : Calls Tryz.prog 128 #[] w fun e w' => e = .returned (.agg #[.func (.func 157) #[] #[], .func (.func 158) #[] #[]]) ∧ Fr (fun _ => False) w w' := by
 obtain ⟨w1, hw1⟩ := nm_ (w.alloc (.cells #[Value.nilFunc, Value.nilFunc] 166));obtain ⟨q, hq⟩ := nm_ w.heap.size;have hf1 : Fr (fun _ => False) w w1 := by rw [← hw1]; exact (Fr.refl _ _).alloc _
 have hqb : Row w1 q 166 [Value.nilFunc, Value.nilFunc] := by rw [← hw1, ← hq]; exact Row.new w _ _
 have HF1 := hid hf1;have HQB := hid hqb;have HQ := hid hq;clear hf1 hqb;go_enter Tryz.func128, Tryz.ntmps128
 go_upto_region 1 with fail
 clear hw1 hq;go_wp2_with (refine store_st kdSzS rfl (.tmp 0) (.tmp 1) rfl q (by rfl) [.func (.func 157) #[] #[], .func (.func 158) #[] #[]] (by rfl) _ _ HQB.out rfl rfl kd_oneS ?_)
 intro w5 hr5 hf5;have HF5 : Hid (Fr (fun _ => False) w w5) := hid (HF1.out.trans hf5 (fun b hb h => by have h1 := HQ.out; omega));have d0 : w5.cell? ⟨q, 0, none⟩ = some (.func (.func 157) #[] #[]) := hr5.cell rfl;have d1 : w5.cell? ⟨q, 1, none⟩ = some (.func (.func 158) #[] #[]) := hr5.cell rfl;clear hr5 hf5;go_wp2_with fail;exact bodyPost_ret (v := .agg #[.func (.func 157) #[] #[], .func (.func 158) #[] #[]]) (by simp [results, Tryz.results128, go_sem, d0, d1]) rfl ⟨rfl, HF5.out⟩
theorem pPutS_any (A : Option Addr) (n c : Nat) (L : List (Bool × Int)) (w : World) (hL : Cls nv w A n L) (hn : n ≤ 1000000) (hok : ∀ x ∈ L, okS x) :
    Calls Tryz.prog 94 #[.slice A n c] w (Gives w (tellW kS (gatherG L))) := by
 have HL := hid hL;have HLN := hid hL.1;have HOK := hid hok;clear hL hok;go_enter Tryz.func94, Tryz.ntmps94;go_wp2_with fail;refine (kindS_any w).mono ?_;rintro e w1 ⟨rfl, hf1⟩;have HF1 := hid hf1;clear hf1;go_wp2_with fail;refine (gatherC_any A n c L w1 (HL.out.fr HF1.out (fun _ _ h => h)) hn).mono ?_;rintro e w2 ⟨A2, c2, rfl, hO2, hf2⟩;have hgl := gather_len L;rw [HLN.out] at hgl;have hcap := (own_cap hO2).2.1;have htell := tellS_any A2 (gatherG L).length c2 (gatherG L) w2 hO2.grs hcap (fun ad e => (hO2.lt ad.block (by rw [e]; rfl)).2) (by omega) (mem_gather HOK.out) (fun g hg => by have h1 := gather_mem hg; have h2 := HLN.out; omega);have HTELL := hid htell;have HF2 := hid (HF1.out.trans hf2 im_);obtain ⟨NG, hNG⟩ : ∃ NG, NG = (gatherG L).length := ⟨_, rfl⟩
 rw [← hNG] at HTELL ⊢;clear hO2 hf2 hgl hcap htell HF1 hNG;go_wp2_with fail;refine HTELL.out.mono ?_;rintro e w3 ⟨A3, c3, rfl, hO3, hf3⟩;have HO3 := hid (hO3.base HF2.out.size);have HF3 := hid (HF2.out.trans hf3 im_);clear hO3 hf3 HTELL;go_wp2_with fail;go_ret;exact ⟨A3, c3, rfl, HO3.out, HF3.out⟩
theorem pGetS_any (A : Option Addr) (n c : Nat) (B : List UInt8) (most : Int) (w : World) (hr : Rd w A n (B.map bytec)) (hc : n ≤ c) (hn : n ≤ 1000000) (hm0 : -9223372036854775808 ≤ most) (hm1 : most ≤ 1000000) :
    Calls Tryz.prog 104 #[.slice A n c, .int .i64 most] w fun e w' =>
     ∃ A' c', e = .returned (.tuple #[.slice A' (toC (readG kS most B)).1.length c', .int .i64 ((toC (readG kS most B)).2 : Nat)]) ∧ OwnC nv 78 w' w.heap.size A' c' (toC (readG kS most B)).1 ∧ Fr (fun _ => False) w w' := by
 have HR := hid hr;have hread := fun (w1 : World) (hf : Fr (fun _ => False) w w1) => readS_any A n c B most w1 (HR.out.fr hf (fun _ _ h => h)) hc hn hm0 hm1;obtain ⟨X, hX⟩ : ∃ X, X = toC (readG kS most B) := ⟨_, rfl⟩
 rw [← hX] at hread ⊢;have HREAD := hid hread;clear hr hread hX;go_enter Tryz.func104, Tryz.ntmps104;go_wp2_with fail;refine (kindS_any w).mono ?_;rintro e w1 ⟨rfl, hf1⟩;have HF1 := hid hf1;clear hf1;go_wp2_with fail;refine (HREAD.out w1 HF1.out).mono ?_;rintro e w2 ⟨A2, c2, rfl, hO2, hf2⟩;have HO2 := hid (hO2.base HF1.out.size);have HF2 := hid (HF1.out.trans hf2 im_);clear hO2 hf2;go_wp2_with fail;refine bodyPost_ret (v := .tuple #[.slice A2 X.1.length c2, .int .i64 (X.2 : Nat)]) (by simp [results, Tryz.results104, go_sem]) rfl ⟨A2, c2, rfl, HO2.out, HF2.out⟩
theorem kdSzW : (Tryz.prog.info? 175).map (·.size) = some 2 := by kernel_rfl
theorem kd_oneW : ([Value.func (.func 131) #[] #[], .func (.func 132) #[] #[]] : List Value).toArray.all (·.oneCell') = true := by simp [Value.oneCell']
theorem kindW_any (w : World) : Calls Tryz.prog 97 #[] w fun e w' => e = .returned (.agg #[.func (.func 131) #[] #[], .func (.func 132) #[] #[]]) ∧ Fr (fun _ => False) w w' := by
 obtain ⟨w1, hw1⟩ := nm_ (w.alloc (.cells #[Value.nilFunc, Value.nilFunc] 175));obtain ⟨q, hq⟩ := nm_ w.heap.size;have hf1 : Fr (fun _ => False) w w1 := by rw [← hw1]; exact (Fr.refl _ _).alloc _
 have hqb : Row w1 q 175 [Value.nilFunc, Value.nilFunc] := by rw [← hw1, ← hq]; exact Row.new w _ _
 have HF1 := hid hf1;have HQB := hid hqb;have HQ := hid hq;clear hf1 hqb;go_enter Tryz.func97, Tryz.ntmps97
 go_upto_region 1 with fail
 clear hw1 hq;go_wp2_with (refine store_st kdSzW rfl (.tmp 0) (.tmp 1) rfl q (by rfl) [.func (.func 131) #[] #[], .func (.func 132) #[] #[]] (by rfl) _ _ HQB.out rfl rfl kd_oneW ?_)
 intro w5 hr5 hf5;have HF5 : Hid (Fr (fun _ => False) w w5) := hid (HF1.out.trans hf5 (fun b hb h => by have h1 := HQ.out; omega));have d0 : w5.cell? ⟨q, 0, none⟩ = some (.func (.func 131) #[] #[]) := hr5.cell rfl;have d1 : w5.cell? ⟨q, 1, none⟩ = some (.func (.func 132) #[] #[]) := hr5.cell rfl;clear hr5 hf5;go_wp2_with fail;exact bodyPost_ret (v := .agg #[.func (.func 131) #[] #[], .func (.func 132) #[] #[]]) (by simp [results, Tryz.results97, go_sem, d0, d1]) rfl ⟨rfl, HF5.out⟩
theorem pPutW_any (A : Option Addr) (n c : Nat) (L : List (Bool × (List UInt8))) (w : World) (hL : Cls sv w A n L) (hn : n ≤ 1000000) (hok : ∀ x ∈ L, okW x) :
    Calls Tryz.prog 53 #[.slice A n c] w (Gives w (tellW kW (gatherG L))) := by
 have HL := hid hL;have HLN := hid hL.1;have HOK := hid hok;clear hL hok;go_enter Tryz.func53, Tryz.ntmps53;go_wp2_with fail;refine (kindW_any w).mono ?_;rintro e w1 ⟨rfl, hf1⟩;have HF1 := hid hf1;clear hf1;go_wp2_with fail;refine (gatherW_any A n c L w1 (HL.out.fr HF1.out (fun _ _ h => h)) hn).mono ?_;rintro e w2 ⟨A2, c2, rfl, hO2, hf2⟩;have hgl := gather_len L;rw [HLN.out] at hgl;have hcap := (own_cap hO2).2.1;have htell := tellW_any A2 (gatherG L).length c2 (gatherG L) w2 hO2.grs hcap (fun ad e => (hO2.lt ad.block (by rw [e]; rfl)).2) (by omega) (mem_gather HOK.out) (fun g hg => by have h1 := gather_mem hg; have h2 := HLN.out; omega);have HTELL := hid htell;have HF2 := hid (HF1.out.trans hf2 im_);obtain ⟨NG, hNG⟩ : ∃ NG, NG = (gatherG L).length := ⟨_, rfl⟩
 rw [← hNG] at HTELL ⊢;clear hO2 hf2 hgl hcap htell HF1 hNG;go_wp2_with fail;refine HTELL.out.mono ?_;rintro e w3 ⟨A3, c3, rfl, hO3, hf3⟩;have HO3 := hid (hO3.base HF2.out.size);have HF3 := hid (HF2.out.trans hf3 im_);clear hO3 hf3 HTELL;go_wp2_with fail;go_ret;exact ⟨A3, c3, rfl, HO3.out, HF3.out⟩
theorem pGetW_any (A : Option Addr) (n c : Nat) (B : List UInt8) (most : Int) (w : World) (hr : Rd w A n (B.map bytec)) (hc : n ≤ c) (hn : n ≤ 1000000) (hm0 : -9223372036854775808 ≤ most) (hm1 : most ≤ 1000000) :
    Calls Tryz.prog 69 #[.slice A n c, .int .i64 most] w fun e w' =>
     ∃ A' c', e = .returned (.tuple #[.slice A' (toC (readG kW most B)).1.length c', .int .i64 ((toC (readG kW most B)).2 : Nat)]) ∧ OwnC sv 81 w' w.heap.size A' c' (toC (readG kW most B)).1 ∧ Fr (fun _ => False) w w' := by
 have HR := hid hr;have hread := fun (w1 : World) (hf : Fr (fun _ => False) w w1) => readW_any A n c B most w1 (HR.out.fr hf (fun _ _ h => h)) hc hn hm0 hm1;obtain ⟨X, hX⟩ : ∃ X, X = toC (readG kW most B) := ⟨_, rfl⟩
 rw [← hX] at hread ⊢;have HREAD := hid hread;clear hr hread hX;go_enter Tryz.func69, Tryz.ntmps69;go_wp2_with fail;refine (kindW_any w).mono ?_;rintro e w1 ⟨rfl, hf1⟩;have HF1 := hid hf1;clear hf1;go_wp2_with fail;refine (HREAD.out w1 HF1.out).mono ?_;rintro e w2 ⟨A2, c2, rfl, hO2, hf2⟩;have HO2 := hid (hO2.base HF1.out.size);have HF2 := hid (HF1.out.trans hf2 im_);clear hO2 hf2;go_wp2_with fail;refine bodyPost_ret (v := .tuple #[.slice A2 X.1.length c2, .int .i64 (X.2 : Nat)]) (by simp [results, Tryz.results69, go_sem]) rfl ⟨A2, c2, rfl, HO2.out, HF2.out⟩
end
end Go.Proofs.YtbabgnadgdidmaaGreat
