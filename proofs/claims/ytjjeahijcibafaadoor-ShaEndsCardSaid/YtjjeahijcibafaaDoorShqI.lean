/-
  Contract of layer 4's program: Sum.
-/
import Derived.Test.YtjjeahijcibafaaDoorShqH
namespace Go.Proofs.YtjjeahijcibafaaDoor
open Go.RowKit ShaM Mem Go.Lib
attribute [local go_sem ↓] Go.wp_at_zero Go.wp_at_succ

set_option maxRecDepth 100000 in
set_option maxHeartbeats 1600000 in
theorem sum_any (g : Nat) (t : TypeId) (D : List Nat) (w : World) (hH : Ha w g t D) (hG : Gl w) (hD : D.length ≤ 562949953421312) :
    Calls Tryd.prog 15 #[.pointer (some ⟨g, 0, none⟩)] w fun e w' => e = .returned (.agg ((sha keys first D).map byten).toArray) ∧ Fr (fun _ => False) w w' := by
  obtain ⟨ad, buf, hs, hrow⟩ := hH
  obtain ⟨N, hN⟩ : ∃ N, N = D.length := ⟨_, rfl⟩
  rw [← hN] at hrow hD
  have hsl : (sc ad buf N).length = 73 := sc_len hs.al hs.bl
  obtain ⟨L, hL⟩ : ∃ L, L = sc ad buf N := ⟨_, rfl⟩
  have hL1 : ∀ v ∈ L, v.oneCell' = true := by rw [hL]; exact sc_one _ _ _
  rw [← hL] at hrow hsl
  have HS := Lib.hid hs
  have HN := Lib.hid hN
  have HL := Lib.hid hL
  have HLL := Lib.hid hsl
  have HL1 := Lib.hid hL1
  have HROW := Lib.hid hrow
  have HGL := Lib.hid hG
  clear hs hN hL hsl hL1 hrow hG
  go_enter Tryd.func15, Tryd.ntmps15
  go_upto_region 1 with fail
  obtain ⟨Z, hZ⟩ : ∃ Z : List Value, Z = List.replicate 32 (.int .u8 0) := ⟨_, rfl⟩
  obtain ⟨w0, hw0⟩ : ∃ w0, w.alloc (.cells Z.toArray 25) = w0 := ⟨_, rfl⟩
  have hw0' := hw0
  rw [hZ] at hw0'
  change Code.wp _ _ _ _ (w.alloc (.cells (List.replicate 32 (Value.int .u8 0)).toArray 25))
  rw [hw0']
  obtain ⟨g0, hg0⟩ : ∃ g0, g0 = w.heap.size := ⟨_, rfl⟩
  have hr0 : Row w0 g0 25 Z := by rw [← hw0, hg0]; exact Row.new _ _ _
  have hf0 : Fr (fun _ => False) w w0 := by rw [← hw0]; exact (Fr.refl _ _).alloc _
  have hzl : Z.length = 32 := by rw [hZ]; rfl
  rw [← hg0]
  have hrow0 := HROW.out.fr hf0 (fun h => h)
  have HR0 := Lib.hid hr0
  have HF0 := Lib.hid hf0
  have HG0 := Lib.hid hg0
  have HZ := Lib.hid hZ
  have HZL := Lib.hid hzl
  have HROW0 := Lib.hid hrow0
  clear hr0 hf0 hg0 hZ hzl hrow0 hw0 hw0'
  obtain ⟨Z3, hZ3⟩ : ∃ Z3, Z3 = zst := ⟨_, rfl⟩
  have hz3 := zero_state w0
  have hz3l : Z3.toArray.size = 73 := by rw [hZ3]; rfl
  rw [← hZ3] at hz3
  have HZ3L := Lib.hid hz3l
  clear hZ3 hz3l
  go_upto_region 2 with (first | (refine load_whole Tryd.underlying39 stateSize rfl (.tmp 9) rfl g rfl L t HROW0.out HLL.out ?_) | (refine store_whole stateSize rfl (.tmp 3) (.tmp 10) rfl w0.heap.size rfl L rfl _ _ (heap_alloc_new w0 (.cells Z3.toArray 39)) HLL.out HZ3L.out HL1.out ?_; intro w1 hrow1 hf1))
  obtain ⟨g5, hg5⟩ : ∃ g5, g5 = w0.heap.size := ⟨_, rfl⟩
  rw [← hg5] at hrow1 hf1 ⊢
  have hf01 : Fr (fun _ => False) w0 w1 := ((Fr.refl (fun _ => False) w0).alloc _).trans hf1 (fun b hb h => by omega)
  have hf1w : Fr (fun _ => False) w w1 := HF0.out.trans hf01 (fun _ _ h => h)
  have hgg : 2 ≤ g5 := by have := HGL.out.size; have := HF0.out.size; omega
  have hha1 : Ha w1 g t D := ⟨ad, buf, HS.out, by rw [← HN.out, ← HL.out]; exact HROW0.out.fr hf01 (fun h => h)⟩
  have hha5 : Ha w1 g5 39 D := ⟨ad, buf, HS.out, by rw [← HN.out, ← HL.out]; exact hrow1⟩
  have hlen := len_any g t D w1 hha1
  rw [← HN.out] at hlen
  have HLEN := Lib.hid hlen
  have HHA5 := Lib.hid hha5
  have HF1 := Lib.hid hf1w
  have hlt5 := hrow1.lt
  have HLT5 := Lib.hid hlt5
  have HR01 : Hid (Row w1 g0 25 Z) := Lib.hid (HR0.out.fr hf01 (fun h => h))
  have HG5 := Lib.hid (show g0 < g5 by have := HR0.out.lt; omega)
  clear hg5 hrow1 hf1 hf01 hf1w hha1 hha5 hlen hlt5 hz3 HR0 HF0 HROW0
  go_wp2_with fail
  refine HLEN.out.mono ?_
  rintro e w2 ⟨rfl, rfl⟩
  go_wp2_with fail
  refine (ending_any N _ (by omega)).mono ?_
  rintro e w2 ⟨A2, c2, rfl, hown2, hf2⟩
  have hcap2 := own_cap hown2
  have hne2 : 0 < 9 + zeros N → ∀ ad, A2 = some ad → ad.block ≠ g5 := by
    intro _ ad h
    subst h
    have h1 := hown2.lt ad.block rfl
    have h2 := HLT5.out
    omega
  have hzz : zeros N < 64 := Nat.mod_lt _ (by omega)
  have hend := endB_len N
  have hrd2 : Rd w2 A2 (9 + zeros N) ((endB N).map byten) := by
    have h := Rd.of_own hown2
    rw [hend] at h
    exact h
  rw [hend] at hcap2
  have hgl2 := HGL.out.fr0 (HF1.out.trans hf2 (fun _ _ h => h))
  have htake := take_any g5 (9 + zeros N) c2 39 A2 D (endB N) w2 (HHA5.out.fr hf2 (fun h => h)) hgl2 hgg hrd2 hne2 (endB_lt N) hcap2.2.1 (by rw [← HN.out]; omega)
  have hpad : D ++ endB N = padded D := by rw [padded_end, HN.out]
  rw [hpad] at htake
  have HTAKE := Lib.hid htake
  have HF2 := Lib.hid (HF1.out.trans hf2 (fun _ _ h => h))
  have HR02 : Hid (Row w2 g0 25 Z) := Lib.hid (HR01.out.fr hf2 (fun h => h))
  have hge : w.heap.size ≤ g5 := by have := HG0.out; have := HG5.out; omega
  have HGE := Lib.hid hge
  clear hown2 hf2 hcap2 hne2 hrd2 htake hend hpad hgl2 hzz hge HR01 HF1
  go_wp2_with fail
  refine HTAKE.out.mono ?_
  rintro e w3 ⟨rfl, hha3, hf3⟩
  have HHA3 := Lib.hid hha3
  have hf3w := HF2.out.trans hf3 (fun b hb h => by have := HGE.out; omega)
  have HF3 := Lib.hid hf3w
  have HR03 : Hid (Row w3 g0 25 Z) := Lib.hid (HR02.out.fr hf3 (by have := HG5.out; omega))
  clear hf3 hha3 hf3w HR02 HTAKE HF2
  go_upto_region 4 with fail
  change Code.wp _ _ _ _ (w3.alloc (.cells (List.replicate 32 (Value.int .u8 0)).toArray 25))
  rw [← HZ.out]
  obtain ⟨w4, hw4⟩ : ∃ w4, w3.alloc (.cells Z.toArray 25) = w4 := ⟨_, rfl⟩
  rw [hw4]
  obtain ⟨g6, hg6⟩ : ∃ g6, g6 = w3.heap.size := ⟨_, rfl⟩
  have hr6 : Row w4 g6 25 Z := by rw [← hw4, hg6]; exact Row.new _ _ _
  have hf4 : Fr (fun _ => False) w3 w4 := by rw [← hw4]; exact (Fr.refl _ _).alloc _
  obtain ⟨ad4, buf4, hs4, hrow4⟩ := HHA3.out.fr hf4 (fun h => h)
  have hf4w := HF3.out.trans hf4 (fun _ _ h => h)
  have hwords := words_any g5 ad4 w4 hs4.al (HGL.out.fr0 hf4w) (hrow4.range 0 _ (fun j v h => sc_ad h))
  obtain ⟨S, hS⟩ : ∃ S, S = sumW ad4 := ⟨_, rfl⟩
  have hSl : S.length = 8 := by rw [hS]; exact sumW_len hs4.al
  have hSb : S = blocks keys first (padded D) ((padded D).length / 64) := by rw [hS, hs4.sum]
  obtain ⟨SR, hSR⟩ : ∃ SR, SR = (S.map num32).toArray := ⟨_, rfl⟩
  rw [← hS, ← hSR] at hwords
  have HWO := Lib.hid hwords
  have HSL := Lib.hid hSl
  have HSB := Lib.hid hSb
  have HSR := Lib.hid hSR
  have HF4 := Lib.hid hf4w
  have HR6 := Lib.hid hr6
  have HR04 : Hid (Row w4 g0 25 Z) := Lib.hid (HR03.out.fr hf4 (fun h => h))
  have HG6 := Lib.hid (show g0 < g6 by have := HR03.out.lt; omega)
  have hS32 : ∀ x ∈ S, x < 4294967296 := by rw [hS]; exact (sumW_eight hs4.al).2
  have HS32 := Lib.hid hS32
  rw [← hg6]
  clear hw4 hg6 hr6 hf4 hs4 hrow4 hf4w hwords hS hSl hSb hSR hS32 HHA3 HF3 HR03
  go_wp2_with fail
  refine HWO.out.mono ?_
  rintro e w5 ⟨rfl, hf5⟩
  have HF5 := Lib.hid (HF4.out.trans hf5 (fun _ _ h => h))
  have HR65 : Hid (Row w5 g6 25 ((ob S 0).map byten)) := Lib.hid (by
    have h := HR6.out.fr hf5 (fun h => h)
    rw [HZ.out] at h
    exact h)
  have HR05 : Hid (Row w5 g0 25 Z) := Lib.hid (HR04.out.fr hf5 (fun h => h))
  clear hf5 HR6 HR04 HF4
  go_wp2_with fail
  go_loopw [18] (fun i wr => ∃ k : Nat, k ≤ 8 ∧ i = .int .i64 (k : Int) ∧ Hid (Row wr g6 25 ((ob S k).map byten)) ∧ Fr (fun b => b = g6) w5 wr)
    (fun i _ => 8 - (intOf i).toNat)
  case atStart => exact ⟨0, by omega, rfl, HR65, Fr.refl _ _⟩
  case round =>
    obtain ⟨k, hk, rfl, HW, hfr⟩ := hrel
    by_cases hlt : k < 8
    · obtain ⟨x, hx⟩ : ∃ x, S[k]? = some x := ⟨_, List.getElem?_eq_getElem (by rw [HSL.out]; exact hlt)⟩
      have hx32 := HS32.out x (List.mem_of_getElem? hx)
      have hwi : SR[k]? = some (.int .u32 (x : Int)) := by rw [HSR.out]; simp [hx]; rfl
      have hwx := run_index_agg (P := Tryd.prog) Tryd.underlying35 Tryd.underlying34 rfl (by kernel_rfl) SR .i64 k _ hlt hwi
      obtain ⟨p, hp⟩ : ∃ p, p = 4 * k := ⟨_, rfl⟩
      obtain ⟨q, hq⟩ : ∃ q, q = 4 * (k + 1) := ⟨_, rfl⟩
      have ep : 4 * (k : Int) = (p : Int) := by omega
      have eq4 : 4 * ((k : Int) + 1) = (q : Int) := by omega
      have ew : IntKind.u64.wrap (x : Int) = (x : Int) := by rw [IntKind.wrap_u64]; omega
      have bq : (q : Int) ≤ 32 := by omega
      have bp : (p : Int) ≤ (q : Int) := by omega
      have hne : ¬ 32 = p := by omega
      have hol := ob_len S k HSL.out (by omega)
      have hput := put_any g6 p (q - p) (32 - p) x 25 ((ob S k).map byten) wr (by omega) (by omega) (by rw [List.length_map, hol]; omega) HW.out
      rw [show q - p = 4 from by omega, hp, ob_step S k x HSL.out hlt hx, ← hp] at hput
      have HPUT := Lib.hid hput
      have HFR := Lib.hid hfr
      have e44 : q - p = 4 := by omega
      clear hx hwi hp hq hol hput hfr HW
      go_wp2_with fail
      refine HPUT.out.mono ?_
      rintro e w6 ⟨rfl, hrow6, hf6⟩
      have HR66 := Lib.hid hrow6
      have HF6 := Lib.hid (HFR.out.trans hf6 (fun _ _ h => h))
      clear hrow6 hf6
      go_wp2_with fail
      exact ⟨⟨k + 1, by omega, by go_num, HR66, HF6.out⟩, by simp [intOf]; omega⟩
    · obtain rfl : k = 8 := by omega
      have HR67 := Lib.hid (HR05.out.fr hfr (by have := HG6.out; omega))
      have hfw : Fr (fun _ => False) w wr := HF5.out.trans hfr (fun b hb h => by have := HG6.out; have := HG0.out; omega)
      have HFW := Lib.hid hfw
      rw [ob_full S HSL.out] at HW
      have hol : ((outs S).map byten).length = 32 := by rw [List.length_map, ← ob_full S HSL.out, ob_len S 8 HSL.out (by omega)]
      have hres : outs S = sha keys first D := by rw [HSB.out]; rfl
      obtain ⟨R, hR⟩ : ∃ R, R = ((outs S).map byten).toArray := ⟨_, rfl⟩
      have hRs : R.size = 32 := by rw [hR]; simpa using hol
      have hR1 : R.all (·.oneCell') = true := by rw [hR, List.all_toArray, List.all_eq_true]; exact byten_one _
      have hrow : wr.heap[g6]? = some (.cells R 25 (0, 0)) := by rw [hR]; exact HW.out
      have hzz : Z.toArray.size = 32 := by simpa using HZL.out
      have HOL := Lib.hid hRs
      have HRES := Lib.hid hres
      have HROWR := Lib.hid hrow
      have HR := Lib.hid hR
      have HR1 := Lib.hid hR1
      have HZZ := Lib.hid hzz
      rename World => wz
      clear hfw hol hres hR hRs hR1 hrow hzz hfr HW
      go_upto_region 9 with fail
      refine wp_region_lit ?_
      refine wpList_load_blk hashT rfl (.tmp 4) rfl g6 rfl R _ HROWR.out HOL.out ?_
      refine wpList_store_blk hashT rfl (.tmp 2) (.tmp 32) rfl g0 rfl R rfl Z.toArray 25 HR67.out HOL.out HZZ.out HR1.out ?_
      intro w7 hg7 hf7
      have HG7 := Lib.hid hg7
      have HF7 := Lib.hid (HFW.out.trans hf7 (fun b hb h => by have := HG0.out; omega))
      clear hg7 hf7
      go_wp2_with fail
      exact bodyPost_ret (v := .agg R) (results_blk hashT rfl g0 rfl R _ HG7.out HOL.out) rfl ⟨by rw [HR.out, HRES.out], HF7.out⟩
end Go.Proofs.YtjjeahijcibafaaDoor
