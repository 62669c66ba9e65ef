/-
  The law RleBack (written by gen_laws11.py).
-/
import Derived.Test.YtplgefepbmjcdaaRleLp
namespace Go.Proofs.Ytplgefepbmjcdaa
open Go.RowKit Mem Go.Lib RleM LebM
attribute [local go_sem ↓] Go.wp_at_zero Go.wp_at_succ
set_option linter.unusedVariables false

theorem some_map {α β : Type} {f : Bool × α → Bool × β} {z : Bool × β} (h0 : ∀ c, c.1 = false → f c = z) (h1 : ∀ c, (f c).1 = c.1) (L : List (Bool × α)) (S : Bool) (hS : S = L.any (·.1)) : (S = true → ∃ c ∈ L.map f, c.1 = true) ∧ (S = false → ∀ c ∈ L.map f, c = z) := by
  constructor
  · intro h
    rw [h] at hS
    obtain ⟨c, hc, hx⟩ := List.any_eq_true.1 hS.symm
    exact ⟨f c, List.mem_map.2 ⟨c, hc, rfl⟩, by rw [h1]; exact hx⟩
  · intro h c hc
    rw [h] at hS
    obtain ⟨y, hy, rfl⟩ := List.mem_map.1 hc
    have := List.any_eq_false.1 hS.symm y hy
    exact h0 y (by simpa using this)
theorem back_cases {β : Type} [DecidableEq β] {K : Kd (Bool × β)} {p : Bool × β → Prop} (hb : Back K p) {x : List (Bool × β)} (hp : ∀ c ∈ x, p c) {S : Bool} (hs : (S = true → ∃ c ∈ x, c.1 = true) ∧ (S = false → ∀ c ∈ x, c = K.zero)) (hl : x.length < 9223372036854775808) (hz : K.zero.1 = false := by rfl) :
    ∃ y, toC (readG K (x.length : Int) (tellW K (gatherG x))) = (y, 0) ∧ (S = true → y = x) ∧ (S = false → y = []) := by
  cases S with
  | true =>
    obtain ⟨c, hc, h1⟩ := hs.1 rfl
    have h := read_back hb hp hc (fun e => by rw [e, hz] at h1; cases h1) hl (x.length : Int) (by omega)
    rw [if_pos (Int.le_refl _)] at h
    rw [h]
    exact ⟨x, by show (spreadG (gatherG x), 0) = _; rw [spread_gather], fun _ => rfl, fun h => (by cases h)⟩
  | false =>
    rw [told_none (hs.2 rfl), read_nil _ (by omega)]
    exact ⟨[], rfl, fun h => (by cases h), fun _ => rfl⟩
theorem back_short {β : Type} [DecidableEq β] {K : Kd (Bool × β)} {p : Bool × β → Prop} (hb : Back K p) {x : List (Bool × β)} (hp : ∀ c ∈ x, p c) (hs : ∃ c ∈ x, c.1 = true) (hl : x.length < 9223372036854775808) (hz : K.zero.1 = false := by rfl) :
    toC (readG K ((x.length : Int) - 1) (tellW K (gatherG x))) = ([], 4) := by
  obtain ⟨c, hc, h1⟩ := hs
  have hpos : 0 < x.length := by cases x with | nil => cases hc | cons a l => simp
  have h := read_back hb hp hc (fun e => by rw [e, hz] at h1; cases h1) hl ((x.length : Int) - 1) (by omega)
  rw [if_neg (by omega)] at h
  rw [h]
  rfl
set_option maxRecDepth 100000 in
set_option maxHeartbeats 6400000 in
theorem back_law (A : Option Addr) (n c : Nat) (L : List (Bool × Int)) (A' : Option Addr) (n' c' : Nat) (L' : List (Bool × List UInt8)) (w : World) (hL : Cls nv w A n L) (hn : n ≤ maxLen) (hrng : ∀ (k : Nat) (t : Bool × Int), L[k]? = some t → -9223372036854775808 ≤ t.2 ∧ t.2 < 9223372036854775808)
    (hL' : Cls sv w A' n' L') (hn' : n' ≤ maxLen) (hl' : ∀ (k : Nat) (t : Bool × List UInt8), L'[k]? = some t → t.2.length ≤ maxLen) :
    Calls Try.prog 4 #[.slice A n c, .slice A' n' c'] w fun e w' => e = .returned (.bool true) ∧ Fr (fun _ => False) w w' := by
  have HL := Lib.hid hL
  have HL' := Lib.hid hL'
  have HLN := Lib.hid hL.1
  have HLN' := Lib.hid hL'.1
  have HRNG := Lib.hid hrng
  have HLL := Lib.hid hl'
  have HNN := Lib.hid hn'
  have hnm : n ≤ 9223372036854775807 := hn
  clear hL hL' hrng hl' hn hn'
  by_cases hbig : 600 < n
  · have t0 : decide ((600 : Int) < (n : Int)) = true := by simp; omega
    have t0' : decide (600 < n) = true := by simp; omega
    go_enter Try.func4, Try.ntmps4
    go_wp2_with fail
    refine (awake_any w).mono ?_
    rintro e w2 ⟨rfl, hf2⟩
    have HF2 := Lib.hid hf2
    clear hf2
    go_wp2_with fail
    refine (awake_any w2).mono ?_
    rintro e w9 ⟨rfl, hf9⟩
    have HF9 := Lib.hid (HF2.out.trans hf9 (fun _ _ h => h))
    clear hf9
    go_wp2_with fail
    go_ret
    exact ⟨rfl, HF9.out⟩
  · have t0 : decide ((600 : Int) < (n : Int)) = false := by simp; omega
    have t0' : decide (600 < n) = false := by simp; omega
    have hn6 : n ≤ 600 := by omega
    clear hbig
    go_enter Try.func4, Try.ntmps4
    go_wp2_with fail
    refine (awake_any w).mono ?_
    rintro e w2 ⟨rfl, hf2⟩
    have HF2 := Lib.hid hf2
    clear hf2
    go_wp2_with fail
    refine (long_any A' n' c' L' w2 (HL'.out.fr HF2.out (fun _ _ h => h)) HNN.out HLL.out).mono ?_
    rintro e w3 ⟨r, rfl, hr, hf3⟩
    have HF3 := Lib.hid (HF2.out.trans hf3 (fun _ _ h => h))
    have HRR := Lib.hid hr
    clear hf3 hr
    cases r with
    | true =>
      go_wp2_with fail
      refine (awake_any w3).mono ?_
      rintro e w9 ⟨rfl, hf9⟩
      have HF9 := Lib.hid (HF3.out.trans hf9 (fun _ _ h => h))
      clear hf9
      go_wp2_with fail
      go_ret
      exact ⟨rfl, HF9.out⟩
    | false =>
      obtain ⟨hn6', hlw⟩ := HRR.out rfl
      have HLW := Lib.hid hlw
      clear hlw
      have hr1 : ∀ (k : Nat) (t : Bool × Int), L[k]? = some t → -9223372036854775808 ≤ t.2 ∧ t.2 < 9223372036854775808 := HRNG.out
      obtain ⟨a, ha⟩ : ∃ a, a = L.map (cellS false) := ⟨_, rfl⟩
      obtain ⟨b, hb⟩ : ∃ b, b = L.map (cellS true) := ⟨_, rfl⟩
      obtain ⟨d, hd⟩ : ∃ d, d = L'.map cellW := ⟨_, rfl⟩
      have hma : ∀ x ∈ a, mayU x := by
        intro x hx
        rw [ha] at hx
        obtain ⟨y, hy, rfl⟩ := List.mem_map.1 hx
        obtain ⟨k, hk⟩ := List.getElem?_of_mem hy
        exact may_cellU (HRNG.out k y hk).1 (HRNG.out k y hk).2
      have hmb : ∀ x ∈ b, mayS x := by
        intro x hx
        rw [hb] at hx
        obtain ⟨y, hy, rfl⟩ := List.mem_map.1 hx
        obtain ⟨k, hk⟩ := List.getElem?_of_mem hy
        exact may_cellS (HRNG.out k y hk).1 (HRNG.out k y hk).2
      have hmd : ∀ x ∈ d, mayW x := by
        intro x hx
        rw [hd] at hx
        obtain ⟨y, hy, rfl⟩ := List.mem_map.1 hx
        exact may_cellW (by have := HLW.out y hy; omega)
      have hld : ∀ x ∈ d, n' + x.2.length / 4 ≤ 600 := by
        intro x hx
        rw [hd] at hx
        obtain ⟨y, hy, rfl⟩ := List.mem_map.1 hx
        have h := HLW.out y hy
        unfold cellW
        simp only
        split
        · simp only [List.length_nil]; omega
        · exact h
      have hal : a.length = n := by rw [ha, List.length_map, HLN.out]
      have hbl : b.length = n := by rw [hb, List.length_map, HLN.out]
      have hdl : d.length = n' := by rw [hd, List.length_map, HLN'.out]
      have HMA := Lib.hid hma
      have HMB := Lib.hid hmb
      have HMD := Lib.hid hmd
      have HLD := Lib.hid hld
      have HAL := Lib.hid hal
      have HBL := Lib.hid hbl
      have HDL := Lib.hid hdl
      have HAe := Lib.hid ha
      have HBe := Lib.hid hb
      have HDe := Lib.hid hd
      clear hma hmb hmd hld hal hbl hdl ha hb hd hr1
      go_wp2_with fail
      refine (rCells_any A n c false L w3 (HL.out.fr HF3.out (fun _ _ h => h)) (by omega) HRNG.out).mono ?_
      rintro e w4 ⟨Aa, ca, rfl, hO4, hf4⟩
      rw [← HAe.out] at hO4 ⊢
      rw [HAL.out]
      have HOA := Lib.hid hO4
      have HF4 := Lib.hid (HF3.out.trans hf4 (fun _ _ h => h))
      clear hO4 hf4
      go_wp2_with fail
      refine (rCells_any A n c true L w4 (HL.out.fr HF4.out (fun _ _ h => h)) (by omega) HRNG.out).mono ?_
      rintro e w5 ⟨Ab, cb, rfl, hO5, hf5⟩
      rw [← HBe.out] at hO5 ⊢
      rw [HBL.out]
      have HOB := Lib.hid hO5
      have HOA5 := Lib.hid (HOA.out.fr hf5)
      have HF5 := Lib.hid (HF4.out.trans hf5 (fun _ _ h => h))
      clear hO5 hf5
      go_wp2_with fail
      refine (rTexts_any A' n' c' L' w5 (HL'.out.fr HF5.out (fun _ _ h => h)) (by omega)).mono ?_
      rintro e w6 ⟨Ad, cd, rfl, hO6, hf6⟩
      rw [← HDe.out] at hO6 ⊢
      rw [HDL.out]
      have HOD6 := Lib.hid hO6.cls
      have HOA6 := Lib.hid (HOA5.out.fr hf6).cls
      have HOB6 := Lib.hid (HOB.out.fr hf6).cls
      have HF6 := Lib.hid (HF5.out.trans hf6 (fun _ _ h => h))
      have hca := (own_cap hO6).2.1
      clear hO6 hf6 HOA HOB HOA5 hca
      have HCA : Hid (Cls nv w6 Aa n a) := Lib.hid (by have h := HOA6.out; rw [HAL.out] at h; exact h)
      have HCB : Hid (Cls nv w6 Ab n b) := Lib.hid (by have h := HOB6.out; rw [HBL.out] at h; exact h)
      have HCD : Hid (Cls sv w6 Ad n' d) := Lib.hid (by have h := HOD6.out; rw [HDL.out] at h; exact h)
      clear HOA6 HOB6 HOD6
      obtain ⟨S, hS⟩ : ∃ S, S = L.any (·.1) := ⟨_, rfl⟩
      obtain ⟨T, hT⟩ : ∃ T, T = L'.any (·.1) := ⟨_, rfl⟩
      have HS := Lib.hid hS
      have HT := Lib.hid hT
      have hsa := some_map (f := cellS false) (z := ((false, 0) : Bool × Int)) (fun c h => by unfold cellS; rw [if_pos h, h]) (fun c => rfl) L S hS
      have hsb := some_map (f := cellS true) (z := ((false, 0) : Bool × Int)) (fun c h => by unfold cellS; rw [if_pos h, h]) (fun c => rfl) L S hS
      have hsd := some_map (f := cellW) (z := ((false, []) : Bool × List UInt8)) (fun c h => by unfold cellW; rw [if_pos h, h]) (fun c => rfl) L' T hT
      rw [← HAe.out] at hsa
      rw [← HBe.out] at hsb
      rw [← HDe.out] at hsd
      obtain ⟨n1, hn1'⟩ : ∃ n1, n1 = n - 1 := ⟨_, rfl⟩
      have hn1 : S = true → n1 + 1 = n := by
        intro h
        obtain ⟨c, hc, _⟩ := hsa.1 h
        have h1 := HAL.out
        cases a with
        | nil => cases hc
        | cons x y => simp at h1; omega
      have hn16 : n1 ≤ 600 := by omega
      obtain ⟨P1, hP1⟩ : ∃ P, P = tellW kU (gatherG a) := ⟨_, rfl⟩
      have hPl1 : P1.length ≤ 1000000 := by rw [hP1]; exact (by have h := RleM.lenU (x := a) (by rw [HAL.out]; exact hn6) HMA.out; omega)
      obtain ⟨x1, hx1, hy1, hz1⟩ := back_cases backU HMA.out hsa (by rw [HAL.out]; omega)
      rw [← hP1, HAL.out] at hx1
      have HPC1 : Hid (∀ w', Fr (fun _ => False) w6 w' → Calls Try.prog 11 #[.slice Aa n ca] w' (Gives w' P1)) := Lib.hid (fun w' hf => by rw [hP1]; exact pPut_any Aa n ca a w' (HCA.out.fr hf (fun _ _ h => h)) (by omega) (fun c hc => (HMA.out c hc).2))
      have HGC1 : Hid (∀ w' base A c, Own w' base A c P1 → Calls Try.prog 17 #[.slice A P1.length c, .int .i64 (n : Int)] w' fun e w'' => ∃ A' c', e = .returned (.tuple #[.slice A' x1.length c', .int .i64 0]) ∧ OwnC nv 37 w'' w'.heap.size A' c' x1 ∧ Fr (fun _ => False) w' w'') := Lib.hid (fun w' base A c ho => by
        have h := pGet_any A P1.length c P1 (n : Int) w' ho.rd ho.cap.1 (by omega) (by omega) (by omega)
        rw [hx1] at h
        exact h)
      have HY1 := Lib.hid hy1
      have HZ1 := Lib.hid hz1
      have hxl1 : x1.length ≤ 600 := by
        cases hs : S with
        | true => rw [hy1 hs, HAL.out]; omega
        | false => rw [hz1 hs]; simp
      obtain ⟨P2, hP2⟩ : ∃ P, P = tellW kS (gatherG b) := ⟨_, rfl⟩
      have hPl2 : P2.length ≤ 1000000 := by rw [hP2]; exact (by have h := RleM.lenS (x := b) (by rw [HBL.out]; exact hn6) HMB.out; omega)
      obtain ⟨x2, hx2, hy2, hz2⟩ := back_cases backS HMB.out hsb (by rw [HBL.out]; omega)
      rw [← hP2, HBL.out] at hx2
      have HPC2 : Hid (∀ w', Fr (fun _ => False) w6 w' → Calls Try.prog 14 #[.slice Ab n cb] w' (Gives w' P2)) := Lib.hid (fun w' hf => by rw [hP2]; exact pPutS_any Ab n cb b w' (HCB.out.fr hf (fun _ _ h => h)) (by omega) (fun c hc => (HMB.out c hc).2))
      have HGC2 : Hid (∀ w' base A c, Own w' base A c P2 → Calls Try.prog 18 #[.slice A P2.length c, .int .i64 (n : Int)] w' fun e w'' => ∃ A' c', e = .returned (.tuple #[.slice A' x2.length c', .int .i64 0]) ∧ OwnC nv 37 w'' w'.heap.size A' c' x2 ∧ Fr (fun _ => False) w' w'') := Lib.hid (fun w' base A c ho => by
        have h := pGetS_any A P2.length c P2 (n : Int) w' ho.rd ho.cap.1 (by omega) (by omega) (by omega)
        rw [hx2] at h
        exact h)
      have HY2 := Lib.hid hy2
      have HZ2 := Lib.hid hz2
      have hxl2 : x2.length ≤ 600 := by
        cases hs : S with
        | true => rw [hy2 hs, HBL.out]; omega
        | false => rw [hz2 hs]; simp
      obtain ⟨P3, hP3⟩ : ∃ P, P = tellW kW (gatherG d) := ⟨_, rfl⟩
      have hPl3 : P3.length ≤ 1000000 := by rw [hP3]; exact (lenWr (K := kW) (x := d) (f := fun c => c.2.length) (by rw [HDL.out]; exact hn6') (fun c hc => by rw [HDL.out]; exact HLD.out c hc) (fun c hc => putW10 (HMD.out c hc).2)).2
      obtain ⟨x3, hx3, hy3, hz3⟩ := back_cases backW HMD.out hsd (by rw [HDL.out]; omega)
      rw [← hP3, HDL.out] at hx3
      have HPC3 : Hid (∀ w', Fr (fun _ => False) w6 w' → Calls Try.prog 15 #[.slice Ad n' cd] w' (Gives w' P3)) := Lib.hid (fun w' hf => by rw [hP3]; exact pPutW_any Ad n' cd d w' (HCD.out.fr hf (fun _ _ h => h)) (by omega) (fun c hc => (HMD.out c hc).2))
      have HGC3 : Hid (∀ w' base A c, Own w' base A c P3 → Calls Try.prog 19 #[.slice A P3.length c, .int .i64 (n' : Int)] w' fun e w'' => ∃ A' c', e = .returned (.tuple #[.slice A' x3.length c', .int .i64 0]) ∧ OwnC sv 39 w'' w'.heap.size A' c' x3 ∧ Fr (fun _ => False) w' w'') := Lib.hid (fun w' base A c ho => by
        have h := pGetW_any A P3.length c P3 (n' : Int) w' ho.rd ho.cap.1 (by omega) (by omega) (by omega)
        rw [hx3] at h
        exact h)
      have HY3 := Lib.hid hy3
      have HZ3 := Lib.hid hz3
      have hxl3 : x3.length ≤ 600 := by
        cases hs : T with
        | true => rw [hy3 hs, HDL.out]; omega
        | false => rw [hz3 hs]; simp
      have HGD1 : Hid (S = true → ∀ w' base A c, Own w' base A c P1 → Calls Try.prog 17 #[.slice A P1.length c, .int .i64 (n1 : Int)] w' fun e w'' => ∃ A' c', e = .returned (.tuple #[.slice A' 0 c', .int .i64 4]) ∧ Fr (fun _ => False) w' w'') := Lib.hid (fun hs w' base A c ho => by
        have hc := back_short backU HMA.out (hsa.1 hs) (by rw [HAL.out]; omega)
        rw [← hP1, HAL.out] at hc
        have h := pGet_any A P1.length c P1 (n1 : Int) w' ho.rd ho.cap.1 (by omega) (by omega) (by omega)
        rw [show ((n1 : Nat) : Int) = (n : Int) - 1 by have := hn1 hs; omega, hc] at h
        rw [show ((n1 : Nat) : Int) = (n : Int) - 1 by have := hn1 hs; omega]
        refine h.mono ?_
        rintro e w'' ⟨A', c', rfl, _, hf⟩
        exact ⟨A', c', rfl, hf⟩)
      have HGD2 : Hid (S = true → ∀ w' base A c, Own w' base A c P2 → Calls Try.prog 18 #[.slice A P2.length c, .int .i64 (n1 : Int)] w' fun e w'' => ∃ A' c', e = .returned (.tuple #[.slice A' 0 c', .int .i64 4]) ∧ Fr (fun _ => False) w' w'') := Lib.hid (fun hs w' base A c ho => by
        have hc := back_short backS HMB.out (hsb.1 hs) (by rw [HBL.out]; omega)
        rw [← hP2, HBL.out] at hc
        have h := pGetS_any A P2.length c P2 (n1 : Int) w' ho.rd ho.cap.1 (by omega) (by omega) (by omega)
        rw [show ((n1 : Nat) : Int) = (n : Int) - 1 by have := hn1 hs; omega, hc] at h
        rw [show ((n1 : Nat) : Int) = (n : Int) - 1 by have := hn1 hs; omega]
        refine h.mono ?_
        rintro e w'' ⟨A', c', rfl, _, hf⟩
        exact ⟨A', c', rfl, hf⟩)
      have HP0 : Hid (S = false → P1 = []) := Lib.hid (fun h => by rw [hP1]; exact told_none (hsa.2 h))
      have HN1 := Lib.hid hn1
      have HL6 := Lib.hid (HL.out.fr HF6.out (fun _ _ h => h))
      have HL6' := Lib.hid (HL'.out.fr HF6.out (fun _ _ h => h))
      clear hS hT hsa hsb hsd hn1' hn1 hP1 hP2 hP3 hx1 hx2 hx3 hy1 hy2 hy3 hz1 hz2 hz3
      go_wp2_with fail
      go_loopw [8, 9] (fun b v wr => ∃ k : Nat, k ≤ n ∧ v = .int .i64 (k : Int) ∧ b = .bool ((L.take k).any (·.1)) ∧ Hid (Fr (fun _ => False) w6 wr)) (fun _ v _ => n - (intOf v).toNat)
      case atStart => exact ⟨0, Nat.zero_le _, rfl, by simp, Fr.refl _ _⟩
      case round =>
        obtain ⟨k, hk, rfl, rfl, HFwa⟩ := hrel
        rename World => wa
        by_cases hlt : k < n
        · obtain ⟨t, ht⟩ : ∃ t, L[k]? = some t := ⟨_, List.getElem?_eq_getElem (by have := HLN.out; omega)⟩
          obtain ⟨g, o, hA', hg, h1, h2⟩ := (HL6.out.fr HFwa.out (fun _ _ => id)).2 k t ht
          subst hA'
          obtain ⟨i, x⟩ := t
          simp only at h1
          have hnx : (L.take (k + 1)).any (·.1) = ((L.take k).any (·.1) || i) := by rw [List.take_add_one, ht]; simp
          obtain ⟨q, hq⟩ : ∃ q, q = (L.take k).any (·.1) := ⟨_, rfl⟩
          rw [← hq] at hnx ⊢
          have HNX := Lib.hid hnx
          clear ht h2 hnx hq
          cases q with
          | true =>
            go_wp2_with fail
            exact ⟨⟨k + 1, by omega, by go_num, by rw [HNX.out]; rfl, HFwa.out⟩, by simp [intOf]; omega⟩
          | false =>
            go_wp2_with fail
            exact ⟨⟨k + 1, by omega, by go_num, by rw [HNX.out]; rfl, HFwa.out⟩, by simp [intOf]; omega⟩
        · obtain rfl : n = k := by omega
          have hall : (L.take n).any (·.1) = S := by rw [List.take_of_length_le (by have := HLN.out; omega), ← HS.out]
          rw [hall]
          clear hall hlt
          go_wp2_with fail
          have HL6b := Lib.hid (HL6'.out.fr HFwa.out (fun _ _ h => h))
          go_loopw [10, 11] (fun b v wr => ∃ k : Nat, k ≤ n' ∧ v = .int .i64 (k : Int) ∧ b = .bool ((L'.take k).any (·.1)) ∧ Hid (Fr (fun _ => False) wa wr)) (fun _ v _ => n' - (intOf v).toNat)
          case atStart => exact ⟨0, Nat.zero_le _, rfl, by simp, Fr.refl _ _⟩
          case round =>
            obtain ⟨k, hk, rfl, rfl, HFwb⟩ := hrel
            rename World => wb
            by_cases hlt : k < n'
            · obtain ⟨t, ht⟩ : ∃ t, L'[k]? = some t := ⟨_, List.getElem?_eq_getElem (by have := HLN'.out; omega)⟩
              obtain ⟨g, o, hA', hg, h1, h2⟩ := (HL6b.out.fr HFwb.out (fun _ _ => id)).2 k t ht
              subst hA'
              obtain ⟨i, x⟩ := t
              simp only at h1
              have hnx : (L'.take (k + 1)).any (·.1) = ((L'.take k).any (·.1) || i) := by rw [List.take_add_one, ht]; simp
              obtain ⟨q, hq⟩ : ∃ q, q = (L'.take k).any (·.1) := ⟨_, rfl⟩
              rw [← hq] at hnx ⊢
              have HNX := Lib.hid hnx
              clear ht h2 hnx hq
              cases q with
              | true =>
                go_wp2_with fail
                exact ⟨⟨k + 1, by omega, by go_num, by rw [HNX.out]; rfl, HFwb.out⟩, by simp [intOf]; omega⟩
              | false =>
                go_wp2_with fail
                exact ⟨⟨k + 1, by omega, by go_num, by rw [HNX.out]; rfl, HFwb.out⟩, by simp [intOf]; omega⟩
            · obtain rfl : n' = k := by omega
              have hall : (L'.take n').any (·.1) = T := by rw [List.take_of_length_le (by have := HLN'.out; omega), ← HT.out]
              rw [hall]
              clear hall hlt
              have HF6b := Lib.hid (HFwa.out.trans HFwb.out (fun _ _ h => h))
              go_wp2_with fail
              refine (HPC1.out wb HF6b.out).mono ?_
              rintro e u1 ⟨B1, b1, rfl, ho, hf⟩
              have HU1 := Lib.hid (HF6b.out.trans hf (fun _ _ h => h))
              have HO1 := Lib.hid ho
              clear ho hf
              go_wp2_with fail
              refine (HGC1.out u1 _ B1 b1 HO1.out).mono ?_
              rintro e u2 ⟨X1, y1, rfl, ho, hf⟩
              have HU2 := Lib.hid (HU1.out.trans hf (fun _ _ h => h))
              have HX1 := Lib.hid ho
              clear ho hf HU1 HO1
              go_wp2_with fail
              refine (HPC2.out u2 HU2.out).mono ?_
              rintro e u3 ⟨B2, b2, rfl, ho, hf⟩
              have HU3 := Lib.hid (HU2.out.trans hf (fun _ _ h => h))
              have HX1a := Lib.hid (HX1.out.fr hf)
              have HO2 := Lib.hid ho
              clear ho hf HU2 HX1
              go_wp2_with fail
              refine (HGC2.out u3 _ B2 b2 HO2.out).mono ?_
              rintro e u4 ⟨X2, y2, rfl, ho, hf⟩
              have HU4 := Lib.hid (HU3.out.trans hf (fun _ _ h => h))
              have HX1b := Lib.hid (HX1a.out.fr hf)
              have HX2 := Lib.hid ho
              clear ho hf HU3 HO2 HX1a
              go_wp2_with fail
              refine (HPC3.out u4 HU4.out).mono ?_
              rintro e u5 ⟨B3, b3, rfl, ho, hf⟩
              have HU5 := Lib.hid (HU4.out.trans hf (fun _ _ h => h))
              have HX1c := Lib.hid (HX1b.out.fr hf)
              have HX2c := Lib.hid (HX2.out.fr hf)
              have HO3 := Lib.hid ho
              clear ho hf HU4 HX1b HX2
              go_wp2_with fail
              refine (HGC3.out u5 _ B3 b3 HO3.out).mono ?_
              rintro e u6 ⟨X3, y3, rfl, ho, hf⟩
              have HU6 := Lib.hid (HU5.out.trans hf (fun _ _ h => h))
              have HXA := Lib.hid (HX1c.out.fr hf).cls
              have HXB := Lib.hid (HX2c.out.fr hf).cls
              have HXD := Lib.hid ho.cls
              clear ho hf HU5 HO3 HX1c HX2c
              cases S with
              | false =>
                have hp0 := HP0.out rfl
                have t1 : ((x1.length : Int) == 0) = true := by rw [HZ1.out rfl]; rfl
                have t2 : ((x2.length : Int) == 0) = true := by rw [HZ2.out rfl]; rfl
                have t3 : ((P1.length : Int) == 0) = true := by rw [hp0]; rfl
                clear hp0
                go_wp2_with fail
                refine (HPC1.out u6 HU6.out).mono ?_
                rintro e u7 ⟨B4, b4, rfl, ho, hf⟩
                have HU7 := Lib.hid (HF6.out.trans (HU6.out.trans hf (fun _ _ h => h)) (fun _ _ h => h))
                clear ho hf
                go_wp2_with fail
                go_ret
                exact ⟨rfl, HU7.out⟩
              | true =>
                have HGE1 := Lib.hid (HGD1.out rfl)
                have HGE2 := Lib.hid (HGD2.out rfl)
                clear HGD1 HGD2
                obtain rfl : x1 = a := HY1.out rfl
                obtain rfl : x2 = b := HY2.out rfl
                have r1 : IntKind.i64.wrap ((n : Int) - 1) = (n1 : Int) := by rw [IntKind.wrap_i64]; have := HN1.out rfl; omega
                have HXA' : Hid (Cls nv u6 X1 n x1) := Lib.hid (by have h := HXA.out; rw [HAL.out] at h; exact h)
                have HXB' : Hid (Cls nv u6 X2 n x2) := Lib.hid (by have h := HXB.out; rw [HBL.out] at h; exact h)
                rw [HAL.out, HBL.out]
                cases T with
                | false =>
                  have t3 : ((x3.length : Int) != 0) = false := by rw [HZ3.out rfl]; rfl
                  go_wp2_with fail
                  refine (HPC1.out u6 HU6.out).mono ?_
                  rintro e v1 ⟨B4, b4, rfl, ho, hf⟩
                  have HV1 := Lib.hid (HU6.out.trans hf (fun _ _ h => h))
                  have HQ1 := Lib.hid (HXA'.out.fr hf (fun _ _ h => h))
                  have HR1 := Lib.hid (HXB'.out.fr hf (fun _ _ h => h))
                  have HO4 := Lib.hid ho
                  clear ho hf
                  go_wp2_with fail
                  refine (HGE1.out v1 _ B4 b4 HO4.out).mono ?_
                  rintro e v2 ⟨B5, b5, rfl, hf⟩
                  have HV2 := Lib.hid (HV1.out.trans hf (fun _ _ h => h))
                  have HQ2 := Lib.hid (HQ1.out.fr hf (fun _ _ h => h))
                  have HR2 := Lib.hid (HR1.out.fr hf (fun _ _ h => h))
                  clear hf HV1 HQ1 HR1 HO4
                  go_wp2_with fail
                  refine (HPC2.out v2 HV2.out).mono ?_
                  rintro e v3 ⟨B6, b6, rfl, ho, hf⟩
                  have HV3 := Lib.hid (HV2.out.trans hf (fun _ _ h => h))
                  have HQ3 := Lib.hid (HQ2.out.fr hf (fun _ _ h => h))
                  have HR3 := Lib.hid (HR2.out.fr hf (fun _ _ h => h))
                  have HO6 := Lib.hid ho
                  clear ho hf HV2 HQ2 HR2
                  go_wp2_with fail
                  refine (HGE2.out v3 _ B6 b6 HO6.out).mono ?_
                  rintro e v4 ⟨B7, b7, rfl, hf⟩
                  have HV4 := Lib.hid (HV3.out.trans hf (fun _ _ h => h))
                  have HQ4 := Lib.hid (HQ3.out.fr hf (fun _ _ h => h))
                  have HR4 := Lib.hid (HR3.out.fr hf (fun _ _ h => h))
                  clear hf HV3 HQ3 HR3 HO6
                  have hs1 := rsameC_any X1 n y1 x1 Aa n ca x1 v4 HQ4.out (HCA.out.fr HV4.out (fun _ _ h => h)) (by omega) (by omega)
                  rw [decide_eq_true rfl] at hs1
                  have HS1 := Lib.hid hs1
                  clear hs1
                  go_wp2_with fail
                  refine HS1.out.mono ?_
                  rintro e v5 ⟨rfl, hf⟩
                  have HV5 := Lib.hid (HV4.out.trans hf (fun _ _ h => h))
                  have hs2 := rsameC_any X2 n y2 x2 Ab n cb x2 v5 (HR4.out.fr hf (fun _ _ h => h)) (HCB.out.fr HV5.out (fun _ _ h => h)) (by omega) (by omega)
                  rw [decide_eq_true rfl] at hs2
                  have HS2 := Lib.hid hs2
                  clear hs2 hf
                  go_wp2_with fail
                  refine HS2.out.mono ?_
                  rintro e v6 ⟨rfl, hf⟩
                  have HV6 := Lib.hid (HF6.out.trans (HV5.out.trans hf (fun _ _ h => h)) (fun _ _ h => h))
                  clear hf
                  go_wp2_with fail
                  go_ret
                  exact ⟨rfl, HV6.out⟩
                | true =>
                  obtain rfl : x3 = d := HY3.out rfl
                  have HXD' : Hid (Cls sv u6 X3 n' x3) := Lib.hid (by have h := HXD.out; rw [HDL.out] at h; exact h)
                  rw [HDL.out]
                  have hsw := rsameW_any X3 n' y3 x3 Ad n' cd x3 u6 HXD'.out (HCD.out.fr HU6.out (fun _ _ h => h)) (by omega) (by omega)
                  rw [decide_eq_true rfl] at hsw
                  have HSW := Lib.hid hsw
                  clear hsw
                  go_wp2_with fail
                  refine HSW.out.mono ?_
                  rintro e u7 ⟨rfl, hf⟩
                  have HU7 := Lib.hid (HU6.out.trans hf (fun _ _ h => h))
                  have HXA7 := Lib.hid (HXA'.out.fr hf (fun _ _ h => h))
                  have HXB7 := Lib.hid (HXB'.out.fr hf (fun _ _ h => h))
                  clear hf HU6 HXA' HXB' HXA HXB HXD HSW
                  go_wp2_with fail
                  refine (HPC1.out u7 HU7.out).mono ?_
                  rintro e v1 ⟨B4, b4, rfl, ho, hf⟩
                  have HV1 := Lib.hid (HU7.out.trans hf (fun _ _ h => h))
                  have HQ1 := Lib.hid (HXA7.out.fr hf (fun _ _ h => h))
                  have HR1 := Lib.hid (HXB7.out.fr hf (fun _ _ h => h))
                  have HO4 := Lib.hid ho
                  clear ho hf
                  go_wp2_with fail
                  refine (HGE1.out v1 _ B4 b4 HO4.out).mono ?_
                  rintro e v2 ⟨B5, b5, rfl, hf⟩
                  have HV2 := Lib.hid (HV1.out.trans hf (fun _ _ h => h))
                  have HQ2 := Lib.hid (HQ1.out.fr hf (fun _ _ h => h))
                  have HR2 := Lib.hid (HR1.out.fr hf (fun _ _ h => h))
                  clear hf HV1 HQ1 HR1 HO4
                  go_wp2_with fail
                  refine (HPC2.out v2 HV2.out).mono ?_
                  rintro e v3 ⟨B6, b6, rfl, ho, hf⟩
                  have HV3 := Lib.hid (HV2.out.trans hf (fun _ _ h => h))
                  have HQ3 := Lib.hid (HQ2.out.fr hf (fun _ _ h => h))
                  have HR3 := Lib.hid (HR2.out.fr hf (fun _ _ h => h))
                  have HO6 := Lib.hid ho
                  clear ho hf HV2 HQ2 HR2
                  go_wp2_with fail
                  refine (HGE2.out v3 _ B6 b6 HO6.out).mono ?_
                  rintro e v4 ⟨B7, b7, rfl, hf⟩
                  have HV4 := Lib.hid (HV3.out.trans hf (fun _ _ h => h))
                  have HQ4 := Lib.hid (HQ3.out.fr hf (fun _ _ h => h))
                  have HR4 := Lib.hid (HR3.out.fr hf (fun _ _ h => h))
                  clear hf HV3 HQ3 HR3 HO6
                  have hs1 := rsameC_any X1 n y1 x1 Aa n ca x1 v4 HQ4.out (HCA.out.fr HV4.out (fun _ _ h => h)) (by omega) (by omega)
                  rw [decide_eq_true rfl] at hs1
                  have HS1 := Lib.hid hs1
                  clear hs1
                  go_wp2_with fail
                  refine HS1.out.mono ?_
                  rintro e v5 ⟨rfl, hf⟩
                  have HV5 := Lib.hid (HV4.out.trans hf (fun _ _ h => h))
                  have hs2 := rsameC_any X2 n y2 x2 Ab n cb x2 v5 (HR4.out.fr hf (fun _ _ h => h)) (HCB.out.fr HV5.out (fun _ _ h => h)) (by omega) (by omega)
                  rw [decide_eq_true rfl] at hs2
                  have HS2 := Lib.hid hs2
                  clear hs2 hf
                  go_wp2_with fail
                  refine HS2.out.mono ?_
                  rintro e v6 ⟨rfl, hf⟩
                  have HV6 := Lib.hid (HF6.out.trans (HV5.out.trans hf (fun _ _ h => h)) (fun _ _ h => h))
                  clear hf
                  go_wp2_with fail
                  go_ret
                  exact ⟨rfl, HV6.out⟩
end Go.Proofs.Ytplgefepbmjcdaa
