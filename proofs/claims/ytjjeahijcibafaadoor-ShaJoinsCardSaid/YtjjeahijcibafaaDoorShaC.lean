/-
  Contracts of layer 4's reference: root, primes, Tables.
-/
import Derived.Test.YtjjeahijcibafaaDoorShaB
namespace Go.Proofs.YtjjeahijcibafaaDoor
open Go.RowKit ShaM Mem Go.Lib

theorem int_beq0 (z : Nat) : ((z : Int) == 0) = (z == 0) := by
  rw [Bool.eq_iff_iff]
  simp

set_option maxRecDepth 100000 in
set_option maxHeartbeats 800000 in
theorem root_any (p k : Nat) (w : World) (hp : p < 65536) (hk2 : 2 ≤ k) (hk3 : k ≤ 3) :
    Calls Tryd.prog 18 #[.int .u64 (p : Int), .int .i64 (k : Int)] w fun e w' => e = .returned (.int .u32 (rootOf p k : Int)) ∧ Fr (fun _ => False) w w' := by
  obtain ⟨R, hR⟩ : ∃ R, R = bs p k 36 0 68719476736 := ⟨_, rfl⟩
  have HR := Lib.hid hR
  clear hR
  go_enter Tryd.func18, Tryd.ntmps18
  go_wp2
  go_loopw [5, 6] (fun a b wr => ∃ f lo hi : Nat, a = .int .u64 (lo : Int) ∧ b = .int .u64 (hi : Int) ∧ lo < hi ∧ hi ≤ 68719476736 ∧ hi - lo ≤ 2 ^ f ∧ Hid (bs p k f lo hi = R) ∧ Fr (fun _ => False) w wr)
    (fun a b _ => (intOf b).toNat - (intOf a).toNat)
  case atStart => exact ⟨36, 0, 68719476736, rfl, rfl, by omega, by omega, by simp, HR.out.symm, Fr.refl _ _⟩
  case round =>
    obtain ⟨f, lo, hi, rfl, rfl, hlt, hhi, hf, Hb, hfr⟩ := hrel
    by_cases h1 : lo + 1 < hi
    · obtain ⟨g, rfl⟩ : ∃ g, f = g + 1 := ⟨f - 1, by
        rcases Nat.eq_zero_or_pos f with h | h
        · rw [h] at hf; simp at hf; omega
        · omega⟩
      obtain ⟨mid, hmid⟩ : ∃ mid, mid = (lo + hi) / 2 := ⟨_, rfl⟩
      have hmI : ((lo : Int) + (hi : Int)) / 2 = (mid : Int) := by omega
      obtain ⟨q, hq⟩ : ∃ q, decide (mid ^ k ≤ p * 2 ^ (32 * k)) = q := ⟨_, rfl⟩
      have hstep : (if q = true then bs p k g mid hi else bs p k g lo mid) = R := by
        have hb : bs p k (g + 1) lo hi = if mid ^ k ≤ p * 2 ^ (32 * k) then bs p k g mid hi else bs p k g lo mid := by rw [bs, if_neg (by omega), ← hmid]
        rw [← Hb.out, hb, ← hq]
        simp
      have hF := fun w' => fits_any mid p k w' (by omega) hp hk2 hk3 q hq
      have HF := Lib.hid hF
      have hb1 : lo < mid := by omega
      have hb2 : mid < hi := by omega
      have hb3 : hi - mid ≤ 2 ^ g := by rw [Nat.pow_succ] at hf; omega
      have hb4 : mid - lo ≤ 2 ^ g := by rw [Nat.pow_succ] at hf; omega
      clear hF hq hmid Hb hf
      cases q
      · have HS := Lib.hid (show bs p k g lo mid = R by simpa using hstep)
        clear hstep
        go_wp2_with fail
        refine (HF.out _).mono ?_
        rintro e w2 ⟨rfl, hf2⟩
        go_wp2
        go_roundw
        case rel => exact ⟨g, lo, mid, rfl, rfl, hb1, by omega, hb4, HS, hfr.trans hf2 (fun _ _ h => h)⟩
        case measure => simp [intOf] <;> omega
      · have HS := Lib.hid (show bs p k g mid hi = R by simpa using hstep)
        clear hstep
        go_wp2_with fail
        refine (HF.out _).mono ?_
        rintro e w2 ⟨rfl, hf2⟩
        go_wp2
        go_roundw
        case rel => exact ⟨g, mid, hi, rfl, rfl, hb2, by omega, hb3, HS, hfr.trans hf2 (fun _ _ h => h)⟩
        case measure => simp [intOf] <;> omega
    · have hend : rootOf p k = lo % 4294967296 := by
        unfold rootOf
        rw [← HR.out, ← Hb.out, bs_end _ _ _ _ _ (by omega)]
      have HE := Lib.hid hend
      clear hend Hb
      go_wp2
      go_ret
      rw [HE.out]
      exact ⟨rfl, hfr⟩

set_option maxRecDepth 100000 in
set_option maxHeartbeats 1600000 in
theorem primes_any (w : World) :
    Calls Tryd.prog 17 #[.int .i64 64] w fun e w' => ∃ (A : Option Addr) (c : Nat), e = .returned (.slice A P64.length c) ∧ OwnN w' w.heap.size A c P64 ∧ Fr (fun _ => False) w w' := by
  go_enter Tryd.func17, Tryd.ntmps17
  go_wp2
  go_loopw [3, 4] (fun v i wr => ∃ (x : Nat) (D : List Nat) (A : Option Addr) (c : Nat), i = .int .u64 (x : Int) ∧ 2 ≤ x ∧ x ≤ 312 ∧ Hid (D = pr x) ∧ v = .slice A D.length c ∧ OwnN wr w.heap.size A c D ∧ Fr (fun _ => False) w wr)
    (fun _ i _ => 312 - (intOf i).toNat)
  case atStart => exact ⟨2, [], none, 0, rfl, by omega, by omega, by show _ = _; decide, rfl, OwnN.nil _ _, Fr.refl _ _⟩
  case round =>
    obtain ⟨x, D, A, c, rfl, hx2, hx3, HD, rfl, hown, hfr⟩ := hrel
    have hsz := hfr.size
    by_cases hlt : D.length < 64
    · have hx311 : x ≤ 311 := by
        rcases (show x ≤ 311 ∨ x = 312 by omega) with h | h
        · exact h
        · have h2 := HD.out
          rw [h, pr_312] at h2
          rw [h2] at hlt
          simp [P64] at hlt
      obtain ⟨v, hv⟩ : ∃ v, D.all (fun o => x % o != 0) = v := ⟨_, rfl⟩
      have hnext : pr (x + 1) = if v = true then D ++ [x] else D := by rw [pr_step x hx2, ← HD.out, hv]
      have hpos : ∀ o ∈ D, 2 ≤ o ∧ o < x := by rw [HD.out]; exact pr_pos x
      have HV := Lib.hid hv
      have HNX := Lib.hid hnext
      have HP := Lib.hid hpos
      have HO := Lib.hid hown
      have HF := Lib.hid hfr
      obtain ⟨n, hn⟩ : ∃ n, n = D.length := ⟨_, rfl⟩
      have HN := Lib.hid hn
      rename World => wa
      rw [← hn] at hlt ⊢
      clear hv hnext hpos hown hfr hn
      go_wp2_with fail
      go_loop [5, 6] (fun s i => ∃ j : Nat, j ≤ n ∧ i = .int .i64 j ∧ s = .bool ((D.take j).all (fun o => x % o != 0))) (fun _ i => n - (intOf i).toNat)
      case atStart => exact ⟨0, by omega, rfl, rfl⟩
      case round =>
        obtain ⟨j, hj, rfl, rfl⟩ := hrel
        by_cases hjn : j < n
        · obtain ⟨o, ho⟩ : ∃ o, D[j]? = some o := ⟨_, List.getElem?_eq_getElem (by have := HN.out; omega)⟩
          obtain ⟨g, hg, hcell⟩ := HO.out.at_ ho
          subst hg
          have ho2 := HP.out o (List.mem_of_getElem? ho)
          obtain ⟨ho2, ho3⟩ := ho2
          obtain ⟨u, hu⟩ : ∃ u, (D.take j).all (fun o => x % o != 0) = u := ⟨_, rfl⟩
          have htake : (D.take (j + 1)).all (fun o => x % o != 0) = (u && (x % o != 0)) := by
            rw [List.take_add_one, ho, List.all_append, hu]
            simp
          rw [hu]
          have HT := Lib.hid htake
          clear htake hu ho
          cases u
          · go_wp2
            go_round
            case rel => exact ⟨j + 1, by omega, by go_num, by rw [HT.out]; rfl⟩
            case measure => simp [intOf] <;> omega
          · obtain ⟨z, hz⟩ : ∃ z, z = x % o := ⟨_, rfl⟩
            have hzI : ((x : Int) % (o : Int)) = (z : Int) := by rw [hz]; rfl
            have HZ := Lib.hid hz
            clear hz
            go_wp2
            go_round
            case rel => exact ⟨j + 1, by omega, by go_num, by rw [HT.out, ← HZ.out]; simp only [bne, Bool.true_and]; rw [int_beq0]⟩
            case measure => simp [intOf] <;> omega
        · have hall : (D.take j).all (fun o => x % o != 0) = v := by rw [List.take_of_length_le (by have := HN.out; omega)]; exact HV.out
          rw [hall]
          clear hall
          cases v
          · have HNN := Lib.hid (show D = pr (x + 1) by rw [HNX.out]; rfl)
            go_wp2
            go_roundw
            case rel => exact ⟨x + 1, D, A, c, by go_num, by omega, by omega, HNN, by rw [HN.out], HO.out, HF.out⟩
            case measure => simp [intOf] <;> omega
          · have HNN := Lib.hid (show D ++ [x] = pr (x + 1) by rw [HNX.out]; rfl)
            have hownn : wa.ownsRow w.heap.size 37 1 (.slice A n c) n (D.map numc) := by rw [HN.out]; exact HO.out
            go_wp2_with (at_builtin; refine wpList_app u64T _ rfl _ _ rfl w.heap.size _ _ _ rfl (hownn.alloc _) _ _ _ _ rfl (Rd.one _ _ _) (one_one _ _) (by unfold maxLen; omega) (by omega) (by simp; omega) ?_)
            intro A3 c3 w' _ _ hown' hfr' _
            rw [HN.out] at hown' hfr'
            have ho3 := OwnN.snoc hown' (y := x) rfl
            have hf3 := Fr.appN HF.out HO.out hfr'
            have HO3 := Lib.hid ho3
            clear hownn hown' hfr' ho3
            go_wp2
            go_roundw
            case rel => exact ⟨x + 1, D ++ [x], A3, c3, by go_num, by omega, by omega, HNN, by rw [HN.out]; exact lenN _ _ _ _, HO3.out, hf3⟩
            case measure => simp [intOf] <;> omega
    · have hx312 : x = 312 := by
        rcases (show x ≤ 311 ∨ x = 312 by omega) with h | h
        · exfalso
          have h1 := pr_mono x (311 - x)
          rw [show x + (311 - x) = 311 from by omega, pr_311, ← HD.out] at h1
          omega
        · exact h
      have hDP : D = P64 := by rw [HD.out, hx312, pr_312]
      clear HD
      subst hDP
      go_wp2
      go_ret
      exact ⟨A, c, rfl, hown, hfr⟩

/-- a []uint32 of one's own -/
def num32 (n : Nat) : Value := .int .u32 (n : Int)
def OwnW (w : World) (base : Nat) (A : Option Addr) (c : Nat) (D : List Nat) : Prop := w.ownsRow base 34 1 (.slice A D.length c) D.length (D.map num32)
theorem OwnW.fr {w w' : World} {base c : Nat} {A : Option Addr} {B : List Nat} (h : OwnW w base A c B) (hf : Fr (fun _ => False) w w') : OwnW w' base A c B := hf.own h (fun _ _ h => h)
theorem OwnW.base {w : World} {b b' c : Nat} {A : Option Addr} {B : List Nat} (h : OwnW w b A c B) (hb : b' ≤ b) : OwnW w b' A c B := own_base h hb
theorem OwnW.nil (w : World) (base : Nat) : OwnW w base none 0 [] := World.ownsRow_nil _ _ _ _
theorem OwnW.snoc {w : World} {base c : Nat} {A : Option Addr} {D : List Nat} {x : Int} (h : w.ownsRow base 34 1 (.slice A (D.length + 1) c) (D.length + 1) (D.map num32 ++ [.int .u32 x])) {y : Nat} (hx : x = (y : Int)) : OwnW w base A c (D ++ [y]) := by
  unfold OwnW
  rw [List.length_append, List.map_append, List.map_singleton]
  unfold num32
  rw [← hx]
  exact h

theorem step_dis {w wr w' : World} {A B A2 : Option Addr} {G : List Nat} {n0 n c d c2 : Nat} {o : Obj} (hA : ∀ k, bl A = some k → w.heap.size ≤ k) (hG : OwnW wr w.heap.size B d G) (hdj : Dis A B) (hfr : Fr (fun _ => False) w wr)
    (hfr' : Fr (fun k => (Value.slice A n0 c).ownBlock = some k) (wr.alloc o) w') (hn : (Value.slice A2 n c2).ownBlock = (Value.slice A n0 c).ownBlock ∨ (Value.slice A2 n c2).ownBlock = some (wr.heap.size + 1)) :
    OwnW w' w.heap.size B d G ∧ Dis A2 B ∧ Fr (fun _ => False) w w' := by
  refine ⟨?_, ?_, (hfr.alloc _).trans hfr' (fun b hb h => by rw [bl_own] at h; have := hA _ h; omega)⟩
  · refine hfr'.own (hG.alloc o) (fun k h1 h2 => ?_)
    rw [bl_own] at h1 h2
    exact hdj k h2 h1
  · intro k h1 h2
    have hlt := hG.lt k (by rw [bl_own]; exact h2)
    rw [bl_own, bl_own] at hn
    rcases hn with hn | hn
    · exact hdj k (hn ▸ h1) h2
    · rw [hn] at h1
      injection h1 with h1
      omega
theorem OwnW.row {w : World} {base c n : Nat} {A : Option Addr} {D : List Nat} (h : OwnW w base A c D) (hn : D.length = n) : w.ownsRow base 34 1 (.slice A n c) n (D.map num32) := by subst hn; exact h
theorem OwnW.of_row {w : World} {base c n : Nat} {A : Option Addr} {D E : List Nat} {x : Int} (h : w.ownsRow base 34 1 (.slice A (n + 1) c) (n + 1) (D.map num32 ++ [.int .u32 x])) (hn : D.length = n) {y : Nat} (hx : x = (y : Int)) (hE : E = D ++ [y]) : OwnW w base A c E := by
  subst hE hn
  exact OwnW.snoc h hx
theorem OwnW.blk {w : World} {base c : Nat} {A : Option Addr} {D : List Nat} (h : OwnW w base A c D) : ∀ k, bl A = some k → base ≤ k := fun k hk => (h.lt k (by rw [bl_own]; exact hk)).1
theorem root2 (p : Nat) (w : World) (hp : p < 65536) : Calls Tryd.prog 18 #[.int .u64 (p : Int), .int .i64 2] w fun e w' => e = .returned (.int .u32 (rootOf p 2 : Int)) ∧ Fr (fun _ => False) w w' := root_any p 2 w hp (by omega) (by omega)
theorem root3 (p : Nat) (w : World) (hp : p < 65536) : Calls Tryd.prog 18 #[.int .u64 (p : Int), .int .i64 3] w fun e w' => e = .returned (.int .u32 (rootOf p 3 : Int)) ∧ Fr (fun _ => False) w w' := root_any p 3 w hp (by omega) (by omega)
theorem p64_lt : ∀ p ∈ P64, p < 65536 := by decide
theorem p64_len : P64.length = 64 := rfl
theorem roots2 (i : Nat) (p : Nat) (h : P64[i]? = some p) (hi : i < 8) : first.take (i + 1) = first.take i ++ [rootOf p 2] := by
  rw [← first_roots, List.take_add_one]
  congr 1
  rw [List.getElem?_map, List.getElem?_take, if_pos hi, h]
  rfl
theorem roots3 (i : Nat) (p : Nat) (h : P64[i]? = some p) : keys.take (i + 1) = keys.take i ++ [rootOf p 3] := by
  rw [← keys_roots, List.take_add_one]
  congr 1
  rw [List.getElem?_map, h]
  rfl

set_option maxRecDepth 100000 in
set_option maxHeartbeats 1600000 in
theorem Tables_any (w : World) :
    Calls Tryd.prog 12 #[] w fun e w' => ∃ (A B : Option Addr) (c d : Nat), e = .returned (.tuple #[.slice A first.length c, .slice B keys.length d]) ∧ OwnW w' w.heap.size A c first ∧ OwnW w' w.heap.size B d keys ∧ Dis A B ∧ Fr (fun _ => False) w w' := by
  go_enter Tryd.func12, Tryd.ntmps12
  go_wp2_with fail
  refine (primes_any _).mono ?_
  rintro e w1 ⟨P, pc, rfl, hownP, hf1⟩
  have HP := Lib.hid hownP
  have HF1 := Lib.hid hf1
  clear hownP hf1
  rw [p64_len]
  go_wp2_with fail
  go_loopw [3, 4, 5] (fun u v i wr => ∃ (j : Nat) (A B : Option Addr) (c d : Nat), j ≤ 64 ∧ i = .int .i64 j ∧ u = .slice A (min j 8) c ∧ v = .slice B j d ∧ Hid (OwnW wr w1.heap.size A c (first.take j)) ∧ Hid (OwnW wr w1.heap.size B d (keys.take j)) ∧ Hid (Dis A B) ∧ Fr (fun _ => False) w1 wr)
    (fun _ _ i _ => 64 - (intOf i).toNat)
  case atStart => exact ⟨0, none, none, 0, 0, by omega, rfl, rfl, rfl, OwnW.nil _ _, OwnW.nil _ _, fun k h => by simp [bl] at h, Fr.refl _ _⟩
  case round =>
    obtain ⟨j, A, B, c, d, hj, rfl, rfl, rfl, HA, HB, HDJ, hfr⟩ := hrel
    by_cases hlt : j < 64
    · obtain ⟨p, hp⟩ : ∃ p, P64[j]? = some p := ⟨_, List.getElem?_eq_getElem (by rw [p64_len]; exact hlt)⟩
      obtain ⟨g, hg, hcell⟩ := (HP.out.fr hfr).at_ hp
      subst hg
      have hp16 := p64_lt p (List.mem_of_getElem? hp)
      have hsz := hfr.size
      obtain ⟨x, hx⟩ : ∃ x, x = rootOf p 2 := ⟨_, rfl⟩
      obtain ⟨y, hy⟩ : ∃ y, y = rootOf p 3 := ⟨_, rfl⟩
      have hR2 := fun w => root2 p w hp16
      have hR3 := fun w => root3 p w hp16
      rw [← hx] at hR2
      rw [← hy] at hR3
      have H2 := Lib.hid hR2
      have H3 := Lib.hid hR3
      have hk3 : keys.take (j + 1) = keys.take j ++ [y] := by rw [hy]; exact roots3 j p hp
      have HK3 := Lib.hid hk3
      have hkl : (keys.take j).length = j := by rw [List.length_take, show keys.length = 64 from rfl]; omega
      have HKL := Lib.hid hkl
      have HPX := Lib.hid hp
      clear hR2 hR3 hk3 hkl hy hp
      by_cases h8 : j < 8
      · have hk2 : first.take (j + 1) = first.take j ++ [x] := by rw [hx]; exact roots2 j p HPX.out h8
        have HK2 := Lib.hid hk2
        have hfl : (first.take j).length = j := by rw [List.length_take, show first.length = 8 from rfl]; omega
        have hm8 : min j 8 = j := by omega
        rw [hm8]
        have HFL := Lib.hid hfl
        clear hk2 hfl hm8 hx
        go_wp2_with fail
        refine (H2.out _).mono ?_
        rintro e w2 ⟨rfl, hf2⟩
        have hfr2 := hfr.trans hf2 (fun _ _ h => h)
        have hrowA := (HA.out.fr hf2).row HFL.out
        have hsz2 := hf2.size
        clear hcell
        go_wp2_with (at_builtin; refine wpList_app u32T _ rfl _ _ rfl w1.heap.size _ _ _ rfl (hrowA.alloc _) _ _ _ _ rfl (Rd.one _ _ _) (one_one _ _) (by unfold maxLen; omega) (by omega) (by simp; omega) ?_)
        intro A3 c3 w3 _ _ hown' hfr' hnb
        rw [← List.map_take] at hown'
        obtain ⟨p1, p2, p3⟩ := step_dis (HA.out.blk) (HB.out.fr hf2) HDJ.out hfr2 hfr' (by simpa using hnb)
        have HOA := Lib.hid (OwnW.of_row hown' HFL.out (y := x) rfl HK2.out)
        have HOB := Lib.hid p1
        have HD3 := Lib.hid p2
        have HF3 := Lib.hid p3
        obtain ⟨g', hg', hcell3⟩ := (HP.out.fr p3).at_ HPX.out
        obtain rfl : g = g' := by injection hg' with hg'; injection hg'
        have hsz3 := p3.size
        clear hown' hfr' hnb p1 p2 p3 hrowA hf2 hfr2 hg'
        go_wp2_with fail
        refine (H3.out _).mono ?_
        rintro e w4 ⟨rfl, hf4⟩
        have hfr4 := HF3.out.trans hf4 (fun _ _ h => h)
        have hrowB := (HOB.out.fr hf4).row HKL.out
        have hsz4 := hf4.size
        clear hcell3
        go_wp2_with (at_builtin; refine wpList_app u32T _ rfl _ _ rfl w1.heap.size _ _ _ rfl (hrowB.alloc _) _ _ _ _ rfl (Rd.one _ _ _) (one_one _ _) (by unfold maxLen; omega) (by omega) (by simp; omega) ?_)
        intro B5 d5 w5 _ _ hown' hfr' hnb
        rw [← List.map_take] at hown'
        obtain ⟨p1, p2, p3⟩ := step_dis (HOB.out.blk) (HOA.out.fr hf4) HD3.out.symm hfr4 hfr' (by simpa using hnb)
        have HOB5 := Lib.hid (OwnW.of_row hown' HKL.out (y := y) rfl HK3.out)
        have HOA5 := Lib.hid p1
        have HD5 := Lib.hid p2.symm
        have HF5 := Lib.hid p3
        clear hown' hfr' hnb p1 p2 p3 hrowB hf4 hfr4
        go_wp2
        go_roundw
        case rel => exact ⟨j + 1, A3, B5, c3, d5, by omega, by go_num, by rw [show min (j + 1) 8 = j + 1 from by omega], rfl, HOA5.out, HOB5.out, HD5.out, HF5.out⟩
        case measure => simp [intOf] <;> omega
      · have hm8 : min j 8 = 8 := by omega
        have htk : first.take j = first.take (j + 1) := by rw [List.take_of_length_le (by rw [show first.length = 8 from rfl]; omega), List.take_of_length_le (by rw [show first.length = 8 from rfl]; omega)]
        rw [hm8]
        rw [htk] at HA
        clear hm8 htk hx
        go_wp2_with fail
        refine (H3.out _).mono ?_
        rintro e w4 ⟨rfl, hf4⟩
        have hfr4 := hfr.trans hf4 (fun _ _ h => h)
        have hrowB := (HB.out.fr hf4).row HKL.out
        have hsz4 := hf4.size
        clear hcell
        go_wp2_with (at_builtin; refine wpList_app u32T _ rfl _ _ rfl w1.heap.size _ _ _ rfl (hrowB.alloc _) _ _ _ _ rfl (Rd.one _ _ _) (one_one _ _) (by unfold maxLen; omega) (by omega) (by simp; omega) ?_)
        intro B5 d5 w5 _ _ hown' hfr' hnb
        rw [← List.map_take] at hown'
        obtain ⟨p1, p2, p3⟩ := step_dis (HB.out.blk) (HA.out.fr hf4) HDJ.out.symm hfr4 hfr' (by simpa using hnb)
        have HOB5 := Lib.hid (OwnW.of_row hown' HKL.out (y := y) rfl HK3.out)
        have HOA5 := Lib.hid p1
        have HD5 := Lib.hid p2.symm
        have HF5 := Lib.hid p3
        clear hown' hfr' hnb p1 p2 p3 hrowB hf4 hfr4
        go_wp2
        go_roundw
        case rel => exact ⟨j + 1, A, B5, c, d5, by omega, by go_num, by rw [show min (j + 1) 8 = 8 from by omega], rfl, HOA5.out, HOB5.out, HD5.out, HF5.out⟩
        case measure => simp [intOf] <;> omega
    · obtain rfl : j = 64 := by omega
      have hsz1 := HF1.out.size
      have e1 : first.take 64 = first := rfl
      have e2 : keys.take 64 = keys := rfl
      rw [e1] at HA
      rw [e2] at HB
      clear e1 e2 hlt hj
      go_wp2
      go_ret2
      exact ⟨A, B, c, d, rfl, HA.out.base hsz1, HB.out.base hsz1, HDJ.out, HF1.out.trans hfr (fun _ _ h => h)⟩
end Go.Proofs.YtjjeahijcibafaaDoor
