/-
  Contracts of layer 4's reference: times, fits, root, primes, Tables, turn, shift.
-/
import Derived.Test.YtjjeahijcibafaaDoorCom
import Derived.Test.YtjjeahijcibafaaDoorReg
import Derived.Test.YtjjeahijcibafaaDoorShaM
import Derived.BigRegion
import Derived.BigQuiet
import Derived.Deep.QuietTactic
import Derived.Deep.RegionWith
import Derived.StillTailTactics
import Derived.Deep.DeepMust
namespace Go.Proofs.YtjjeahijcibafaaDoor
open Go.RowKit ShaM Mem Go.Lib

theorem u64T : ElemTy Tryd.prog 48 37 (.int .u64 0) 8 := ⟨Tryd.underlying48, by kernel_rfl, rfl⟩
theorem u32T : ElemTy Tryd.prog 31 34 (.int .u32 0) 4 := ⟨Tryd.underlying31, by kernel_rfl, rfl⟩
def OwnN (w : World) (base : Nat) (A : Option Addr) (c : Nat) (D : List Nat) : Prop := w.ownsRow base 37 1 (.slice A D.length c) D.length (D.map numc)
theorem OwnN.fr {w w' : World} {base c : Nat} {A : Option Addr} {B : List Nat} (h : OwnN w base A c B) (hf : Fr (fun _ => False) w w') : OwnN w' base A c B := hf.own h (fun _ _ h => h)
theorem OwnN.base {w : World} {b b' c : Nat} {A : Option Addr} {B : List Nat} (h : OwnN w b A c B) (hb : b' ≤ b) : OwnN w b' A c B := own_base h hb
theorem OwnN.rd {w : World} {base c : Nat} {A : Option Addr} {B : List Nat} (h : OwnN w base A c B) : Rd w A B.length (B.map numc) := Rd.of_own h
theorem OwnN.nil (w : World) (base : Nat) : OwnN w base none 0 [] := World.ownsRow_nil _ _ _ _
theorem OwnN.snoc {w : World} {base c : Nat} {A : Option Addr} {D : List Nat} {x : Int} (h : w.ownsRow base 37 1 (.slice A (D.length + 1) c) (D.length + 1) (D.map numc ++ [.int .u64 x])) {y : Nat} (hx : x = (y : Int)) : OwnN w base A c (D ++ [y]) := by
  unfold OwnN
  rw [List.length_append, List.map_append, List.map_singleton]
  unfold numc
  rw [← hx]
  exact h
theorem lenN (A : Option Addr) (D : List Nat) (b : Nat) (c : Nat) : Value.slice A (D.length + 1) c = Value.slice A (D ++ [b]).length c := by rw [List.length_append]; rfl
theorem numc_one (l : List Nat) : ∀ u ∈ l.map numc, u.oneCell' = true := by
  intro u hu
  obtain ⟨b, _, rfl⟩ := List.mem_map.1 hu
  rfl
theorem Fr.appN {w wr w' : World} {c : Nat} {A : Option Addr} {D : List Nat} {o : Obj} (hfr : Fr (fun _ => False) w wr) (hown : OwnN wr w.heap.size A c D)
    (hfr' : Fr (fun k => (Value.slice A D.length c).ownBlock = some k) (wr.alloc o) w') : Fr (fun _ => False) w w' :=
  (hfr.alloc _).trans hfr' (fun b hb h => by have := hown.lt _ h; omega)

set_option maxRecDepth 100000 in
set_option maxHeartbeats 800000 in
theorem times_any (A : Option Addr) (n c : Nat) (L : List Nat) (x : Nat) (w : World) (hr : Rd w A n (L.map numc)) (hd : Dig L) (hx : x < 1099511627776) (hn : n ≤ 100) :
    Calls Tryd.prog 27 #[.slice A n c, .int .u64 (x : Int)] w fun e w' => ∃ (A' : Option Addr) (c' : Nat) (D : List Nat), e = .returned (.slice A' D.length c') ∧ OwnN w' w.heap.size A' c' D ∧ Dig D ∧ v16 D = v16 L * x ∧ D.length ≤ n + 3 ∧ Fr (fun _ => False) w w' := by
  have hLn : L.length = n := by simpa using hr.1
  have HLN := Lib.hid hLn
  have HR := Lib.hid hr
  have HD := Lib.hid hd
  clear hLn hr hd
  go_enter Tryd.func27, Tryd.ntmps27
  go_wp2
  go_loopw [5, 6, 7] (fun v cc i wr => ∃ (k y : Nat) (D : List Nat) (A' : Option Addr) (c' : Nat), k ≤ n ∧ i = .int .i64 k ∧ cc = .int .u64 (y : Int) ∧ y ≤ x ∧ v = .slice A' D.length c' ∧ Hid (D.length = k) ∧ D.length ≤ 100 ∧ Hid (Dig D) ∧ Hid (v16 D + 65536 ^ k * y = v16 (L.take k) * x) ∧ OwnN wr w.heap.size A' c' D ∧ Fr (fun _ => False) w wr)
    (fun _ _ i _ => n - (intOf i).toNat)
  case atStart => exact ⟨0, 0, [], none, 0, by omega, rfl, rfl, by omega, rfl, rfl, by simp, (by intro d h; simp at h), by simp [Hid, v16], OwnN.nil _ _, Fr.refl _ _⟩
  case round =>
    obtain ⟨k, y, D, A', c', hk, rfl, rfl, hy, rfl, HDk, hD100, HDD, HV, hown, hfr⟩ := hrel
    have hsz := hfr.size
    by_cases hlt : k < n
    · obtain ⟨ad, v, rfl, hv, hcell⟩ := (HR.out.fr hfr (fun _ _ h => h)).at_ hlt
      have hLk : k < L.length := by have := HLN.out; omega
      obtain ⟨d, hdd⟩ : ∃ d, L[k]? = some d := ⟨L[k], List.getElem?_eq_getElem hLk⟩
      obtain rfl : numc d = v := by simpa [hdd] using hv
      unfold numc at hcell
      have hd16 := HD.out d (List.mem_of_getElem? hdd)
      have hmul := mul_bd d x hd16 hx
      have hcl := carry_le d x y hd16 hy
      have hm0 : (d : Int) * (x : Int) = ((d * x : Nat) : Int) := by simp
      obtain ⟨m, hm⟩ : ∃ m, m = d * x := ⟨_, rfl⟩
      rw [← hm] at hm0 hmul hcl
      have hstep := times_step (v16 D) (65536 ^ k) y d x (v16 (L.take k)) (m + y) HV.out (by rw [hm])
      have htk : v16 (L.take (k + 1)) = v16 (L.take k) + 65536 ^ k * d := by
        obtain ⟨hl, e⟩ := List.getElem?_eq_some_iff.1 hdd
        rw [List.take_succ_eq_append_getElem hl, v16_snoc, e, List.length_take, Nat.min_eq_left (by omega)]
      have hnew : v16 (D ++ [(m + y) % 65536]) + 65536 ^ (k + 1) * ((m + y) / 65536) = v16 (L.take (k + 1)) * x := by
        rw [v16_snoc, HDk.out, htk, Nat.pow_succ, ← hstep]
      have HN := Lib.hid hnew
      have hDl : D.length + 1 ≤ 100 := by have := HDk.out; omega
      have HDS := Lib.hid (show Dig (D ++ [(m + y) % 65536]) from HDD.out.snoc (Nat.mod_lt _ (by omega)))
      clear hv hdd hstep htk hnew hd16 hm hLk
      go_wp2_with (at_builtin; refine wpList_app u64T _ rfl _ _ rfl w.heap.size _ _ _ rfl (hown.alloc _) _ _ _ _ rfl (Rd.one _ _ _) (one_one _ _) (by unfold maxLen; omega) (by omega) (by simp; omega) ?_)
      intro A2 c2 w' _ _ hown' hfr' _
      go_wp2
      go_roundw
      case rel => exact ⟨k + 1, (m + y) / 65536, D ++ [(m + y) % 65536], A2, c2, by omega, by go_num, by congr 1, hcl, lenN _ _ _ _, by show _ = _; rw [List.length_append, HDk.out]; rfl, by rw [List.length_append]; exact hDl, HDS, HN, OwnN.snoc hown' (by omega), Fr.appN hfr hown hfr'⟩
      case measure => simp [intOf] <;> omega
    · have hV2 : v16 D + 65536 ^ D.length * y = v16 L * x := by
        have h := HV.out
        rw [List.take_of_length_le (by have := HLN.out; omega)] at h
        rw [HDk.out]
        exact h
      have hlen : D.length ≤ n := by have := HDk.out; omega
      have HV2 := Lib.hid hV2
      clear hV2 HV HDk
      go_wp2_with fail
      go_loopw [5, 6] (fun v cc wr => ∃ (y q : Nat) (D : List Nat) (A' : Option Addr) (c' : Nat), cc = .int .u64 (y : Int) ∧ y ≤ x ∧ y < 65536 ^ q ∧ q ≤ 3 ∧ D.length + q ≤ n + 3 ∧ v = .slice A' D.length c' ∧ Hid (Dig D) ∧ Hid (v16 D + 65536 ^ D.length * y = v16 L * x) ∧ OwnN wr w.heap.size A' c' D ∧ Fr (fun _ => False) w wr)
        (fun _ cc _ => (intOf cc).toNat)
      case atStart => exact ⟨y, 3, D, A', c', rfl, hy, by omega, by omega, by omega, rfl, HDD, HV2, hown, hfr⟩
      case round =>
        clear hown hfr hsz
        obtain ⟨y, q, D, A', c', rfl, hy, hyq, hq3, hDq, rfl, HDD, HV, hown, hfr⟩ := hrel
        have hsz := hfr.size
        by_cases hy0 : 0 < y
        · have hq1 : 1 ≤ q := by
            rcases Nat.eq_zero_or_pos q with h | h
            · rw [h] at hyq; simp at hyq; omega
            · exact h
          have hyq2 : y / 65536 < 65536 ^ (q - 1) := by
            obtain ⟨r, rfl⟩ : ∃ r, q = r + 1 := ⟨q - 1, by omega⟩
            rw [Nat.pow_succ] at hyq
            exact Nat.div_lt_of_lt_mul (by rw [Nat.mul_comm]; exact hyq)
          have hnew : v16 (D ++ [y % 65536]) + 65536 ^ (D ++ [y % 65536]).length * (y / 65536) = v16 L * x := by
            rw [v16_snoc, List.length_append, List.length_singleton, Nat.pow_succ, ← HV.out, Nat.add_assoc, Nat.mul_assoc, ← Nat.mul_add, Nat.mod_add_div]
          have HN := Lib.hid hnew
          have HDS := Lib.hid (show Dig (D ++ [y % 65536]) from HDD.out.snoc (Nat.mod_lt _ (by omega)))
          have hDl : D.length + 1 + (q - 1) ≤ n + 3 := by omega
          clear hnew hyq
          go_wp2_with (at_builtin; refine wpList_app u64T _ rfl _ _ rfl w.heap.size _ _ _ rfl (hown.alloc _) _ _ _ _ rfl (Rd.one _ _ _) (one_one _ _) (by unfold maxLen; omega) (by omega) (by simp; omega) ?_)
          intro A2 c2 w' _ _ hown' hfr' _
          go_wp2
          go_roundw
          case rel => exact ⟨y / 65536, q - 1, D ++ [y % 65536], A2, c2, by congr 1, by omega, hyq2, by omega, by rw [List.length_append]; exact hDl, lenN _ _ _ _, HDS, HN, OwnN.snoc hown' (by omega), Fr.appN hfr hown hfr'⟩
          case measure => simp [intOf] <;> omega
        · have hV := HV.out
          rw [show y = 0 from by omega, Nat.mul_zero, Nat.add_zero] at hV
          have HVV := Lib.hid hV
          clear hV HV
          go_wp2
          go_ret
          exact ⟨A', c', D, rfl, hown, HDD.out, HVV.out, by omega, hfr⟩

set_option maxRecDepth 100000 in
set_option maxHeartbeats 400000 in
theorem turn_any (x n : Nat) (w : World) (hx : x < 4294967296) (hn : n ≤ 100) :
    Calls Tryd.prog 23 #[.int .u32 (x : Int), .int .i64 (n : Int)] w fun e w' => e = .returned (.int .u32 (tr n x : Int)) ∧ w = w' := by
  go_enter Tryd.func23, Tryd.ntmps23
  go_wp2
  go_loop [0, 5] (fun v i => ∃ k y : Nat, k ≤ n ∧ i = .int .i64 k ∧ v = .int .u32 (y : Int) ∧ y < 4294967296 ∧ Hid (y = tr k x)) (fun _ i => n - (intOf i).toNat)
  case atStart => exact ⟨0, x, by omega, rfl, rfl, hx, rfl⟩
  case round =>
    obtain ⟨k, y, hk, rfl, rfl, hy, Hy⟩ := hrel
    by_cases hlt : k < n
    · have hb : (y : Int) / 2 + (y : Int) % 2 * 2147483648 < 4294967296 := by omega
      have hb0 : 0 ≤ (y : Int) / 2 + (y : Int) % 2 * 2147483648 := by omega
      go_wp2
      go_round
      case rel => exact ⟨k + 1, y / 2 + y % 2 * 2147483648, by omega, by go_num, by congr 1, by omega, by show _ = _; rw [tr, ← Hy.out]⟩
      case measure => simp [intOf] <;> omega
    · go_wp2
      go_ret
      obtain rfl : k = n := by omega
      rw [← Hy.out]
      exact ⟨rfl, rfl⟩
set_option maxRecDepth 100000 in
set_option maxHeartbeats 400000 in
theorem shift_any (x n : Nat) (w : World) (hx : x < 4294967296) (hn : n ≤ 100) :
    Calls Tryd.prog 24 #[.int .u32 (x : Int), .int .i64 (n : Int)] w fun e w' => e = .returned (.int .u32 (sh n x : Int)) ∧ w = w' := by
  go_enter Tryd.func24, Tryd.ntmps24
  go_wp2
  go_loop [0, 5] (fun v i => ∃ k y : Nat, k ≤ n ∧ i = .int .i64 k ∧ v = .int .u32 (y : Int) ∧ y < 4294967296 ∧ Hid (y = sh k x)) (fun _ i => n - (intOf i).toNat)
  case atStart => exact ⟨0, x, by omega, rfl, rfl, hx, by show _ = _; simp [sh]⟩
  case round =>
    obtain ⟨k, y, hk, rfl, rfl, hy, Hy⟩ := hrel
    by_cases hlt : k < n
    · go_wp2
      go_round
      case rel => exact ⟨k + 1, y / 2, by omega, by go_num, by congr 1, by omega, by show _ = _; rw [Hy.out]; unfold sh; rw [Nat.pow_succ, Nat.div_div_eq_div_mul]⟩
      case measure => simp [intOf] <;> omega
    · go_wp2
      go_ret
      obtain rfl : k = n := by omega
      rw [← Hy.out]
      exact ⟨rfl, rfl⟩
end Go.Proofs.YtjjeahijcibafaaDoor
