/-
  Contracts of layer 4's program: Write, Of.
-/
import Derived.Test.YtjjeahijcibafaaDoorShaK
namespace Go.Proofs.YtjjeahijcibafaaDoor
open Go.RowKit ShaM Mem Go.Lib
attribute [local go_sem ↓] Go.wp_at_zero Go.wp_at_succ

/-- a slice of slices of bytes, none of which lies in block g -/
def PartsG (w : World) (g : Nat) (A : Option Addr) (n : Nat) (L : List (List UInt8)) : Prop :=
  ∃ vs, Rd w A n vs ∧ vs.length = L.length ∧ (0 < n → ∀ ad, A = some ad → ad.block ≠ g) ∧
    ∀ (i : Nat) (v : Value) (B : List UInt8), vs[i]? = some v → L[i]? = some B → ∃ Ai ci, v = .slice Ai B.length ci ∧ B.length ≤ ci ∧ Rd w Ai B.length (B.map bytec) ∧ (0 < B.length → ∀ ad, Ai = some ad → ad.block ≠ g)
theorem PartsG.fr {S : Nat → Prop} {w w' : World} {g : Nat} {A : Option Addr} {n : Nat} {L : List (List UInt8)} (h : PartsG w g A n L) (hf : Fr S w w') (hS : ∀ b, S b → b = g) : PartsG w' g A n L := by
  obtain ⟨vs, h1, h2, h3, h4⟩ := h
  refine ⟨vs, h1.frp hf (fun hn ad e hs => h3 hn ad e (hS _ hs)), h2, h3, fun i v B hv hB => ?_⟩
  obtain ⟨Ai, ci, e, hl, hr, ha⟩ := h4 i v B hv hB
  exact ⟨Ai, ci, e, hl, hr.frp hf (fun hn ad e hs => ha hn ad e (hS _ hs)), ha⟩
theorem Parts.apart {w : World} {g : Nat} {A : Option Addr} {n : Nat} {L : List (List UInt8)} (h : Parts w A n L) (hg : w.heap.size ≤ g) : PartsG w g A n L := by
  obtain ⟨vs, h1, h2, h3⟩ := h
  refine ⟨vs, h1, h2, fun hn ad e hs => by have := h1.lt hn ad e; omega, fun i v B hv hB => ?_⟩
  obtain ⟨Ai, ci, e, hl, hr⟩ := h3 i v B hv hB
  exact ⟨Ai, ci, e, hl, hr, fun hn ad e hs => by have := hr.lt hn ad e; omega⟩

theorem flat_take {L : List (List UInt8)} {k : Nat} {B : List UInt8} (h : L[k]? = some B) : (L.take (k + 1)).flatten = (L.take k).flatten ++ B := by
  rw [List.take_add_one, h]; simp
theorem flat_le (L : List (List UInt8)) (k : Nat) : (L.take k).flatten.length ≤ L.flatten.length := by
  conv => rhs; rw [← List.take_append_drop k L]
  rw [List.flatten_append, List.length_append]
  omega

set_option maxRecDepth 100000 in
set_option maxHeartbeats 1600000 in
theorem write_any (g n c : Nat) (t : TypeId) (A : Option Addr) (D : List Nat) (L : List (List UInt8)) (w : World) (hH : Ha w g t D) (hG : Gl w) (hg : 2 ≤ g) (hp : PartsG w g A n L) (hn : n ≤ 1099511627776) (hD : D.length + L.flatten.length ≤ 562949953421312) :
    Calls Tryd.prog 13 #[.pointer (some ⟨g, 0, none⟩), .slice A n c] w fun e w' => e = .returned (.tuple #[]) ∧ Ha w' g t (D ++ L.flatten.map UInt8.toNat) ∧ Fr (fun b => b = g) w w' := by
  have hLn : L.length = n := by obtain ⟨vs, h1, h2, _⟩ := hp; rw [← h2, h1.1]
  have HLN := Lib.hid hLn
  have HP := Lib.hid hp
  have HGL := Lib.hid hG
  have HH := Lib.hid hH
  clear hLn hp hG hH
  go_enter Tryd.func13, Tryd.ntmps13
  go_wp2_with fail
  go_loopw [8] (fun i wr => ∃ k : Nat, k ≤ n ∧ i = .int .i64 (k : Int) ∧ Hid (Ha wr g t (D ++ (L.take k).flatten.map UInt8.toNat)) ∧ Fr (fun b => b = g) w wr)
    (fun i _ => n - (intOf i).toNat)
  case atStart => exact ⟨0, by omega, rfl, Lib.hid (by simpa using HH.out), Fr.refl _ _⟩
  case round =>
    obtain ⟨k, hk, rfl, HW, hfr⟩ := hrel
    by_cases hlt : k < n
    · obtain ⟨vs, h1, h2, h3, h4⟩ := HP.out.fr hfr (fun _ h => h)
      obtain ⟨ad, v, rfl, hv, hcell⟩ := h1.at_ hlt
      obtain ⟨B, hB⟩ : ∃ B, L[k]? = some B := ⟨_, List.getElem?_eq_getElem (by rw [HLN.out]; exact hlt)⟩
      obtain ⟨Ai, ci, rfl, hl, hr, ha⟩ := h4 k v B hv hB
      obtain ⟨m, hm⟩ : ∃ m, m = B.length := ⟨_, rfl⟩
      have hft := flat_take hB
      have hle := flat_le L (k + 1)
      rw [hft, List.length_append] at hle
      rw [← hm] at hl hr ha hcell hle
      rw [byten_of] at hr
      have htake := take_any g m ci t Ai _ (B.map UInt8.toNat) wr HW.out (HGL.out.fr hfr (by omega) (by omega)) hg hr ha (by
        intro b hb
        obtain ⟨u, _, rfl⟩ := List.mem_map.1 hb
        exact u.toNat_lt) hl (by rw [List.length_append, List.length_map]; omega)
      rw [List.append_assoc, ← List.map_append, ← hft] at htake
      have HTAKE := Lib.hid htake
      have HFR := Lib.hid hfr
      have bk : (k : Int) < (n : Int) := by omega
      clear h1 h2 h3 h4 hv hB hl hr ha hm hft hle htake hfr HW
      go_wp2_with fail
      refine HTAKE.out.mono ?_
      rintro e w2 ⟨rfl, hha, hf⟩
      have HHA := Lib.hid hha
      have HF2 := Lib.hid (HFR.out.trans hf (fun _ _ h => h))
      clear hha hf hcell
      go_wp2_with fail
      exact ⟨⟨k + 1, by omega, by go_num, HHA, HF2.out⟩, by simp [intOf]; omega⟩
    · obtain rfl : k = n := by omega
      have e : L.take k = L := List.take_of_length_le (by rw [HLN.out]; omega)
      rw [e] at HW
      go_wp2_with fail
      go_end0
      exact ⟨rfl, HW.out, hfr⟩

set_option maxRecDepth 100000 in
set_option maxHeartbeats 1600000 in
theorem of_any (A : Option Addr) (n c : Nat) (L : List (List UInt8)) (w : World) (hG : Gl w) (hp : Parts w A n L) (hn : n ≤ 1099511627776) (hD : L.flatten.length ≤ 281474976710656) :
    Calls Tryd.prog 9 #[.slice A n c] w fun e w' => e = .returned (hashV L.flatten) ∧ Fr (fun _ => False) w w' := by
  obtain ⟨R, hR⟩ : ∃ R, R = ((sha keys first (L.flatten.map UInt8.toNat)).map byten).toArray := ⟨_, rfl⟩
  have hsz : R.size = 32 := by rw [hR]; simp [sha, outs]
  have hone : R.all (·.oneCell') = true := by rw [hR, List.all_toArray, List.all_eq_true]; exact byten_one _
  unfold hashV
  rw [← hR]
  have HP := Lib.hid hp
  have HGL := Lib.hid hG
  have HRR := Lib.hid hR
  have HSZ := Lib.hid hsz
  have HONE := Lib.hid hone
  obtain ⟨Z3, hZ3⟩ : ∃ Z3, Z3 = zst := ⟨_, rfl⟩
  have hz3 := fun w => zero_hasher w
  rw [← hZ3] at hz3
  have HZ3 := Lib.hid hZ3
  clear hp hG hR hsz hone hZ3
  go_enter Tryd.func9, Tryd.ntmps9
  go_upto_region 1 with fail
  obtain ⟨Z, hZ⟩ : ∃ Z : List Value, Z = List.replicate 32 (.int .u8 0) := ⟨_, rfl⟩
  obtain ⟨w0, hw0⟩ : ∃ w0, w.alloc (.cells Z.toArray 25) = w0 := ⟨_, rfl⟩
  have hw0' := hw0
  rw [hZ] at hw0'
  change Code.wp _ _ _ _ (w.alloc (.cells (List.replicate 32 (Value.int .u8 0)).toArray 25))
  rw [hw0']
  obtain ⟨g0, hg0⟩ : ∃ g0, g0 = w.heap.size := ⟨_, rfl⟩
  have hr0 : Row w0 g0 25 Z := by rw [← hw0, hg0]; exact Row.new _ _ _
  have hf0 : Fr (fun _ => False) w w0 := by rw [← hw0]; exact (Fr.refl _ _).alloc _
  have hzl : Z.toArray.size = 32 := by rw [hZ]; rfl
  rw [← hg0]
  have HR0 := Lib.hid hr0
  have HF0 := Lib.hid hf0
  have HG0 := Lib.hid hg0
  have HZL := Lib.hid hzl
  clear hr0 hf0 hg0 hZ hzl hw0 hw0'
  go_upto_region 2 with fail
  obtain ⟨w1, hw1⟩ : ∃ w1, w0.alloc (.cells Z3.toArray 41) = w1 := ⟨_, rfl⟩
  rw [hw1]
  obtain ⟨g, hg⟩ : ∃ g, g = w0.heap.size := ⟨_, rfl⟩
  have hrow : Row w1 g 41 zst := by rw [← hw1, hg, ← HZ3.out]; exact Row.new _ _ _
  have hf1 : Fr (fun _ => False) w0 w1 := by rw [← hw1]; exact (Fr.refl _ _).alloc _
  have hfw := HF0.out.trans hf1 (fun _ _ h => h)
  have hgg : w.heap.size ≤ g := by have := HF0.out.size; omega
  have hg2 : 2 ≤ g := by have := HGL.out.size; omega
  have hwrite := write_any g n c 41 A [] L w1 (zst_ha hrow) (HGL.out.fr0 hfw) hg2 ((HP.out.apart hgg).fr hfw (fun _ h => h.elim)) hn (by rw [List.length_nil]; omega)
  rw [List.nil_append] at hwrite
  have HWRITE := Lib.hid hwrite
  have HF1 := Lib.hid hfw
  have HR01 : Hid (Row w1 g0 25 Z) := Lib.hid (HR0.out.fr hf1 (fun h => h))
  have HGG := Lib.hid hgg
  have HG01 := Lib.hid (show g0 < g by have := HR0.out.lt; omega)
  rw [← hg]
  clear hw1 hg hrow hf1 hfw hgg hwrite hz3 HR0 HF0
  go_wp2_with fail
  refine HWRITE.out.mono ?_
  rintro e w2 ⟨rfl, hha, hf2⟩
  have hfw := HF1.out.trans hf2 (fun b hb h => by have := HGG.out; omega)
  have hsum := sum_any g 41 _ w2 hha (HGL.out.fr0 hfw) (by rw [List.length_map]; omega)
  rw [← HRR.out] at hsum
  have HSUM := Lib.hid hsum
  have HF2 := Lib.hid hfw
  have HR02 : Hid (Row w2 g0 25 Z) := Lib.hid (HR01.out.fr hf2 (by have := HG01.out; omega))
  clear hha hf2 hfw hsum HR01 HF1
  go_wp2_with fail
  refine HSUM.out.mono ?_
  rintro e w3 ⟨rfl, hf3⟩
  have HF3 := Lib.hid (HF2.out.trans hf3 (fun _ _ h => h))
  have HR03 : Hid (w3.heap[g0]? = some (.cells Z.toArray 25 (0, 0))) := Lib.hid (HR02.out.fr hf3 (fun h => h))
  clear hf3 HR02 HF2
  go_wp2_with (refine wpList_store_blk hashT rfl (.tmp 2) (.tmp 6) rfl g0 rfl R rfl Z.toArray 25 HR03.out HSZ.out HZL.out HONE.out ?_)
  intro w4 hg4 hf4
  have HG4 := Lib.hid hg4
  have HF4 := Lib.hid (HF3.out.trans hf4 (fun b hb h => by have := HG0.out; omega))
  clear hg4 hf4
  go_wp2_with fail
  exact bodyPost_ret (v := .agg R) (results_blk hashT rfl g0 rfl R _ HG4.out HSZ.out) rfl ⟨rfl, HF4.out⟩
theorem shaP : ShaP := ⟨fun A n c L w hG hp _ hn hL => of_any A n c L w hG hp (by omega) (by omega)⟩
end Go.Proofs.YtjjeahijcibafaaDoor
