/-
  The law RleSame.
-/
import Derived.Test.YtplgefepbmjcdaaRleAa
import Derived.Test.YtplgefepbmjcdaaRleAb
import Derived.Test.YtplgefepbmjcdaaReg
import Derived.Deep.DeepCutAuto
import Derived.Deep.CutRange
namespace Go.Proofs.Ytplgefepbmjcdaa
open Go.RowKit Mem Go.Lib RleM LebM
attribute [local go_sem ↓] Go.wp_at_zero Go.wp_at_succ
set_option linter.unusedVariables false

theorem to_cells (A : Option Addr) (n c y : Nat) (hy : y ≤ n) (hn : n ≤ c) (yi : Int) (ey : yi = (y : Int)) (w : World) :
    (Instr.sliceAt 22 (.slice A n c) none (some (.int .i64 yi)) none).run Try.prog w = .ok (.slice A y c) w := by
  subst ey
  cases A with
  | none =>
    go_simp
    try (intro h; omega)
  | some ad =>
    go_simp
    try (intro h; omega)
set_option maxRecDepth 100000 in
set_option maxHeartbeats 3200000 in
theorem same_law (N v : Nat) (hN : N < 65536) (hv : v < 256) (w : World) :
    Calls Try.prog 6 #[.int .u16 (N : Int), .int .u8 (v : Int)] w fun e w' => e = .returned (.bool true) ∧ Fr (fun _ => False) w w' := by
  obtain ⟨k, hk⟩ : ∃ k, k = 2 + N % 3000 := ⟨_, rfl⟩
  obtain ⟨m, hm⟩ : ∃ m, m = N % 3000 := ⟨_, rfl⟩
  have hk2 : 2 ≤ k := by omega
  have hk3 : k ≤ 3001 := by omega
  have r0 : IntKind.i64.wrap (N : Int) = (N : Int) := by rw [IntKind.wrap_i64]; omega
  have r1 : (N : Int).tmod 3000 = (m : Int) := by rw [hm]; rfl
  have r2 : IntKind.i64.wrap (m : Int) = (m : Int) := by rw [IntKind.wrap_i64]; omega
  have r3 : IntKind.i64.wrap (2 + (m : Int)) = (k : Int) := by rw [IntKind.wrap_i64]; omega
  obtain ⟨X, hX⟩ : ∃ X, X = v % 128 := ⟨_, rfl⟩
  have hX1 : X < 128 := by omega
  have r4 : (v : Int).tmod 128 = (X : Int) := by rw [hX]; rfl
  have r5 : IntKind.u8.wrap (X : Int) = (X : Int) := by rw [IntKind.wrap_u8]; omega
  have r6 : IntKind.i64.wrap (X : Int) = (X : Int) := by rw [IntKind.wrap_i64]; omega
  have r7 : IntKind.i64.wrap (v : Int) = (v : Int) := by rw [IntKind.wrap_i64]; omega
  have HV := Lib.hid hv
  clear hk hm hX
  go_enter Try.func6, Try.ntmps6
  go_wp2_with fail
  refine (awake_any w).mono ?_
  rintro e w2 ⟨rfl, hf2⟩
  have HF2 := Lib.hid hf2
  clear hf2
  go_wp2_with fail
  go_loopw [6, 7, 8] (fun a b i wr => ∃ (j : Nat) (La Lb : List (Bool × Int)) (Aa Ab : Option Addr) (ca cb : Nat), j ≤ k ∧ i = .int .i64 (j : Int) ∧ a = .slice Aa La.length ca ∧ b = .slice Ab Lb.length cb ∧ La.length = j ∧ Lb.length = j ∧ Hid (La = List.replicate j (true, (X : Int))) ∧ Hid (Lb = rises v j) ∧
    Hid (OwnC nv 37 wr w.heap.size Aa ca La) ∧ Hid (OwnC nv 37 wr w.heap.size Ab cb Lb) ∧ Hid (∀ g, (Value.slice Aa La.length ca).ownBlock = some g → (Value.slice Ab Lb.length cb).ownBlock ≠ some g) ∧ Hid (Fr (fun _ => False) w wr)) (fun _ _ i _ => k - (intOf i).toNat)
  case atStart => exact ⟨0, [], [], none, none, 0, 0, Nat.zero_le _, rfl, rfl, rfl, rfl, rfl, rfl, rfl, OwnC.nil _ _ _, OwnC.nil _ _ _, (fun g h => by cases h), HF2.out⟩
  case round =>
    obtain ⟨j, La, Lb, Aa, Ab, ca, cb, hj, rfl, rfl, rfl, hla, hlb, HLA, HLB, HOA, HOB, HAP, HF⟩ := hrel
    rename World => wr
    by_cases hlt : j < k
    · obtain ⟨N1, hN1⟩ : ∃ N1, N1 = j + 1 := ⟨_, rfl⟩
      have hN1l : N1 ≤ 1000001 := by omega
      obtain ⟨XA, hXA⟩ : ∃ XS, XS = La.flatMap (ccells nv) := ⟨_, rfl⟩
      obtain ⟨XB, hXB⟩ : ∃ XS, XS = Lb.flatMap (ccells nv) := ⟨_, rfl⟩
      have hoa : wr.ownsRow w.heap.size 37 2 (.slice Aa j ca) j XA := by rw [hXA, ← hla]; exact HOA.out
      have hob : wr.ownsRow w.heap.size 37 2 (.slice Ab j cb) j XB := by rw [hXB, ← hlb]; exact HOB.out
      have hap : ∀ g, (Value.slice Aa j ca).ownBlock = some g → (Value.slice Ab j cb).ownBlock ≠ some g := by have h := HAP.out; rw [hla, hlb] at h; exact h
      have HA := Lib.hid hoa
      have HB := Lib.hid hob
      have HP := Lib.hid hap
      have HN1 := Lib.hid hN1
      have HXA := Lib.hid hXA
      have HXB := Lib.hid hXB
      have HLa := Lib.hid hla
      have HLb := Lib.hid hlb
      obtain ⟨y, hy⟩ : ∃ y, y = (v + j) % 100 := ⟨_, rfl⟩
      obtain ⟨z, hz⟩ : ∃ z, z = v + j := ⟨_, rfl⟩
      have r8 : IntKind.i64.wrap ((v : Int) + (j : Int)) = (z : Int) := by rw [IntKind.wrap_i64]; omega
      have r9 : (z : Int).tmod 100 = (y : Int) := by rw [hy, ← hz]; rfl
      have r10 : IntKind.i64.wrap (y : Int) = (y : Int) := by rw [IntKind.wrap_i64]; omega
      have HY := Lib.hid hy
      rw [hla, hlb]
      clear hla hlb hN1 hXA hXB hoa hob hap hy hz
      go_upto_region 9 with (at_builtin; refine wpList_appS2 cellTC _ rfl _ _ rfl w.heap.size _ _ _ rfl (HA.out.alloc _) _ _ [.bool true, .int .i64 (X : Int)] rfl rfl (new_at (by simp) [.bool true, .int .i64 (X : Int)] _) (by intro u hu; simp at hu; rcases hu with rfl | rfl <;> rfl) N1 HN1.out (by unfold maxLen; omega) (by omega) (by have h1 := HF.out.size; simp; omega) ?_)
      intro A5 c5 w5 hown5 _ hfr5 hwh5
      rw [HXA.out] at hown5
      have HO5 : Hid (OwnC nv 37 w5 w.heap.size A5 c5 (La ++ [(true, (X : Int))])) := Lib.hid (OwnC.snoc (f := nv) (t := (true, (X : Int))) (by rw [HLa.out, HN1.out]) hown5)
      have HBlt := Lib.hid (fun g h => (HB.out.lt g h).2)
      have HB5 := Lib.hid (hfr5.own (HB.out.alloc _) (fun g h1 h2 => HP.out g h2 h1))
      have HP5 : Hid (∀ g, (Value.slice A5 N1 c5).ownBlock = some g → (Value.slice Ab j cb).ownBlock ≠ some g) := Lib.hid (fun g h1 h2 => by
        rcases hwh5 with h | h
        · rw [h] at h1; exact HP.out g h1 h2
        · rw [h] at h1; injection h1 with h1; have h3 := HBlt.out g h2; (try simp at h1); omega)
      have HF5 : Hid (Fr (fun _ => False) w w5) := Lib.hid ((HF.out.alloc _).trans hfr5 (fun b hb h => by have := (HA.out.lt b h).1; omega))
      have HO5lt : Hid (∀ g, (Value.slice A5 N1 c5).ownBlock = some g → g < w5.heap.size) := Lib.hid (fun g h => by have h2 := HO5.out.lt g (by rw [show (La ++ [(true, (X : Int))]).length = N1 by rw [List.length_append, HLa.out, HN1.out]; rfl]; exact h); exact h2.2)
      clear hown5 hfr5 hwh5
      go_upto_region 9 with fail
      go_wp2_with (at_builtin; refine wpList_appS2 cellTC _ rfl _ _ rfl w.heap.size _ _ _ rfl (HB5.out.alloc _) _ _ [.bool true, .int .i64 (y : Int)] rfl rfl (new_at (by simp) [.bool true, .int .i64 (y : Int)] _) (by intro u hu; simp at hu; rcases hu with rfl | rfl <;> rfl) N1 HN1.out (by unfold maxLen; omega) (by omega) (by have h1 := HF5.out.size; simp; omega) ?_)
      intro A6 c6 w6 hown6 _ hfr6 hwh6
      rw [HXB.out] at hown6
      obtain ⟨La2, hLa2⟩ : ∃ x, x = La ++ [(true, (X : Int))] := ⟨_, rfl⟩
      obtain ⟨Lb2, hLb2⟩ : ∃ x, x = Lb ++ [(true, (y : Int))] := ⟨_, rfl⟩
      have hla2 : La2.length = N1 := by rw [hLa2, List.length_append, HLa.out, HN1.out]; rfl
      have hlb2 : Lb2.length = N1 := by rw [hLb2, List.length_append, HLb.out, HN1.out]; rfl
      have HO6 : Hid (OwnC nv 37 w6 w.heap.size A6 c6 Lb2) := Lib.hid (by rw [hLb2]; exact OwnC.snoc (f := nv) (t := (true, (y : Int))) (by rw [HLb.out, HN1.out]) hown6)
      have HO6a : Hid (OwnC nv 37 w6 w.heap.size A5 c5 La2) := Lib.hid (by
        rw [hLa2]
        have h := HO5.out.alloc (.cells #[.bool true, .int .i64 (y : Int)] 37)
        refine hfr6.own h (fun g h1 h2 => ?_)
        rw [← hLa2, hla2] at h1
        exact HP5.out g h1 h2)
      have HP6 : Hid (∀ g, (Value.slice A5 La2.length c5).ownBlock = some g → (Value.slice A6 Lb2.length c6).ownBlock ≠ some g) := Lib.hid (fun g h1 h2 => by
        rw [hla2] at h1
        rw [hlb2] at h2
        rcases hwh6 with h | h
        · rw [h] at h2; exact HP5.out g h1 h2
        · rw [h] at h2; injection h2 with h2; have h3 := HO5lt.out g h1; (try simp at h2); omega)
      have HF6 : Hid (Fr (fun _ => False) w w6) := Lib.hid ((HF5.out.alloc _).trans hfr6 (fun b hb h => by have := (HB5.out.lt b h).1; omega))
      have HLA2 : Hid (La2 = List.replicate (j + 1) (true, (X : Int))) := Lib.hid (by rw [hLa2, HLA.out, List.replicate_succ'])
      have HLB2 : Hid (Lb2 = rises v (j + 1)) := Lib.hid (by rw [hLb2, HLB.out, rises_succ, HY.out])
      have hla3 : La2.length = j + 1 := by rw [hla2, HN1.out]
      have hlb3 : Lb2.length = j + 1 := by rw [hlb2, HN1.out]
      have HA3 := Lib.hid hla2
      have HB3 := Lib.hid hlb2
      have HA4 := Lib.hid hla3
      have HB4 := Lib.hid hlb3
      clear hown6 hfr6 hwh6 hLa2 hLb2 hla2 hlb2 hla3 hlb3
      go_wp2
      go_roundw
      case rel => exact ⟨j + 1, La2, Lb2, A5, A6, c5, c6, by omega, by go_num, by rw [HA3.out], by rw [HB3.out], HA4.out, HB4.out, HLA2.out, HLB2.out, HO6a.out, HO6.out, HP6.out, HF6.out⟩
      case measure => simp [intOf] <;> omega
    · obtain rfl : j = k := by omega
      have hmayA : ∀ c ∈ La, okU c := by
        intro c hc
        rw [HLA.out] at hc
        rw [(List.mem_replicate.1 hc).2]
        exact ⟨by show (0 : Int) ≤ (X : Int); omega, by show (X : Int) < _; omega⟩
      have hmayB : ∀ c ∈ Lb, okU c := by
        intro c hc
        rw [HLB.out] at hc
        obtain ⟨i, _, rfl⟩ := List.mem_map.1 hc
        exact ⟨by show (0 : Int) ≤ (((v + i) % 100 : Nat) : Int); omega, by show (((v + i) % 100 : Nat) : Int) < _; omega⟩
      have hpa := pPut_any Aa La.length ca La wr HOA.out.cls (by omega) hmayA
      have hl1 := len_same j X hk2 (by omega) hX1
      rw [← HLA.out] at hl1
      obtain ⟨P1, hP1⟩ : ∃ P1, P1 = tellW kU (gatherG La) := ⟨_, rfl⟩
      rw [← hP1] at hpa hl1
      have hl2 := len_rises v j (by omega) (by omega)
      rw [← HLB.out] at hl2
      obtain ⟨P2, hP2⟩ : ∃ P2, P2 = tellW kU (gatherG Lb) := ⟨_, rfl⟩
      rw [← hP2] at hl2
      have hpb : ∀ w', Fr (fun _ => False) wr w' → Calls Try.prog 11 #[.slice Ab Lb.length cb] w' (Gives w' P2) := fun w' hf => by rw [hP2]; exact pPut_any Ab Lb.length cb Lb w' (HOB.out.fr hf).cls (by omega) hmayB
      have hone : La.take 1 = [(true, (X : Int))] := by
        obtain ⟨j', hj'⟩ : ∃ j', j = j' + 1 := ⟨j - 1, by omega⟩
        rw [HLA.out, hj', List.replicate_succ]
        rfl
      have hpc : ∀ w', Fr (fun _ => False) wr w' → Calls Try.prog 11 #[.slice Aa 1 ca] w' (Gives w' (tellW kU (gatherG [((true, (X : Int)) : Bool × Int)]))) := fun w' hf => by
        have h := (HOA.out.fr hf).cls.take 1 (by omega)
        rw [hone] at h
        exact pPut_any Aa 1 ca _ w' h (by omega) (by intro c hc; simp at hc; rw [hc]; exact ⟨by show (0 : Int) ≤ (X : Int); omega, by show (X : Int) < _; omega⟩)
      have hl3 := len_one X hX1
      obtain ⟨P3, hP3⟩ : ∃ P3, P3 = tellW kU (gatherG [((true, (X : Int)) : Bool × Int)]) := ⟨_, rfl⟩
      rw [← hP3] at hl3
      rw [← hP3] at hpc
      have hcap := (own_cap HOA.out).2.1
      rw [hla] at hpa hcap
      rw [hlb] at hpb
      rw [hla, hlb]
      have hsl : ∀ w : World, (Instr.sliceAt 22 (.slice Aa j ca) none (some (.int .i64 1)) none).run Try.prog w = .ok (.slice Aa 1 ca) w := to_cells Aa j ca 1 (by omega) hcap 1 rfl
      obtain ⟨n1, hn1⟩ : ∃ n, n = P1.length := ⟨_, rfl⟩
      obtain ⟨n2, hn2⟩ : ∃ n, n = P2.length := ⟨_, rfl⟩
      have t1 : decide ((P1.length : Int) ≤ 4) = true := by simp; omega
      have t1' : decide (P1.length ≤ 4) = true := by simp; omega
      have r11 : IntKind.i64.wrap ((j : Int) + 2) = (j : Int) + 2 := by rw [IntKind.wrap_i64]; omega
      have t2 : decide ((P2.length : Int) ≤ (j : Int) + 2) = true := by simp; omega
      have t3 : ((P3.length : Int) == 2) = true := by rw [hl3]; rfl
      have HPA := Lib.hid hpa
      have HPB := Lib.hid hpb
      have HPC := Lib.hid hpc
      have HL3 := Lib.hid hl3
      clear hmayA hmayB hpa hpb hpc hone hl1 hl2 hl3 hP1 hP2 hP3 hcap hn1 hn2 hla hlb
      go_wp2_with fail
      refine HPA.out.mono ?_
      rintro e w3 ⟨A3, c3, rfl, hO3, hf3⟩
      have HF3 := Lib.hid hf3
      clear hO3 hf3
      go_wp2_with fail
      refine (HPB.out w3 HF3.out).mono ?_
      rintro e w4 ⟨A4, c4, rfl, hO4, hf4⟩
      have HF4 := Lib.hid (HF3.out.trans hf4 (fun _ _ h => h))
      clear hO4 hf4
      go_wp2_with fail
      refine (HPC.out w4 HF4.out).mono ?_
      rintro e w5 ⟨A5, c5, rfl, hO5, hf5⟩
      have HF5 := Lib.hid (HF.out.trans (HF4.out.trans hf5 (fun _ _ h => h)) (fun _ _ h => h))
      clear hO5 hf5
      go_wp2_with fail
      go_ret
      exact ⟨rfl, HF5.out⟩
end Go.Proofs.Ytplgefepbmjcdaa
