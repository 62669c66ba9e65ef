/-
  The law RawBack (written by gen_laws15.py).
-/
import Derived.Test.YtcoohjjjiakdjaaRaF
import Derived.Test.YtcoohjjjiakdjaaRaY
namespace Go.Proofs.Ytcoohjjjiakdjaa
open Go.RowKit Mem Go.Lib RleM LebM VaM
attribute [local go_sem ↓] Go.wp_at_zero Go.wp_at_succ
set_option linter.unusedVariables false

theorem right_put100 {v : V} (hv : v.ok) (h : okL v = true) : (putV v).length ≤ 100 := by
  have h3 := u_len10 hv.2.1
  have h4 := s_len10 hv.2.2.1 hv.2.2.2
  unfold okL at h
  rw [Bool.and_eq_true, decide_eq_true_eq] at h
  have h5 := h.1
  unfold putV
  split <;> first | omega | simp
theorem putB_len100 : ∀ {L : List V}, (∀ v ∈ L, v.ok ∧ okL v = true) → (putB L).length ≤ L.length * 100
  | [], _ => Nat.le_refl _
  | v :: T, h => by
    have h1 := putB_len100 (L := T) (fun x hx => h x (List.mem_cons_of_mem _ hx))
    have h2 := right_put100 (h v (List.mem_cons_self ..)).1 (h v (List.mem_cons_self ..)).2
    unfold putB at h1 ⊢
    rw [List.flatMap_cons, List.length_append, List.length_cons, Nat.add_mul, Nat.one_mul]
    omega
set_option maxRecDepth 100000 in
set_option maxHeartbeats 6400000 in
theorem rawback_law (K : RawC) (A : Option Addr) (n c : Nat) (L : List V) (x : UInt8) (w : World) (hL : Vls w A n L) (hn : n ≤ maxLen) (hok : ∀ v ∈ L, v.ok) (hml : ∀ v ∈ L, v.s.length ≤ maxLen) :
    Calls Try.prog 4 #[.slice A n c, bytec x] w fun e w' => e = .returned (.bool true) ∧ Fr (fun _ => False) w w' := by
  have hb100 : (putB (rightL L)).length ≤ (rightL L).length * 100 := putB_len100 (fun v hv => ⟨(rightL_ok hok v hv).1, (List.mem_filter.1 hv).2⟩)
  have haw := fun w' => awake15_any K w'
  have hrg := fun w' (hf : Fr (fun _ => False) w w') => lright_any A n c L w' (hL.fr hf (fun _ _ h => h)) hn hok hml
  have hro := rightL_ok hok
  have hrl := rightL_len L
  obtain ⟨R, hR⟩ : ∃ R, rightL L = R := ⟨_, rfl⟩
  rw [hR] at hro hrl hb100
  simp only [hR] at hrg
  obtain ⟨r, hr⟩ : ∃ r, R.length = r := ⟨_, rfl⟩
  rw [hr] at hrl
  have hml' := putM_len hro (by omega)
  have hbl' := putB_len hro
  rw [hr] at hml' hbl' hb100
  have hg1 := get_back hro (by omega) []
  have hg2 := get_back hro (by omega) [x]
  have hg3 := fun hs => get_more hro (by omega) hs (putB R)
  have hg4 := fun hs => get_less hro (by omega) hs (putB R)
  have hp0 := @putM_none R
  have hp1 := @putM_some R
  have hb0 := putB_none hro
  rw [if_pos rfl, List.append_nil, hr] at hg1
  rw [if_neg (by simp), hr] at hg2
  rw [hr] at hg3 hg4
  obtain ⟨M, hM⟩ : ∃ M, putM R = M := ⟨_, rfl⟩
  obtain ⟨B, hB⟩ : ∃ B, putB R = B := ⟨_, rfl⟩
  obtain ⟨S, hS⟩ : ∃ S, someV R = S := ⟨_, rfl⟩
  rw [hM, hB] at hg1 hg2
  simp only [hM, hB, hS] at hg3 hg4 hp0 hp1 hb0
  rw [hM] at hml'
  rw [hB] at hb100
  obtain ⟨ml, hmm⟩ : ∃ ml, M.length = ml := ⟨_, rfl⟩
  obtain ⟨bl, hbb⟩ : ∃ bl, B.length = bl := ⟨_, rfl⟩
  rw [hmm] at hml'
  rw [hbb] at hb100
  have hmle : ml ≤ 15000 := by omega
  have hble : bl ≤ 50000 := by omega
  have HG1 := Lib.hid hg1
  have HG2 := Lib.hid hg2
  have HG3 := Lib.hid hg3
  have HG4 := Lib.hid hg4
  have HP0 := Lib.hid hp0
  have HP1 := Lib.hid hp1
  have HB0 := Lib.hid hb0
  have HME := Lib.hid hM
  have HBE := Lib.hid hB
  have HMM := Lib.hid hmm
  have HBB := Lib.hid hbb
  have HAW := Lib.hid haw
  have HRG := Lib.hid hrg
  have HRO := Lib.hid hro
  have HRL := Lib.hid hr
  clear haw hrg hL hok hml hn hR hr hro hml' hbl' hb100 hg1 hg2 hg3 hg4 hp0 hp1 hb0 hM hB hmm hbb hS
  unfold bytec
  go_enter Try.func4, Try.ntmps4
  go_wp2_with fail
  refine (HAW.out _).mono ?_
  rintro e w1 ⟨rfl, hf⟩
  have HF1 := Lib.hid hf
  clear hf HAW
  go_wp2_with fail
  refine (HRG.out w1 HF1.out).mono ?_
  intro e w2 h2
  obtain ⟨Ax, cx, rfl, ho, hf⟩ := h2
  have hvx := ho.vls
  rw [HRL.out] at hvx ⊢
  have HVX := Lib.hid hvx
  have HF2 := Lib.hid (HF1.out.trans hf (fun _ _ h => h))
  clear ho hf hvx HRG
  go_wp2_with fail
  have hput := K.put Ax r cx R w2 HVX.out (by omega) HRO.out
  rw [HME.out, HBE.out] at hput
  unfold Both at hput
  rw [HMM.out, HBB.out] at hput
  refine hput.mono ?_
  intro e w3 h3
  obtain ⟨A1, c1, A2, c2, rfl, ho1, ho2, hf⟩ := h3
  have hr1 := ho1.rd
  have hr2 := ho2.rd
  have hc1 := ho1.cap.1
  have hc2 := ho2.cap.1
  rw [HMM.out] at hr1 hc1
  rw [HBB.out] at hr2 hc2
  have HR1 := Lib.hid hr1
  have HR2 := Lib.hid hr2
  have HC1 := Lib.hid hc1
  have HC2 := Lib.hid hc2
  have HF3 := Lib.hid (HF2.out.trans hf (fun _ _ h => h))
  have HVX3 := Lib.hid (HVX.out.fr hf (fun _ _ h => h))
  have hget := K.get A1 ml c1 M A2 bl c2 _ (r : Int) w3 HR1.out (HC1.out) (by omega) HR2.out HC2.out (by omega) (by omega) (by omega)
  rw [HG1.out] at hget
  unfold ValsOut at hget
  simp only [HRL.out] at hget
  have HGET := Lib.hid hget
  clear ho1 ho2 hf hput hr1 hr2 hc1 hc2 hget
  go_wp2_with fail
  refine HGET.out.mono ?_
  intro e w4 h4
  obtain ⟨A4, c4, rfl, ho, hf⟩ := h4
  have HF4 := Lib.hid hf
  have hv4 := ho.vls
  rw [HRL.out] at hv4
  have HV4 := Lib.hid hv4
  have hmade := World.ownsRow_made (base := w4.heap.size) (e := 5) (size := 1) w4 #[] 0 (Nat.le_refl _) (Nat.zero_le _) rfl
  have hrb := (HR2.out.fr hf (fun _ _ h => h)).fr ((Fr.refl (fun _ => False) w4).alloc (.cells #[] 5)) (fun _ _ h => h)
  clear ho hf hv4 HGET
  go_wp2_with (at_builtin; refine wpList_appN u8T _ rfl _ _ rfl w4.heap.size _ _ _ rfl hmade _ _ _ _ rfl hrb (bytec_one _) bl (by omega) (by unfold maxLen; omega) (by omega) (by simp) ?_)
  intro A5 c5 w5 _ _ hown5 hfr5 _
  have hfr5 : Fr (fun _ => False) w4 w5 := ((Fr.refl _ w4).alloc _).trans hfr5 (fun b hb h => by simp [Value.ownBlock] at h; omega)
  have HF5 := Lib.hid hfr5
  have HO5 := Lib.hid hown5
  obtain ⟨N1, hN1⟩ : ∃ N1, N1 = bl + 1 := ⟨_, rfl⟩
  have HN1 := Lib.hid hN1
  have hN1l : N1 ≤ 50001 := by omega
  have hsz5 := hfr5.size
  have HSZ5 := Lib.hid hsz5
  clear hmade hrb hown5 hfr5 hN1 hsz5
  go_wp2_with (at_builtin; refine wpList_appN u8T _ rfl _ _ rfl w4.heap.size _ _ _ rfl (HO5.out.alloc _) _ _ _ _ rfl (Rd.one _ _ _) (one_one _ _) N1 HN1.out (by unfold maxLen; omega) (by omega) (by have := HSZ5.out; simp; omega) ?_)
  intro A6 c6 w6 hNc _ hown6 hfr6 _
  have hr6 : Rd w6 A6 N1 ((B ++ [x]).map bytec) := by rw [List.map_append]; exact Rd.of_own hown6
  have hf6 : Fr (fun _ => False) w4 w6 := (HF5.out.alloc _).trans hfr6 (fun b hb h => by have := HO5.out.lt _ h; omega)
  have HF6 := Lib.hid (HF4.out.trans hf6 (fun _ _ h => h))
  have HV6 := Lib.hid (HV4.out.fr hf6 (fun _ _ h => h))
  have hget := K.get A1 ml c1 M A6 N1 c6 _ (r : Int) w6 (HR1.out.fr HF6.out (fun _ _ h => h)) (HC1.out) (by omega) hr6 hNc (by omega) (by omega) (by omega)
  rw [HG2.out] at hget
  unfold ValsOut at hget
  have HGET := Lib.hid hget
  clear hown6 hfr6 hr6 hf6 hNc hget
  go_wp2_with fail
  refine HGET.out.mono ?_
  intro e w7 h7
  obtain ⟨A7, c7, rfl, ho, hf⟩ := h7
  have HF7 := Lib.hid (HF6.out.trans hf (fun _ _ h => h))
  have hsame := fun (w' : World) (hf' : Fr (fun _ => False) w7 w') => rsameV_any Ax r cx R A4 r c4 R w' ((HVX3.out.fr HF7.out (fun _ _ h => h)).fr hf' (fun _ _ h => h)) ((HV6.out.fr hf (fun _ _ h => h)).fr hf' (fun _ _ h => h)) (by omega) (by omega) true (by simp)
  have hget3 := fun (w' : World) (hf' : Fr (fun _ => False) w7 w') (m : Int) (h0 : -9223372036854775808 ≤ m) (h1 : m ≤ 1000000) => K.get A1 ml c1 M A2 bl c2 B m w' ((HR1.out.fr HF7.out (fun _ _ h => h)).fr hf' (fun _ _ h => h)) HC1.out (by omega) ((HR2.out.fr HF7.out (fun _ _ h => h)).fr hf' (fun _ _ h => h)) HC2.out (by omega) h0 h1
  have HSAME := Lib.hid (hsame w7 (Fr.refl _ _))
  have HGT := Lib.hid hget3
  clear ho hf hsame hget3 HGET
  have f1 : ((3 : Int) == 0) = false := by decide
  cases S with
  | false =>
    have hm0 := HP0.out rfl
    have hb0 := HB0.out rfl
    obtain rfl : 0 = ml := by rw [← HMM.out, hm0]; rfl
    obtain rfl : 0 = bl := by rw [← HBB.out, hb0]; rfl
    clear hm0 hb0
    go_wp2_with fail
    refine HSAME.out.mono ?_
    rintro e w8 ⟨rfl, hf⟩
    have HF8 := Lib.hid ((HF3.out.trans HF7.out (fun _ _ h => h)).trans hf (fun _ _ h => h))
    clear hf
    go_wp2_with fail
    go_ret
    exact ⟨rfl, HF8.out⟩
  | true =>
    have hm0 : ¬ ml = 0 := fun h => HP1.out rfl (List.length_eq_zero_iff.1 (by rw [HMM.out]; exact h))
    have t0 : ((ml : Int) == 0) = false := by simp; exact hm0
    have t1 : (ml == 0) = false := by simp; exact hm0
    have r1 : IntKind.i64.wrap ((r : Int) + 1) = (r : Int) + 1 := by rw [IntKind.wrap_i64]; omega
    have r2 : IntKind.i64.wrap ((r : Int) - 1) = (r : Int) - 1 := by rw [IntKind.wrap_i64]; omega
    go_wp2_with fail
    refine HSAME.out.mono ?_
    rintro e w8 ⟨rfl, hf⟩
    have HF8 := Lib.hid hf
    have hg3 := HGT.out w8 hf ((r : Int) + 1) (by omega) (by omega)
    rw [HG3.out (by first | rfl | trivial)] at hg3
    unfold ValsOut at hg3
    have HG := Lib.hid hg3
    clear hf hg3
    go_wp2_with fail
    refine HG.out.mono ?_
    intro e w9 h9
    obtain ⟨A9, c9, rfl, _, hf⟩ := h9
    have HF9 := Lib.hid (HF8.out.trans hf (fun _ _ h => h))
    have hg4 := HGT.out w9 HF9.out ((r : Int) - 1) (by omega) (by omega)
    rw [HG4.out (by first | rfl | trivial)] at hg4
    unfold ValsOut at hg4
    have HG' := Lib.hid hg4
    clear hf hg4
    go_wp2_with fail
    refine HG'.out.mono ?_
    intro e w10 h10
    obtain ⟨A10, c10, rfl, _, hf⟩ := h10
    have HF10 := Lib.hid ((HF3.out.trans HF7.out (fun _ _ h => h)).trans (HF9.out.trans hf (fun _ _ h => h)) (fun _ _ h => h))
    clear hf
    go_wp2_with fail
    go_ret
    exact ⟨rfl, HF10.out⟩
end Go.Proofs.Ytcoohjjjiakdjaa
