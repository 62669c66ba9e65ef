/-
  Layer 18, the program: Put.
  Layer 18, the program: the actor that bytes begin with.
-/
import Derived.Test.YtbnkahjmeobblaaZm28
import Derived.Test.YtbnkahjmeobblaaCoU
import Derived.Test.YtbnkahjmeobblaaZm02
import Derived.Test.YtbnkahjmeobblaaZm11
import Derived.Test.YtbnkahjmeobblaaZm03
namespace Go.Proofs.Ytbnkahjmeobblaa
open Go.RowKit Mem Go.Lib LebM UtfM VaM OpM AcM
attribute [local go_sem ↓] Go.wp_at_zero Go.wp_at_succ
set_option linter.unusedVariables false

theorem run_min18 (n k m : Int) (h : m = min n k) (w : World) : (Builtin.min_ #[3, 3] 3 #[.int .i64 n, .int .i64 k]).run Try.prog w = .ok (.int .i64 m) w := by
  rw [h]
  go_simp
  split <;> omega
theorem run_fromS (A : Option Addr) (n c f : Nat) (hf : f ≤ n) (fi : Int) (ef : fi = (f : Int)) (w' : World) :
    (Instr.sliceAt 31 (.slice A n c) (some (.int .i64 fi)) none none).run Try.prog w' = .ok (.slice (cutAt A c f) (n - f) (c - f)) w' := by
  subst ef
  unfold cutAt
  cases A with
  | none =>
    go_simp
    try (intro h; omega)
  | some ad =>
    go_simp
    try (intro h; omega)
/-- append of a text onto a row of one's own -/
theorem wpList_appX {ops : Array Oper} {rest : List Oper} {o : Oper} {a : Act} {Q : Exit → Act → World → Prop} (w : World) (hgd : o.guard = none) (s x : Operand)
    (ho : o.op = .call { callee := .builtin .append, args := #[s, x], argTypes := #[29, 9] }) (base : Nat) (A : Option Addr) (c : Nat) (B C : List UInt8)
    (hs : a.eval s = .slice A B.length c) (hown : Own w base A c B) (hx : a.eval x = .string (txt C))
    (D : List UInt8) (hD : D = B ++ C) (hfit : D.length ≤ 1000000000000) (hbase : base ≤ w.heap.size)
    (h : ∀ A' c' w', Own w' base A' c' D → Fr (fun k => (Value.slice A B.length c).ownBlock = some k) w w' → wpList Try.prog ops Q rest (a.put o.dst (.slice A' D.length c')) w') : wpList Try.prog ops Q (o :: rest) a w := by
  subst hD
  obtain ⟨i, hi2, hz, hs1, hb1⟩ := info_parts (show (Try.prog.info? 5).map (fun i => (i.zero, i.size, i.bytes)) = some (some (.int .u8 0), 1, 1) by kernel_rfl)
  have hsz : (txt C).size = C.length := rfl
  have hst : strCells (txt C) = C.map bytec := by
    unfold strCells txt
    rfl
  rw [List.length_append] at hfit
  refine wpList_plain hgd fun K hK => ?_
  obtain ⟨v', w', hr, h2, h3, _⟩ := run_append_own_string (P := Try.prog) w base 29 9 o.type 5 i Try.underlying29 Try.underlying9 hi2 hz hs1 hb1 _ _ _ hown (txt C) (by rw [hsz]; unfold maxLen; omega) (by rw [hsz]; omega) hbase
  obtain ⟨A', c', rfl, _, _⟩ := own_form h2
  rw [hst, hsz] at h2
  have e1 : (B ++ C).length = B.length + C.length := List.length_append
  rw [hsz, ← e1] at hr
  rw [← e1, ← List.map_append] at h2
  unfold Oper.wp execOp
  simp only [ho, resolve, invoke, builtin, Sem.run_bind, Sem.run_pure, Result.andThen_ok, List.map_toArray, List.map_cons, List.map_nil, hs, hx, hr]
  exact hK _ _ (h A' c' w' h2 ((Fr.of_grown h3).mono (fun _ _ h => h)))
theorem put_len (l : List Tx) (h : ∀ x ∈ l, x.length ≤ 1000000) : (l.flatMap oneA).length ≤ l.length * 1000010 := by
  induction l with
  | nil => simp
  | cons x l ih =>
    have h1 := h x (List.mem_cons_self ..)
    have h2 := ih (fun y hy => h y (List.mem_cons_of_mem _ hy))
    have h3 := u_len10 (show x.length < 18446744073709551616 by omega)
    rw [List.flatMap_cons, List.length_append, List.length_cons]
    unfold oneA at h2 ⊢
    rw [List.length_append]
    omega
set_option maxRecDepth 100000 in
set_option maxHeartbeats 3200000 in
/-- THE CONTRACT of Put -/
theorem acPut_any (A : Option Addr) (n c : Nat) (L : List Tx) (w : World) (hL : Rd w A n (L.map tc)) (hc : n ≤ c) (hn : n ≤ 100000) (hx : ∀ x ∈ L, x.length ≤ 1000000) :
    Calls Try.prog 34 #[.slice A n c] w fun e w' => Gives w (putA L) e w' := by
  have hln : L.length = n := by simpa using hL.1
  obtain ⟨f, hf⟩ : ∃ f, min n 1 = f := ⟨_, rfl⟩
  have hfn : f ≤ n := by omega
  have hrd := rd_from hL hfn hc
  rw [← List.map_drop] at hrd
  obtain ⟨D, hD⟩ : ∃ D, L.drop f = D := ⟨_, rfl⟩
  rw [hD] at hrd
  have hD1 : L.drop 1 = D := by
    rw [← hD]
    by_cases h0 : n = 0
    · obtain rfl : L = [] := List.length_eq_zero_iff.1 (by omega)
      simp
    · rw [show f = 1 by omega]
  obtain ⟨m, hm⟩ : ∃ m, n - f = m := ⟨_, rfl⟩
  have hDl : D.length = m := by rw [← hD, List.length_drop]; omega
  have hput : putA L = u m ++ D.flatMap oneA := by unfold putA; rw [hD1, show L.length - 1 = m by omega]
  have hmin := run_min18 (n : Int) 1 (f : Int) (by omega)
  have hcut := run_fromS A n c f hfn (f : Int) rfl
  have hxd : ∀ x ∈ D, x.length ≤ 1000000 := fun x h => hx x (List.mem_of_mem_drop (hD ▸ h))
  have hml : m ≤ 100000 := by omega
  rw [hm] at hcut hrd
  obtain ⟨A2, hA2⟩ : ∃ A2, cutAt A c f = A2 := ⟨_, rfl⟩
  obtain ⟨c2, hc2⟩ : ∃ c2, c - f = c2 := ⟨_, rfl⟩
  rw [hA2, hc2] at hcut
  rw [hA2] at hrd
  have hU := fun w => U_any m w (show m < 18446744073709551616 by omega)
  have e1 : IntKind.u64.wrap (m : Int) = (m : Int) := by rw [IntKind.wrap_u64]; omega
  obtain ⟨base, hbase⟩ : ∃ b, w.heap.size = b := ⟨_, rfl⟩
  unfold Gives
  rw [hbase]
  obtain ⟨R, hR⟩ : ∃ R, putA L = R := ⟨_, rfl⟩
  rw [hR] at hput ⊢
  have HP := Lib.hid hput
  have HRD := Lib.hid hrd
  have HXD := Lib.hid hxd
  have HDL := Lib.hid hDl
  have HB := Lib.hid hbase
  have HU := Lib.hid hU
  clear hL hc hx hln hf hfn hrd hD hD1 hm hDl hput hxd hA2 hc2 hU hR hbase
  go_enter Try.func34, Try.ntmps34
  go_wp2_with fail
  clear hmin hcut
  refine (HU.out _).mono ?_
  rintro e w1 ⟨A1, c1, rfl, ho1, hf1⟩
  rw [HB.out] at ho1
  obtain ⟨B1, hB1⟩ : ∃ B, u m = B := ⟨_, rfl⟩
  rw [hB1] at ho1 ⊢
  have HB1 := Lib.hid hB1
  have HO1 := Lib.hid ho1
  have HF1 := Lib.hid hf1
  clear ho1 hf1 hB1
  go_wp2_with fail
  go_loopw [4, 18] (fun b v wr => ∃ k : Nat, k ≤ m ∧ v = .int .i64 (k : Int) ∧ ∃ A1 c1 B, b = .slice A1 B.length c1 ∧ Hid (B = u m ++ (D.take k).flatMap oneA) ∧ Hid (Own wr base A1 c1 B) ∧ Hid (Fr (fun _ => False) w wr)) (fun _ v _ => m - (intOf v).toNat)
  case atStart => exact ⟨0, Nat.zero_le _, rfl, A1, c1, B1, rfl, Lib.hid (by rw [HB1.out]; simp), HO1, HF1⟩
  case round =>
    obtain ⟨k, hk, rfl, A3, c3, B, rfl, HBE, HO, HF⟩ := hrel
    rename World => wr
    by_cases hlt : k < m
    · obtain ⟨ad, x, rfl, hx, hcell⟩ := rd_tx (HRD.out.fr HF.out (fun _ _ => id)) hlt
      have hxl := HXD.out x (List.mem_of_getElem? hx)
      have hsz := txt_sz x
      obtain ⟨l, hl⟩ : ∃ l, x.length = l := ⟨_, rfl⟩
      rw [hl] at hxl hsz
      have e2 : IntKind.u64.wrap (l : Int) = (l : Int) := by rw [IntKind.wrap_u64]; omega
      have hU := fun w => U_any l w (show l < 18446744073709551616 by omega)
      have hul := u_pos l
      have hul2 := u_len10 (show l < 18446744073709551616 by omega)
      obtain ⟨C, hC⟩ : ∃ C, u l = C := ⟨_, rfl⟩
      rw [hC] at hul hul2
      simp only [hC] at hU
      obtain ⟨B2, hB2⟩ : ∃ B2, B2 = B ++ C := ⟨_, rfl⟩
      obtain ⟨B3, hB3⟩ : ∃ B3, B3 = B2 ++ x := ⟨_, rfl⟩
      have hnext : B3 = u m ++ (D.take (k + 1)).flatMap oneA := by
        rw [List.take_add_one, hx, List.flatMap_append, hB3, hB2, HBE.out]
        simp [oneA, ← hC, hl]
      have hbl : B3.length ≤ 1000000000000 := by
        have h1 := put_len (D.take (k + 1)) (fun y hy => HXD.out y (List.mem_of_mem_take hy))
        have h2 := u_len10 (show m < 18446744073709551616 by omega)
        rw [List.length_take] at h1
        rw [hnext, List.length_append]
        omega
      have hbl2 : B2.length ≤ B3.length := by rw [hB3, List.length_append]; omega
      have HU2 := Lib.hid hU
      have HC := Lib.hid hul
      have HB2 := Lib.hid hB2
      have HB3 := Lib.hid hB3
      have HN := Lib.hid hnext
      have HBL : Hid (B3.length ≤ 1000000000000 ∧ B2.length ≤ 1000000000000) := Lib.hid ⟨hbl, by omega⟩
      clear hx hl hU hul hul2 hC hB2 hB3 hnext hbl hbl2
      go_wp2_with fail
      refine (HU2.out _).mono ?_
      rintro e w2 ⟨A4, c4, rfl, ho4, hf4⟩
      have HO2 := Lib.hid (HO.out.fr hf4)
      have HR4 := Lib.hid ho4.rd
      have HF2 := Lib.hid (HF.out.trans hf4 (fun _ _ h => h))
      have HS2 : Hid (base ≤ w2.heap.size) := Lib.hid (by rw [← HB.out]; exact HF2.out.size)
      clear ho4 hf4
      go_wp2_with (at_builtin; refine wpList_appB _ rfl _ _ rfl base _ _ B rfl HO2.out _ _ _ C rfl HR4.out HC.out B2 HB2.out HBL.out.2 HS2.out ?_)
      intro A5 c5 w5 ho5 hf5 _
      have HO5 := Lib.hid ho5
      have HF5 : Hid (Fr (fun _ => False) w w5) := Lib.hid (HF2.out.trans hf5 (fun b hb h => by have := (HO2.out.lt b h).1; have := HB.out; omega))
      have HS5 : Hid (base ≤ w5.heap.size) := Lib.hid (by rw [← HB.out]; exact HF5.out.size)
      clear ho5 hf5
      go_wp2_with (at_builtin; refine wpList_appX _ rfl _ _ rfl base _ _ B2 x rfl HO5.out rfl B3 HB3.out HBL.out.1 HS5.out ?_)
      intro A6 c6 w6 ho6 hf6
      have HO6 := Lib.hid ho6
      have HF6 : Hid (Fr (fun _ => False) w w6) := Lib.hid (HF5.out.trans hf6 (fun b hb h => by have := (HO5.out.lt b h).1; have := HB.out; omega))
      clear ho6 hf6
      go_wp2_with fail
      go_roundw
      case rel => exact ⟨k + 1, by omega, by go_num, A6, c6, B3, by rfl, HN, HO6, HF6⟩
      case measure => simp [intOf] <;> omega
    · obtain rfl : k = m := by omega
      have HX : Hid (R = B) := Lib.hid (by
        rw [HP.out, HBE.out, List.take_of_length_le (by have := HDL.out; omega)])
      go_wp2_with fail
      go_ret
      rw [HX.out]
      exact ⟨A3, c3, rfl, HO.out, HF.out⟩
end Go.Proofs.Ytbnkahjmeobblaa
namespace Go.Proofs.Ytbnkahjmeobblaa
open Go.RowKit Mem Go.Lib LebM UtfM VaM OpM AcM
attribute [local go_sem ↓] Go.wp_at_zero Go.wp_at_succ
set_option linter.unusedVariables false

theorem gu_le (B : List UInt8) : (gu B).2.1 ≤ B.length ∧ (gu B).2.1 ≤ 10 ∧ (gu B).2.2 ≤ 3 ∧ (gu B).1 < 18446744073709551616 := by
  have h := spanK_le B
  have h2 := spanE_le B
  unfold gu
  split
  · exact ⟨Nat.zero_le _, Nat.zero_le _, h2, by show 0 < _; omega⟩
  · split
    · exact ⟨h.1, h.2, by show 0 ≤ 3; omega, Nat.mod_lt _ (by omega)⟩
    · exact ⟨Nat.zero_le _, Nat.zero_le _, by show 3 ≤ 3; omega, by show 0 < _; omega⟩
set_option maxRecDepth 100000 in
set_option maxHeartbeats 3200000 in
theorem first_any (A : Option Addr) (n c : Nat) (B : List UInt8) (w : World) (hr : Rd w A n (B.map bytec)) (hc : n ≤ c) (hn : n ≤ 1000000000) :
    Calls Try.prog 77 #[.slice A n c] w fun e w' => e = .returned (.tuple #[.string (txt (firstA B).1), .int .i64 ((firstA B).2.1 : Int), .int .i64 ((firstA B).2.2 : Int)]) ∧ Fr (fun _ => False) w w' := by
  have hBn : B.length = n := by simpa using hr.1
  have hg := GetU_any A n c B w hr hc
  have hle := gu_le B
  obtain ⟨N, hN⟩ : ∃ N, (gu B).1 = N := ⟨_, rfl⟩
  obtain ⟨K, hK⟩ : ∃ K, (gu B).2.1 = K := ⟨_, rfl⟩
  obtain ⟨E, hE⟩ : ∃ E, (gu B).2.2 = E := ⟨_, rfl⟩
  have hf : firstA B = if E ≠ 0 then ([], 0, E) else if N < 1 ∨ 16 < N then ([], 0, 4) else if n - K < N then ([], 0, 2) else ((B.drop K).take N, K + N, 0) := by
    unfold firstA
    rw [hN, hK, hE, hBn]
  rw [hN, hK, hE] at hg hle
  rw [hBn] at hle
  obtain ⟨hl1, hl2, hl3, hl4⟩ := hle
  have HRD := Lib.hid hr
  have HBN := Lib.hid hBn
  have HG := Lib.hid hg
  clear hr hBn hg hN hK hE
  by_cases he : E ≠ 0
  · rw [if_pos he] at hf
    have t0 : ((E : Int) != 0) = true := by simp; omega
    have t0' : (E != 0) = true := by simp; omega
    have HFI := Lib.hid hf
    clear hf he hl1 hl2 hl3 hl4
    go_enter Try.func77, Try.ntmps77
    go_wp2_with fail
    refine HG.out.mono ?_
    rintro e w1 ⟨rfl, hf1⟩
    have HF1 := Lib.hid hf1
    clear hf1
    go_wp2_with fail
    refine bodyPost_ret (v := .tuple #[.string ⟨#[]⟩, .int .i64 0, .int .i64 (E : Int)]) (by simp [results, Try.results77, go_sem]) rfl ?_
    rw [HFI.out]
    exact ⟨rfl, HF1.out⟩
  · have he0 : E = 0 := by omega
    subst he0
    rw [if_neg (by simp)] at hf
    clear he hl3
    by_cases h16 : N < 1 ∨ 16 < N
    · rw [if_pos h16] at hf
      have HFI := Lib.hid hf
      clear hf hl1 hl2
      by_cases h0 : N < 1
      · have t1 : decide ((N : Int) < 1) = true := decide_eq_true (by omega)
        have t1' : decide (N < 1) = true := decide_eq_true (by omega)
        clear h16 h0
        go_enter Try.func77, Try.ntmps77
        go_wp2_with fail
        refine HG.out.mono ?_
        rintro e w1 ⟨rfl, hf1⟩
        have HF1 := Lib.hid hf1
        clear hf1
        go_wp2_with fail
        refine bodyPost_ret (v := .tuple #[.string ⟨#[]⟩, .int .i64 0, .int .i64 4]) (by simp [results, Try.results77, go_sem]) rfl ?_
        rw [HFI.out]
        exact ⟨rfl, HF1.out⟩
      · have t1 : decide ((N : Int) < 1) = false := decide_eq_false (by omega)
        have t1' : decide (N < 1) = false := decide_eq_false (by omega)
        have t2 : decide ((16 : Int) < (N : Int)) = true := decide_eq_true (by omega)
        have t2' : decide (16 < N) = true := decide_eq_true (by omega)
        clear h16 h0
        go_enter Try.func77, Try.ntmps77
        go_wp2_with fail
        refine HG.out.mono ?_
        rintro e w1 ⟨rfl, hf1⟩
        have HF1 := Lib.hid hf1
        clear hf1
        go_wp2_with fail
        refine bodyPost_ret (v := .tuple #[.string ⟨#[]⟩, .int .i64 0, .int .i64 4]) (by simp [results, Try.results77, go_sem]) rfl ?_
        rw [HFI.out]
        exact ⟨rfl, HF1.out⟩
    · rw [if_neg h16] at hf
      have t1 : decide ((N : Int) < 1) = false := decide_eq_false (by omega)
      have t1' : decide (N < 1) = false := decide_eq_false (by omega)
      have t2 : decide ((16 : Int) < (N : Int)) = false := decide_eq_false (by omega)
      have t2' : decide (16 < N) = false := decide_eq_false (by omega)
      obtain ⟨m, hm⟩ : ∃ m, n - K = m := ⟨_, rfl⟩
      have r1 : IntKind.i64.wrap ((n : Int) - (K : Int)) = (m : Int) := by rw [IntKind.wrap_i64]; omega
      have r2 : IntKind.u64.wrap (m : Int) = (m : Int) := by rw [IntKind.wrap_u64]; omega
      rw [hm] at hf
      by_cases hs : m < N
      · rw [if_pos hs] at hf
        have t3 : decide ((m : Int) < (N : Int)) = true := decide_eq_true (by omega)
        have t3' : decide (m < N) = true := decide_eq_true (by omega)
        have HFI := Lib.hid hf
        clear hf h16 hs hm
        go_enter Try.func77, Try.ntmps77
        go_wp2_with fail
        refine HG.out.mono ?_
        rintro e w1 ⟨rfl, hf1⟩
        have HF1 := Lib.hid hf1
        clear hf1
        go_wp2_with fail
        refine bodyPost_ret (v := .tuple #[.string ⟨#[]⟩, .int .i64 0, .int .i64 2]) (by simp [results, Try.results77, go_sem]) rfl ?_
        rw [HFI.out]
        exact ⟨rfl, HF1.out⟩
      · rw [if_neg hs] at hf
        have t3 : decide ((m : Int) < (N : Int)) = false := decide_eq_false (by omega)
        have t3' : decide (m < N) = false := decide_eq_false (by omega)
        have r3 : IntKind.i64.wrap (N : Int) = (N : Int) := by rw [IntKind.wrap_i64]; omega
        obtain ⟨y, hy⟩ : ∃ y, K + N = y := ⟨_, rfl⟩
        have r4 : IntKind.i64.wrap ((K : Int) + (N : Int)) = (y : Int) := by rw [IntKind.wrap_i64]; omega
        have hcut := run_cutB A n c K y (by omega) (by omega) hc (K : Int) (y : Int) rfl rfl
        have hrd := fun (w' : World) (h : Fr (fun _ => False) w w') => rd_cut (HRD.out.fr h (fun _ _ h => h)) (f := K) (y := y) (by omega) (by omega) hc
        obtain ⟨A2, hA2⟩ : ∃ A2, cutAt A c K = A2 := ⟨_, rfl⟩
        rw [hA2] at hcut hrd
        have he : (B.take y).drop K = (B.drop K).take N := by rw [← hy, List.drop_take, Nat.add_sub_cancel_left]
        obtain ⟨X, hX⟩ : ∃ X, (B.drop K).take N = X := ⟨_, rfl⟩
        rw [hX] at he hf
        simp only [← List.map_take, ← List.map_drop, he] at hrd
        obtain ⟨z, hz⟩ : ∃ z, y - K = z := ⟨_, rfl⟩
        obtain ⟨c2, hc2⟩ : ∃ c2, c - K = c2 := ⟨_, rfl⟩
        rw [hz, hc2] at hcut
        simp only [hz] at hrd
        rw [hy] at hf
        have HFI := Lib.hid hf
        have HRX := Lib.hid hrd
        clear hf h16 hs hm hrd hA2 he hX hy hz hc2
        go_enter Try.func77, Try.ntmps77
        go_wp2_with fail
        refine HG.out.mono ?_
        rintro e w1 ⟨rfl, hf1⟩
        have HF1 := Lib.hid hf1
        have hstr := str_rd (HRX.out w1 hf1) c2
        clear hf1
        go_wp2_with fail
        refine bodyPost_ret (v := .tuple #[.string (txt X), .int .i64 (y : Int), .int .i64 0]) (by simp [results, Try.results77, go_sem]) rfl ?_
        rw [HFI.out]
        exact ⟨rfl, HF1.out⟩
end Go.Proofs.Ytbnkahjmeobblaa
