/-
  Layer 16, the reference: Put; append of a text onto a row of one's own, and where the row lies then.
-/
import Derived.Test.YtfgjneodhmfknaaDirY
import Derived.Test.YtfgjneodhmfknaaDirC
namespace Go.Proofs.Ytfgjneodhmfknaa
open Go.RowKit Mem Go.Lib LebM DirM
attribute [local go_sem ↓] Go.wp_at_zero Go.wp_at_succ
set_option linter.unusedVariables false

theorem app_txt_at {P : Program} {w : World} {base : Nat} {t u ty e : TypeId} {i : TypeInfo} (ht : P.underlying t = some (.slice e)) (hu : P.underlying u = some .string) (hi : P.info? e = some i) (hz : i.zero = some (.int .u8 0))
    (hsize : i.size = 1) (hby : i.bytes = 1) {v : Value} {n : Nat} {xs : List Value} (hown : w.ownsRow base e 1 v n xs) {s : ByteArray} (h63 : n + s.size ≤ maxLen) (hbytes : n + s.size ≤ 140737488355328) (hbase : base ≤ w.heap.size)
    {v' : Value} {w' : World} (hr : (Builtin.append_ #[t, u] ty #[v, .string s]).run P w = .ok v' w') : v'.ownBlock = v.ownBlock ∨ v'.ownBlock = some w.heap.size := by
  have hsmall : n + s.size ≤ 9223372036854775807 := by simp only [maxLen] at h63; omega
  rcases hown.2 with ⟨rfl, rfl⟩ | ⟨g, cap, cur, rfl, hbg, hg, hnc, hcm, hcs, htake⟩
  · by_cases hm : s.size = 0
    · obtain ⟨v2, w2, hr2, _, _, h4⟩ := run_append_own_string (P := P) w base t u ty e i ht hu hi hz hsize hby _ 0 xs hown s h63 hbytes hbase
      rw [hr] at hr2
      injection hr2 with e1 e2
      subst e1
      rw [h4.2 ⟨rfl, hm⟩]
      exact Or.inl rfl
    · have hr2 := run_append_nil_string (P := P) w t u ty e i (.int .u8 0) ht hu hi hz s (by omega) (by omega) (by rw [hby]; omega)
      rw [hr] at hr2
      injection hr2 with e1 e2
      subst e1
      exact Or.inr rfl
  · by_cases hroom : n + s.size ≤ cap
    · have hcs' : cur.size = cap := by simpa using hcs
      have hr2 := run_append_room_string (P := P) w t u ty e i ht hu hi hsize g n cap cur hg s hroom (by omega)
      rw [hr] at hr2
      injection hr2 with e1 e2
      subst e1
      exact Or.inl rfl
    · have hxl : xs.length = n := by simpa using hown.1
      have holds : ∀ j u, xs[j]? = some u → w.cell? ((⟨g, 0, none⟩ : Addr).add j) = some u := hown.cells (g := g) rfl
      have hr2 := run_append_grow_string (P := P) w t u ty e i (.int .u8 0) ht hu hi hz ⟨g, 0, none⟩ n cap xs (by rw [hsize]; simpa using hxl) holds s (by omega) (by omega) (by rw [hby]; exact growslice_fits (by omega) (by omega))
      rw [hr] at hr2
      injection hr2 with e1 e2
      subst e1
      exact Or.inr rfl
theorem wpList_app_txt2 {P : Program} {t u e : TypeId} (ht : P.underlying t = some (.slice e)) (hu : P.underlying u = some .string) (hi : (P.info? e).map (fun i => (i.zero, i.size, i.bytes)) = some (some (.int .u8 0), 1, 1))
    {ops : Array Oper} {rest : List Oper} {o : Oper} {a : Act} {Q : Exit → Act → World → Prop} (w : World) (hgd : o.guard = none) (s x : Operand)
    (ho : o.op = .call { callee := .builtin .append, args := #[s, x], argTypes := #[t, u] }) (base : Nat) (A : Option Addr) (c : Nat) (B C : List UInt8) (T : ByteArray) (hT : T = txt C)
    (hs : a.eval s = .slice A B.length c) (hown : w.ownsRow base e 1 (.slice A B.length c) B.length (B.map bytec)) (hx : a.eval x = .string T)
    (D : List UInt8) (hD : D = B ++ C) (hfit : D.length ≤ 1000000000000) (hbase : base ≤ w.heap.size)
    (h : ∀ A' c' w', w'.ownsRow base e 1 (.slice A' D.length c') D.length (D.map bytec) → Fr (fun k => (Value.slice A B.length c).ownBlock = some k) w w' →
      ((Value.slice A' D.length c').ownBlock = (Value.slice A B.length c).ownBlock ∨ (Value.slice A' D.length c').ownBlock = some w.heap.size) → wpList P ops Q rest (a.put o.dst (.slice A' D.length c')) w') : wpList P ops Q (o :: rest) a w := by
  subst hD hT
  obtain ⟨i, hi2, hz, hs1, hb1⟩ := info_parts hi
  have hsz : (txt C).size = C.length := rfl
  have hst : strCells (txt C) = C.map bytec := by
    unfold strCells txt
    rfl
  rw [List.length_append] at hfit
  refine wpList_plain hgd fun K hK => ?_
  obtain ⟨v', w', hr, h2, h3, _⟩ := run_append_own_string (P := P) w base t u o.type e i ht hu hi2 hz hs1 hb1 _ _ _ hown (txt C) (by rw [hsz]; unfold maxLen; omega) (by rw [hsz]; omega) hbase
  have hl := app_txt_at ht hu hi2 hz hs1 hb1 hown (by rw [hsz]; unfold maxLen; omega) (by rw [hsz]; omega) hbase hr
  obtain ⟨A', c', rfl, _, _⟩ := own_form h2
  rw [hst, hsz] at h2
  have e1 : (B ++ C).length = B.length + C.length := List.length_append
  rw [hsz, ← e1] at hr hl
  rw [← e1, ← List.map_append] at h2
  unfold Oper.wp execOp
  simp only [ho, resolve, invoke, builtin, Sem.run_bind, Sem.run_pure, Result.andThen_ok, List.map_toArray, List.map_cons, List.map_nil, hs, hx, hr]
  exact hK _ _ (h A' c' w' h2 ((Fr.of_grown h3).mono (fun _ _ h => h)) hl)
theorem fullR_step {L : List Col} {k : Nat} {x : Col} (h : L[k]? = some x) : full (L.take (k + 1)) = full (L.take k) ++ (if 0 < x.2.length then [x] else []) := by
  rw [List.take_add_one, h, Option.toList_some]
  unfold full
  rw [List.filter_append]
  congr 1
  rw [List.filter_cons]
  by_cases hx : 0 < x.2.length
  · rw [if_pos (decide_eq_true hx), if_pos hx]
    rfl
  · rw [if_neg (fun h => hx (of_decide_eq_true h)), if_neg hx]
    rfl
theorem txt_empty (S : List UInt8) : (txt S).toList.isEmpty = decide (S = []) := by
  rw [show (txt S).toList = S from ByteArray.toList_mk S]
  cases S <;> rfl
set_option maxRecDepth 100000 in
set_option maxHeartbeats 6400000 in
/-- THE CONTRACT of the reference's Put -/
theorem rput_any (A : Option Addr) (n c : Nat) (L : List Col) (w : World) (hL : Prs ridc rtxt w A n L) (hn : n ≤ 1000) (hid : ∀ x ∈ L, x.1 ≤ 1000000000000) (hb : ∀ x ∈ L, x.2.length ≤ 1000000) :
    Calls Try.prog 11 #[.slice A n c] w (Gives w (putC L)) := by
  have hln := hL.1
  have HL := Lib.hid hL
  have HLN := Lib.hid hln
  have HID := Lib.hid hid
  have HBB := Lib.hid hb
  obtain ⟨base, hbase⟩ : ∃ base, base = w.heap.size := ⟨_, rfl⟩
  have HB := Lib.hid hbase
  unfold Gives
  rw [← hbase]
  clear hL hln hid hb hbase
  go_enter Try.func11, Try.ntmps11
  go_wp2_with fail
  go_loopw [3, 4, 5, 6] (fun cn s b v wr => ∃ (k m : Nat) (P D : List UInt8) (A1 A2 : Option Addr) (c1 c2 : Nat), k ≤ n ∧ v = .int .i64 (k : Int) ∧ cn = .int .i64 (m : Int) ∧ m ≤ k ∧ s = .slice A1 P.length c1 ∧ b = .slice A2 D.length c2 ∧
    P.length ≤ 20 * k ∧ D.length ≤ 1000000 * k ∧ Hid (m = (full (L.take k)).length) ∧ Hid (P = headC (full (L.take k))) ∧ Hid (D = dataC (full (L.take k))) ∧
    Hid (Own wr base A1 c1 P) ∧ Hid (Own wr base A2 c2 D) ∧ Hid (Apart (.slice A1 P.length c1) (.slice A2 D.length c2)) ∧ Hid (Fr (fun _ => False) w wr)) (fun _ _ _ v _ => n - (intOf v).toNat)
  case atStart => exact ⟨0, 0, [], [], none, none, 0, 0, Nat.zero_le _, rfl, rfl, Nat.zero_le _, rfl, rfl, by simp, by simp, (by simp [full] : 0 = (full (L.take 0)).length), (by simp [full, headC] : ([] : List UInt8) = headC (full (L.take 0))), (by simp [full, dataC] : ([] : List UInt8) = dataC (full (L.take 0))), Own.nil _ _, Own.nil _ _, (fun k h => by cases h), Fr.refl _ _⟩
  case round =>
    obtain ⟨k, m, P, D, A1, A2, c1, c2, hk, rfl, rfl, hm, rfl, rfl, hPl, hDl, HM, HP, HD, HO1, HO2, HAP, HF⟩ := hrel
    rename World => wr
    by_cases hlt : k < n
    · obtain ⟨⟨id, S⟩, hx⟩ : ∃ x, L[k]? = some x := ⟨_, List.getElem?_eq_getElem (by have := HLN.out; omega)⟩
      obtain ⟨gx, ox, rfl, hgx, h0, h1⟩ := (HL.out.fr HF.out (fun _ _ => fun h => h)).2 k _ hx
      have hgx : gx < base := by
        obtain ⟨g', o', e, hb, _⟩ := HL.out.2 k _ hx
        injection e with e
        injection e with e1 e2
        rw [HB.out, e1]; exact hb
      have hxi := HID.out _ (List.mem_of_getElem? hx)
      have hxb := HBB.out _ (List.mem_of_getElem? hx)
      have hfs := fullR_step hx
      simp only at hxi hxb hfs
      have h0' : wr.cell? ⟨gx, ox + k * 2, none⟩ = some (.int .i64 (id : Int)) := h0
      have h1' : wr.cell? ⟨gx, ox + k * 2 + 1, none⟩ = some (.string (txt S)) := h1
      obtain ⟨z, hz⟩ : ∃ z, S.length = z := ⟨_, rfl⟩
      rw [hz] at hxb hfs
      have hsz : (txt S).size = z := hz
      have HFS := Lib.hid hfs
      have HZ := Lib.hid hz
      have HGX := Lib.hid hgx
      have HX := Lib.hid hx
      clear hx hfs hz h0 h1 hgx
      by_cases hz0 : z = 0
      · subst hz0
        obtain rfl : S = [] := List.eq_nil_of_length_eq_zero HZ.out
        have t0 : (txt ([] : List UInt8)).toList.isEmpty = true := by rw [txt_empty]; rfl
        have HFS0 : Hid (full (L.take (k + 1)) = full (L.take k)) := Lib.hid (by rw [HFS.out, if_neg (by omega), List.append_nil])
        go_wp2_with fail
        go_roundw
        case rel =>
          exact ⟨k + 1, m, P, D, A1, A2, c1, c2, by omega, by go_num, by rfl, by omega, by rfl, by rfl, by omega, by omega, by rw [HFS0.out]; exact HM, by rw [HFS0.out]; exact HP, by rw [HFS0.out]; exact HD,
            HO1, HO2, HAP, HF⟩
        case measure => simp [intOf]; omega
      · have HFS1 : Hid (full (L.take (k + 1)) = full (L.take k) ++ [(id, S)]) := Lib.hid (by rw [HFS.out, if_pos (by omega)])
        have t0 : (txt S).toList.isEmpty = false := by
          rw [txt_empty]
          exact decide_eq_false (fun h => hz0 (by rw [← HZ.out, h]; rfl))
        have e3 : IntKind.i64.wrap ((m : Int) + 1) = ((m + 1 : Nat) : Int) := by rw [IntKind.wrap_i64]; omega
        have e4 : IntKind.u64.wrap (id : Int) = (id : Int) := by rw [IntKind.wrap_u64]; omega
        have e5 : IntKind.u64.wrap (z : Int) = (z : Int) := by rw [IntKind.wrap_u64]; omega
        have hu1 := rU_any id wr (by omega)
        have hu2 := fun w => rU_any z w (by omega)
        obtain ⟨C1, hC1⟩ : ∃ C, C = u id := ⟨_, rfl⟩
        obtain ⟨C2, hC2⟩ : ∃ C, C = u z := ⟨_, rfl⟩
        rw [← hC1] at hu1
        rw [← hC2] at hu2
        have hl1 : 0 < C1.length ∧ C1.length ≤ 10 := by rw [hC1]; exact ⟨u_pos id, u_len10 (by omega)⟩
        have hl2 : 0 < C2.length ∧ C2.length ≤ 10 := by rw [hC2]; exact ⟨u_pos z, u_len10 (by omega)⟩
        have HU1 := Lib.hid hu1
        have HU2 := Lib.hid hu2
        have HL1 := Lib.hid hl1
        have HL2 := Lib.hid hl2
        have HC1 := Lib.hid hC1
        have HC2 := Lib.hid hC2
        have HZ0 : Hid (0 < z) := Lib.hid (by omega)
        clear hu1 hu2 hl1 hl2 hC1 hC2 hz0
        have HBW : Hid (base ≤ wr.heap.size) := Lib.hid (by have h1 := HB.out; have h2 := HF.out.size; omega)
        go_upto_region 8 with fail
        go_wp2_with fail
        refine HU1.out.mono ?_
        rintro e w1 ⟨A4, c4, rfl, ho4, hf4⟩
        have HO4 := Lib.hid ho4
        have HF4 := Lib.hid (HF.out.trans hf4 (fun _ _ h => h))
        have HO14 := Lib.hid (HO1.out.fr hf4)
        have HO24 := Lib.hid (HO2.out.fr hf4)
        obtain ⟨P2, hP2⟩ : ∃ P2, P2 = P ++ C1 := ⟨_, rfl⟩
        have hP2l : P2.length ≤ 20 * k + 10 := by rw [hP2, List.length_append]; have := HL1.out; omega
        have HP2 := Lib.hid hP2
        have HBW4 : Hid (base ≤ w1.heap.size) := Lib.hid (by have h1 := HBW.out; have h2 := hf4.size; omega)
        clear ho4 hf4 hP2 h0' h1'
        go_wp2_with (at_builtin; refine wpList_appB w1 rfl _ _ rfl base A1 c1 P rfl HO14.out A4 C1.length c4 C1 rfl HO4.out.rd HL1.out.1 P2 HP2.out (by omega) HBW4.out ?_)
        intro A5 c5 w5 ho5 hf5 hg5
        have HO5 := Lib.hid ho5
        have HO25 : Hid (Own w5 base A2 c2 D) := Lib.hid (hf5.own HO24.out (fun b hb e => HAP.out b e hb))
        have HAP5 : Hid (Apart (.slice A5 P2.length c5) (.slice A2 D.length c2)) := Lib.hid (HAP.out.grow (fun k hk => (HO24.out.lt k hk).2) hg5)
        have HF5 : Hid (Fr (fun _ => False) w w5) := Lib.hid (HF4.out.trans hf5 (fun b hb h => by have h1 := (HO14.out.lt _ h).1; have := HB.out; omega))
        have hcx : ∀ w', Fr (fun _ => False) w w' → w'.cell? ⟨gx, ox + k * 2 + 1, none⟩ = some (.string (txt S)) := by
          intro w' hf
          obtain ⟨g', o', e, _, _, hc⟩ := (HL.out.fr hf (fun _ _ h => h)).2 k (id, S) HX.out
          injection e with e
          injection e with e1 e2
          subst e1 e2
          exact hc
        have HCX := Lib.hid hcx
        have h1' := HCX.out w5 HF5.out
        clear ho5 hf5 hg5 hcx
        go_wp2_with fail
        refine (HU2.out w5).mono ?_
        rintro e w6 ⟨A6, c6, rfl, ho6, hf6⟩
        have HO6 := Lib.hid ho6
        have HF6 := Lib.hid (HF5.out.trans hf6 (fun _ _ h => h))
        have HO56 := Lib.hid (HO5.out.fr hf6)
        have HO26 := Lib.hid (HO25.out.fr hf6)
        obtain ⟨P3, hP3⟩ : ∃ P3, P3 = P2 ++ C2 := ⟨_, rfl⟩
        have hP3l : P3.length ≤ 20 * (k + 1) := by rw [hP3, List.length_append]; have := HL2.out; omega
        have HP3 := Lib.hid hP3
        have HBW6 : Hid (base ≤ w6.heap.size) := Lib.hid (by have h1 := HB.out; have h2 := HF6.out.size; omega)
        clear ho6 hf6 hP3 h1'
        go_wp2_with (at_builtin; refine wpList_appB w6 rfl _ _ rfl base A5 c5 P2 rfl HO56.out A6 C2.length c6 C2 rfl HO6.out.rd HL2.out.1 P3 HP3.out (by omega) HBW6.out ?_)
        intro A7 c7 w7 ho7 hf7 hg7
        have HO7 := Lib.hid ho7
        have HO27 : Hid (Own w7 base A2 c2 D) := Lib.hid (hf7.own HO26.out (fun b hb e => HAP5.out b e hb))
        have HAP7 : Hid (Apart (.slice A7 P3.length c7) (.slice A2 D.length c2)) := Lib.hid (HAP5.out.grow (fun k hk => (HO26.out.lt k hk).2) hg7)
        have HF7 : Hid (Fr (fun _ => False) w w7) := Lib.hid (HF6.out.trans hf7 (fun b hb h => by have h1 := (HO56.out.lt _ h).1; have := HB.out; omega))
        have h1' := HCX.out w7 HF7.out
        obtain ⟨D2, hD2⟩ : ∃ D2, D2 = D ++ S := ⟨_, rfl⟩
        have hD2l : D2.length ≤ 1000000 * (k + 1) := by rw [hD2, List.length_append, HZ.out]; omega
        have HD2 := Lib.hid hD2
        have HBW7 : Hid (base ≤ w7.heap.size) := Lib.hid (by have h1 := HB.out; have h2 := HF7.out.size; omega)
        clear ho7 hf7 hg7 hD2
        go_wp2_with (at_builtin; refine wpList_app_txt2 Try.underlying22 Try.underlying9 (by kernel_rfl) w7 rfl _ _ rfl base A2 c2 D S (txt S) rfl rfl HO27.out rfl D2 HD2.out (by omega) HBW7.out ?_)
        intro A8 c8 w8 ho8 hf8 hg8
        have HO8 : Hid (Own w8 base A8 c8 D2) := Lib.hid ho8
        have HO78 : Hid (Own w8 base A7 c7 P3) := Lib.hid (hf8.own HO7.out (fun b hb e => HAP7.out b hb e))
        have HAP8 : Hid (Apart (.slice A7 P3.length c7) (.slice A8 D2.length c8)) := Lib.hid ((HAP7.out.symm.grow (fun k hk => (HO7.out.lt k hk).2) hg8).symm)
        have HF8 : Hid (Fr (fun _ => False) w w8) := Lib.hid (HF7.out.trans hf8 (fun b hb h => by have h1 := (HO27.out.lt _ h).1; have := HB.out; omega))
        clear ho8 hf8 hg8 h1'
        go_wp2_with fail
        go_roundw
        case rel =>
          refine ⟨k + 1, m + 1, P3, D2, A7, A8, c7, c8, by omega, by go_num, by rfl, by omega, by rfl, by rfl, hP3l, hD2l, ?_, ?_, ?_, HO78, HO8, HAP8, HF8⟩
          · exact Lib.hid (by rw [HFS1.out, List.length_append, ← HM.out]; rfl)
          · exact Lib.hid (by rw [HFS1.out, headC_snoc, ← HP.out, HP3.out, HP2.out, HC1.out, HC2.out, List.append_assoc]; show P ++ _ = P ++ (u id ++ u S.length); rw [HZ.out])
          · exact Lib.hid (by rw [HFS1.out, dataC_snoc, ← HD.out, HD2.out])
        case measure => simp [intOf]; omega
    · obtain rfl : k = n := by omega
      have hall : L.take k = L := List.take_of_length_le (by have := HLN.out; omega)
      rw [hall] at HM HP HD
      have hmu := rU_any m wr (by omega)
      have hml := u_len10 (show m < 18446744073709551616 by omega)
      have e4 : IntKind.u64.wrap (m : Int) = (m : Int) := by rw [IntKind.wrap_u64]; omega
      obtain ⟨B3, hB3⟩ : ∃ B3, B3 = u m := ⟨_, rfl⟩
      rw [← hB3] at hmu hml
      have HMU := Lib.hid hmu
      have HB3 := Lib.hid hB3
      clear hall hmu hB3
      go_wp2_with fail
      refine HMU.out.mono ?_
      rintro e w2 ⟨A3, c3, rfl, ho3, hf3⟩
      have HO3 := Lib.hid ho3
      have HR1 := Lib.hid (HO1.out.fr hf3).rd
      have HR2 := Lib.hid (HO2.out.fr hf3).rd
      have HF2 := Lib.hid (HF.out.trans hf3 (fun _ _ h => h))
      have HSZ : Hid (wr.heap.size ≤ w2.heap.size) := Lib.hid hf3.size
      clear ho3 hf3
      obtain ⟨B4, hB4⟩ : ∃ B4, B4 = B3 ++ P := ⟨_, rfl⟩
      obtain ⟨N4, hN4⟩ : ∃ N4, N4 = B4.length := ⟨_, rfl⟩
      have hN4m : N4 ≤ 20010 := by rw [hN4, hB4, List.length_append]; omega
      have HN4 : Hid (N4 = B3.length + P.length) := Lib.hid (by rw [hN4, hB4, List.length_append])
      have HB4 := Lib.hid hB4
      have HN4e := Lib.hid hN4
      clear hB4 hN4
      go_wp2_with (at_builtin; refine wpList_appN u8T w2 rfl _ _ rfl wr.heap.size _ _ _ rfl HO3.out A1 _ c1 _ rfl HR1.out (bytec_one _) N4 HN4.out (by unfold maxLen; omega) (by omega) (by have := HSZ.out; omega) ?_)
      intro A5 c5 w5 _ _ hown5 hfr5 _
      have ho5 : w5.ownsRow wr.heap.size 5 1 (.slice A5 N4 c5) N4 (B4.map bytec) := by rw [HB4.out, List.map_append]; exact hown5
      have hnr : ∀ b, (Value.slice A3 B3.length c3).ownBlock = some b → wr.heap.size ≤ b := fun b hb => (HO3.out.lt b hb).1
      have hr25 : Rd w5 A2 D.length (D.map bytec) := HR2.out.frp hfr5 (fun h0 ad e h => by
        have h1 := hnr _ h
        have h2 := HO2.out.rd.lt h0 ad e
        omega)
      have HO5 := Lib.hid ho5
      have HR25 := Lib.hid hr25
      have HF5 : Hid (Fr (fun _ => False) w w5) := Lib.hid (HF2.out.trans hfr5 (fun b hb h => by have h1 := hnr _ h; have h2 := HF.out.size; omega))
      have HSZ5 : Hid (wr.heap.size ≤ w5.heap.size) := Lib.hid (by have h1 := HSZ.out; have h2 := hfr5.size; omega)
      clear hown5 ho5 hnr hr25 hfr5
      obtain ⟨B6, hB6⟩ : ∃ B6, B6 = B4 ++ D := ⟨_, rfl⟩
      obtain ⟨N6, hN6⟩ : ∃ N6, N6 = B6.length := ⟨_, rfl⟩
      have HN6 : Hid (N6 = N4 + D.length) := Lib.hid (by rw [hN6, hB6, List.length_append, HN4e.out])
      have hN6m : N6 ≤ 10000020010 := by have := HN6.out; omega
      have HB6 := Lib.hid hB6
      have HN6e := Lib.hid hN6
      clear hB6 hN6
      go_wp2_with (at_builtin; refine wpList_appN u8T w5 rfl _ _ rfl wr.heap.size _ _ _ rfl HO5.out A2 _ c2 _ rfl HR25.out (bytec_one _) N6 HN6.out (by unfold maxLen; omega) (by omega) (by have := HSZ5.out; omega) ?_)
      intro A7 c7 w7 _ _ hown7 hfr7 _
      have ho7 : Own w7 base A7 c7 B6 := by
        refine Own.base (b := wr.heap.size) ?_ (by have h1 := HB.out; have h2 := HF.out.size; omega)
        unfold Own
        rw [← HN6e.out, HB6.out, List.map_append]
        exact hown7
      have HO7 := Lib.hid ho7
      have HF7 : Hid (Fr (fun _ => False) w w7) := Lib.hid (HF5.out.trans hfr7 (fun b hb h => by have h1 := (HO5.out.lt _ h).1; have h2 := HF.out.size; omega))
      have HE : Hid (B6 = putC L) := Lib.hid (by rw [HB6.out, HB4.out, HB3.out, HM.out, HP.out, HD.out]; unfold putC; rw [List.append_assoc])
      clear hown7 ho7 hfr7
      go_wp2_with fail
      go_ret
      rw [← HE.out]
      exact ⟨A7, c7, by rw [HN6e.out]; rfl, HO7.out, HF7.out⟩
end Go.Proofs.Ytfgjneodhmfknaa
