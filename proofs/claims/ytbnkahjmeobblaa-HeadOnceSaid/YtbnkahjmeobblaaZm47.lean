/-
  append of many elements of several cells, at a step of a region that draws its order. Nothing of any program here.
  Layer 20, the law HeadOnce (written by gen_once.py).
-/
import Derived.Test.YtbnkahjmeobblaaZm09
import Derived.Test.YtbnkahjmeobblaaZm46
import Derived.Test.YtbnkahjmeobblaaZm36
import Derived.Test.YtbnkahjmeobblaaZm29
import Derived.BigQuiet
namespace Go.Proofs.Ytbnkahjmeobblaa
open Go.RowKit Mem Go.Lib
set_option linter.unusedVariables false

/-- append of many elements of several cells, at a step of a region that draws its order -/
theorem step_appM {P : Program} {t e : TypeId} {z : Value} {size bytes : Nat} (hT : ElemTyS P t e z size bytes) {ops : Array Oper} {o : Oper} {a : Act} {K : Act → World → Prop} {Q : Exit → Act → World → Prop} {E : Prop} (w : World) (hgd : o.guard = none) (s x : Operand)
    (ho : o.op = .call { callee := .builtin .append, args := #[s, x], argTypes := #[t, t] })
    (base : Nat) (v : Value) (n : Nat) (xs : List Value) (hs : a.eval s = v) (hown : w.ownsRow base e size v n xs)
    (ad : Addr) (m c : Nat) (news : List Value) (hx : a.eval x = .slice (some ad) m c) (hl : news.length = m * size) (hnews : ∀ j u, news[j]? = some u → w.cell? (ad.add j) = some u) (h1 : ∀ u ∈ news, u.oneCell' = true)
    (N : Nat) (hN : N = n + m) (h63 : N ≤ maxLen) (hbytes : N * bytes ≤ 140737488355328) (hbase : base ≤ w.heap.size)
    (h : ∀ A' c' w', w'.ownsRow base e size (.slice A' N c') N (xs ++ news) → N ≤ c' → Fr (fun k => v.ownBlock = some k) w w' → ((Value.slice A' N c').ownBlock = v.ownBlock ∨ (Value.slice A' N c').ownBlock = some w.heap.size) → K (a.put o.dst (.slice A' N c')) w') :
    if Region.wanted o (yielded ops a.tmps) = true then Oper.wp P o a w K Q else E := by
  subst hN
  have hw : Region.wanted o (yielded ops a.tmps) = true := by simp [Region.wanted, hgd]
  rw [if_pos hw]
  obtain ⟨i, hi, hz, hsz, hb⟩ : ∃ i, P.info? e = some i ∧ i.zero = some z ∧ i.size = size ∧ i.bytes = bytes := by
    have h := hT.info
    cases hq : P.info? e with
    | none => rw [hq] at h; cases h
    | some i =>
      rw [hq] at h
      simp only [Option.map_some, Option.some.injEq, Prod.mk.injEq] at h
      exact ⟨i, rfl, h.1, h.2.1, h.2.2⟩
  obtain ⟨v', w', hr, h2, h3, _, h5⟩ := run_append_own_at (P := P) w base t o.type e i z size bytes hT.und hi hz hsz hb hT.cells hT.pos v n xs hown ad m c news hl hnews h1 h63 hbytes hbase
  obtain ⟨A', c', rfl, hc1, _⟩ := own_form h2
  unfold Oper.wp execOp
  simp only [ho, resolve, invoke, builtin, Sem.run_bind, Sem.run_pure, Result.andThen_ok, List.map_toArray, List.map_cons, List.map_nil, hs, hx, hr]
  exact h A' c' w' h2 hc1 ((Fr.of_grown h3).mono (fun _ _ h => h)) h5
end Go.Proofs.Ytbnkahjmeobblaa
namespace Go.Proofs.Ytbnkahjmeobblaa
open Go.RowKit Mem Go.Lib LebM UtfM VaM AcM OpM HeM
attribute [local go_sem ↓] Go.wp_at_zero Go.wp_at_succ
set_option linter.unusedVariables false

set_option maxRecDepth 100000 in
set_option maxHeartbeats 12800000 in
theorem headonce_law (A : Option Addr) (n c : Nat) (B : List UInt8) (w : World) (hB : Rd w A n (B.map bytec)) (hBc : n ≤ c) (hBm : c ≤ maxLen) :
    Calls Try.prog 6 #[.slice A n c] w fun e w' => e = .returned (.bool true) ∧ Fr (fun _ => False) w w' := by
  have HBN : Hid (B.length = n) := Lib.hid (by simpa using hB.1)
  have hnm63 : n ≤ 9223372036854775807 := by unfold maxLen at hBm; omega
  have HM_w := Lib.hid hB
  have HF_w : Hid (Fr (fun _ => False) w w) := Lib.hid (Fr.refl _ _)
  have HAW := Lib.hid (fun w' => awake20_any w')
  clear hB hBm
  by_cases hq1 : 3000 < n
  · have tq1 : decide ((3000 : Int) < (n : Int)) = true := decide_eq_true (by omega)
    have tq1' : decide (3000 < n) = true := decide_eq_true hq1
    go_enter Try.func6, Try.ntmps6
    go_wp2_with fail
    refine (HAW.out _).mono ?_
    rintro e x1 ⟨rfl, hf⟩
    have HM_x1 := Lib.hid (HM_w.out.fr hf (fun _ _ h => h))
    have HF_x1 : Hid (Fr (fun _ => False) w x1) := Lib.hid (HF_w.out.trans hf (fun _ _ h => h))
    clear hf
    go_wp2_with fail
    refine (HAW.out _).mono ?_
    rintro e x2 ⟨rfl, hf⟩
    have HM_x2 := Lib.hid (HM_x1.out.fr hf (fun _ _ h => h))
    have HF_x2 : Hid (Fr (fun _ => False) w x2) := Lib.hid (HF_x1.out.trans hf (fun _ _ h => h))
    clear hf
    go_wp2_with fail
    go_ret
    exact ⟨rfl, HF_x2.out⟩
  · have tq1 : decide ((3000 : Int) < (n : Int)) = false := decide_eq_false (by omega)
    have tq1' : decide (3000 < n) = false := decide_eq_false hq1
    have hgt := fun w' (hf : Fr (fun _ => False) w w') => hGet_any A n c B w' (HM_w.out.fr hf (fun _ _ h => h)) hBc (by omega)
    obtain ⟨er, her⟩ : ∃ er, (getH B).2.2.2 = er := ⟨_, rfl⟩
    by_cases he : er ≠ 0
    · have hbad := get_bad20 (B := B) (by rw [her]; exact he)
      rw [her] at hbad
      simp only [hbad] at hgt
      have hgt : ∀ w', Fr (fun _ => False) w w' → Calls Try.prog 15 #[.slice A n c] w' fun e w'' => ∃ A1 c1 A2 c2, e = .returned (.tuple #[.agg #[.string ⟨#[]⟩, .int .i64 0, .int .i64 0, .int .i64 0, .string ⟨#[]⟩, .slice A1 0 c1, .slice none 0 0], .slice A2 0 c2, .int .i64 0, .int .i64 (er : Int)]) ∧ OwnH w'' w'.heap.size A1 c1 [] ∧ (∀ h ∈ ([] : List Tx), h.length = 32) ∧ OwT w'' w'.heap.size A2 c2 [] ∧ Fr (fun _ => False) w' w'' := hgt
      have t1 : ((er : Int) != 0) = true := by simp; omega
      have t1' : (er != 0) = true := by simp; omega
      have HGT := Lib.hid hgt
      clear hgt hbad her he
      go_enter Try.func6, Try.ntmps6
      go_wp2_with fail
      refine (HAW.out _).mono ?_
      rintro e x1 ⟨rfl, hf⟩
      have HM_x1 := Lib.hid (HM_w.out.fr hf (fun _ _ h => h))
      have HF_x1 : Hid (Fr (fun _ => False) w x1) := Lib.hid (HF_w.out.trans hf (fun _ _ h => h))
      clear hf
      go_wp2_with fail
      refine (HGT.out _ HF_x1.out).mono ?_
      rintro e x2 ⟨A1, c1, A2, c2, rfl, _, _, _, hf⟩
      have HM_x2 := Lib.hid (HM_x1.out.fr hf (fun _ _ h => h))
      have HF_x2 : Hid (Fr (fun _ => False) w x2) := Lib.hid (HF_x1.out.trans hf (fun _ _ h => h))
      clear hf
      obtain ⟨bv, hbv⟩ : ∃ q, x2.heap.size = q := ⟨_, rfl⟩
      obtain ⟨a3, ha3⟩ : ∃ w, x2.alloc (.cells [.string ⟨#[]⟩, .int .i64 0, .int .i64 0, .int .i64 0, .string ⟨#[]⟩, .slice none 0 0, .slice none 0 0].toArray 25) = w := ⟨_, rfl⟩
      have HZa3 : Hid (Row a3 bv 25 [.string ⟨#[]⟩, .int .i64 0, .int .i64 0, .int .i64 0, .string ⟨#[]⟩, .slice none 0 0, .slice none 0 0]) := Lib.hid (by rw [← ha3, ← hbv]; exact Row.new _ _ _)
      have HAa3 : Hid (Fr (fun _ => False) x2 a3) := Lib.hid (by rw [← ha3]; exact (Fr.refl _ _).alloc _)
      have HQa3 : Hid (x2.heap.size ≤ bv) := Lib.hid (by omega)
      go_wp2_with (refine store_st chSz rfl (.tmp 3) (.tmp 19) rfl bv (by rfl) [.string ⟨#[]⟩, .int .i64 0, .int .i64 0, .int .i64 0, .string ⟨#[]⟩, .slice A1 0 c1, .slice none 0 0] (by rfl) _ _ HZa3.out rfl rfl (by simp [Value.oneCell']) ?_)
      intro x3 hrn hfn
      have hf : Fr (fun _ => False) x2 x3 := HAa3.out.trans hfn (fun k hk h => by have h1 : k = bv := h; have := HQa3.out; omega)
      have HM_x3 := Lib.hid (HM_x2.out.fr hf (fun _ _ h => h))
      have HF_x3 : Hid (Fr (fun _ => False) w x3) := Lib.hid (HF_x2.out.trans hf (fun _ _ h => h))
      have HV_x3 : Hid (Row x3 bv 25 [.string ⟨#[]⟩, .int .i64 0, .int .i64 0, .int .i64 0, .string ⟨#[]⟩, .slice A1 0 c1, .slice none 0 0]) := Lib.hid hrn
      clear hrn hfn hf ha3 hbv
      have hs3 : Calls Try.prog 17 #[.agg #[.string ⟨#[]⟩, .int .i64 0, .int .i64 0, .int .i64 0, .string ⟨#[]⟩, .slice A1 0 c1, .slice none 0 0], .agg #[.string ⟨#[]⟩, .int .i64 0, .int .i64 0, .int .i64 0, .string ⟨#[]⟩, .slice none 0 0, .slice none 0 0]] x3 fun e w' => e = .returned (.bool true) ∧ Fr (fun _ => False) x3 w' := rSame20_any zeroC A1 c1 none 0 x3 (Hsh.nil _ _) (Hsh.nil _ _) (Nat.zero_le _)
      have HS3 := Lib.hid hs3
      clear hs3
      have c3_0 : x3.cell? ⟨bv, 0, none⟩ = some (.string ⟨#[]⟩) := Row.cell HV_x3.out rfl
      have c3_1 : x3.cell? ⟨bv, 1, none⟩ = some (.int .i64 0) := Row.cell HV_x3.out rfl
      have c3_2 : x3.cell? ⟨bv, 2, none⟩ = some (.int .i64 0) := Row.cell HV_x3.out rfl
      have c3_3 : x3.cell? ⟨bv, 3, none⟩ = some (.int .i64 0) := Row.cell HV_x3.out rfl
      have c3_4 : x3.cell? ⟨bv, 4, none⟩ = some (.string ⟨#[]⟩) := Row.cell HV_x3.out rfl
      have c3_5 : x3.cell? ⟨bv, 5, none⟩ = some (.slice A1 0 c1) := Row.cell HV_x3.out rfl
      have c3_6 : x3.cell? ⟨bv, 6, none⟩ = some (.slice none 0 0) := Row.cell HV_x3.out rfl
      go_wp2_with fail
      refine (HS3.out).mono ?_
      clear c3_0 c3_1 c3_2 c3_3 c3_4 c3_5 c3_6
      rintro e x4 ⟨rfl, hf⟩
      have HM_x4 := Lib.hid (HM_x3.out.fr hf (fun _ _ h => h))
      have HV_x4 := Lib.hid (HV_x3.out.fr hf (fun h => h))
      have HF_x4 : Hid (Fr (fun _ => False) w x4) := Lib.hid (HF_x3.out.trans hf (fun _ _ h => h))
      clear hf
      go_wp2_with fail
      go_ret
      exact ⟨rfl, HF_x4.out⟩
    · have he0 : er = 0 := by omega
      subst he0
      have hon := get_once20 (B := B) her
      obtain ⟨ch, hch⟩ : ∃ x, (getH B).1 = x := ⟨_, rfl⟩
      obtain ⟨T, hT⟩ : ∃ x, (getH B).2.1 = x := ⟨_, rfl⟩
      obtain ⟨K, hK⟩ : ∃ x, (getH B).2.2.1 = x := ⟨_, rfl⟩
      simp only [hch, hT, hK, her] at hgt hon
      obtain ⟨hr, h32, ⟨ht0, ht1⟩, hKl, hput, O, hTO, hri, hna, hlen, hnO⟩ := hon
      clear hch hT hK her
      subst hTO
      have hOl : O.length ≤ 3000 := by
        have h1 := put_ge ch O
        have h2 := congrArg List.length hput
        rw [List.length_take] at h2
        have := HBN.out
        omega
      have hKn : K ≤ n := by rw [← HBN.out]; exact hKl
      obtain ⟨R, hR⟩ : ∃ R, putH ch (ch.a :: O) = R := ⟨_, rfl⟩
      rw [hR] at hput
      have hRl : R.length = K := by rw [← hput, List.length_take]; omega
      have hbd := put_bd (O := O) hr h32 ht0 ht1 hlen (by omega)
      have htab := tab_opOf hri hna
      have hd16 := (right_parts hr).2.2.2.2.2.1
      have ha16 := (right_parts hr).1.2
      have hm1000 := (right_parts hr).2.2.2.1
      have hpu := fun (A1 : Option Addr) c1 (Ao : Option Addr) no co w' (hd : Hsh w' A1 ch.d.length ch.d) (hL : Ops w' Ao no (O.map opOf)) => hPut_any ch A1 c1 Ao no co (O.map opOf) w' hd hr ht0 ht1 hL (by have := hL.len; rw [List.length_map] at this; omega) (opOf_ok hlen) (by rw [htab, List.length_cons]; omega) (by rw [htab]; intro x hx; rcases List.mem_cons.1 hx with rfl | hx; (· omega); have := hlen x hx; omega) (by rw [htab]; omega)
      have hrt := fun (A1 : Option Addr) c1 (Ao : Option Addr) no co w' (hd : Hsh w' A1 ch.d.length ch.d) => hRight_any ch A1 c1 Ao no co w' hd (by omega) (by omega) (by omega)
      simp only [htab, hR, hRl] at hpu
      simp only [hr] at hrt
      obtain ⟨nt, hnt⟩ : ∃ k, (ch.a :: O).length = k := ⟨_, rfl⟩
      have hntO : O.length + 1 = nt := by rw [← hnt, List.length_cons]
      simp only [hnt] at hgt
      obtain ⟨a, q, s, t, m, d⟩ := ch
      simp only at hgt hpu hrt h32 hd16 hnt ht0 ht1
      unfold chc at hgt hpu hrt
      simp only at hgt hpu hrt
      obtain ⟨nd, hnd⟩ : ∃ k, d.length = k := ⟨_, rfl⟩
      simp only [hnd] at hgt hpu hrt hd16
      have tK : decide ((K : Int) ≤ (n : Int)) = true := decide_eq_true (by omega)
      have tK' : decide (K ≤ n) = true := decide_eq_true hKn
      have tN : decide ((0 : Int) < (nt : Int)) = true := decide_eq_true (by omega)
      have tN' : decide (0 < nt) = true := decide_eq_true (by omega)
      have HGT := Lib.hid hgt
      have HPU := Lib.hid hpu
      have HRT := Lib.hid hrt
      have H32 := Lib.hid h32
      have HND := Lib.hid hnd
      have HNT := Lib.hid hnt
      have HPT := Lib.hid hput
      have HRL := Lib.hid hRl
      clear hgt hpu hrt h32 hnd hnt hput hRl hr hKl hri hna hlen hnO hR hbd htab hd16 ha16 hm1000 ht0 ht1 he
      go_enter Try.func6, Try.ntmps6
      go_wp2_with fail
      refine (HAW.out _).mono ?_
      rintro e x1 ⟨rfl, hf⟩
      have HM_x1 := Lib.hid (HM_w.out.fr hf (fun _ _ h => h))
      have HF_x1 : Hid (Fr (fun _ => False) w x1) := Lib.hid (HF_w.out.trans hf (fun _ _ h => h))
      clear hf
      go_wp2_with fail
      refine (HGT.out _ HF_x1.out).mono ?_
      rintro e x2 ⟨A1, c1, A2, c2, rfl, ho8, _, ho9, hf⟩
      have HM_x2 := Lib.hid (HM_x1.out.fr hf (fun _ _ h => h))
      have HF_x2 : Hid (Fr (fun _ => False) w x2) := Lib.hid (HF_x1.out.trans hf (fun _ _ h => h))
      have ho8 := ho8.hsh H32.out
      simp only [HND.out] at ho8
      have HH_x2 : Hid (Hsh x2 A1 nd d) := Lib.hid ho8
      have HO9 := Lib.hid ho9
      obtain ⟨gt, hgt, _, _⟩ := own_at (i := 0) (u := tc a) ho9 rfl
      subst hgt
      have ht9 := ho9.rd
      rw [HNT.out] at ht9
      have HT_x2 : Hid (Rd x2 (some ⟨gt, 0, none⟩) nt ((a :: O).map tc)) := Lib.hid ht9
      have HGTL : Hid (gt < x2.heap.size) := Lib.hid (HO9.out.lt gt rfl).2
      clear ho8 ho9 ht9
      clear hf
      obtain ⟨cb, hcb⟩ : ∃ q, x2.heap.size = q := ⟨_, rfl⟩
      obtain ⟨a3, ha3⟩ : ∃ w, x2.alloc (.cells [.string ⟨#[]⟩, .int .i64 0, .int .i64 0, .int .i64 0, .string ⟨#[]⟩, .slice none 0 0, .slice none 0 0].toArray 25) = w := ⟨_, rfl⟩
      have HZa3 : Hid (Row a3 cb 25 [.string ⟨#[]⟩, .int .i64 0, .int .i64 0, .int .i64 0, .string ⟨#[]⟩, .slice none 0 0, .slice none 0 0]) := Lib.hid (by rw [← ha3, ← hcb]; exact Row.new _ _ _)
      have HAa3 : Hid (Fr (fun _ => False) x2 a3) := Lib.hid (by rw [← ha3]; exact (Fr.refl _ _).alloc _)
      have HQa3 : Hid (x2.heap.size ≤ cb) := Lib.hid (by omega)
      go_wp2_with (refine store_st chSz rfl (.tmp 3) (.tmp 19) rfl cb (by rfl) [.string (txt a), .int .i64 q, .int .i64 s, .int .i64 t, .string (txt m), .slice A1 nd c1, .slice none 0 0] (by rfl) _ _ HZa3.out rfl rfl (by simp [Value.oneCell']) ?_)
      intro x3 hrn hfn
      have hf : Fr (fun _ => False) x2 x3 := HAa3.out.trans hfn (fun k hk h => by have h1 : k = cb := h; have := HQa3.out; omega)
      have HM_x3 := Lib.hid (HM_x2.out.fr hf (fun _ _ h => h))
      have HH_x3 := Lib.hid (HH_x2.out.fr hf)
      have HT_x3 := Lib.hid (HT_x2.out.fr hf (fun _ _ h => h))
      have HF_x3 : Hid (Fr (fun _ => False) w x3) := Lib.hid (HF_x2.out.trans hf (fun _ _ h => h))
      have HC_x3 : Hid (Row x3 cb 25 [.string (txt a), .int .i64 q, .int .i64 s, .int .i64 t, .string (txt m), .slice A1 nd c1, .slice none 0 0]) := Lib.hid hrn
      clear hrn hfn hf ha3 hcb
      have t1 : (((0 : Nat) : Int) != 0) = false := by simp
      have HCB : Hid (cb < x3.heap.size ∧ gt < cb ∧ w.heap.size ≤ cb ∧ gt < x3.heap.size) := Lib.hid (by have h1 := HC_x3.out.lt; have h2 := HGTL.out; have h3 := HQa3.out; have h4 := HF_x2.out.size; omega)
      have HHB : Hid (0 < nd → ∀ ad, A1 = some ad → ad.block < cb) := Lib.hid (fun hn ad ea => by have h1 := HH_x2.out.lt hn ad ea; have h3 := HQa3.out; omega)
      obtain ⟨base, hbase⟩ : ∃ b, x3.heap.size = b := ⟨_, rfl⟩
      rw [hbase] at HCB
      have HBS := Lib.hid hbase
      clear hbase
      go_wp2_with fail
      go_loopw [7] (fun v wr => ∃ (i : Nat) (Ao : Option Addr) (co : Nat), i + 1 ≤ nt ∧ v = .int .i64 ((i + 1 : Nat) : Int) ∧ Hid (Row wr cb 25 [.string (txt a), .int .i64 q, .int .i64 s, .int .i64 t, .string (txt m), .slice A1 nd c1, .slice Ao i co]) ∧ Hid (OwnO wr base Ao co ((O.take i).map opOf)) ∧ Hid (Fr (fun k => k = cb) x3 wr)) (fun v _ => nt - (intOf v).toNat)
      case atStart => exact ⟨0, none, 0, by omega, rfl, HC_x3, Lib.hid (OwnO.nil _ _), Lib.hid (Fr.refl _ _)⟩
      case round =>
        obtain ⟨i, Ao, co, hi, rfl, HRo, HOo, HFo⟩ := hrel
        rename World => wr
        have HTr : Hid (Rd wr (some ⟨gt, 0, none⟩) nt ((a :: O).map tc)) := Lib.hid (HT_x3.out.frp HFo.out (fun hn ad ea h => by injection ea with ea; have h1 : ad.block = cb := h; rw [← ea] at h1; have h2 : gt = cb := h1; have := HCB.out; omega))
        by_cases hlt : i + 1 < nt
        · have tl1 : decide (((i + 1 : Nat) : Int) < (nt : Int)) = true := decide_eq_true (by omega)
          have tl2 : decide ((i : Int) + 1 < (nt : Int)) = true := decide_eq_true (by omega)
          obtain ⟨x, hx⟩ : ∃ x, O[i]? = some x := ⟨_, List.getElem?_eq_getElem (by omega)⟩
          have hcx : wr.cell? ⟨gt, i + 1, none⟩ = some (.string (txt x)) := by
            obtain ⟨ad, z, ea, hz, hc⟩ := rd_tx HTr.out hlt
            injection ea with ea
            subst ea
            rw [List.getElem?_cons_succ, hx] at hz
            injection hz with hz
            subst hz
            rw [mid_add, Nat.zero_add] at hc
            exact hc
          have hco : wr.cell? ⟨cb, 6, none⟩ = some (.slice Ao i co) := Row.cell HRo.out rfl
          have hik : ((i + 1 : Nat) : Int) < (nt : Int) := by omega
          have hik2 : (i : Int) + 1 < (nt : Int) := by omega
          have hik0 : (0 : Int) ≤ (i : Int) + 1 := by omega
          have hHX := Lib.hid hx
          have hol : ((O.take i).map opOf).length = i := by rw [List.length_map, List.length_take]; omega
          have hown : wr.ownsRow base 50 13 (.slice Ao i co) i (((O.take i).map opOf).flatMap ols) := by
            have h := HOo.out
            unfold OwnO at h
            rwa [hol] at h
          have HOW := Lib.hid hown
          have HOLT : Hid (∀ k, (Value.slice Ao i co).ownBlock = some k → base ≤ k) := Lib.hid (fun k hk => (hown.lt k hk).1)
          obtain ⟨N1, hN1⟩ : ∃ N1, N1 = i + 1 := ⟨_, rfl⟩
          have HN1 := Lib.hid hN1
          clear hown hx hol hN1
          go_upto_region 9 with fail
          refine wp_region_head 11 (fun w' => w'.cell? ⟨cb, 6, none⟩ = some (.slice Ao i co) ∧ w'.cell? ⟨gt, i + 1, none⟩ = some (.string (txt x))) ⟨hco, hcx⟩ (fun hH => ?_)
          refine tk 0 hH ?_
          refine tk 1 hH ?_ (hy := by intro w hSw; obtain ⟨kk1, kk2⟩ := hSw; go_simp; try (with_reducible rfl))
          refine tk 2 hH ?_
          refine tk 3 hH ?_
          refine tk 4 hH ?_
          refine tk 5 hH ?_ (hy := by intro w hSw; obtain ⟨kk1, kk2⟩ := hSw; go_simp; try (with_reducible rfl))
          refine tk 6 hH ?_
          refine tk 7 hH ?_
          refine rdo 8 (fun Kx hKx => ?_)
          go_simp
          obtain ⟨v1, hv1⟩ : ∃ y, (wr.alloc (.cells #[.int .i64 1, .string (txt x), .string ⟨#[]⟩, .bool false, .int .i64 0, .string ⟨#[]⟩, .bool false, .int .i64 0, .int .i64 0, .int .u64 0, .int .i64 0, .string ⟨#[]⟩, .slice none 0 0] 50)).drew = y := ⟨_, rfl⟩
          rw [hv1]
          obtain ⟨qo, hqo⟩ : ∃ p, wr.heap.size = p := ⟨_, rfl⟩
          try rw [hqo]
          have hfa : Fr (fun _ => False) wr v1 := by rw [← hv1]; exact ((Fr.refl _ _).alloc _).drew
          have hra : Row v1 qo 50 (ols (opOf x)) := by rw [← hv1, ← hqo]; exact Row.new wr _ (ols (opOf x))
          have hcells : ∀ j u, (ols (opOf x))[j]? = some u → v1.cell? ((⟨qo, 0, none⟩ : Addr).add j) = some u := fun j u hu => by
            rw [mid_add, Nat.zero_add]
            exact hra.cell hu
          have HOV : Hid (v1.ownsRow base 50 13 (.slice Ao i co) i (((O.take i).map opOf).flatMap ols)) := Lib.hid (hfa.own HOW.out (fun _ _ h => h))
          have hH1 : v1.cell? ⟨cb, 6, none⟩ = some (.slice Ao i co) ∧ v1.cell? ⟨gt, i + 1, none⟩ = some (.string (txt x)) := ⟨hfa.cell hH.1 (fun h => h), hfa.cell hH.2 (fun h => h)⟩
          have HFA := Lib.hid hfa
          have HCE := Lib.hid hcells
          clear hv1 hqo hfa hra hcells
          refine hKx.out _ _ hH1 (fun hH => ?_)
          clear hKx Kx
          (try simp only [Act.put, List.setIfInBounds_toArray, List.set_cons_zero, List.set_cons_succ, List.getElem_toArray, List.getElem_cons_zero, List.getElem_cons_succ])
          refine rdo 9 (fun Kx hKx => ?_)
          refine step_appM opTS v1 rfl (.tmp 44) (.tmp 51) (by rfl) base _ i _ (by rfl) HOV.out ⟨qo, 0, none⟩ 1 1 (ols (opOf x)) (by rfl) rfl HCE.out (by intro u hu; exact ocell_one [opOf x] u (by simpa using hu)) N1 HN1.out (by unfold maxLen; have := HN1.out; omega) (by have := HN1.out; omega) (by have := HFA.out.size; have := HFo.out.size; have := HBS.out; omega) ?_
          intro A5 c5 v2 ho5 hc5 hf5 hb5
          have hH2 : v2.cell? ⟨cb, 6, none⟩ = some (.slice Ao i co) ∧ v2.cell? ⟨gt, i + 1, none⟩ = some (.string (txt x)) := ⟨hf5.cell hH1.1 (fun h => by have h1 := HOLT.out cb h; have := HCB.out; omega), hf5.cell hH1.2 (fun h => by have h1 := HOLT.out gt h; have := HCB.out; omega)⟩
          have hf02 : Fr (fun k => k = cb ∨ base ≤ k) wr v2 := (HFA.out.mono (fun _ _ h => h.elim)).trans hf5 (fun k hk h => .inr (HOLT.out k h))
          have HO5 : Hid (OwnO v2 base A5 c5 ((O.take (i + 1)).map opOf)) := Lib.hid (by
            unfold OwnO
            have e : (O.take (i + 1)).map opOf = (O.take i).map opOf ++ [opOf x] := by rw [List.take_add_one, hHX.out, List.map_append]; rfl
            have el : ((O.take (i + 1)).map opOf).length = N1 := by rw [List.length_map, List.length_take, HN1.out]; have := (List.getElem?_eq_some_iff.1 hHX.out).1; omega
            rw [el, e, List.flatMap_append, List.flatMap_singleton]
            exact ho5)
          have HR5 : Hid (Row v2 cb 25 [.string (txt a), .int .i64 q, .int .i64 s, .int .i64 t, .string (txt m), .slice A1 nd c1, .slice Ao i co]) := Lib.hid (Row.fr (HRo.out.fr HFA.out (fun h => h)) hf5 (fun h => by have h1 := HOLT.out cb h; have := HCB.out; omega))
          have HF5 : Hid (Fr (fun k => k = cb) x3 v2) := Lib.hid ((HFo.out.trans HFA.out (fun _ _ h => h.elim)).trans hf5 (fun k hk h => by have h1 := HOLT.out k h; have := HBS.out; omega))
          clear ho5 hf5 hb5 hf02
          refine hKx.out _ _ hH2 (fun hH => ?_)
          clear hKx Kx
          (try simp only [Act.put, List.setIfInBounds_toArray, List.set_cons_zero, List.set_cons_succ, List.getElem_toArray, List.getElem_cons_zero, List.getElem_cons_succ])
          refine tk 10 hH ?_
          refine hdone ?_
          have f6 : v2.frozen? ⟨cb, 6, none⟩ = false := Row.free HR5.out 6
          have d6 : v2.cell? ⟨cb, 6, none⟩ = some (.slice Ao i co) := hH2.1
          clear hH hH1 hH2 hco hcx
          go_wp2_with fail
          refine ⟨⟨i + 1, A5, c5, by omega, rfl, Lib.hid ?_, Lib.hid ?_, Lib.hid ?_⟩, by show nt - (((i + 1 : Nat) : Int) + 1).toNat < nt - ((i + 1 : Nat) : Int).toNat; omega⟩
          · have h := HR5.out.set 6 (.slice A5 N1 c5)
            rw [HN1.out] at h ⊢
            exact h
          · exact HO5.out.frS20 (Fr.set1 _ cb 6 _) (fun k hk h => by have h1 : k = cb := h; have := HCB.out; omega)
          · exact HF5.out.trans (Fr.set1 _ cb 6 _) (fun _ _ h => h)
        · have tl1 : decide (((i + 1 : Nat) : Int) < (nt : Int)) = false := decide_eq_false (by omega)
          have tl2 : decide ((i : Int) + 1 < (nt : Int)) = false := decide_eq_false (by omega)
          have hiO : i = O.length := by omega
          have hHw : Hsh wr A1 nd d := HH_x3.out.frp HFo.out (fun hn ad ea h => by have h1 : ad.block = cb := h; have h2 := HHB.out hn ad ea; omega)
          have hOps : Ops wr Ao i (O.map opOf) := by
            have h := HOo.out
            rw [hiO, List.take_of_length_le (Nat.le_refl _)] at h
            have h2 := h.ops (opOf_prd wr O)
            rwa [List.length_map, ← hiO] at h2
          have HRT2 : Hid (∀ w', Fr (fun _ => False) wr w' → Calls Try.prog 10 #[.agg #[.string (txt a), .int .i64 q, .int .i64 s, .int .i64 t, .string (txt m), .slice A1 nd c1, .slice Ao i co]] w' fun e w'' => e = .returned (.bool true) ∧ Fr (fun _ => False) w' w'') := Lib.hid (fun w' hf => HRT.out A1 c1 Ao i co w' (hHw.fr hf))
          have HPU2 : Hid (∀ w', Fr (fun _ => False) wr w' → Calls Try.prog 13 #[.agg #[.string (txt a), .int .i64 q, .int .i64 s, .int .i64 t, .string (txt m), .slice A1 nd c1, .slice Ao i co]] w' fun e w'' => ∃ A' c', e = .returned (.slice A' K c') ∧ Own w'' w'.heap.size A' c' R ∧ Fr (fun _ => False) w' w'') := Lib.hid (fun w' hf => HPU.out A1 c1 Ao i co w' (hHw.fr hf) (hOps.fr hf))
          have HFW : Hid (Fr (fun _ => False) w wr) := Lib.hid (HF_x3.out.trans HFo.out (fun k hk h => by have h1 : k = cb := h; have := HCB.out; omega))
          have HMw : Hid (∀ w', Fr (fun _ => False) wr w' → Rd w' A K (R.map bytec)) := Lib.hid (fun w' hf => by
            have h1 := rd_take (HM_w.out.fr (HFW.out.trans hf (fun _ _ h => h)) (fun _ _ h => h)) hKn
            rwa [← List.map_take, HPT.out] at h1)
          have HBX : Hid (∀ w', Fr (fun _ => False) wr w' → w'.cell? ⟨cb, 0, none⟩ = some (.string (txt a)) ∧ w'.cell? ⟨cb, 1, none⟩ = some (.int .i64 q) ∧ w'.cell? ⟨cb, 2, none⟩ = some (.int .i64 s) ∧ w'.cell? ⟨cb, 3, none⟩ = some (.int .i64 t) ∧ w'.cell? ⟨cb, 4, none⟩ = some (.string (txt m)) ∧ w'.cell? ⟨cb, 5, none⟩ = some (.slice A1 nd c1) ∧ w'.cell? ⟨cb, 6, none⟩ = some (.slice Ao i co) ∧ w'.cell? ⟨gt, 0, none⟩ = some (.string (txt a))) :=
            Lib.hid (fun w' hf => by
              have h := HRo.out.fr hf (fun h => h)
              refine ⟨h.cell rfl, h.cell rfl, h.cell rfl, h.cell rfl, h.cell rfl, h.cell rfl, h.cell rfl, ?_⟩
              obtain ⟨ad, z, ea, hz, hc⟩ := rd_tx HTr.out (k := 0) (by omega)
              injection ea with ea
              subst ea
              injection hz with hz
              subst hz
              rw [mid_add, Nat.zero_add] at hc
              exact hf.cell hc (fun h => h))
          have hntp : (0 : Int) < (nt : Int) := by omega
          have hntp' : 0 < nt := by omega
          have hto := fun w' => run_toB A n c K hKn hBc (K : Int) rfl w'
          clear hHw hOps hiO
          go_upto_region 10 with fail
          have HGc : Hid (Fr (fun _ => False) wr wr) := Lib.hid (Fr.refl _ _)
          refine wp_region_held_drew (S := fun w' => Fr (fun _ => False) wr w') (by kernel_rfl) ?_ (fun hHeld => ?_)
          · exact (Fr.refl _ _).drew
          refine wpAnyH_take (i := 0) (v := ?vt1) rfl (by kernel_rfl) (by kernel_rfl) (by kernel_rfl) (fun _ _ _ h => h) (Or.inl ⟨by rfl, ?hyt1⟩) hHeld ?restt1
          case hyt1 => intro w hSw; (try dsimp only at hSw); obtain ⟨k0, k1, k2, k3, k4, k5, k6, k7⟩ := HBX.out _ (HGc.out.trans hSw (fun _ _ h => h)); go_simp; try (with_reducible rfl)
          (try simp only [Act.put, List.setIfInBounds_toArray, List.set_cons_zero, List.set_cons_succ, List.getElem_toArray, List.getElem_cons_zero])
          refine wpAnyH_ready (rs := [1]) (by kernel_rfl) (by simp) ?_
          refine AllReadyH.cons rfl (fun Kx hKx => ?_) AllReadyH.nil
          go_simp
          have hcon := HRT2.out wr.drew ((Fr.refl (fun _ => False) wr).drew)
          with_reducible refine hcon.mono ?_
          clear hcon
          rintro e' v1 ⟨rfl, hff⟩
          have HFn : Hid (Fr (fun _ => False) wr v1) := Lib.hid ((Fr.refl _ _).drew.trans hff (fun _ _ h => h))
          clear hff
          have HGc := Lib.hid (HGc.out.trans HFn.out (fun _ _ h => h))
          refine hKx.out _ _ ?_ (fun hHeld => ?_)
          · exact HFn.out
          clear hKx Kx
          (try simp only [Act.put, List.setIfInBounds_toArray, List.set_cons_zero, List.set_cons_succ, List.getElem_toArray, List.getElem_cons_zero, List.getElem_cons_succ])
          refine wpAnyH_more (fun w' => Fr (fun _ => False) v1 w') (fun _ h => HFn.out.trans h (fun _ _ h => h)) ?_ (fun hHeld => ?_)
          · exact Fr.refl _ _
          clear HFn
          refine wpAnyH_take (i := 2) (v := ?vt2) rfl (by kernel_rfl) (by kernel_rfl) (by kernel_rfl) (fun _ _ _ h => h) (Or.inl ⟨by rfl, ?hyt2⟩) hHeld ?restt2
          case hyt2 => intro w hSw; (try dsimp only at hSw); go_simp; try (with_reducible rfl)
          (try simp only [Act.put, List.setIfInBounds_toArray, List.set_cons_zero, List.set_cons_succ, List.getElem_toArray, List.getElem_cons_zero, List.getElem_cons_succ])
          refine wpAnyH_take (i := 3) (v := ?vt3) rfl (by kernel_rfl) (by kernel_rfl) (by kernel_rfl) (fun _ _ _ h => h) (Or.inl ⟨by rfl, ?hyt3⟩) hHeld ?restt3
          case hyt3 => intro w hSw; (try dsimp only at hSw); go_simp; try (with_reducible rfl)
          (try simp only [Act.put, List.setIfInBounds_toArray, List.set_cons_zero, List.set_cons_succ, List.getElem_toArray, List.getElem_cons_zero, List.getElem_cons_succ])
          refine wpAnyH_take (i := 4) (v := ?vt4) rfl (by kernel_rfl) (by kernel_rfl) (by kernel_rfl) (fun _ _ _ h => h) (Or.inl ⟨by rfl, ?hyt4⟩) hHeld ?restt4
          case hyt4 => intro w hSw; (try dsimp only at hSw); go_simp; try (with_reducible rfl)
          (try simp only [Act.put, List.setIfInBounds_toArray, List.set_cons_zero, List.set_cons_succ, List.getElem_toArray, List.getElem_cons_zero, List.getElem_cons_succ])
          refine wpAnyH_take (i := 5) (v := ?vt5) rfl (by kernel_rfl) (by kernel_rfl) (by kernel_rfl) (fun _ _ _ h => h) (Or.inl ⟨by rfl, ?hyt5⟩) hHeld ?restt5
          case hyt5 => intro w hSw; (try dsimp only at hSw); go_simp; try (with_reducible rfl)
          (try simp only [Act.put, List.setIfInBounds_toArray, List.set_cons_zero, List.set_cons_succ, List.getElem_toArray, List.getElem_cons_zero, List.getElem_cons_succ])
          refine wpAnyH_take (i := 6) (v := ?vt6) rfl (by kernel_rfl) (by kernel_rfl) (by kernel_rfl) (fun _ _ _ h => h) (Or.inl ⟨by rfl, ?hyt6⟩) hHeld ?restt6
          case hyt6 => intro w hSw; (try dsimp only at hSw); go_simp; try (with_reducible rfl)
          (try simp only [Act.put, List.setIfInBounds_toArray, List.set_cons_zero, List.set_cons_succ, List.getElem_toArray, List.getElem_cons_zero, List.getElem_cons_succ])
          refine wpAnyH_take (i := 7) (v := ?vt7) rfl (by kernel_rfl) (by kernel_rfl) (by kernel_rfl) (fun _ _ _ h => h) (Or.inl ⟨by rfl, ?hyt7⟩) hHeld ?restt7
          case hyt7 => intro w hSw; (try dsimp only at hSw); go_simp; try (with_reducible rfl)
          (try simp only [Act.put, List.setIfInBounds_toArray, List.set_cons_zero, List.set_cons_succ, List.getElem_toArray, List.getElem_cons_zero, List.getElem_cons_succ])
          refine wpAnyH_take (i := 8) (v := ?vt8) rfl (by kernel_rfl) (by kernel_rfl) (by kernel_rfl) (fun _ _ _ h => h) (Or.inl ⟨by rfl, ?hyt8⟩) hHeld ?restt8
          case hyt8 => intro w hSw; (try dsimp only at hSw); go_simp; try (with_reducible rfl)
          (try simp only [Act.put, List.setIfInBounds_toArray, List.set_cons_zero, List.set_cons_succ, List.getElem_toArray, List.getElem_cons_zero, List.getElem_cons_succ])
          refine wpAnyH_take (i := 9) (v := ?vt9) rfl (by kernel_rfl) (by kernel_rfl) (by kernel_rfl) (fun _ _ _ h => h) (Or.inl ⟨by rfl, ?hyt9⟩) hHeld ?restt9
          case hyt9 => intro w hSw; (try dsimp only at hSw); obtain ⟨k0, k1, k2, k3, k4, k5, k6, k7⟩ := HBX.out _ (HGc.out.trans hSw (fun _ _ h => h)); go_simp; try (with_reducible rfl)
          (try simp only [Act.put, List.setIfInBounds_toArray, List.set_cons_zero, List.set_cons_succ, List.getElem_toArray, List.getElem_cons_zero, List.getElem_cons_succ])
          refine wpAnyH_take (i := 12) (v := ?vt10) rfl (by kernel_rfl) (by kernel_rfl) (by kernel_rfl) (fun _ _ _ h => h) (Or.inl ⟨by rfl, ?hyt10⟩) hHeld ?restt10
          case hyt10 => intro w hSw; (try dsimp only at hSw); go_simp; try (with_reducible rfl)
          (try simp only [Act.put, List.setIfInBounds_toArray, List.set_cons_zero, List.set_cons_succ, List.getElem_toArray, List.getElem_cons_zero, List.getElem_cons_succ])
          refine wpAnyH_take (i := 13) (v := ?vt11) rfl (by kernel_rfl) (by kernel_rfl) (by kernel_rfl) (fun _ _ _ h => h) (Or.inl ⟨by rfl, ?hyt11⟩) hHeld ?restt11
          case hyt11 => intro w hSw; (try dsimp only at hSw); go_simp; try (with_reducible rfl)
          (try simp only [Act.put, List.setIfInBounds_toArray, List.set_cons_zero, List.set_cons_succ, List.getElem_toArray, List.getElem_cons_zero, List.getElem_cons_succ])
          refine wpAnyH_take (i := 14) (v := ?vt12) rfl (by kernel_rfl) (by kernel_rfl) (by kernel_rfl) (fun _ _ _ h => h) (Or.inl ⟨by rfl, ?hyt12⟩) hHeld ?restt12
          case hyt12 => intro w hSw; (try dsimp only at hSw); go_simp; try (with_reducible rfl)
          (try simp only [Act.put, List.setIfInBounds_toArray, List.set_cons_zero, List.set_cons_succ, List.getElem_toArray, List.getElem_cons_zero, List.getElem_cons_succ])
          refine wpAnyH_take (i := 15) (v := ?vt13) rfl (by kernel_rfl) (by kernel_rfl) (by kernel_rfl) (fun _ _ _ h => h) (Or.inl ⟨by rfl, ?hyt13⟩) hHeld ?restt13
          case hyt13 => intro w hSw; (try dsimp only at hSw); have hst := str_rd (HMw.out _ (HGc.out.trans hSw (fun _ _ h => h))) c; go_simp; try (with_reducible rfl)
          (try simp only [Act.put, List.setIfInBounds_toArray, List.set_cons_zero, List.set_cons_succ, List.getElem_toArray, List.getElem_cons_zero, List.getElem_cons_succ])
          refine wpAnyH_ready (rs := [10]) (by kernel_rfl) (by simp) ?_
          refine AllReadyH.cons rfl (fun Kx hKx => ?_) AllReadyH.nil
          go_simp
          have hcon := HPU2.out v1 HGc.out
          with_reducible refine hcon.mono ?_
          clear hcon
          rintro e' v2 ⟨A10, c10, rfl, ho10, hff⟩
          have HFn : Hid (Fr (fun _ => False) v1 v2) := Lib.hid (hff)
          clear hff
          have hk10 := ho10.rd
          rw [HRL.out] at hk10
          have HK10 := Lib.hid hk10
          clear ho10 hk10
          have HGc := Lib.hid (HGc.out.trans HFn.out (fun _ _ h => h))
          refine hKx.out _ _ ?_ (fun hHeld => ?_)
          · exact HFn.out
          clear hKx Kx
          (try simp only [Act.put, List.setIfInBounds_toArray, List.set_cons_zero, List.set_cons_succ, List.getElem_toArray, List.getElem_cons_zero, List.getElem_cons_succ])
          refine wpAnyH_more (fun w' => Fr (fun _ => False) v2 w') (fun _ h => HFn.out.trans h (fun _ _ h => h)) ?_ (fun hHeld => ?_)
          · exact Fr.refl _ _
          clear HFn
          refine wpAnyH_take (i := 11) (v := ?vt14) rfl (by kernel_rfl) (by kernel_rfl) (by kernel_rfl) (fun _ _ _ h => h) (Or.inl ⟨by rfl, ?hyt14⟩) hHeld ?restt14
          case hyt14 => intro w hSw; (try dsimp only at hSw); have hst := str_rd (HK10.out.fr hSw (fun _ _ h => h)) c10; go_simp; try (with_reducible rfl)
          (try simp only [Act.put, List.setIfInBounds_toArray, List.set_cons_zero, List.set_cons_succ, List.getElem_toArray, List.getElem_cons_zero, List.getElem_cons_succ])
          refine wpAnyH_take (i := 16) (v := ?vt15) rfl (by kernel_rfl) (by kernel_rfl) (by kernel_rfl) (fun _ _ _ h => h) (Or.inl ⟨by rfl, ?hyt15⟩) hHeld ?restt15
          case hyt15 => intro w hSw; (try dsimp only at hSw); go_simp; try (with_reducible rfl)
          (try simp only [Act.put, List.setIfInBounds_toArray, List.set_cons_zero, List.set_cons_succ, List.getElem_toArray, List.getElem_cons_zero, List.getElem_cons_succ])
          refine wpAnyH_take (i := 17) (v := ?vt16) rfl (by kernel_rfl) (by kernel_rfl) (by kernel_rfl) (fun _ _ _ h => h) (Or.inl ⟨by rfl, ?hyt16⟩) hHeld ?restt16
          case hyt16 => intro w hSw; (try dsimp only at hSw); go_simp; try (with_reducible rfl)
          (try simp only [Act.put, List.setIfInBounds_toArray, List.set_cons_zero, List.set_cons_succ, List.getElem_toArray, List.getElem_cons_zero, List.getElem_cons_succ])
          refine wpAnyH_take (i := 18) (v := ?vt17) rfl (by kernel_rfl) (by kernel_rfl) (by kernel_rfl) (fun _ _ _ h => h) (Or.inl ⟨by rfl, ?hyt17⟩) hHeld ?restt17
          case hyt17 => intro w hSw; (try dsimp only at hSw); go_simp; try (with_reducible rfl)
          (try simp only [Act.put, List.setIfInBounds_toArray, List.set_cons_zero, List.set_cons_succ, List.getElem_toArray, List.getElem_cons_zero, List.getElem_cons_succ])
          refine wpAnyH_take (i := 19) (v := ?vt18) rfl (by kernel_rfl) (by kernel_rfl) (by kernel_rfl) (fun _ _ _ h => h) (Or.inl ⟨by rfl, ?hyt18⟩) hHeld ?restt18
          case hyt18 => intro w hSw; (try dsimp only at hSw); go_simp; try (with_reducible rfl)
          (try simp only [Act.put, List.setIfInBounds_toArray, List.set_cons_zero, List.set_cons_succ, List.getElem_toArray, List.getElem_cons_zero, List.getElem_cons_succ])
          refine wpAnyH_take (i := 20) (v := ?vt19) rfl (by kernel_rfl) (by kernel_rfl) (by kernel_rfl) (fun _ _ _ h => h) (Or.inl ⟨by rfl, ?hyt19⟩) hHeld ?restt19
          case hyt19 => intro w hSw; (try dsimp only at hSw); go_simp; try (with_reducible rfl)
          (try simp only [Act.put, List.setIfInBounds_toArray, List.set_cons_zero, List.set_cons_succ, List.getElem_toArray, List.getElem_cons_zero, List.getElem_cons_succ])
          refine wpAnyH_take (i := 21) (v := ?vt20) rfl (by kernel_rfl) (by kernel_rfl) (by kernel_rfl) (fun _ _ _ h => h) (Or.inl ⟨by rfl, ?hyt20⟩) hHeld ?restt20
          case hyt20 => intro w hSw; (try dsimp only at hSw); go_simp; try (with_reducible rfl)
          (try simp only [Act.put, List.setIfInBounds_toArray, List.set_cons_zero, List.set_cons_succ, List.getElem_toArray, List.getElem_cons_zero, List.getElem_cons_succ])
          refine wpAnyH_take (i := 22) (v := ?vt21) rfl (by kernel_rfl) (by kernel_rfl) (by kernel_rfl) (fun _ _ _ h => h) (Or.inl ⟨by rfl, ?hyt21⟩) hHeld ?restt21
          case hyt21 => intro w hSw; (try dsimp only at hSw); go_simp; try (with_reducible rfl)
          (try simp only [Act.put, List.setIfInBounds_toArray, List.set_cons_zero, List.set_cons_succ, List.getElem_toArray, List.getElem_cons_zero, List.getElem_cons_succ])
          refine wpAnyH_take (i := 23) (v := ?vt22) rfl (by kernel_rfl) (by kernel_rfl) (by kernel_rfl) (fun _ _ _ h => h) (Or.inl ⟨by rfl, ?hyt22⟩) hHeld ?restt22
          case hyt22 => intro w hSw; (try dsimp only at hSw); go_simp; try (with_reducible rfl)
          (try simp only [Act.put, List.setIfInBounds_toArray, List.set_cons_zero, List.set_cons_succ, List.getElem_toArray, List.getElem_cons_zero, List.getElem_cons_succ])
          refine wpAnyH_take (i := 24) (v := ?vt23) rfl (by kernel_rfl) (by kernel_rfl) (by kernel_rfl) (fun _ _ _ h => h) (Or.inl ⟨by rfl, ?hyt23⟩) hHeld ?restt23
          case hyt23 => intro w hSw; (try dsimp only at hSw); go_simp; try (with_reducible rfl)
          (try simp only [Act.put, List.setIfInBounds_toArray, List.set_cons_zero, List.set_cons_succ, List.getElem_toArray, List.getElem_cons_zero, List.getElem_cons_succ])
          refine wpAnyH_take (i := 25) (v := ?vt24) rfl (by kernel_rfl) (by kernel_rfl) (by kernel_rfl) (fun _ _ _ h => h) (Or.inl ⟨by rfl, ?hyt24⟩) hHeld ?restt24
          case hyt24 => intro w hSw; (try dsimp only at hSw); go_simp; try (with_reducible rfl)
          (try simp only [Act.put, List.setIfInBounds_toArray, List.set_cons_zero, List.set_cons_succ, List.getElem_toArray, List.getElem_cons_zero, List.getElem_cons_succ])
          refine wpAnyH_take (i := 26) (v := ?vt25) rfl (by kernel_rfl) (by kernel_rfl) (by kernel_rfl) (fun _ _ _ h => h) (Or.inl ⟨by rfl, ?hyt25⟩) hHeld ?restt25
          case hyt25 => intro w hSw; (try dsimp only at hSw); obtain ⟨k0, k1, k2, k3, k4, k5, k6, k7⟩ := HBX.out _ (HGc.out.trans hSw (fun _ _ h => h)); go_simp; try (with_reducible rfl)
          (try simp only [Act.put, List.setIfInBounds_toArray, List.set_cons_zero, List.set_cons_succ, List.getElem_toArray, List.getElem_cons_zero, List.getElem_cons_succ])
          refine wpAnyH_take (i := 27) (v := ?vt26) rfl (by kernel_rfl) (by kernel_rfl) (by kernel_rfl) (fun _ _ _ h => h) (Or.inl ⟨by rfl, ?hyt26⟩) hHeld ?restt26
          case hyt26 => intro w hSw; (try dsimp only at hSw); go_simp; try (with_reducible rfl)
          (try simp only [Act.put, List.setIfInBounds_toArray, List.set_cons_zero, List.set_cons_succ, List.getElem_toArray, List.getElem_cons_zero, List.getElem_cons_succ])
          refine wpAnyH_take (i := 28) (v := ?vt27) rfl (by kernel_rfl) (by kernel_rfl) (by kernel_rfl) (fun _ _ _ h => h) (Or.inl ⟨by rfl, ?hyt27⟩) hHeld ?restt27
          case hyt27 => intro w hSw; (try dsimp only at hSw); obtain ⟨k0, k1, k2, k3, k4, k5, k6, k7⟩ := HBX.out _ (HGc.out.trans hSw (fun _ _ h => h)); go_simp; try (with_reducible rfl)
          (try simp only [Act.put, List.setIfInBounds_toArray, List.set_cons_zero, List.set_cons_succ, List.getElem_toArray, List.getElem_cons_zero, List.getElem_cons_succ])
          refine wpAnyH_take (i := 29) (v := ?vt28) rfl (by kernel_rfl) (by kernel_rfl) (by kernel_rfl) (fun _ _ _ h => h) (Or.inl ⟨by rfl, ?hyt28⟩) hHeld ?restt28
          case hyt28 => intro w hSw; (try dsimp only at hSw); go_simp; try (with_reducible rfl)
          (try simp only [Act.put, List.setIfInBounds_toArray, List.set_cons_zero, List.set_cons_succ, List.getElem_toArray, List.getElem_cons_zero, List.getElem_cons_succ])
          refine wpAnyH_take (i := 30) (v := ?vt29) rfl (by kernel_rfl) (by kernel_rfl) (by kernel_rfl) (fun _ _ _ h => h) (Or.inl ⟨by rfl, ?hyt29⟩) hHeld ?restt29
          case hyt29 => intro w hSw; (try dsimp only at hSw); go_simp; try (with_reducible rfl)
          (try simp only [Act.put, List.setIfInBounds_toArray, List.set_cons_zero, List.set_cons_succ, List.getElem_toArray, List.getElem_cons_zero, List.getElem_cons_succ])
          refine wpAnyH_take (i := 31) (v := ?vt30) rfl (by kernel_rfl) (by kernel_rfl) (by kernel_rfl) (fun _ _ _ h => h) (Or.inl ⟨by rfl, ?hyt30⟩) hHeld ?restt30
          case hyt30 => intro w hSw; (try dsimp only at hSw); go_simp; try (with_reducible rfl)
          (try simp only [Act.put, List.setIfInBounds_toArray, List.set_cons_zero, List.set_cons_succ, List.getElem_toArray, List.getElem_cons_zero, List.getElem_cons_succ])
          refine wpAnyH_done (by kernel_rfl) ?_ _
          go_wp2_with fail
          go_ret
          exact ⟨rfl, HFW.out.trans HGc.out (fun _ _ h => h)⟩
end Go.Proofs.Ytbnkahjmeobblaa
