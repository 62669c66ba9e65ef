/-
  Layer 20, the law HeadBack (written by gen_back20.py).
  Layer 17's rows: arguments that are names, ops, slices of ops, read.
-/
import Derived.Test.YtbnkahjmeobblaaHeN
import Derived.Test.YtbnkahjmeobblaaZm36
import Derived.Test.YtbnkahjmeobblaaZm39
import Derived.Test.YtbnkahjmeobblaaZm00
import Derived.Deep.Slices
import Derived.Deep.Fields
import Derived.ChangeMaps5
namespace Go.Proofs.Ytbnkahjmeobblaa
open Go.RowKit Mem Go.Lib LebM UtfM AcM OpM HeM
attribute [local go_sem ↓] Go.wp_at_zero Go.wp_at_succ
set_option linter.unusedVariables false

theorem run_toH (A : Option Addr) (n c y : Nat) (hy : y ≤ n) (hn : n ≤ c) (yi : Int) (ey : yi = (y : Int)) (w' : World) :
    (Instr.sliceAt 29 (.slice A n c) none (some (.int .i64 yi)) none).run Try.prog w' = .ok (.slice A y c) w' := by
  subst ey
  have h0 := cutAt_zero A c
  unfold cutAt at h0
  cases A with
  | none =>
    go_simp
    intro h
    omega
  | some ad =>
    simp only [Option.map_some] at h0
    go_simp
    try (rw [h0])
    try (intro h; omega)
    try (refine ⟨fun h => ?_, fun h => ?_⟩ <;> omega)
set_option maxRecDepth 100000 in
set_option maxHeartbeats 12800000 in
theorem headback_law (ch : Ch) (A : Option Addr) (k : Nat) (A6 : Option Addr) (n6 k6 : Nat) (L : List Om) (A2 : Option Addr) (nm cm : Nat) (B : List UInt8) (kc : Nat) (w : World) (hch : ChOk w ch A A6 n6 L) (hB : Rd w A2 nm (B.map bytec)) (hBc : nm ≤ cm) (hBm : cm ≤ maxLen) (hkc : kc < 65536) :
    Calls Try.prog 5 #[chc ch A k A6 n6 k6, .slice A2 nm cm, .int .u16 (kc : Int)] w fun e w' => e = .returned (.bool true) ∧ Fr (fun _ => False) w w' := by
  have HBN : Hid (B.length = nm) := Lib.hid (by simpa using hB.1)
  have hnm63 : nm ≤ 9223372036854775807 := by unfold maxLen at hBm; omega
  have HM_w := Lib.hid hB
  have HAW := Lib.hid (fun w' => awake20_any w')
  have HCH_w := Lib.hid hch
  have hfw := fun w' (hf : Fr (fun _ => False) w w') => rFew20_any ch A k A6 n6 k6 L w' (hch.fr hf)
  have hgood := fun h => short_of hch h
  have ht0 := hch.t0
  have ht1 := hch.t1
  have h32 := hch.hd.2.1
  obtain ⟨bf, hbf⟩ : ∃ b, fewH ch n6 L = b := ⟨_, rfl⟩
  simp only [hbf] at hfw hgood
  obtain ⟨vr, hvr⟩ : ∃ b, rightH ch = b := ⟨_, rfl⟩
  obtain ⟨vs, hvs⟩ : ∃ b, spokenB L = b := ⟨_, rfl⟩
  have hrr := fun (hs : Short ch n6 L) w' (hf : Fr (fun _ => False) w w') => rRight20_any ch A k A6 n6 k6 w' (hch.fr hf).hd (by have := hs.a; omega) (by have := hs.m; omega) (by have := hs.d; omega)
  have hsp := fun (hs : Short ch n6 L) w' (hf : Fr (fun _ => False) w w') => spoken_any ch A k A6 n6 k6 L w' (hch.fr hf).hL (by have := hs.n; omega) (fun x hx => (hs.ok x hx).2) hs.ns (by have := hs.nl; omega)
  simp only [hvr] at hrr
  simp only [hvs] at hsp
  have hpu := fun (hs : Short ch n6 L) (hr : rightH ch = true) (hp : spokenB L = true) w' (hf : Fr (fun _ => False) w w') => hPut_any ch A k A6 n6 k6 L w' (hch.fr hf).hd hr ht0 ht1 (hch.fr hf).hL (by have := hs.n; omega) hs.ok (by have := hs.tab.1; omega) hs.tab.2 (by have h := tab_of hs hp; have h2 := put_bd (O := othersA ch.a (namesM L)) hr h32 ht0 ht1 h.len h.n; rw [h.eq]; omega)
  have htb := fun (hs : Short ch n6 L) w' (hf : Fr (fun _ => False) w w') => racTable_any ch.a A6 n6 k6 L w' (hch.fr hf).hL (by have := hs.n; omega) (by have := hs.a; omega) hs.ok
  have hHd := hch.hd
  clear hch hB hBm
  obtain ⟨a, q, s, t, m, d⟩ := ch
  unfold chc at hfw hrr hsp hpu ⊢
  simp only at hfw hrr hsp hpu htb ht0 ht1 h32 hHd ⊢
  obtain ⟨nd, hnd⟩ : ∃ n, d.length = n := ⟨_, rfl⟩
  simp only [hnd] at hfw hrr hsp hpu hHd
  rw [hnd]
  obtain ⟨g, hg⟩ : ∃ g, w.heap.size = g := ⟨_, rfl⟩
  obtain ⟨w0, hw0⟩ : ∃ w0, w.alloc (.cells [.string (txt a), .int .i64 q, .int .i64 s, .int .i64 t, .string (txt m), .slice A nd k, .slice A6 n6 k6].toArray 25) = w0 := ⟨_, rfl⟩
  have HG_w0 : Hid (Row w0 g 25 [.string (txt a), .int .i64 q, .int .i64 s, .int .i64 t, .string (txt m), .slice A nd k, .slice A6 n6 k6]) := Lib.hid (by rw [← hw0, ← hg]; exact Row.new _ _ _)
  have HF_w0 : Hid (Fr (fun _ => False) w w0) := Lib.hid (by rw [← hw0]; exact (Fr.refl _ _).alloc _)
  have HM_w0 := Lib.hid (HM_w.out.fr HF_w0.out (fun _ _ h => h))
  have HHD := Lib.hid hHd
  have HFW := Lib.hid hfw
  have HGO := Lib.hid hgood
  have HRR := Lib.hid hrr
  have HSP := Lib.hid hsp
  have HPU := Lib.hid hpu
  have HTB := Lib.hid htb
  have HVR := Lib.hid hvr
  have HVS := Lib.hid hvs
  have H32 := Lib.hid h32
  have HND := Lib.hid hnd
  clear hfw hgood hrr hsp hpu htb hvr hvs h32 hHd hnd hbf
  go_enter Try.func5, Try.ntmps5
  go_wp2_with fail
  clear hw0 hg
  refine (HAW.out _).mono ?_
  rintro e x1 ⟨rfl, hf⟩
  have HG_x1 := Lib.hid (HG_w0.out.fr hf (fun h => h))
  have HM_x1 := Lib.hid (HM_w0.out.fr hf (fun _ _ h => h))
  have HF_x1 : Hid (Fr (fun _ => False) w x1) := Lib.hid (HF_w0.out.trans hf (fun _ _ h => h))
  clear hf
  have c1_0 : x1.cell? ⟨g, 0, none⟩ = some (.string (txt a)) := Row.cell HG_x1.out rfl
  have c1_1 : x1.cell? ⟨g, 1, none⟩ = some (.int .i64 q) := Row.cell HG_x1.out rfl
  have c1_2 : x1.cell? ⟨g, 2, none⟩ = some (.int .i64 s) := Row.cell HG_x1.out rfl
  have c1_3 : x1.cell? ⟨g, 3, none⟩ = some (.int .i64 t) := Row.cell HG_x1.out rfl
  have c1_4 : x1.cell? ⟨g, 4, none⟩ = some (.string (txt m)) := Row.cell HG_x1.out rfl
  have c1_5 : x1.cell? ⟨g, 5, none⟩ = some (.slice A nd k) := Row.cell HG_x1.out rfl
  have c1_6 : x1.cell? ⟨g, 6, none⟩ = some (.slice A6 n6 k6) := Row.cell HG_x1.out rfl
  go_wp2_with fail
  refine (HFW.out _ HF_x1.out).mono ?_
  clear c1_0 c1_1 c1_2 c1_3 c1_4 c1_5 c1_6
  rintro e x2 ⟨rfl, hf⟩
  have HG_x2 := Lib.hid (HG_x1.out.fr hf (fun h => h))
  have HM_x2 := Lib.hid (HM_x1.out.fr hf (fun _ _ h => h))
  have HF_x2 : Hid (Fr (fun _ => False) w x2) := Lib.hid (HF_x1.out.trans hf (fun _ _ h => h))
  clear hf
  cases bf with
  | false =>
    go_wp2_with fail
    refine (HAW.out _).mono ?_
    rintro e x3 ⟨rfl, hf⟩
    have HG_x3 := Lib.hid (HG_x2.out.fr hf (fun h => h))
    have HM_x3 := Lib.hid (HM_x2.out.fr hf (fun _ _ h => h))
    have HF_x3 : Hid (Fr (fun _ => False) w x3) := Lib.hid (HF_x2.out.trans hf (fun _ _ h => h))
    clear hf
    go_wp2_with fail
    go_ret
    exact ⟨rfl, HF_x3.out⟩
  | true =>
    have hsh := HGO.out rfl
    have HSH := Lib.hid hsh
    clear hsh
    by_cases hq1 : 3000 < nm
    · have tq1 : decide ((3000 : Int) < (nm : Int)) = true := decide_eq_true (by omega)
      have tq1' : decide (3000 < nm) = true := decide_eq_true hq1
      go_wp2_with fail
      refine (HAW.out _).mono ?_
      rintro e x3 ⟨rfl, hf⟩
      have HG_x3 := Lib.hid (HG_x2.out.fr hf (fun h => h))
      have HM_x3 := Lib.hid (HM_x2.out.fr hf (fun _ _ h => h))
      have HF_x3 : Hid (Fr (fun _ => False) w x3) := Lib.hid (HF_x2.out.trans hf (fun _ _ h => h))
      clear hf
      go_wp2_with fail
      go_ret
      exact ⟨rfl, HF_x3.out⟩
    · have tq1 : decide ((3000 : Int) < (nm : Int)) = false := decide_eq_false (by omega)
      have tq1' : decide (3000 < nm) = false := decide_eq_false hq1
      have c2_0 : x2.cell? ⟨g, 0, none⟩ = some (.string (txt a)) := Row.cell HG_x2.out rfl
      have c2_1 : x2.cell? ⟨g, 1, none⟩ = some (.int .i64 q) := Row.cell HG_x2.out rfl
      have c2_2 : x2.cell? ⟨g, 2, none⟩ = some (.int .i64 s) := Row.cell HG_x2.out rfl
      have c2_3 : x2.cell? ⟨g, 3, none⟩ = some (.int .i64 t) := Row.cell HG_x2.out rfl
      have c2_4 : x2.cell? ⟨g, 4, none⟩ = some (.string (txt m)) := Row.cell HG_x2.out rfl
      have c2_5 : x2.cell? ⟨g, 5, none⟩ = some (.slice A nd k) := Row.cell HG_x2.out rfl
      have c2_6 : x2.cell? ⟨g, 6, none⟩ = some (.slice A6 n6 k6) := Row.cell HG_x2.out rfl
      go_wp2_with fail
      refine (HRR.out HSH.out _ HF_x2.out).mono ?_
      clear c2_0 c2_1 c2_2 c2_3 c2_4 c2_5 c2_6
      rintro e x3 ⟨rfl, hf⟩
      have HG_x3 := Lib.hid (HG_x2.out.fr hf (fun h => h))
      have HM_x3 := Lib.hid (HM_x2.out.fr hf (fun _ _ h => h))
      have HF_x3 : Hid (Fr (fun _ => False) w x3) := Lib.hid (HF_x2.out.trans hf (fun _ _ h => h))
      clear hf
      cases vr with
      | false =>
        go_wp2_with fail
        refine (HAW.out _).mono ?_
        rintro e x4 ⟨rfl, hf⟩
        have HG_x4 := Lib.hid (HG_x3.out.fr hf (fun h => h))
        have HM_x4 := Lib.hid (HM_x3.out.fr hf (fun _ _ h => h))
        have HF_x4 : Hid (Fr (fun _ => False) w x4) := Lib.hid (HF_x3.out.trans hf (fun _ _ h => h))
        clear hf
        go_wp2_with fail
        go_ret
        exact ⟨rfl, HF_x4.out⟩
      | true =>
        have c3_0 : x3.cell? ⟨g, 0, none⟩ = some (.string (txt a)) := Row.cell HG_x3.out rfl
        have c3_1 : x3.cell? ⟨g, 1, none⟩ = some (.int .i64 q) := Row.cell HG_x3.out rfl
        have c3_2 : x3.cell? ⟨g, 2, none⟩ = some (.int .i64 s) := Row.cell HG_x3.out rfl
        have c3_3 : x3.cell? ⟨g, 3, none⟩ = some (.int .i64 t) := Row.cell HG_x3.out rfl
        have c3_4 : x3.cell? ⟨g, 4, none⟩ = some (.string (txt m)) := Row.cell HG_x3.out rfl
        have c3_5 : x3.cell? ⟨g, 5, none⟩ = some (.slice A nd k) := Row.cell HG_x3.out rfl
        have c3_6 : x3.cell? ⟨g, 6, none⟩ = some (.slice A6 n6 k6) := Row.cell HG_x3.out rfl
        go_wp2_with fail
        refine (HSP.out HSH.out _ HF_x3.out).mono ?_
        clear c3_0 c3_1 c3_2 c3_3 c3_4 c3_5 c3_6
        rintro e x4 ⟨rfl, hf⟩
        have HG_x4 := Lib.hid (HG_x3.out.fr hf (fun h => h))
        have HM_x4 := Lib.hid (HM_x3.out.fr hf (fun _ _ h => h))
        have HF_x4 : Hid (Fr (fun _ => False) w x4) := Lib.hid (HF_x3.out.trans hf (fun _ _ h => h))
        clear hf
        cases vs with
        | false =>
          go_wp2_with fail
          refine (HAW.out _).mono ?_
          rintro e x5 ⟨rfl, hf⟩
          have HG_x5 := Lib.hid (HG_x4.out.fr hf (fun h => h))
          have HM_x5 := Lib.hid (HM_x4.out.fr hf (fun _ _ h => h))
          have HF_x5 : Hid (Fr (fun _ => False) w x5) := Lib.hid (HF_x4.out.trans hf (fun _ _ h => h))
          clear hf
          go_wp2_with fail
          go_ret
          exact ⟨rfl, HF_x5.out⟩
        | true =>
          have htk := tab_of HSH.out HVS.out
          have hpb := put_bd (O := othersA a (namesM L)) HVR.out H32.out ht0 ht1 htk.len htk.n
          obtain ⟨O, hO⟩ : ∃ O, othersA a (namesM L) = O := ⟨_, rfl⟩
          have hT := htk.eq
          simp only [hO] at htk hT hpb
          have hpu := HPU.out HSH.out HVR.out HVS.out
          have htb := HTB.out HSH.out
          simp only [hT] at hpu htb
          obtain ⟨R, hR⟩ : ∃ R, putH ⟨a, q, s, t, m, d⟩ (a :: O) = R := ⟨_, rfl⟩
          have hgb := get_back20 (c := ⟨a, q, s, t, m, d⟩) (O := O) HVR.out H32.out ht0 ht1 htk.rise htk.na htk.len (by have := htk.n; omega) B
          have hgf := fun j hj => get_front20 (c := ⟨a, q, s, t, m, d⟩) (O := O) HVR.out H32.out ht0 ht1 htk.rise htk.na htk.len (by have := htk.n; omega) (j := j) hj
          have ha16 := (right_parts HVR.out).1.2
          have hd16 := (right_parts HVR.out).2.2.2.2.2.1
          simp only at hgb hgf ha16 hd16
          obtain ⟨T, hTT⟩ : ∃ T, a :: O = T := ⟨_, rfl⟩
          obtain ⟨nt, hnt⟩ : ∃ n, T.length = n := ⟨_, rfl⟩
          have hntb : nt ≤ 40081 := by rw [← hnt, ← hTT, List.length_cons]; have := htk.n; omega
          rw [hTT] at hR
          simp only [hTT] at hpu htb hgb hgf hpb
          simp only [hR] at hpu hgb hgf hpb
          obtain ⟨ny, hny⟩ : ∃ n, R.length = n := ⟨_, rfl⟩
          simp only [hny] at hpu hgb hgf hpb
          simp only [hnt] at htb
          have hyb : 1 ≤ ny ∧ ny ≤ 1200000 := ⟨hpb.2.2, hpb.2.1⟩
          have HPU := Lib.hid hpu
          have HTB := Lib.hid htb
          have HGB := Lib.hid hgb
          have HGF := Lib.hid hgf
          have HYN := Lib.hid hny
          have HTN := Lib.hid hnt
          have hndb : nd ≤ 16 := by rw [← HND.out]; exact hd16
          clear hT hO htk hpb hpu htb hgb hgf ha16 hd16 hR hTT hnt hny
          have c4_0 : x4.cell? ⟨g, 0, none⟩ = some (.string (txt a)) := Row.cell HG_x4.out rfl
          have c4_1 : x4.cell? ⟨g, 1, none⟩ = some (.int .i64 q) := Row.cell HG_x4.out rfl
          have c4_2 : x4.cell? ⟨g, 2, none⟩ = some (.int .i64 s) := Row.cell HG_x4.out rfl
          have c4_3 : x4.cell? ⟨g, 3, none⟩ = some (.int .i64 t) := Row.cell HG_x4.out rfl
          have c4_4 : x4.cell? ⟨g, 4, none⟩ = some (.string (txt m)) := Row.cell HG_x4.out rfl
          have c4_5 : x4.cell? ⟨g, 5, none⟩ = some (.slice A nd k) := Row.cell HG_x4.out rfl
          have c4_6 : x4.cell? ⟨g, 6, none⟩ = some (.slice A6 n6 k6) := Row.cell HG_x4.out rfl
          go_wp2_with fail
          refine (HPU.out _ HF_x4.out).mono ?_
          clear c4_0 c4_1 c4_2 c4_3 c4_4 c4_5 c4_6
          rintro e x5 ⟨Ay, cy, rfl, ho, hf⟩
          have HG_x5 := Lib.hid (HG_x4.out.fr hf (fun h => h))
          have HM_x5 := Lib.hid (HM_x4.out.fr hf (fun _ _ h => h))
          have HF_x5 : Hid (Fr (fun _ => False) w x5) := Lib.hid (HF_x4.out.trans hf (fun _ _ h => h))
          have hoy := ho.rd
          have hcy := ho.cap.1
          rw [HYN.out] at hoy hcy
          have HY_x5 : Hid (Rd x5 Ay ny (R.map bytec)) := Lib.hid hoy
          have HCY := Lib.hid hcy
          clear ho hoy hcy
          clear hf
          obtain ⟨base, hbase⟩ : ∃ b, x5.heap.size = b := ⟨_, rfl⟩
          obtain ⟨v5, hw5⟩ : ∃ w5, x5.alloc (.cells #[] 5) = w5 := ⟨_, rfl⟩
          have hf5 : Fr (fun _ => False) x5 v5 := by rw [← hw5]; exact (Fr.refl _ _).alloc _
          have ho5 : v5.ownsRow base 5 1 (.slice (some ⟨base, 0, none⟩) 0 0) 0 [] := by rw [← hw5, ← hbase]; exact World.ownsRow_lit (size := 1) x5 #[] 0 (Nat.le_refl _) (by decide) rfl
          have HO5 := Lib.hid ho5
          have HRY5 := Lib.hid (HY_x5.out.fr hf5 (fun _ _ h => h))
          have HB5 : Hid (base ≤ v5.heap.size) := Lib.hid (by rw [← hbase]; exact hf5.size)
          have HFF5 := Lib.hid hf5
          have HBS := Lib.hid hbase
          clear ho5 hf5
          go_wp2_with (at_builtin; refine wpList_appN u8T _ rfl _ _ rfl base _ 0 [] rfl HO5.out _ _ _ _ rfl HRY5.out (bytec_one _) ny (by omega) (by unfold maxLen; omega) (by omega) HB5.out ?_)
          intro A6' c6' v6 _ _ ho6 hf6 _
          have HFF6 : Hid (Fr (fun _ => False) x5 v6) := Lib.hid (HFF5.out.trans hf6 (fun b hb h => by
            have h1 := (HO5.out.lt b h).1
            have := HBS.out
            omega))
          have HO6 := Lib.hid ho6
          have HB6 : Hid (base ≤ v6.heap.size) := Lib.hid (by have := HB5.out; have := hf6.size; omega)
          have HRM6 := Lib.hid (HM_x5.out.fr HFF6.out (fun _ _ h => h))
          obtain ⟨nx, hnx⟩ : ∃ k, ny + nm = k := ⟨_, rfl⟩
          have hnx2 : nx ≤ 1203000 := by omega
          clear ho6 hf6
          go_wp2_with (at_builtin; refine wpList_appN u8T _ rfl _ _ rfl base _ ny _ rfl HO6.out _ _ _ _ rfl HRM6.out (bytec_one _) nx hnx.symm (by unfold maxLen; omega) (by omega) HB6.out ?_)
          intro A7 c7 v7 hc7 _ ho7 hf7 _
          have hbx : (R ++ B).length = nx := by rw [List.length_append, HYN.out, HBN.out, hnx]
          have HRX : Hid (Rd v7 A7 nx ((R ++ B).map bytec)) := Lib.hid (by
            rw [List.map_append]
            exact Rd.of_own (by simpa using ho7))
          have hf : Fr (fun _ => False) x5 v7 := HFF6.out.trans hf7 (fun b hb h => by
            have h1 := (HO6.out.lt b h).1
            have := HBS.out
            omega)
          have HG_v7 := Lib.hid (HG_x5.out.fr hf (fun h => h))
          have HM_v7 := Lib.hid (HM_x5.out.fr hf (fun _ _ h => h))
          have HY_v7 := Lib.hid (HY_x5.out.fr hf (fun _ _ h => h))
          have HF_v7 : Hid (Fr (fun _ => False) w v7) := Lib.hid (HF_x5.out.trans hf (fun _ _ h => h))
          have hgx := hGet_any A7 nx c7 (R ++ B) v7 HRX.out hc7 (by omega)
          rw [HGB.out] at hgx
          simp only [HTN.out] at hgx
          unfold chc at hgx
          simp only [HND.out] at hgx
          have HGX := Lib.hid hgx
          clear ho7 hf7 hgx hbx hw5 hbase hnx hc7 hf
          go_wp2_with fail
          refine (HGX.out).mono ?_
          rintro e x6 ⟨A8, c8, A9, c9, rfl, ho8, _, ho9, hf⟩
          have HG_x6 := Lib.hid (HG_v7.out.fr hf (fun h => h))
          have HM_x6 := Lib.hid (HM_v7.out.fr hf (fun _ _ h => h))
          have HY_x6 := Lib.hid (HY_v7.out.fr hf (fun _ _ h => h))
          have HF_x6 : Hid (Fr (fun _ => False) w x6) := Lib.hid (HF_v7.out.trans hf (fun _ _ h => h))
          have ho8 := ho8.hsh H32.out
          simp only [HND.out] at ho8
          have HH_x6 : Hid (Hsh x6 A8 nd d) := Lib.hid ho8
          have ho9 := ho9.rd
          simp only [HTN.out] at ho9
          have HT_x6 : Hid (Rd x6 A9 nt (T.map tc)) := Lib.hid ho9
          clear ho8 ho9
          clear hf
          obtain ⟨bx, hbx⟩ : ∃ q, x6.heap.size = q := ⟨_, rfl⟩
          obtain ⟨a7, ha7⟩ : ∃ w, x6.alloc (.cells [.string ⟨#[]⟩, .int .i64 0, .int .i64 0, .int .i64 0, .string ⟨#[]⟩, .slice none 0 0, .slice none 0 0].toArray 25) = w := ⟨_, rfl⟩
          have HZa7 : Hid (Row a7 bx 25 [.string ⟨#[]⟩, .int .i64 0, .int .i64 0, .int .i64 0, .string ⟨#[]⟩, .slice none 0 0, .slice none 0 0]) := Lib.hid (by rw [← ha7, ← hbx]; exact Row.new _ _ _)
          have HAa7 : Hid (Fr (fun _ => False) x6 a7) := Lib.hid (by rw [← ha7]; exact (Fr.refl _ _).alloc _)
          have HQa7 : Hid (x6.heap.size ≤ bx) := Lib.hid (by omega)
          go_wp2_with (refine store_st chSz rfl (.tmp 8) (.tmp 49) rfl bx (by rfl) [.string (txt a), .int .i64 q, .int .i64 s, .int .i64 t, .string (txt m), .slice A8 nd c8, .slice none 0 0] (by rfl) _ _ HZa7.out rfl rfl (by simp [Value.oneCell']) ?_)
          intro x7 hrn hfn
          have hf : Fr (fun _ => False) x6 x7 := HAa7.out.trans hfn (fun k hk h => by have h1 : k = bx := h; have := HQa7.out; omega)
          have HG_x7 := Lib.hid (HG_x6.out.fr hf (fun h => h))
          have HM_x7 := Lib.hid (HM_x6.out.fr hf (fun _ _ h => h))
          have HY_x7 := Lib.hid (HY_x6.out.fr hf (fun _ _ h => h))
          have HH_x7 := Lib.hid (HH_x6.out.fr hf)
          have HT_x7 := Lib.hid (HT_x6.out.fr hf (fun _ _ h => h))
          have HF_x7 : Hid (Fr (fun _ => False) w x7) := Lib.hid (HF_x6.out.trans hf (fun _ _ h => h))
          have HX_x7 : Hid (Row x7 bx 25 [.string (txt a), .int .i64 q, .int .i64 s, .int .i64 t, .string (txt m), .slice A8 nd c8, .slice none 0 0]) := Lib.hid hrn
          clear hrn hfn hf ha7 hbx
          obtain ⟨y, hy⟩ : ∃ y, kc % ny = y := ⟨_, rfl⟩
          have hyl : y < ny := by rw [← hy]; exact Nat.mod_lt _ (by omega)
          have r1 : IntKind.i64.wrap (kc : Int) = (kc : Int) := by rw [IntKind.wrap_i64]; omega
          have r2 : (kc : Int).tmod (ny : Int) = (y : Int) := by rw [Int.tmod_eq_emod_of_nonneg (by omega), ← hy]; rfl
          have r3 : IntKind.i64.wrap (y : Int) = (y : Int) := by rw [IntKind.wrap_i64]; omega
          have r4 : ¬ (ny : Int) = 0 := by omega
          have r4' : ¬ ny = 0 := by omega
          have r4'' : ((ny : Int) == 0) = false := by simp; omega
          have hto := run_toH Ay ny cy y (by omega) HCY.out (y : Int) rfl
          have hry := rd_take HY_x7.out (t := y) (by omega)
          rw [← List.map_take] at hry
          have hgy := hGet_any Ay y cy (R.take y) x7 hry (by have := HCY.out; omega) (by omega)
          rw [HGF.out y hyl] at hgy
          have hgy : Calls Try.prog 15 #[.slice Ay y cy] x7 fun e w' => ∃ A1 c1 A2 c2, e = .returned (.tuple #[.agg #[.string ⟨#[]⟩, .int .i64 0, .int .i64 0, .int .i64 0, .string ⟨#[]⟩, .slice A1 0 c1, .slice none 0 0], .slice A2 0 c2, .int .i64 0, .int .i64 2]) ∧ OwnH w' x7.heap.size A1 c1 [] ∧ (∀ h ∈ ([] : List Tx), h.length = 32) ∧ OwT w' x7.heap.size A2 c2 [] ∧ Fr (fun _ => False) x7 w' := hgy
          have HGY := Lib.hid hgy
          clear hy hry hgy hyl
          go_wp2_with fail
          refine (HGY.out).mono ?_
          rintro e x8 ⟨A10, c10, A11, c11, rfl, _, _, _, hf⟩
          have HG_x8 := Lib.hid (HG_x7.out.fr hf (fun h => h))
          have HM_x8 := Lib.hid (HM_x7.out.fr hf (fun _ _ h => h))
          have HY_x8 := Lib.hid (HY_x7.out.fr hf (fun _ _ h => h))
          have HH_x8 := Lib.hid (HH_x7.out.fr hf)
          have HT_x8 := Lib.hid (HT_x7.out.fr hf (fun _ _ h => h))
          have HX_x8 := Lib.hid (HX_x7.out.fr hf (fun h => h))
          have HF_x8 : Hid (Fr (fun _ => False) w x8) := Lib.hid (HF_x7.out.trans hf (fun _ _ h => h))
          clear hf
          clear r1 r2 r3 r4 r4' r4'' hto
          obtain ⟨by_, hby_⟩ : ∃ q, x8.heap.size = q := ⟨_, rfl⟩
          obtain ⟨a9, ha9⟩ : ∃ w, x8.alloc (.cells [.string ⟨#[]⟩, .int .i64 0, .int .i64 0, .int .i64 0, .string ⟨#[]⟩, .slice none 0 0, .slice none 0 0].toArray 25) = w := ⟨_, rfl⟩
          have HZa9 : Hid (Row a9 by_ 25 [.string ⟨#[]⟩, .int .i64 0, .int .i64 0, .int .i64 0, .string ⟨#[]⟩, .slice none 0 0, .slice none 0 0]) := Lib.hid (by rw [← ha9, ← hby_]; exact Row.new _ _ _)
          have HAa9 : Hid (Fr (fun _ => False) x8 a9) := Lib.hid (by rw [← ha9]; exact (Fr.refl _ _).alloc _)
          have HQa9 : Hid (x8.heap.size ≤ by_) := Lib.hid (by omega)
          go_wp2_with (refine store_st chSz rfl (.tmp 12) (.tmp 62) rfl by_ (by rfl) [.string ⟨#[]⟩, .int .i64 0, .int .i64 0, .int .i64 0, .string ⟨#[]⟩, .slice A10 0 c10, .slice none 0 0] (by rfl) _ _ HZa9.out rfl rfl (by simp [Value.oneCell']) ?_)
          intro x9 hrn hfn
          have hf : Fr (fun _ => False) x8 x9 := HAa9.out.trans hfn (fun k hk h => by have h1 : k = by_ := h; have := HQa9.out; omega)
          have HG_x9 := Lib.hid (HG_x8.out.fr hf (fun h => h))
          have HM_x9 := Lib.hid (HM_x8.out.fr hf (fun _ _ h => h))
          have HY_x9 := Lib.hid (HY_x8.out.fr hf (fun _ _ h => h))
          have HH_x9 := Lib.hid (HH_x8.out.fr hf)
          have HT_x9 := Lib.hid (HT_x8.out.fr hf (fun _ _ h => h))
          have HX_x9 := Lib.hid (HX_x8.out.fr hf (fun h => h))
          have HF_x9 : Hid (Fr (fun _ => False) w x9) := Lib.hid (HF_x8.out.trans hf (fun _ _ h => h))
          have HV_x9 : Hid (Row x9 by_ 25 [.string ⟨#[]⟩, .int .i64 0, .int .i64 0, .int .i64 0, .string ⟨#[]⟩, .slice A10 0 c10, .slice none 0 0]) := Lib.hid hrn
          clear hrn hfn hf ha9 hby_
          have c9_0 : x9.cell? ⟨g, 0, none⟩ = some (.string (txt a)) := Row.cell HG_x9.out rfl
          have c9_1 : x9.cell? ⟨g, 1, none⟩ = some (.int .i64 q) := Row.cell HG_x9.out rfl
          have c9_2 : x9.cell? ⟨g, 2, none⟩ = some (.int .i64 s) := Row.cell HG_x9.out rfl
          have c9_3 : x9.cell? ⟨g, 3, none⟩ = some (.int .i64 t) := Row.cell HG_x9.out rfl
          have c9_4 : x9.cell? ⟨g, 4, none⟩ = some (.string (txt m)) := Row.cell HG_x9.out rfl
          have c9_5 : x9.cell? ⟨g, 5, none⟩ = some (.slice A nd k) := Row.cell HG_x9.out rfl
          have c9_6 : x9.cell? ⟨g, 6, none⟩ = some (.slice A6 n6 k6) := Row.cell HG_x9.out rfl
          obtain ⟨bw, hbw⟩ : ∃ q, x9.heap.size = q := ⟨_, rfl⟩
          obtain ⟨a10, ha10⟩ : ∃ w, x9.alloc (.cells [.string ⟨#[]⟩, .int .i64 0, .int .i64 0, .int .i64 0, .string ⟨#[]⟩, .slice none 0 0, .slice none 0 0].toArray 25) = w := ⟨_, rfl⟩
          have HZa10 : Hid (Row a10 bw 25 [.string ⟨#[]⟩, .int .i64 0, .int .i64 0, .int .i64 0, .string ⟨#[]⟩, .slice none 0 0, .slice none 0 0]) := Lib.hid (by rw [← ha10, ← hbw]; exact Row.new _ _ _)
          have HAa10 : Hid (Fr (fun _ => False) x9 a10) := Lib.hid (by rw [← ha10]; exact (Fr.refl _ _).alloc _)
          have HQa10 : Hid (x9.heap.size ≤ bw) := Lib.hid (by omega)
          go_wp2_with (refine store_st chSz rfl (.tmp 16) (.tmp 66) rfl bw (by rfl) [.string (txt a), .int .i64 q, .int .i64 s, .int .i64 t, .string (txt m), .slice A nd k, .slice A6 n6 k6] (by rfl) _ _ HZa10.out rfl rfl (by simp [Value.oneCell']) ?_)
          intro x10 hrn hfn
          have hf : Fr (fun _ => False) x9 x10 := HAa10.out.trans hfn (fun k hk h => by have h1 : k = bw := h; have := HQa10.out; omega)
          clear c9_0 c9_1 c9_2 c9_3 c9_4 c9_5 c9_6
          have HG_x10 := Lib.hid (HG_x9.out.fr hf (fun h => h))
          have HM_x10 := Lib.hid (HM_x9.out.fr hf (fun _ _ h => h))
          have HY_x10 := Lib.hid (HY_x9.out.fr hf (fun _ _ h => h))
          have HH_x10 := Lib.hid (HH_x9.out.fr hf)
          have HT_x10 := Lib.hid (HT_x9.out.fr hf (fun _ _ h => h))
          have HX_x10 := Lib.hid (HX_x9.out.fr hf (fun h => h))
          have HV_x10 := Lib.hid (HV_x9.out.fr hf (fun h => h))
          have HF_x10 : Hid (Fr (fun _ => False) w x10) := Lib.hid (HF_x9.out.trans hf (fun _ _ h => h))
          have HW_x10 : Hid (Row x10 bw 25 [.string (txt a), .int .i64 q, .int .i64 s, .int .i64 t, .string (txt m), .slice A nd k, .slice A6 n6 k6]) := Lib.hid hrn
          clear hrn hfn hf ha10 hbw
          have f6 : x10.frozen? ⟨bw, 6, none⟩ = false := Row.free HW_x10.out 6
          have d6 : x10.cell? ⟨bw, 6, none⟩ = some (.slice A6 n6 k6) := Row.cell HW_x10.out rfl
          obtain ⟨x11, hws⟩ : ∃ y, x10.setCell ⟨bw, 6, none⟩ (.slice none 0 0) = y := ⟨_, rfl⟩
          have HWB : Hid (g ≠ bw ∧ bx ≠ bw ∧ by_ ≠ bw ∧ w.heap.size ≤ bw ∧ x9.heap.size ≤ bw) := Lib.hid (by have h1 := HG_x9.out.lt; have h2 := HX_x9.out.lt; have h3 := HV_x9.out.lt; have h4 := HF_x9.out.size; have h5 := HQa10.out; omega)
          have hf1 : Fr (fun k => k = bw) x10 x11 := by rw [← hws]; exact Fr.set1 _ bw 6 _
          have HW_x11 : Hid (Row x11 bw 25 [.string (txt a), .int .i64 q, .int .i64 s, .int .i64 t, .string (txt m), .slice A nd k, .slice none 0 0]) := Lib.hid (by rw [← hws]; exact HW_x10.out.set 6 (.slice none 0 0))
          have HG_x11 := Lib.hid (HG_x10.out.fr hf1 (fun h => by have h1 : g = bw := h; have := HWB.out; omega))
          have HX_x11 := Lib.hid (HX_x10.out.fr hf1 (fun h => by have h1 : bx = bw := h; have := HWB.out; omega))
          have HV_x11 := Lib.hid (HV_x10.out.fr hf1 (fun h => by have h1 : by_ = bw := h; have := HWB.out; omega))
          have HF_x11 : Hid (Fr (fun _ => False) w x11) := Lib.hid (HF_x10.out.trans hf1 (fun k hk h => by have h1 : k = bw := h; have := HWB.out; omega))
          have HT_x11 := Lib.hid (HT_x10.out.frp hf1 (fun hn ad ea h => by have h1 : ad.block = bw := h; have h2 := HT_x9.out.lt hn ad ea; have := HWB.out; omega))
          have HH_x11 := Lib.hid (HH_x10.out.frp hf1 (fun hn ad ea h => by have h1 : ad.block = bw := h; have h2 := HH_x9.out.lt hn ad ea; have := HWB.out; omega))
          clear hf1
          have HHD2 := Lib.hid (HHD.out.fr HF_x11.out)
          have c11_0 : x11.cell? ⟨bx, 0, none⟩ = some (.string (txt a)) := Row.cell HX_x11.out rfl
          have c11_1 : x11.cell? ⟨bx, 1, none⟩ = some (.int .i64 q) := Row.cell HX_x11.out rfl
          have c11_2 : x11.cell? ⟨bx, 2, none⟩ = some (.int .i64 s) := Row.cell HX_x11.out rfl
          have c11_3 : x11.cell? ⟨bx, 3, none⟩ = some (.int .i64 t) := Row.cell HX_x11.out rfl
          have c11_4 : x11.cell? ⟨bx, 4, none⟩ = some (.string (txt m)) := Row.cell HX_x11.out rfl
          have c11_5 : x11.cell? ⟨bx, 5, none⟩ = some (.slice A8 nd c8) := Row.cell HX_x11.out rfl
          have c11_6 : x11.cell? ⟨bx, 6, none⟩ = some (.slice none 0 0) := Row.cell HX_x11.out rfl
          have c11_7 : x11.cell? ⟨bw, 0, none⟩ = some (.string (txt a)) := Row.cell HW_x11.out rfl
          have c11_8 : x11.cell? ⟨bw, 1, none⟩ = some (.int .i64 q) := Row.cell HW_x11.out rfl
          have c11_9 : x11.cell? ⟨bw, 2, none⟩ = some (.int .i64 s) := Row.cell HW_x11.out rfl
          have c11_10 : x11.cell? ⟨bw, 3, none⟩ = some (.int .i64 t) := Row.cell HW_x11.out rfl
          have c11_11 : x11.cell? ⟨bw, 4, none⟩ = some (.string (txt m)) := Row.cell HW_x11.out rfl
          have c11_12 : x11.cell? ⟨bw, 5, none⟩ = some (.slice A nd k) := Row.cell HW_x11.out rfl
          have c11_13 : x11.cell? ⟨bw, 6, none⟩ = some (.slice none 0 0) := Row.cell HW_x11.out rfl
          go_wp2_with fail
          have hsm : Calls Try.prog 17 #[.agg #[.string (txt a), .int .i64 q, .int .i64 s, .int .i64 t, .string (txt m), .slice A8 nd c8, .slice none 0 0], .agg #[.string (txt a), .int .i64 q, .int .i64 s, .int .i64 t, .string (txt m), .slice A nd k, .slice none 0 0]] x11 fun e w' => e = .returned (.bool true) ∧ Fr (fun _ => False) x11 w' := by
            have h := rSame20_any ⟨a, q, s, t, m, d⟩ A8 c8 A k x11 (by simp only; rw [HND.out]; exact HH_x11.out) (by simp only; rw [HND.out]; exact HHD2.out) (by simp only; rw [HND.out]; omega)
            unfold chc at h
            simp only [HND.out] at h
            exact h
          have HSM := Lib.hid hsm
          clear hsm hws f6 d6
          refine (HSM.out).mono ?_
          clear c11_0 c11_1 c11_2 c11_3 c11_4 c11_5 c11_6 c11_7 c11_8 c11_9 c11_10 c11_11 c11_12 c11_13
          rintro e x12 ⟨rfl, hf⟩
          have HG_x12 := Lib.hid (HG_x11.out.fr hf (fun h => h))
          have HH_x12 := Lib.hid (HH_x11.out.fr hf)
          have HT_x12 := Lib.hid (HT_x11.out.fr hf (fun _ _ h => h))
          have HV_x12 := Lib.hid (HV_x11.out.fr hf (fun h => h))
          have HF_x12 : Hid (Fr (fun _ => False) w x12) := Lib.hid (HF_x11.out.trans hf (fun _ _ h => h))
          clear hf
          have c12_0 : x12.cell? ⟨g, 0, none⟩ = some (.string (txt a)) := Row.cell HG_x12.out rfl
          have c12_1 : x12.cell? ⟨g, 6, none⟩ = some (.slice A6 n6 k6) := Row.cell HG_x12.out rfl
          go_wp2_with fail
          refine (HTB.out _ HF_x12.out).mono ?_
          clear c12_0 c12_1
          rintro e x13 ⟨At, ct, rfl, hot, hf⟩
          have HG_x13 := Lib.hid (HG_x12.out.fr hf (fun h => h))
          have HH_x13 := Lib.hid (HH_x12.out.fr hf)
          have HT_x13 := Lib.hid (HT_x12.out.fr hf (fun _ _ h => h))
          have HV_x13 := Lib.hid (HV_x12.out.fr hf (fun h => h))
          have HF_x13 : Hid (Fr (fun _ => False) w x13) := Lib.hid (HF_x12.out.trans hf (fun _ _ h => h))
          have hot := hot.rd
          rw [HTN.out] at hot
          have HTT_x13 : Hid (Rd x13 At nt (T.map tc)) := Lib.hid hot
          clear hot
          clear hf
          have hs2 := racSame_any A9 nt c9 T At nt ct T x13 HT_x13.out HTT_x13.out (by omega) (by omega)
          rw [decide_eq_true rfl] at hs2
          have HS2 := Lib.hid hs2
          clear hs2
          go_wp2_with fail
          refine (HS2.out).mono ?_
          rintro e x14 ⟨rfl, hf⟩
          have HG_x14 := Lib.hid (HG_x13.out.fr hf (fun h => h))
          have HH_x14 := Lib.hid (HH_x13.out.fr hf)
          have HT_x14 := Lib.hid (HT_x13.out.fr hf (fun _ _ h => h))
          have HV_x14 := Lib.hid (HV_x13.out.fr hf (fun h => h))
          have HF_x14 : Hid (Fr (fun _ => False) w x14) := Lib.hid (HF_x13.out.trans hf (fun _ _ h => h))
          clear hf
          have hs3 : Calls Try.prog 17 #[.agg #[.string ⟨#[]⟩, .int .i64 0, .int .i64 0, .int .i64 0, .string ⟨#[]⟩, .slice A10 0 c10, .slice none 0 0], .agg #[.string ⟨#[]⟩, .int .i64 0, .int .i64 0, .int .i64 0, .string ⟨#[]⟩, .slice none 0 0, .slice none 0 0]] x14 fun e w' => e = .returned (.bool true) ∧ Fr (fun _ => False) x14 w' := rSame20_any zeroC A10 c10 none 0 x14 (Hsh.nil _ _) (Hsh.nil _ _) (Nat.zero_le _)
          have HS3 := Lib.hid hs3
          clear hs3
          have c14_0 : x14.cell? ⟨by_, 0, none⟩ = some (.string ⟨#[]⟩) := Row.cell HV_x14.out rfl
          have c14_1 : x14.cell? ⟨by_, 1, none⟩ = some (.int .i64 0) := Row.cell HV_x14.out rfl
          have c14_2 : x14.cell? ⟨by_, 2, none⟩ = some (.int .i64 0) := Row.cell HV_x14.out rfl
          have c14_3 : x14.cell? ⟨by_, 3, none⟩ = some (.int .i64 0) := Row.cell HV_x14.out rfl
          have c14_4 : x14.cell? ⟨by_, 4, none⟩ = some (.string ⟨#[]⟩) := Row.cell HV_x14.out rfl
          have c14_5 : x14.cell? ⟨by_, 5, none⟩ = some (.slice A10 0 c10) := Row.cell HV_x14.out rfl
          have c14_6 : x14.cell? ⟨by_, 6, none⟩ = some (.slice none 0 0) := Row.cell HV_x14.out rfl
          go_wp2_with fail
          refine (HS3.out).mono ?_
          clear c14_0 c14_1 c14_2 c14_3 c14_4 c14_5 c14_6
          rintro e x15 ⟨rfl, hf⟩
          have HG_x15 := Lib.hid (HG_x14.out.fr hf (fun h => h))
          have HH_x15 := Lib.hid (HH_x14.out.fr hf)
          have HT_x15 := Lib.hid (HT_x14.out.fr hf (fun _ _ h => h))
          have HV_x15 := Lib.hid (HV_x14.out.fr hf (fun h => h))
          have HF_x15 : Hid (Fr (fun _ => False) w x15) := Lib.hid (HF_x14.out.trans hf (fun _ _ h => h))
          clear hf
          go_wp2_with fail
          go_ret
          exact ⟨rfl, HF_x15.out⟩
end Go.Proofs.Ytbnkahjmeobblaa
namespace Go.Proofs.Ytbnkahjmeobblaa
open Go.ChangeShapes Go.WideShapes Go.RowKit Go.Deep Mem LebM UtfM VaM OpM
set_option linter.unusedVariables false
set_option maxRecDepth 100000

theorem pick_list {α : Type} (n : Nat) (p : Nat → α → Prop) (h : ∀ i, i < n → ∃ x, p i x) : ∃ l : List α, l.length = n ∧ ∀ i x, l[i]? = some x → p i x := by
  induction n with
  | zero => exact ⟨[], rfl, fun i x hx => by simp at hx⟩
  | succ n ih =>
    obtain ⟨l, hl, hp⟩ := ih (fun i hi => h i (by omega))
    obtain ⟨x, hx⟩ := h n (by omega)
    refine ⟨l ++ [x], by simp [hl], fun i y hy => ?_⟩
    by_cases hi : i < n
    · rw [List.getElem?_append_left (by omega)] at hy
      exact hp i y hy
    · have hlt := (List.getElem?_eq_some_iff.1 hy).1
      simp at hlt
      obtain rfl : i = n := by omega
      rw [List.getElem?_append_right (by omega), hl, Nat.sub_self] at hy
      injection hy with hy
      rw [← hy]
      exact hx
section
variable {H : Type} {enc : TypeId × Value → H} {w : World} {base : Nat} {held : Bool}
theorem at_int {k : Nat} {cs : List Value} {x : DataW H × List MemPlace} (h : DataW.trod enc Try.prog w base (fun _ => true) held k 2 cs = some x) : ∃ n : Int, cs = [.int .i64 n] ∧ -9223372036854775808 ≤ n ∧ n < 9223372036854775808 := by
  obtain ⟨n, e, _, q⟩ := DataW.trod_int Try.underlying2 h
  have b := bounds_i64 q
  exact ⟨n, e, b.1, by have := b.2; omega⟩
theorem at_str {k : Nat} {cs : List Value} {x : DataW H × List MemPlace} (h : DataW.trod enc Try.prog w base (fun _ => true) held k 9 cs = some x) : ∃ B : List UInt8, cs = [.string (txt B)] ∧ B.length ≤ maxLen := by
  obtain ⟨s, e, _, q⟩ := DataW.trod_string Try.underlying9 h
  refine ⟨s.data.toList, ?_, q⟩
  rw [e, show txt s.data.toList = s from by cases s; simp [txt]]
theorem at_bool {k : Nat} {cs : List Value} {x : DataW H × List MemPlace} (h : DataW.trod enc Try.prog w base (fun _ => true) held k 4 cs = some x) : ∃ b : Bool, cs = [.bool b] := by
  obtain ⟨b, e, _⟩ := DataW.trod_bool Try.underlying4 h
  exact ⟨b, e⟩
theorem ce_int : Try.prog.cellsOf 2 = 1 := by kernel_rfl
theorem ce_in : Try.prog.cellsOf 3 = 1 := by kernel_rfl
theorem ce_u64 : Try.prog.cellsOf 45 = 1 := by kernel_rfl
theorem ce_str : Try.prog.cellsOf 9 = 1 := by kernel_rfl
theorem ce_bool : Try.prog.cellsOf 4 = 1 := by kernel_rfl
theorem ce_nm : Try.prog.cellsOf 44 = 2 := by kernel_rfl
theorem ce_val : Try.prog.cellsOf 47 = 4 := by kernel_rfl
theorem ce_nms : Try.prog.cellsOf 48 = 1 := by kernel_rfl
theorem ce_op : Try.prog.cellsOf 50 = 13 := by kernel_rfl
theorem at_nm {k : Nat} {cs : List Value} {x : DataW H × List MemPlace} (h : DataW.trod enc Try.prog w base (fun _ => true) held k 44 cs = some x) : ∃ y : Nm, cs = nls y ∧ y.ok ∧ y.a.length ≤ maxLen := by
  obtain ⟨xs, n, _, _, hl, hxl, hf⟩ := DataW.trod_struct Try.underlying44 h
  rw [ce_nm] at hl
  match cs, hl, xs, hxl with
  | [c0, c1], _, [y0, y1], _ =>
    have h0 : DataW.trod enc Try.prog w base (fun _ => true) held n 2 (([c0, c1].drop 0).take (Try.prog.cellsOf 2)) = some y0 := hf 0 _ rfl
    have h1 : DataW.trod enc Try.prog w base (fun _ => true) held n 9 (([c0, c1].drop 1).take (Try.prog.cellsOf 9)) = some y1 := hf 1 _ rfl
    rw [ce_int] at h0
    rw [ce_str] at h1
    obtain ⟨c, e0, b0⟩ := at_int (x := y0) (by simpa using h0)
    obtain ⟨a, e1, b1⟩ := at_str (x := y1) (by simpa using h1)
    injection e0 with e0
    injection e1 with e1
    exact ⟨⟨c, a⟩, by rw [e0, e1]; rfl, b0, b1⟩
theorem at_val {k : Nat} {cs : List Value} {x : DataW H × List MemPlace} (h : DataW.trod enc Try.prog w base (fun _ => true) held k 47 cs = some x) : ∃ v : V, cs = vls v ∧ v.ok ∧ v.s.length ≤ maxLen := by
  obtain ⟨xs, n, _, _, hl, hxl, hf⟩ := DataW.trod_struct Try.underlying47 h
  rw [ce_val] at hl
  match cs, hl, xs, hxl with
  | [c0, c1, c2, c3], _, [y0, y1, y2, y3], _ =>
    have h0 : DataW.trod enc Try.prog w base (fun _ => true) held n 3 (([c0, c1, c2, c3].drop 0).take (Try.prog.cellsOf 3)) = some y0 := hf 0 _ rfl
    have h1 : DataW.trod enc Try.prog w base (fun _ => true) held n 45 (([c0, c1, c2, c3].drop 1).take (Try.prog.cellsOf 45)) = some y1 := hf 1 _ rfl
    have h2 : DataW.trod enc Try.prog w base (fun _ => true) held n 2 (([c0, c1, c2, c3].drop 2).take (Try.prog.cellsOf 2)) = some y2 := hf 2 _ rfl
    have h3 : DataW.trod enc Try.prog w base (fun _ => true) held n 9 (([c0, c1, c2, c3].drop 3).take (Try.prog.cellsOf 9)) = some y3 := hf 3 _ rfl
    rw [ce_in] at h0
    rw [ce_u64] at h1
    rw [ce_int] at h2
    rw [ce_str] at h3
    have g0 : DataW.trod enc Try.prog w base (fun _ => true) held n 3 [c0] = some y0 := by simpa using h0
    have g1 : DataW.trod enc Try.prog w base (fun _ => true) held n 45 [c1] = some y1 := by simpa using h1
    obtain ⟨n0, e0, _, q0⟩ := DataW.trod_int Try.underlying3 g0
    obtain ⟨n1, e1, _, q1⟩ := DataW.trod_int Try.underlying45 g1
    obtain ⟨n2, e2, b2⟩ := at_int (x := y2) (by simpa using h2)
    obtain ⟨s, e3, b3⟩ := at_str (x := y3) (by simpa using h3)
    injection e0 with e0
    injection e1 with e1
    injection e2 with e2
    injection e3 with e3
    have b0 := bounds_i64 q0
    have b1 := bounds_u64 q1
    obtain ⟨u, rfl⟩ := Int.eq_ofNat_of_zero_le b1.1
    exact ⟨⟨n0, u, n2, s⟩, by rw [e0, e1, e2, e3]; rfl, ⟨⟨b0.1, by have := b0.2; show n0 < _; omega⟩, by have := b1.2; show u < _; omega, b2⟩, b3⟩
/-- cells of a block, where they can be read -/
theorem cells_at {a : Addr} {m : Nat} {cs : List Value} (h : w.cells? base a m = some cs) : cs.length = m ∧ ∀ j, j < m → w.cell? (a.add j) = cs[j]? := by
  obtain ⟨_, h1, h2⟩ := World.cells?_some h
  exact ⟨h1, h2⟩
theorem plain_of {a : Addr} {u : Value} (h : w.cell? ((a.add (0 * 2)).add 0) = some u) : a = ⟨a.block, a.off, none⟩ := by
  obtain ⟨bb, oo, spot⟩ := a
  have hspot : spot = none := World.cell?_spot h
  subst hspot
  rfl
theorem plain_of13 {a : Addr} {u : Value} (h : w.cell? ((a.add (0 * 13)).add 0) = some u) : a = ⟨a.block, a.off, none⟩ := by
  obtain ⟨bb, oo, spot⟩ := a
  have hspot : spot = none := World.cell?_spot h
  subst hspot
  rfl
theorem at_nms {k : Nat} {cs : List Value} {x : DataW H × List MemPlace} (h : DataW.trod enc Try.prog w base (fun _ => true) held k 48 cs = some x) : ∃ (A : Option Addr) (n c : Nat) (L : List Nm), cs = [.slice A n c] ∧ n ≤ c ∧ c ≤ maxLen ∧ Nms w A n L ∧ (∀ y ∈ L, y.ok ∧ y.a.length ≤ maxLen) := by
  rcases open_slice Try.underlying48 h with ⟨hcs, _⟩ | ⟨a, len, cap, m, n, D, Pl, hcs, _, hl, hm, hmm, _, hi⟩
  · exact ⟨none, 0, 0, [], hcs, Nat.le_refl _, Nat.zero_le _, Prs.nil _ _, fun y hy => by cases hy⟩
  · simp at hmm
    subst hmm
    rw [ce_nm] at hi
    have hplain : 0 < len → a = ⟨a.block, a.off, none⟩ := fun h0 => by
      obtain ⟨cs', hc, ht⟩ := hi 0 (by omega)
      obtain ⟨_, hat⟩ := cells_at hc
      obtain ⟨y, rfl, _, _⟩ := at_nm ht
      exact plain_of (hat 0 (by omega))
    obtain ⟨L, hL, hp⟩ := pick_list len (fun i (y : Nm) => (∃ g o, some a = some ⟨g, o, none⟩ ∧ g < w.heap.size ∧ w.cell? ⟨g, o + i * 2, none⟩ = some (ncc y) ∧ w.cell? ⟨g, o + i * 2 + 1, none⟩ = some (nac y)) ∧ y.ok ∧ y.a.length ≤ maxLen) (fun i hil => by
      obtain ⟨cs', hc, ht⟩ := hi i (by omega)
      obtain ⟨_, hat⟩ := cells_at hc
      obtain ⟨y, rfl, hok, hyl⟩ := at_nm ht
      have h0 := hat 0 (by omega)
      have h1 := hat 1 (by omega)
      have hpl := hplain (by omega)
      rw [hpl] at h0 h1
      simp only [Addr.add_lit] at h0 h1
      refine ⟨y, ⟨a.block, a.off, by rw [← hpl], World.block_lt_of_cell? w ⟨a.block, a.off + i * 2 + 0, none⟩ h0, h0, h1⟩, hok, hyl⟩)
    refine ⟨some a, len, m, L, hcs, hl, hm, ⟨hL, fun i y hy => (hp i y hy).1⟩, fun y hy => ?_⟩
    obtain ⟨i, hi⟩ := List.getElem?_of_mem hy
    exact (hp i y hi).2
/-- what is known of an op's cells that can be read -/
def Om.good (w : World) (x : Om) : Prop := x.lens ∧ x.o.val.ok ∧ Nms w x.A x.o.pr.length x.o.pr ∧ x.o.pr.length ≤ x.c ∧ x.c ≤ maxLen
theorem at_op {k : Nat} {cs : List Value} {x : DataW H × List MemPlace} (h : DataW.trod enc Try.prog w base (fun _ => true) held k 50 cs = some x) : ∃ y : Om, cs = ols y ∧ y.good w := by
  obtain ⟨xs, n, _, _, hl, hxl, hf⟩ := DataW.trod_struct Try.underlying50 h
  rw [ce_op] at hl
  match cs, hl, xs, hxl with
  | [c0, c1, c2, c3, c4, c5, c6, c7, c8, c9, c10, c11, c12], _, [y0, y1, y2, y3, y4, y5, y6, y7], _ =>
    have h0 : DataW.trod enc Try.prog w base (fun _ => true) held n 44 (([c0, c1, c2, c3, c4, c5, c6, c7, c8, c9, c10, c11, c12].drop 0).take (Try.prog.cellsOf 44)) = some y0 := hf 0 _ rfl
    have h1 : DataW.trod enc Try.prog w base (fun _ => true) held n 9 (([c0, c1, c2, c3, c4, c5, c6, c7, c8, c9, c10, c11, c12].drop 2).take (Try.prog.cellsOf 9)) = some y1 := hf 1 _ rfl
    have h2 : DataW.trod enc Try.prog w base (fun _ => true) held n 4 (([c0, c1, c2, c3, c4, c5, c6, c7, c8, c9, c10, c11, c12].drop 3).take (Try.prog.cellsOf 4)) = some y2 := hf 2 _ rfl
    have h3 : DataW.trod enc Try.prog w base (fun _ => true) held n 44 (([c0, c1, c2, c3, c4, c5, c6, c7, c8, c9, c10, c11, c12].drop 4).take (Try.prog.cellsOf 44)) = some y3 := hf 3 _ rfl
    have h4 : DataW.trod enc Try.prog w base (fun _ => true) held n 4 (([c0, c1, c2, c3, c4, c5, c6, c7, c8, c9, c10, c11, c12].drop 6).take (Try.prog.cellsOf 4)) = some y4 := hf 4 _ rfl
    have h5 : DataW.trod enc Try.prog w base (fun _ => true) held n 2 (([c0, c1, c2, c3, c4, c5, c6, c7, c8, c9, c10, c11, c12].drop 7).take (Try.prog.cellsOf 2)) = some y5 := hf 5 _ rfl
    have h6 : DataW.trod enc Try.prog w base (fun _ => true) held n 47 (([c0, c1, c2, c3, c4, c5, c6, c7, c8, c9, c10, c11, c12].drop 8).take (Try.prog.cellsOf 47)) = some y6 := hf 6 _ rfl
    have h7 : DataW.trod enc Try.prog w base (fun _ => true) held n 48 (([c0, c1, c2, c3, c4, c5, c6, c7, c8, c9, c10, c11, c12].drop 12).take (Try.prog.cellsOf 48)) = some y7 := hf 7 _ rfl
    rw [ce_nm] at h0 h3
    rw [ce_str] at h1
    rw [ce_bool] at h2 h4
    rw [ce_int] at h5
    rw [ce_val] at h6
    rw [ce_nms] at h7
    obtain ⟨ob, e0, k0, l0⟩ := at_nm (x := y0) (by simpa using h0)
    obtain ⟨ke, e1, l1⟩ := at_str (x := y1) (by simpa using h1)
    obtain ⟨kd, e2⟩ := at_bool (x := y2) (by simpa using h2)
    obtain ⟨el, e3, k3, l3⟩ := at_nm (x := y3) (by simpa using h3)
    obtain ⟨is, e4⟩ := at_bool (x := y4) (by simpa using h4)
    obtain ⟨ac, e5, k5⟩ := at_int (x := y5) (by simpa using h5)
    obtain ⟨va, e6, k6, l6⟩ := at_val (x := y6) (by simpa using h6)
    obtain ⟨A, m, c, L, e7, hnc, hcm, hr, hok⟩ := at_nms (x := y7) (by simpa using h7)
    obtain rfl : L.length = m := hr.1
    unfold nls at e0 e3
    unfold vls at e6
    simp only [List.cons.injEq, and_true] at e0 e1 e2 e3 e4 e5 e6 e7
    refine ⟨⟨⟨ob, ke, kd, el, is, ac, va, L⟩, A, c⟩, ?_, ⟨l0, l3, l1, l6, Nat.le_trans hnc hcm, fun y hy => (hok y hy).2⟩, k6, hr, hnc, hcm⟩
    unfold ols
    rw [e0.1, e0.2, e1, e2, e3.1, e3.2, e4, e5, e6.1, e6.2.1, e6.2.2.1, e6.2.2.2, e7]
/-- a slice of ops -/
theorem at_ops {k : Nat} {cs : List Value} {x : DataW H × List MemPlace} (h : DataW.trod enc Try.prog w base (fun _ => true) held k 23 cs = some x) : ∃ (A : Option Addr) (n c : Nat) (L : List Om), cs = [.slice A n c] ∧ n ≤ c ∧ c ≤ maxLen ∧ (L.length = n ∧ ∀ k x, L[k]? = some x → ∃ b o, A = some ⟨b, o, none⟩ ∧ b < w.heap.size ∧ Oat w b (o + k * 13) x) ∧ (∀ y ∈ L, y.good w) := by
  rcases open_slice Try.underlying23 h with ⟨hcs, _⟩ | ⟨a, len, cap, m, n, D, Pl, hcs, _, hl, hm, hmm, _, hi⟩
  · exact ⟨none, 0, 0, [], hcs, Nat.le_refl _, Nat.zero_le _, ⟨rfl, fun k x h => by simp at h⟩, fun y hy => by cases hy⟩
  · simp at hmm
    subst hmm
    rw [ce_op] at hi
    have hplain : 0 < len → a = ⟨a.block, a.off, none⟩ := fun h0 => by
      obtain ⟨cs', hc, ht⟩ := hi 0 (by omega)
      obtain ⟨_, hat⟩ := cells_at hc
      obtain ⟨y, rfl, _⟩ := at_op ht
      exact plain_of13 (hat 0 (by omega))
    obtain ⟨L, hL, hp⟩ := pick_list len (fun i (y : Om) => (∃ b o, some a = some ⟨b, o, none⟩ ∧ b < w.heap.size ∧ Oat w b (o + i * 13) y) ∧ y.good w) (fun i hil => by
      obtain ⟨cs', hc, ht⟩ := hi i (by omega)
      obtain ⟨_, hat⟩ := cells_at hc
      obtain ⟨y, rfl, hg⟩ := at_op ht
      have hpl := hplain (by omega)
      have hj : ∀ j u, (ols y)[j]? = some u → w.cell? ⟨a.block, a.off + i * 13 + j, none⟩ = some u := fun j u hu => by
        have h1 := hat j (List.getElem?_eq_some_iff.1 hu).1
        rw [hpl, hu] at h1
        simp only [Addr.add_lit] at h1
        exact h1
      have h0 := oat_of hj
      exact ⟨y, ⟨a.block, a.off, by rw [← hpl], World.block_lt_of_cell? w ⟨a.block, a.off + i * 13, none⟩ h0.1, h0⟩, hg⟩)
    refine ⟨some a, len, m, L, hcs, hl, hm, ⟨hL, fun i y hy => (hp i y hy).1⟩, fun y hy => ?_⟩
    obtain ⟨i, hi⟩ := List.getElem?_of_mem hy
    exact (hp i y hi).2
end
theorem nm_arg {H : Type} {enc : TypeId × Value → H} {W : World} {r : Reach} {b0 : Nat} {v : Value} {d : DataW H} {p : List MemPlace} (hv : Value.okWide Try.prog W r b0 44 v)
    (h : DataW.Trod enc Try.prog W 0 (fun _ => true) true 44 v d p) : ∃ y : Nm, v = nmc y ∧ y.a.length ≤ 9223372036854775807 := by
  obtain ⟨cs, rfl, _⟩ := okWide_struct Try.underlying44 hv
  obtain ⟨fuel, hf⟩ := h
  obtain ⟨y, e, _, hl⟩ := at_nm (cs := cs.toList) (by simpa [Value.cells] using hf)
  exact ⟨y, by rw [show cs = (nls y).toArray from Array.ext' (by simpa using e)]; rfl, hl⟩
theorem op_arg {H : Type} {enc : TypeId × Value → H} {W : World} {r : Reach} {b0 : Nat} {v : Value} {d : DataW H} {p : List MemPlace} (hv : Value.okWide Try.prog W r b0 50 v)
    (h : DataW.Trod enc Try.prog W 0 (fun _ => true) true 50 v d p) : ∃ y : Om, v = opc y ∧ y.lens ∧ y.o.val.ok ∧ Prd W y := by
  obtain ⟨cs, rfl, _⟩ := okWide_struct Try.underlying50 hv
  obtain ⟨fuel, hf⟩ := h
  obtain ⟨y, e, hg⟩ := at_op (cs := cs.toList) (by simpa [Value.cells] using hf)
  exact ⟨y, by rw [show cs = (ols y).toArray from Array.ext' (by simpa using e)]; rfl, hg.1, hg.2.1, hg.2.2⟩
theorem ops_arg {H : Type} {enc : TypeId × Value → H} {W : World} {r : Reach} {b0 : Nat} {v : Value} {d : DataW H} {p : List MemPlace} (hv : Value.okWide Try.prog W r b0 23 v)
    (h : DataW.Trod enc Try.prog W 0 (fun _ => true) true 23 v d p) : ∃ (A : Option Addr) (n c : Nat) (L : List Om), v = .slice A n c ∧ n ≤ 9223372036854775807 ∧ Ops W A n L ∧ (∀ y ∈ L, y.lens) ∧ ∀ y ∈ L, y.o.val.ok := by
  obtain ⟨a0, len, cap, rfl⟩ := okWide_slice Try.underlying23 hv
  obtain ⟨fuel, hf⟩ := h
  obtain ⟨A, n, c, L, e, h1, h2, h3, h4⟩ := at_ops (cs := [.slice a0 len cap]) (by simpa [Value.cells] using hf)
  injection e with e
  exact ⟨A, n, c, L, e, Nat.le_trans h1 h2, ⟨h3, fun y hy => (h4 y hy).2.2⟩, fun y hy => (h4 y hy).1, fun y hy => (h4 y hy).2.1⟩
theorem str_arg {H : Type} {enc : TypeId × Value → H} {W : World} {r : Reach} {b0 : Nat} {v : Value} {d : DataW H} {p : List MemPlace} (hv : Value.okWide Try.prog W r b0 9 v)
    (h : DataW.Trod enc Try.prog W 0 (fun _ => true) true 9 v d p) : ∃ B : List UInt8, v = .string (txt B) ∧ B.length ≤ 9223372036854775807 := by
  obtain ⟨s, rfl, _, _, ws⟩ := Go.ChangeMaps.open_string Try.underlying9 hv h
  exact ⟨s.data.toList, by rw [show txt s.data.toList = s from by cases s; simp [txt]], ws⟩
end Go.Proofs.Ytbnkahjmeobblaa
