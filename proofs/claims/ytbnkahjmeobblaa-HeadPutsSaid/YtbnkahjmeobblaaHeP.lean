/-
  Layer 20, the law HeadPuts (written by gen_puts20.py).
-/
import Derived.Test.YtbnkahjmeobblaaZm48
import Derived.Test.YtbnkahjmeobblaaZm34
namespace Go.Proofs.Ytbnkahjmeobblaa
open Go.RowKit Mem Go.Lib LebM UtfM AcM OpM HeM
attribute [local go_sem ↓] Go.wp_at_zero Go.wp_at_succ
set_option linter.unusedVariables false

set_option maxRecDepth 100000 in
set_option maxHeartbeats 12800000 in
theorem headputs_law (ch : Ch) (A : Option Addr) (k : Nat) (A6 : Option Addr) (n6 k6 : Nat) (L : List Om) (w : World) (hch : ChOk w ch A A6 n6 L) :
    Calls Try.prog 3 #[chc ch A k A6 n6 k6] w fun e w' => e = .returned (.bool true) ∧ Fr (fun _ => False) w w' := by
  have HAW := Lib.hid (fun w' => awake20_any w')
  have hfw := fun w' (hf : Fr (fun _ => False) w w') => rFew20_any ch A k A6 n6 k6 L w' (hch.fr hf)
  have hgood := fun h => short_of hch h
  have ht0 := hch.t0
  have ht1 := hch.t1
  have h32 := hch.hd.2.1
  obtain ⟨bf, hbf⟩ : ∃ b, fewH ch n6 L = b := ⟨_, rfl⟩
  simp only [hbf] at hfw hgood
  obtain ⟨vr, hvr⟩ : ∃ b, rightH ch = b := ⟨_, rfl⟩
  obtain ⟨vs, hvs⟩ : ∃ b, spokenB L = b := ⟨_, rfl⟩
  have hrr := fun (hs : Short ch n6 L) w' (hf : Fr (fun _ => False) w w') => rRight20_any ch A k A6 n6 k6 w' (hch.fr hf).hd (by have := hs.a; omega) (by have := hs.m; omega) (by have := hs.d; omega)
  have hpr := fun (hs : Short ch n6 L) w' (hf : Fr (fun _ => False) w w') => hRight_any ch A k A6 n6 k6 w' (hch.fr hf).hd (by have := hs.a; omega) (by have := hs.m; omega) (by have := hs.d; omega)
  have hsp := fun (hs : Short ch n6 L) w' (hf : Fr (fun _ => False) w w') => spoken_any ch A k A6 n6 k6 L w' (hch.fr hf).hL (by have := hs.n; omega) (fun x hx => (hs.ok x hx).2) hs.ns (by have := hs.nl; omega)
  simp only [hvr] at hrr hpr
  simp only [hvs] at hsp
  have hpu := fun (hs : Short ch n6 L) (hr : rightH ch = true) (hp : spokenB L = true) w' (hf : Fr (fun _ => False) w w') => hPut_any ch A k A6 n6 k6 L w' (hch.fr hf).hd hr ht0 ht1 (hch.fr hf).hL (by have := hs.n; omega) hs.ok (by have := hs.tab.1; omega) hs.tab.2 (by have h := tab_of hs hp; have h2 := put_bd (O := othersA ch.a (namesM L)) hr h32 ht0 ht1 h.len h.n; rw [h.eq]; omega)
  have hrp := fun (hs : Short ch n6 L) (hr : rightH ch = true) (hp : spokenB L = true) w' (hf : Fr (fun _ => False) w w') => rPut20_any ch A k A6 n6 k6 L w' (hch.fr hf).hd hr ht0 ht1 (hch.fr hf).hL (by have := hs.n; omega) hs.ok (by have := hs.tab.1; omega) hs.tab.2 (by have h := tab_of hs hp; have h2 := put_bd (O := othersA ch.a (namesM L)) hr h32 ht0 ht1 h.len h.n; rw [h.eq]; omega)
  clear hch
  obtain ⟨R, hR⟩ : ∃ R, putH ch (tabA ch.a (namesM L)) = R := ⟨_, rfl⟩
  simp only [hR] at hpu hrp
  obtain ⟨nR, hnR⟩ : ∃ n, R.length = n := ⟨_, rfl⟩
  simp only [hnR] at hpu hrp
  obtain ⟨a, q, s, t, m, d⟩ := ch
  unfold chc at hfw hrr hpr hsp hpu hrp ⊢
  simp only at hfw hrr hpr hsp hpu hrp ht0 ht1 h32 ⊢
  obtain ⟨nd, hnd⟩ : ∃ n, d.length = n := ⟨_, rfl⟩
  simp only [hnd] at hfw hrr hpr hsp hpu hrp
  rw [hnd]
  obtain ⟨g, hg⟩ : ∃ g, w.heap.size = g := ⟨_, rfl⟩
  obtain ⟨w0, hw0⟩ : ∃ w0, w.alloc (.cells [.string (txt a), .int .i64 q, .int .i64 s, .int .i64 t, .string (txt m), .slice A nd k, .slice A6 n6 k6].toArray 25) = w0 := ⟨_, rfl⟩
  have HG_w0 : Hid (Row w0 g 25 [.string (txt a), .int .i64 q, .int .i64 s, .int .i64 t, .string (txt m), .slice A nd k, .slice A6 n6 k6]) := Lib.hid (by rw [← hw0, ← hg]; exact Row.new _ _ _)
  have HF_w0 : Hid (Fr (fun _ => False) w w0) := Lib.hid (by rw [← hw0]; exact (Fr.refl _ _).alloc _)
  have HFW := Lib.hid hfw
  have HGO := Lib.hid hgood
  have HRR := Lib.hid hrr
  have HPR := Lib.hid hpr
  have HSP := Lib.hid hsp
  have HPU := Lib.hid hpu
  have HRP := Lib.hid hrp
  have HVR := Lib.hid hvr
  have HVS := Lib.hid hvs
  have HNR := Lib.hid hnR
  clear hfw hgood hrr hpr hsp hpu hrp hvr hvs h32 hnd hbf ht0 ht1 hR hnR
  go_enter Try.func3, Try.ntmps3
  go_wp2_with fail
  clear hw0 hg
  refine (HAW.out _).mono ?_
  rintro e x1 ⟨rfl, hf⟩
  have HG_x1 := Lib.hid (HG_w0.out.fr hf (fun h => h))
  have HF_x1 : Hid (Fr (fun _ => False) w x1) := Lib.hid (HF_w0.out.trans hf (fun _ _ h => h))
  clear hf
  have c1_0 : x1.cell? ⟨g, 0, none⟩ = some (.string (txt a)) := Row.cell HG_x1.out rfl
  have c1_1 : x1.cell? ⟨g, 1, none⟩ = some (.int .i64 q) := Row.cell HG_x1.out rfl
  have c1_2 : x1.cell? ⟨g, 2, none⟩ = some (.int .i64 s) := Row.cell HG_x1.out rfl
  have c1_3 : x1.cell? ⟨g, 3, none⟩ = some (.int .i64 t) := Row.cell HG_x1.out rfl
  have c1_4 : x1.cell? ⟨g, 4, none⟩ = some (.string (txt m)) := Row.cell HG_x1.out rfl
  have c1_5 : x1.cell? ⟨g, 5, none⟩ = some (.slice A nd k) := Row.cell HG_x1.out rfl
  have c1_6 : x1.cell? ⟨g, 6, none⟩ = some (.slice A6 n6 k6) := Row.cell HG_x1.out rfl
  go_wp2_with fail
  refine (HFW.out _ HF_x1.out).mono ?_
  clear c1_0 c1_1 c1_2 c1_3 c1_4 c1_5 c1_6
  rintro e x2 ⟨rfl, hf⟩
  have HG_x2 := Lib.hid (HG_x1.out.fr hf (fun h => h))
  have HF_x2 : Hid (Fr (fun _ => False) w x2) := Lib.hid (HF_x1.out.trans hf (fun _ _ h => h))
  clear hf
  cases bf with
  | false =>
    go_wp2_with fail
    refine (HAW.out _).mono ?_
    rintro e x3 ⟨rfl, hf⟩
    have HG_x3 := Lib.hid (HG_x2.out.fr hf (fun h => h))
    have HF_x3 : Hid (Fr (fun _ => False) w x3) := Lib.hid (HF_x2.out.trans hf (fun _ _ h => h))
    clear hf
    go_wp2_with fail
    go_ret
    exact ⟨rfl, HF_x3.out⟩
  | true =>
    have hsh := HGO.out rfl
    have HSH := Lib.hid hsh
    clear hsh
    have HBX : Hid (∀ w', Fr (fun _ => False) x2 w' → w'.cell? ⟨g, 0, none⟩ = some (.string (txt a)) ∧ w'.cell? ⟨g, 1, none⟩ = some (.int .i64 q) ∧ w'.cell? ⟨g, 2, none⟩ = some (.int .i64 s) ∧ w'.cell? ⟨g, 3, none⟩ = some (.int .i64 t) ∧ w'.cell? ⟨g, 4, none⟩ = some (.string (txt m)) ∧ w'.cell? ⟨g, 5, none⟩ = some (.slice A nd k) ∧ w'.cell? ⟨g, 6, none⟩ = some (.slice A6 n6 k6)) := Lib.hid (fun w' hf => by
      have h := HG_x2.out.fr hf (fun h => h)
      exact ⟨h.cell rfl, h.cell rfl, h.cell rfl, h.cell rfl, h.cell rfl, h.cell rfl, h.cell rfl⟩)
    have HRR2 := Lib.hid (fun w' (hf : Fr (fun _ => False) x2 w') => HRR.out HSH.out w' (HF_x2.out.trans hf (fun _ _ h => h)))
    have HPR2 := Lib.hid (fun w' (hf : Fr (fun _ => False) x2 w') => HPR.out HSH.out w' (HF_x2.out.trans hf (fun _ _ h => h)))
    have HSP2 := Lib.hid (fun w' (hf : Fr (fun _ => False) x2 w') => HSP.out HSH.out w' (HF_x2.out.trans hf (fun _ _ h => h)))
    go_upto_region 3 with fail
    have HGc : Hid (Fr (fun _ => False) x2 x2) := Lib.hid (Fr.refl _ _)
    refine wp_region_held_drew (S := fun w' => Fr (fun _ => False) x2 w') (by kernel_rfl) ?_ (fun hHeld => ?_)
    · exact (Fr.refl _ _).drew
    refine wpAnyH_take (i := 0) (v := ?vt48) rfl (by kernel_rfl) (by kernel_rfl) (by kernel_rfl) (fun _ _ _ h => h) (Or.inl ⟨by rfl, ?hyt48⟩) hHeld ?restt48
    case hyt48 => intro w hSw; (try dsimp only at hSw); obtain ⟨k0, k1, k2, k3, k4, k5, k6⟩ := HBX.out _ (HGc.out.trans hSw (fun _ _ h => h)); go_simp; try (with_reducible rfl)
    (try simp only [Act.put, List.setIfInBounds_toArray, List.set_cons_zero, List.set_cons_succ, List.getElem_toArray, List.getElem_cons_zero])
    refine wpAnyH_take (i := 2) (v := ?vt49) rfl (by kernel_rfl) (by kernel_rfl) (by kernel_rfl) (fun _ _ _ h => h) (Or.inl ⟨by rfl, ?hyt49⟩) hHeld ?restt49
    case hyt49 => intro w hSw; (try dsimp only at hSw); obtain ⟨k0, k1, k2, k3, k4, k5, k6⟩ := HBX.out _ (HGc.out.trans hSw (fun _ _ h => h)); go_simp; try (with_reducible rfl)
    (try simp only [Act.put, List.setIfInBounds_toArray, List.set_cons_zero, List.set_cons_succ, List.getElem_toArray, List.getElem_cons_zero, List.getElem_cons_succ])
    refine wpAnyH_ready (rs := [1]) (by kernel_rfl) (by simp) ?_
    refine AllReadyH.cons rfl (fun Kx hKx => ?_) AllReadyH.nil
    go_simp
    have hcon := HPR2.out x2.drew ((Fr.refl (fun _ => False) x2).drew)
    with_reducible refine hcon.mono ?_
    clear hcon
    rintro e' v1 ⟨rfl, hff⟩
    have HFn : Hid (Fr (fun _ => False) x2 v1) := Lib.hid ((Fr.refl _ _).drew.trans hff (fun _ _ h => h))
    clear hff
    have HGc := Lib.hid (HGc.out.trans HFn.out (fun _ _ h => h))
    refine hKx.out _ _ ?_ (fun hHeld => ?_)
    · exact HFn.out
    clear hKx Kx
    (try simp only [Act.put, List.setIfInBounds_toArray, List.set_cons_zero, List.set_cons_succ, List.getElem_toArray, List.getElem_cons_zero, List.getElem_cons_succ])
    refine wpAnyH_more (fun w' => Fr (fun _ => False) v1 w') (fun _ h => HFn.out.trans h (fun _ _ h => h)) ?_ (fun hHeld => ?_)
    · exact Fr.refl _ _
    clear HFn
    refine wpAnyH_ready (rs := [3]) (by kernel_rfl) (by simp) ?_
    refine AllReadyH.cons rfl (fun Kx hKx => ?_) AllReadyH.nil
    go_simp
    have hcon := HRR2.out v1 HGc.out
    with_reducible refine hcon.mono ?_
    clear hcon
    rintro e' v2 ⟨rfl, hff⟩
    have HFn : Hid (Fr (fun _ => False) v1 v2) := Lib.hid (hff)
    clear hff
    have HGc := Lib.hid (HGc.out.trans HFn.out (fun _ _ h => h))
    refine hKx.out _ _ ?_ (fun hHeld => ?_)
    · exact HFn.out
    clear hKx Kx
    (try simp only [Act.put, List.setIfInBounds_toArray, List.set_cons_zero, List.set_cons_succ, List.getElem_toArray, List.getElem_cons_zero, List.getElem_cons_succ])
    refine wpAnyH_more (fun w' => Fr (fun _ => False) v2 w') (fun _ h => HFn.out.trans h (fun _ _ h => h)) ?_ (fun hHeld => ?_)
    · exact Fr.refl _ _
    clear HFn
    refine wpAnyH_take (i := 4) (v := ?vt50) rfl (by kernel_rfl) (by kernel_rfl) (by kernel_rfl) (fun _ _ _ h => h) (Or.inl ⟨by rfl, ?hyt50⟩) hHeld ?restt50
    case hyt50 => intro w hSw; (try dsimp only at hSw); go_simp; try (with_reducible rfl)
    (try simp only [Act.put, List.setIfInBounds_toArray, List.set_cons_zero, List.set_cons_succ, List.getElem_toArray, List.getElem_cons_zero, List.getElem_cons_succ])
    refine wpAnyH_done (by kernel_rfl) ?_ _
    obtain ⟨wv, hwv⟩ : ∃ x, v2 = x := ⟨_, rfl⟩
    rw [hwv] at HGc ⊢
    have HFV : Hid (Fr (fun _ => False) w wv) := Lib.hid (HF_x2.out.trans HGc.out (fun _ _ h => h))
    have HBX2 := Lib.hid (fun w' (hf : Fr (fun _ => False) wv w') => HBX.out w' (HGc.out.trans hf (fun _ _ h => h)))
    have HRR3 := Lib.hid (fun w' (hf : Fr (fun _ => False) wv w') => HRR2.out w' (HGc.out.trans hf (fun _ _ h => h)))
    have HSP3 := Lib.hid (fun w' (hf : Fr (fun _ => False) wv w') => HSP2.out w' (HGc.out.trans hf (fun _ _ h => h)))
    clear HGc hwv
    cases vr with
    | false =>
      have tv : ((false : Bool) != false) = false := rfl
      go_wp2_with fail
      go_upto_region 5 with fail
      have HGc : Hid (Fr (fun _ => False) wv wv) := Lib.hid (Fr.refl _ _)
      refine wp_region_held_drew (S := fun w' => Fr (fun _ => False) wv w') (by kernel_rfl) ?_ (fun hHeld => ?_)
      · exact (Fr.refl _ _).drew
      refine wpAnyH_take (i := 0) (v := ?vt1) rfl (by kernel_rfl) (by kernel_rfl) (by kernel_rfl) (fun _ _ _ h => h) (Or.inl ⟨by rfl, ?hyt1⟩) hHeld ?restt1
      case hyt1 => intro w hSw; (try dsimp only at hSw); obtain ⟨k0, k1, k2, k3, k4, k5, k6⟩ := HBX2.out _ (HGc.out.trans hSw (fun _ _ h => h)); go_simp; try (with_reducible rfl)
      (try simp only [Act.put, List.setIfInBounds_toArray, List.set_cons_zero, List.set_cons_succ, List.getElem_toArray, List.getElem_cons_zero])
      refine wpAnyH_ready (rs := [1]) (by kernel_rfl) (by simp) ?_
      refine AllReadyH.cons rfl (fun Kx hKx => ?_) AllReadyH.nil
      go_simp
      have hcon := HRR3.out wv.drew ((Fr.refl (fun _ => False) wv).drew)
      with_reducible refine hcon.mono ?_
      clear hcon
      rintro e' v1 ⟨rfl, hff⟩
      have HFn : Hid (Fr (fun _ => False) wv v1) := Lib.hid ((Fr.refl _ _).drew.trans hff (fun _ _ h => h))
      clear hff
      have HGc := Lib.hid (HGc.out.trans HFn.out (fun _ _ h => h))
      refine hKx.out _ _ ?_ (fun hHeld => ?_)
      · exact HFn.out
      clear hKx Kx
      (try simp only [Act.put, List.setIfInBounds_toArray, List.set_cons_zero, List.set_cons_succ, List.getElem_toArray, List.getElem_cons_zero, List.getElem_cons_succ])
      refine wpAnyH_more (fun w' => Fr (fun _ => False) v1 w') (fun _ h => HFn.out.trans h (fun _ _ h => h)) ?_ (fun hHeld => ?_)
      · exact Fr.refl _ _
      clear HFn
      refine wpAnyH_take (i := 2) (v := ?vt2) rfl (by kernel_rfl) (by kernel_rfl) (by kernel_rfl) (fun _ _ _ h => h) (Or.inl ⟨by rfl, ?hyt2⟩) hHeld ?restt2
      case hyt2 => intro w hSw; (try dsimp only at hSw); go_simp; try (with_reducible rfl)
      (try simp only [Act.put, List.setIfInBounds_toArray, List.set_cons_zero, List.set_cons_succ, List.getElem_toArray, List.getElem_cons_zero, List.getElem_cons_succ])
      refine wpAnyH_take (i := 3) (v := ?vt3) rfl (by kernel_rfl) (by kernel_rfl) (by kernel_rfl) (fun _ _ _ h => h) (Or.inl ⟨by rfl, ?hyt3⟩) hHeld ?restt3
      case hyt3 => intro w hSw; (try dsimp only at hSw); go_simp; try (with_reducible rfl)
      (try simp only [Act.put, List.setIfInBounds_toArray, List.set_cons_zero, List.set_cons_succ, List.getElem_toArray, List.getElem_cons_zero, List.getElem_cons_succ])
      refine wpAnyH_take (i := 4) (v := undef) rfl (by kernel_rfl) (by kernel_rfl) (by kernel_rfl) (fun _ _ _ h => h) (Or.inr ⟨by rfl, rfl⟩) hHeld ?_
      (try simp only [Act.put, List.setIfInBounds_toArray, List.set_cons_zero, List.set_cons_succ, List.getElem_toArray, List.getElem_cons_zero, List.getElem_cons_succ])
      refine wpAnyH_take (i := 5) (v := undef) rfl (by kernel_rfl) (by kernel_rfl) (by kernel_rfl) (fun _ _ _ h => h) (Or.inr ⟨by rfl, rfl⟩) hHeld ?_
      (try simp only [Act.put, List.setIfInBounds_toArray, List.set_cons_zero, List.set_cons_succ, List.getElem_toArray, List.getElem_cons_zero, List.getElem_cons_succ])
      refine wpAnyH_take (i := 6) (v := undef) rfl (by kernel_rfl) (by kernel_rfl) (by kernel_rfl) (fun _ _ _ h => h) (Or.inr ⟨by rfl, rfl⟩) hHeld ?_
      (try simp only [Act.put, List.setIfInBounds_toArray, List.set_cons_zero, List.set_cons_succ, List.getElem_toArray, List.getElem_cons_zero, List.getElem_cons_succ])
      refine wpAnyH_take (i := 7) (v := ?vt7) rfl (by kernel_rfl) (by kernel_rfl) (by kernel_rfl) (fun _ _ _ h => h) (Or.inl ⟨by rfl, ?hyt7⟩) hHeld ?restt7
      case hyt7 => intro w hSw; (try dsimp only at hSw); go_simp; try (with_reducible rfl)
      (try simp only [Act.put, List.setIfInBounds_toArray, List.set_cons_zero, List.set_cons_succ, List.getElem_toArray, List.getElem_cons_zero, List.getElem_cons_succ])
      refine wpAnyH_take (i := 8) (v := ?vt8) rfl (by kernel_rfl) (by kernel_rfl) (by kernel_rfl) (fun _ _ _ h => h) (Or.inl ⟨by rfl, ?hyt8⟩) hHeld ?restt8
      case hyt8 => intro w hSw; (try dsimp only at hSw); go_simp; try (with_reducible rfl)
      (try simp only [Act.put, List.setIfInBounds_toArray, List.set_cons_zero, List.set_cons_succ, List.getElem_toArray, List.getElem_cons_zero, List.getElem_cons_succ])
      refine wpAnyH_take (i := 9) (v := undef) rfl (by kernel_rfl) (by kernel_rfl) (by kernel_rfl) (fun _ _ _ h => h) (Or.inr ⟨by rfl, rfl⟩) hHeld ?_
      (try simp only [Act.put, List.setIfInBounds_toArray, List.set_cons_zero, List.set_cons_succ, List.getElem_toArray, List.getElem_cons_zero, List.getElem_cons_succ])
      refine wpAnyH_take (i := 10) (v := undef) rfl (by kernel_rfl) (by kernel_rfl) (by kernel_rfl) (fun _ _ _ h => h) (Or.inr ⟨by rfl, rfl⟩) hHeld ?_
      (try simp only [Act.put, List.setIfInBounds_toArray, List.set_cons_zero, List.set_cons_succ, List.getElem_toArray, List.getElem_cons_zero, List.getElem_cons_succ])
      refine wpAnyH_take (i := 11) (v := undef) rfl (by kernel_rfl) (by kernel_rfl) (by kernel_rfl) (fun _ _ _ h => h) (Or.inr ⟨by rfl, rfl⟩) hHeld ?_
      (try simp only [Act.put, List.setIfInBounds_toArray, List.set_cons_zero, List.set_cons_succ, List.getElem_toArray, List.getElem_cons_zero, List.getElem_cons_succ])
      refine wpAnyH_take (i := 12) (v := undef) rfl (by kernel_rfl) (by kernel_rfl) (by kernel_rfl) (fun _ _ _ h => h) (Or.inr ⟨by rfl, rfl⟩) hHeld ?_
      (try simp only [Act.put, List.setIfInBounds_toArray, List.set_cons_zero, List.set_cons_succ, List.getElem_toArray, List.getElem_cons_zero, List.getElem_cons_succ])
      refine wpAnyH_take (i := 13) (v := undef) rfl (by kernel_rfl) (by kernel_rfl) (by kernel_rfl) (fun _ _ _ h => h) (Or.inr ⟨by rfl, rfl⟩) hHeld ?_
      (try simp only [Act.put, List.setIfInBounds_toArray, List.set_cons_zero, List.set_cons_succ, List.getElem_toArray, List.getElem_cons_zero, List.getElem_cons_succ])
      refine wpAnyH_take (i := 14) (v := undef) rfl (by kernel_rfl) (by kernel_rfl) (by kernel_rfl) (fun _ _ _ h => h) (Or.inr ⟨by rfl, rfl⟩) hHeld ?_
      (try simp only [Act.put, List.setIfInBounds_toArray, List.set_cons_zero, List.set_cons_succ, List.getElem_toArray, List.getElem_cons_zero, List.getElem_cons_succ])
      refine wpAnyH_take (i := 15) (v := undef) rfl (by kernel_rfl) (by kernel_rfl) (by kernel_rfl) (fun _ _ _ h => h) (Or.inr ⟨by rfl, rfl⟩) hHeld ?_
      (try simp only [Act.put, List.setIfInBounds_toArray, List.set_cons_zero, List.set_cons_succ, List.getElem_toArray, List.getElem_cons_zero, List.getElem_cons_succ])
      refine wpAnyH_take (i := 16) (v := ?vt16) rfl (by kernel_rfl) (by kernel_rfl) (by kernel_rfl) (fun _ _ _ h => h) (Or.inl ⟨by rfl, ?hyt16⟩) hHeld ?restt16
      case hyt16 => intro w hSw; (try dsimp only at hSw); go_simp; try (with_reducible rfl)
      (try simp only [Act.put, List.setIfInBounds_toArray, List.set_cons_zero, List.set_cons_succ, List.getElem_toArray, List.getElem_cons_zero, List.getElem_cons_succ])
      refine wpAnyH_take (i := 17) (v := ?vt17) rfl (by kernel_rfl) (by kernel_rfl) (by kernel_rfl) (fun _ _ _ h => h) (Or.inl ⟨by rfl, ?hyt17⟩) hHeld ?restt17
      case hyt17 => intro w hSw; (try dsimp only at hSw); go_simp; try (with_reducible rfl)
      (try simp only [Act.put, List.setIfInBounds_toArray, List.set_cons_zero, List.set_cons_succ, List.getElem_toArray, List.getElem_cons_zero, List.getElem_cons_succ])
      refine wpAnyH_done (by kernel_rfl) ?_ _
      go_wp2_with fail
      go_ret
      exact ⟨rfl, HFV.out.trans HGc.out (fun _ _ h => h)⟩
    | true =>
      have tv : ((true : Bool) != true) = false := rfl
      go_wp2_with fail
      cases vs with
      | false =>
        go_upto_region 5 with fail
        have HGc : Hid (Fr (fun _ => False) wv wv) := Lib.hid (Fr.refl _ _)
        refine wp_region_held_drew (S := fun w' => Fr (fun _ => False) wv w') (by kernel_rfl) ?_ (fun hHeld => ?_)
        · exact (Fr.refl _ _).drew
        refine wpAnyH_take (i := 0) (v := ?vt18) rfl (by kernel_rfl) (by kernel_rfl) (by kernel_rfl) (fun _ _ _ h => h) (Or.inl ⟨by rfl, ?hyt18⟩) hHeld ?restt18
        case hyt18 => intro w hSw; (try dsimp only at hSw); obtain ⟨k0, k1, k2, k3, k4, k5, k6⟩ := HBX2.out _ (HGc.out.trans hSw (fun _ _ h => h)); go_simp; try (with_reducible rfl)
        (try simp only [Act.put, List.setIfInBounds_toArray, List.set_cons_zero, List.set_cons_succ, List.getElem_toArray, List.getElem_cons_zero])
        refine wpAnyH_ready (rs := [1]) (by kernel_rfl) (by simp) ?_
        refine AllReadyH.cons rfl (fun Kx hKx => ?_) AllReadyH.nil
        go_simp
        have hcon := HRR3.out wv.drew ((Fr.refl (fun _ => False) wv).drew)
        with_reducible refine hcon.mono ?_
        clear hcon
        rintro e' v1 ⟨rfl, hff⟩
        have HFn : Hid (Fr (fun _ => False) wv v1) := Lib.hid ((Fr.refl _ _).drew.trans hff (fun _ _ h => h))
        clear hff
        have HGc := Lib.hid (HGc.out.trans HFn.out (fun _ _ h => h))
        refine hKx.out _ _ ?_ (fun hHeld => ?_)
        · exact HFn.out
        clear hKx Kx
        (try simp only [Act.put, List.setIfInBounds_toArray, List.set_cons_zero, List.set_cons_succ, List.getElem_toArray, List.getElem_cons_zero, List.getElem_cons_succ])
        refine wpAnyH_more (fun w' => Fr (fun _ => False) v1 w') (fun _ h => HFn.out.trans h (fun _ _ h => h)) ?_ (fun hHeld => ?_)
        · exact Fr.refl _ _
        clear HFn
        refine wpAnyH_take (i := 2) (v := ?vt19) rfl (by kernel_rfl) (by kernel_rfl) (by kernel_rfl) (fun _ _ _ h => h) (Or.inl ⟨by rfl, ?hyt19⟩) hHeld ?restt19
        case hyt19 => intro w hSw; (try dsimp only at hSw); go_simp; try (with_reducible rfl)
        (try simp only [Act.put, List.setIfInBounds_toArray, List.set_cons_zero, List.set_cons_succ, List.getElem_toArray, List.getElem_cons_zero, List.getElem_cons_succ])
        refine wpAnyH_take (i := 3) (v := ?vt20) rfl (by kernel_rfl) (by kernel_rfl) (by kernel_rfl) (fun _ _ _ h => h) (Or.inl ⟨by rfl, ?hyt20⟩) hHeld ?restt20
        case hyt20 => intro w hSw; (try dsimp only at hSw); go_simp; try (with_reducible rfl)
        (try simp only [Act.put, List.setIfInBounds_toArray, List.set_cons_zero, List.set_cons_succ, List.getElem_toArray, List.getElem_cons_zero, List.getElem_cons_succ])
        refine wpAnyH_take (i := 4) (v := ?vt21) rfl (by kernel_rfl) (by kernel_rfl) (by kernel_rfl) (fun _ _ _ h => h) (Or.inl ⟨by rfl, ?hyt21⟩) hHeld ?restt21
        case hyt21 => intro w hSw; (try dsimp only at hSw); obtain ⟨k0, k1, k2, k3, k4, k5, k6⟩ := HBX2.out _ (HGc.out.trans hSw (fun _ _ h => h)); go_simp; try (with_reducible rfl)
        (try simp only [Act.put, List.setIfInBounds_toArray, List.set_cons_zero, List.set_cons_succ, List.getElem_toArray, List.getElem_cons_zero, List.getElem_cons_succ])
        refine wpAnyH_ready (rs := [5]) (by kernel_rfl) (by simp) ?_
        refine AllReadyH.cons rfl (fun Kx hKx => ?_) AllReadyH.nil
        go_simp
        have hcon := HSP3.out v1 HGc.out
        with_reducible refine hcon.mono ?_
        clear hcon
        rintro e' v2 ⟨rfl, hff⟩
        have HFn : Hid (Fr (fun _ => False) v1 v2) := Lib.hid (hff)
        clear hff
        have HGc := Lib.hid (HGc.out.trans HFn.out (fun _ _ h => h))
        refine hKx.out _ _ ?_ (fun hHeld => ?_)
        · exact HFn.out
        clear hKx Kx
        (try simp only [Act.put, List.setIfInBounds_toArray, List.set_cons_zero, List.set_cons_succ, List.getElem_toArray, List.getElem_cons_zero, List.getElem_cons_succ])
        refine wpAnyH_more (fun w' => Fr (fun _ => False) v2 w') (fun _ h => HFn.out.trans h (fun _ _ h => h)) ?_ (fun hHeld => ?_)
        · exact Fr.refl _ _
        clear HFn
        refine wpAnyH_take (i := 6) (v := ?vt22) rfl (by kernel_rfl) (by kernel_rfl) (by kernel_rfl) (fun _ _ _ h => h) (Or.inl ⟨by rfl, ?hyt22⟩) hHeld ?restt22
        case hyt22 => intro w hSw; (try dsimp only at hSw); go_simp; try (with_reducible rfl)
        (try simp only [Act.put, List.setIfInBounds_toArray, List.set_cons_zero, List.set_cons_succ, List.getElem_toArray, List.getElem_cons_zero, List.getElem_cons_succ])
        refine wpAnyH_take (i := 7) (v := ?vt23) rfl (by kernel_rfl) (by kernel_rfl) (by kernel_rfl) (fun _ _ _ h => h) (Or.inl ⟨by rfl, ?hyt23⟩) hHeld ?restt23
        case hyt23 => intro w hSw; (try dsimp only at hSw); go_simp; try (with_reducible rfl)
        (try simp only [Act.put, List.setIfInBounds_toArray, List.set_cons_zero, List.set_cons_succ, List.getElem_toArray, List.getElem_cons_zero, List.getElem_cons_succ])
        refine wpAnyH_take (i := 8) (v := ?vt24) rfl (by kernel_rfl) (by kernel_rfl) (by kernel_rfl) (fun _ _ _ h => h) (Or.inl ⟨by rfl, ?hyt24⟩) hHeld ?restt24
        case hyt24 => intro w hSw; (try dsimp only at hSw); go_simp; try (with_reducible rfl)
        (try simp only [Act.put, List.setIfInBounds_toArray, List.set_cons_zero, List.set_cons_succ, List.getElem_toArray, List.getElem_cons_zero, List.getElem_cons_succ])
        refine wpAnyH_take (i := 9) (v := undef) rfl (by kernel_rfl) (by kernel_rfl) (by kernel_rfl) (fun _ _ _ h => h) (Or.inr ⟨by rfl, rfl⟩) hHeld ?_
        (try simp only [Act.put, List.setIfInBounds_toArray, List.set_cons_zero, List.set_cons_succ, List.getElem_toArray, List.getElem_cons_zero, List.getElem_cons_succ])
        refine wpAnyH_take (i := 10) (v := undef) rfl (by kernel_rfl) (by kernel_rfl) (by kernel_rfl) (fun _ _ _ h => h) (Or.inr ⟨by rfl, rfl⟩) hHeld ?_
        (try simp only [Act.put, List.setIfInBounds_toArray, List.set_cons_zero, List.set_cons_succ, List.getElem_toArray, List.getElem_cons_zero, List.getElem_cons_succ])
        refine wpAnyH_take (i := 11) (v := undef) rfl (by kernel_rfl) (by kernel_rfl) (by kernel_rfl) (fun _ _ _ h => h) (Or.inr ⟨by rfl, rfl⟩) hHeld ?_
        (try simp only [Act.put, List.setIfInBounds_toArray, List.set_cons_zero, List.set_cons_succ, List.getElem_toArray, List.getElem_cons_zero, List.getElem_cons_succ])
        refine wpAnyH_take (i := 12) (v := undef) rfl (by kernel_rfl) (by kernel_rfl) (by kernel_rfl) (fun _ _ _ h => h) (Or.inr ⟨by rfl, rfl⟩) hHeld ?_
        (try simp only [Act.put, List.setIfInBounds_toArray, List.set_cons_zero, List.set_cons_succ, List.getElem_toArray, List.getElem_cons_zero, List.getElem_cons_succ])
        refine wpAnyH_take (i := 13) (v := undef) rfl (by kernel_rfl) (by kernel_rfl) (by kernel_rfl) (fun _ _ _ h => h) (Or.inr ⟨by rfl, rfl⟩) hHeld ?_
        (try simp only [Act.put, List.setIfInBounds_toArray, List.set_cons_zero, List.set_cons_succ, List.getElem_toArray, List.getElem_cons_zero, List.getElem_cons_succ])
        refine wpAnyH_take (i := 14) (v := undef) rfl (by kernel_rfl) (by kernel_rfl) (by kernel_rfl) (fun _ _ _ h => h) (Or.inr ⟨by rfl, rfl⟩) hHeld ?_
        (try simp only [Act.put, List.setIfInBounds_toArray, List.set_cons_zero, List.set_cons_succ, List.getElem_toArray, List.getElem_cons_zero, List.getElem_cons_succ])
        refine wpAnyH_take (i := 15) (v := undef) rfl (by kernel_rfl) (by kernel_rfl) (by kernel_rfl) (fun _ _ _ h => h) (Or.inr ⟨by rfl, rfl⟩) hHeld ?_
        (try simp only [Act.put, List.setIfInBounds_toArray, List.set_cons_zero, List.set_cons_succ, List.getElem_toArray, List.getElem_cons_zero, List.getElem_cons_succ])
        refine wpAnyH_take (i := 16) (v := ?vt32) rfl (by kernel_rfl) (by kernel_rfl) (by kernel_rfl) (fun _ _ _ h => h) (Or.inl ⟨by rfl, ?hyt32⟩) hHeld ?restt32
        case hyt32 => intro w hSw; (try dsimp only at hSw); go_simp; try (with_reducible rfl)
        (try simp only [Act.put, List.setIfInBounds_toArray, List.set_cons_zero, List.set_cons_succ, List.getElem_toArray, List.getElem_cons_zero, List.getElem_cons_succ])
        refine wpAnyH_take (i := 17) (v := ?vt33) rfl (by kernel_rfl) (by kernel_rfl) (by kernel_rfl) (fun _ _ _ h => h) (Or.inl ⟨by rfl, ?hyt33⟩) hHeld ?restt33
        case hyt33 => intro w hSw; (try dsimp only at hSw); go_simp; try (with_reducible rfl)
        (try simp only [Act.put, List.setIfInBounds_toArray, List.set_cons_zero, List.set_cons_succ, List.getElem_toArray, List.getElem_cons_zero, List.getElem_cons_succ])
        refine wpAnyH_done (by kernel_rfl) ?_ _
        go_wp2_with fail
        go_ret
        exact ⟨rfl, HFV.out.trans HGc.out (fun _ _ h => h)⟩
      | true =>
        have HPU3 := Lib.hid (fun w' (hf : Fr (fun _ => False) wv w') => HPU.out HSH.out HVR.out HVS.out w' (HFV.out.trans hf (fun _ _ h => h)))
        have HRP3 := Lib.hid (fun w' (hf : Fr (fun _ => False) wv w') => HRP.out HSH.out HVR.out HVS.out w' (HFV.out.trans hf (fun _ _ h => h)))
        go_upto_region 5 with fail
        have HGc : Hid (Fr (fun _ => False) wv wv) := Lib.hid (Fr.refl _ _)
        refine wp_region_held_drew (S := fun w' => Fr (fun _ => False) wv w') (by kernel_rfl) ?_ (fun hHeld => ?_)
        · exact (Fr.refl _ _).drew
        refine wpAnyH_take (i := 0) (v := ?vt34) rfl (by kernel_rfl) (by kernel_rfl) (by kernel_rfl) (fun _ _ _ h => h) (Or.inl ⟨by rfl, ?hyt34⟩) hHeld ?restt34
        case hyt34 => intro w hSw; (try dsimp only at hSw); obtain ⟨k0, k1, k2, k3, k4, k5, k6⟩ := HBX2.out _ (HGc.out.trans hSw (fun _ _ h => h)); go_simp; try (with_reducible rfl)
        (try simp only [Act.put, List.setIfInBounds_toArray, List.set_cons_zero, List.set_cons_succ, List.getElem_toArray, List.getElem_cons_zero])
        refine wpAnyH_ready (rs := [1]) (by kernel_rfl) (by simp) ?_
        refine AllReadyH.cons rfl (fun Kx hKx => ?_) AllReadyH.nil
        go_simp
        have hcon := HRR3.out wv.drew ((Fr.refl (fun _ => False) wv).drew)
        with_reducible refine hcon.mono ?_
        clear hcon
        rintro e' v1 ⟨rfl, hff⟩
        have HFn : Hid (Fr (fun _ => False) wv v1) := Lib.hid ((Fr.refl _ _).drew.trans hff (fun _ _ h => h))
        clear hff
        have HGc := Lib.hid (HGc.out.trans HFn.out (fun _ _ h => h))
        refine hKx.out _ _ ?_ (fun hHeld => ?_)
        · exact HFn.out
        clear hKx Kx
        (try simp only [Act.put, List.setIfInBounds_toArray, List.set_cons_zero, List.set_cons_succ, List.getElem_toArray, List.getElem_cons_zero, List.getElem_cons_succ])
        refine wpAnyH_more (fun w' => Fr (fun _ => False) v1 w') (fun _ h => HFn.out.trans h (fun _ _ h => h)) ?_ (fun hHeld => ?_)
        · exact Fr.refl _ _
        clear HFn
        refine wpAnyH_take (i := 2) (v := ?vt35) rfl (by kernel_rfl) (by kernel_rfl) (by kernel_rfl) (fun _ _ _ h => h) (Or.inl ⟨by rfl, ?hyt35⟩) hHeld ?restt35
        case hyt35 => intro w hSw; (try dsimp only at hSw); go_simp; try (with_reducible rfl)
        (try simp only [Act.put, List.setIfInBounds_toArray, List.set_cons_zero, List.set_cons_succ, List.getElem_toArray, List.getElem_cons_zero, List.getElem_cons_succ])
        refine wpAnyH_take (i := 3) (v := ?vt36) rfl (by kernel_rfl) (by kernel_rfl) (by kernel_rfl) (fun _ _ _ h => h) (Or.inl ⟨by rfl, ?hyt36⟩) hHeld ?restt36
        case hyt36 => intro w hSw; (try dsimp only at hSw); go_simp; try (with_reducible rfl)
        (try simp only [Act.put, List.setIfInBounds_toArray, List.set_cons_zero, List.set_cons_succ, List.getElem_toArray, List.getElem_cons_zero, List.getElem_cons_succ])
        refine wpAnyH_take (i := 4) (v := ?vt37) rfl (by kernel_rfl) (by kernel_rfl) (by kernel_rfl) (fun _ _ _ h => h) (Or.inl ⟨by rfl, ?hyt37⟩) hHeld ?restt37
        case hyt37 => intro w hSw; (try dsimp only at hSw); obtain ⟨k0, k1, k2, k3, k4, k5, k6⟩ := HBX2.out _ (HGc.out.trans hSw (fun _ _ h => h)); go_simp; try (with_reducible rfl)
        (try simp only [Act.put, List.setIfInBounds_toArray, List.set_cons_zero, List.set_cons_succ, List.getElem_toArray, List.getElem_cons_zero, List.getElem_cons_succ])
        refine wpAnyH_ready (rs := [5]) (by kernel_rfl) (by simp) ?_
        refine AllReadyH.cons rfl (fun Kx hKx => ?_) AllReadyH.nil
        go_simp
        have hcon := HSP3.out v1 HGc.out
        with_reducible refine hcon.mono ?_
        clear hcon
        rintro e' v2 ⟨rfl, hff⟩
        have HFn : Hid (Fr (fun _ => False) v1 v2) := Lib.hid (hff)
        clear hff
        have HGc := Lib.hid (HGc.out.trans HFn.out (fun _ _ h => h))
        refine hKx.out _ _ ?_ (fun hHeld => ?_)
        · exact HFn.out
        clear hKx Kx
        (try simp only [Act.put, List.setIfInBounds_toArray, List.set_cons_zero, List.set_cons_succ, List.getElem_toArray, List.getElem_cons_zero, List.getElem_cons_succ])
        refine wpAnyH_more (fun w' => Fr (fun _ => False) v2 w') (fun _ h => HFn.out.trans h (fun _ _ h => h)) ?_ (fun hHeld => ?_)
        · exact Fr.refl _ _
        clear HFn
        refine wpAnyH_take (i := 6) (v := ?vt38) rfl (by kernel_rfl) (by kernel_rfl) (by kernel_rfl) (fun _ _ _ h => h) (Or.inl ⟨by rfl, ?hyt38⟩) hHeld ?restt38
        case hyt38 => intro w hSw; (try dsimp only at hSw); go_simp; try (with_reducible rfl)
        (try simp only [Act.put, List.setIfInBounds_toArray, List.set_cons_zero, List.set_cons_succ, List.getElem_toArray, List.getElem_cons_zero, List.getElem_cons_succ])
        refine wpAnyH_take (i := 7) (v := ?vt39) rfl (by kernel_rfl) (by kernel_rfl) (by kernel_rfl) (fun _ _ _ h => h) (Or.inl ⟨by rfl, ?hyt39⟩) hHeld ?restt39
        case hyt39 => intro w hSw; (try dsimp only at hSw); go_simp; try (with_reducible rfl)
        (try simp only [Act.put, List.setIfInBounds_toArray, List.set_cons_zero, List.set_cons_succ, List.getElem_toArray, List.getElem_cons_zero, List.getElem_cons_succ])
        refine wpAnyH_take (i := 8) (v := ?vt40) rfl (by kernel_rfl) (by kernel_rfl) (by kernel_rfl) (fun _ _ _ h => h) (Or.inl ⟨by rfl, ?hyt40⟩) hHeld ?restt40
        case hyt40 => intro w hSw; (try dsimp only at hSw); go_simp; try (with_reducible rfl)
        (try simp only [Act.put, List.setIfInBounds_toArray, List.set_cons_zero, List.set_cons_succ, List.getElem_toArray, List.getElem_cons_zero, List.getElem_cons_succ])
        refine wpAnyH_take (i := 9) (v := ?vt41) rfl (by kernel_rfl) (by kernel_rfl) (by kernel_rfl) (fun _ _ _ h => h) (Or.inl ⟨by rfl, ?hyt41⟩) hHeld ?restt41
        case hyt41 => intro w hSw; (try dsimp only at hSw); obtain ⟨k0, k1, k2, k3, k4, k5, k6⟩ := HBX2.out _ (HGc.out.trans hSw (fun _ _ h => h)); go_simp; try (with_reducible rfl)
        (try simp only [Act.put, List.setIfInBounds_toArray, List.set_cons_zero, List.set_cons_succ, List.getElem_toArray, List.getElem_cons_zero, List.getElem_cons_succ])
        refine wpAnyH_take (i := 12) (v := ?vt42) rfl (by kernel_rfl) (by kernel_rfl) (by kernel_rfl) (fun _ _ _ h => h) (Or.inl ⟨by rfl, ?hyt42⟩) hHeld ?restt42
        case hyt42 => intro w hSw; (try dsimp only at hSw); obtain ⟨k0, k1, k2, k3, k4, k5, k6⟩ := HBX2.out _ (HGc.out.trans hSw (fun _ _ h => h)); go_simp; try (with_reducible rfl)
        (try simp only [Act.put, List.setIfInBounds_toArray, List.set_cons_zero, List.set_cons_succ, List.getElem_toArray, List.getElem_cons_zero, List.getElem_cons_succ])
        refine wpAnyH_ready (rs := [10]) (by kernel_rfl) (by simp) ?_
        refine AllReadyH.cons rfl (fun Kx hKx => ?_) AllReadyH.nil
        go_simp
        have hcon := HPU3.out v2 HGc.out
        with_reducible refine hcon.mono ?_
        clear hcon
        rintro e' v3 ⟨A10, c10, rfl, ho10, hff⟩
        have HFn : Hid (Fr (fun _ => False) v2 v3) := Lib.hid (hff)
        clear hff
        have hk := ho10.rd
        rw [HNR.out] at hk
        have HK10 := Lib.hid hk
        clear ho10 hk
        have HGc := Lib.hid (HGc.out.trans HFn.out (fun _ _ h => h))
        refine hKx.out _ _ ?_ (fun hHeld => ?_)
        · exact HFn.out
        clear hKx Kx
        (try simp only [Act.put, List.setIfInBounds_toArray, List.set_cons_zero, List.set_cons_succ, List.getElem_toArray, List.getElem_cons_zero, List.getElem_cons_succ])
        refine wpAnyH_more (fun w' => Fr (fun _ => False) v3 w') (fun _ h => HFn.out.trans h (fun _ _ h => h)) ?_ (fun hHeld => ?_)
        · exact Fr.refl _ _
        clear HFn
        refine wpAnyH_take (i := 11) (v := ?vt43) rfl (by kernel_rfl) (by kernel_rfl) (by kernel_rfl) (fun _ _ _ h => h) (Or.inl ⟨by rfl, ?hyt43⟩) hHeld ?restt43
        case hyt43 => intro w hSw; (try dsimp only at hSw); have hst := str_rd (HK10.out.fr hSw (fun _ _ h => h)) c10; go_simp; try (with_reducible rfl)
        (try simp only [Act.put, List.setIfInBounds_toArray, List.set_cons_zero, List.set_cons_succ, List.getElem_toArray, List.getElem_cons_zero, List.getElem_cons_succ])
        refine wpAnyH_ready (rs := [13]) (by kernel_rfl) (by simp) ?_
        refine AllReadyH.cons rfl (fun Kx hKx => ?_) AllReadyH.nil
        go_simp
        have hcon := HRP3.out v3 HGc.out
        with_reducible refine hcon.mono ?_
        clear hcon
        rintro e' v4 ⟨A13, c13, rfl, ho13, hff⟩
        have HFn : Hid (Fr (fun _ => False) v3 v4) := Lib.hid (hff)
        clear hff
        have hk := ho13.rd
        rw [HNR.out] at hk
        have HK13 := Lib.hid hk
        clear ho13 hk
        have HGc := Lib.hid (HGc.out.trans HFn.out (fun _ _ h => h))
        refine hKx.out _ _ ?_ (fun hHeld => ?_)
        · exact HFn.out
        clear hKx Kx
        (try simp only [Act.put, List.setIfInBounds_toArray, List.set_cons_zero, List.set_cons_succ, List.getElem_toArray, List.getElem_cons_zero, List.getElem_cons_succ])
        refine wpAnyH_more (fun w' => Fr (fun _ => False) v4 w') (fun _ h => HFn.out.trans h (fun _ _ h => h)) ?_ (fun hHeld => ?_)
        · exact Fr.refl _ _
        clear HFn
        refine wpAnyH_take (i := 14) (v := ?vt44) rfl (by kernel_rfl) (by kernel_rfl) (by kernel_rfl) (fun _ _ _ h => h) (Or.inl ⟨by rfl, ?hyt44⟩) hHeld ?restt44
        case hyt44 => intro w hSw; (try dsimp only at hSw); have hst := str_rd (HK13.out.fr hSw (fun _ _ h => h)) c13; go_simp; try (with_reducible rfl)
        (try simp only [Act.put, List.setIfInBounds_toArray, List.set_cons_zero, List.set_cons_succ, List.getElem_toArray, List.getElem_cons_zero, List.getElem_cons_succ])
        refine wpAnyH_take (i := 15) (v := ?vt45) rfl (by kernel_rfl) (by kernel_rfl) (by kernel_rfl) (fun _ _ _ h => h) (Or.inl ⟨by rfl, ?hyt45⟩) hHeld ?restt45
        case hyt45 => intro w hSw; (try dsimp only at hSw); go_simp; try (with_reducible rfl)
        (try simp only [Act.put, List.setIfInBounds_toArray, List.set_cons_zero, List.set_cons_succ, List.getElem_toArray, List.getElem_cons_zero, List.getElem_cons_succ])
        refine wpAnyH_take (i := 16) (v := ?vt46) rfl (by kernel_rfl) (by kernel_rfl) (by kernel_rfl) (fun _ _ _ h => h) (Or.inl ⟨by rfl, ?hyt46⟩) hHeld ?restt46
        case hyt46 => intro w hSw; (try dsimp only at hSw); go_simp; try (with_reducible rfl)
        (try simp only [Act.put, List.setIfInBounds_toArray, List.set_cons_zero, List.set_cons_succ, List.getElem_toArray, List.getElem_cons_zero, List.getElem_cons_succ])
        refine wpAnyH_take (i := 17) (v := ?vt47) rfl (by kernel_rfl) (by kernel_rfl) (by kernel_rfl) (fun _ _ _ h => h) (Or.inl ⟨by rfl, ?hyt47⟩) hHeld ?restt47
        case hyt47 => intro w hSw; (try dsimp only at hSw); go_simp; try (with_reducible rfl)
        (try simp only [Act.put, List.setIfInBounds_toArray, List.set_cons_zero, List.set_cons_succ, List.getElem_toArray, List.getElem_cons_zero, List.getElem_cons_succ])
        refine wpAnyH_done (by kernel_rfl) ?_ _
        go_wp2_with fail
        go_ret
        exact ⟨rfl, HFV.out.trans HGc.out (fun _ _ h => h)⟩
end Go.Proofs.Ytbnkahjmeobblaa
