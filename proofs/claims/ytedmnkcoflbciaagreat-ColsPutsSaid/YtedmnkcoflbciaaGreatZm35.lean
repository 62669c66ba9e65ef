/-
  Layer 19, the program: Put.
  Contracts of layer 2's reference: U, S.
  Layer 14, the reference: Put (written by gen_ref14.py).
-/
import Derived.Test.YtedmnkcoflbciaaGreatCsG
import Derived.Test.YtedmnkcoflbciaaGreatZm13
import Derived.Test.YtedmnkcoflbciaaGreatZm00
import Derived.Test.YtedmnkcoflbciaaGreatZm12
namespace Go.Proofs.YtedmnkcoflbciaaGreat
open Go.RowKit Mem Go.Lib LebM UtfM VaM OpM AcM RleM CsM
attribute [local go_sem ↓] Go.wp_at_zero Go.wp_at_succ
set_option linter.unusedVariables false

theorem sheet_new {w : World} {g : Nat} (hg : w.heap.size = g) {v : World} (hv : w.alloc (.cells #[.slice none 0 0, .slice none 0 0, .slice none 0 0, .slice none 0 0, .slice none 0 0, .slice none 0 0, .slice none 0 0, .slice none 0 0, .slice none 0 0, .slice none 0 0, .slice none 0 0] 72) = v) (T : List Tx) :
    Sheet v g g (fun _ => False) (ctsOf T []) := by
  refine ⟨[⟨ctC [], none, 0⟩, ⟨ctC [], none, 0⟩, ⟨ctW [], none, 0⟩, ⟨ctC [], none, 0⟩, ⟨ctC [], none, 0⟩, ⟨ctB [], none, 0⟩, ⟨ctC [], none, 0⟩, ⟨ctV [], none, 0⟩, ⟨ctC [], none, 0⟩, ⟨ctC [], none, 0⟩, ⟨ctC [], none, 0⟩], ⟨?_, fun r hr => ?_, ?_, fun r hr => ?_, Nat.le_refl _, fun _ h => h.elim, fun _ h => h.elim⟩, rfl⟩
  · rw [← hv, ← hg]
    exact Row.new w _ _
  · simp only [List.mem_cons, List.not_mem_nil, or_false] at hr
    rcases hr with rfl | rfl | rfl | rfl | rfl | rfl | rfl | rfl | rfl | rfl | rfl <;> exact World.ownsRow_nil _ _ _ _
  · simp [apartR, Rw.v, Value.ownBlock]
  · simp only [List.mem_cons, List.not_mem_nil, or_false] at hr
    rcases hr with rfl | rfl | rfl | rfl | rfl | rfl | rfl | rfl | rfl | rfl | rfl <;> simp [Rw.v, Value.ownBlock]
theorem cts_snoc (T : List Tx) (l : List O) (o : O) : ctsOf T (l ++ [o]) = [ctC ((l.map fun o => oneA T o.elem) ++ [oneA T o.elem]), ctC (l.map keyC ++ [keyC o]), ctW (l.map keyT ++ [keyT o]), ctC ((l.map fun o => oneA T o.obj) ++ [oneA T o.obj]), ctC ((l.map fun o => oneC o.obj) ++ [oneC o.obj]),
    ctB (l.map O.ins ++ [o.ins]), ctC ((l.map fun o => (true, o.act)) ++ [(true, o.act)]), ctV (l.map O.val ++ [o.val]), ctC (l.map numC ++ [numC o]), ctC ((prs l).map (oneA T) ++ o.pr.map (oneA T)), ctC ((prs l).map oneC ++ o.pr.map oneC)] := by
  have e : prs (l ++ [o]) = prs l ++ o.pr := by simp [prs]
  unfold ctsOf
  rw [e]
  simp only [List.map_append, List.map_cons, List.map_nil]
set_option maxRecDepth 100000 in
set_option maxHeartbeats 6400000 in
/-- THE CONTRACT of Put -/
theorem cPut_any (A : Option Addr) (n c : Nat) (T : List Tx) (A2 : Option Addr) (n2 c2 : Nat) (L : List Om) (w : World) (hT : Rd w A n (T.map tc)) (hn : n ≤ 1000000) (hTl : ∀ x ∈ T, x.length ≤ 1000000) (hL : Ops w A2 n2 L) (hs : ∀ x ∈ L, x.short) (hfit : Fit T (L.map Om.o)) :
    Calls Tryz.prog 11 #[.slice A n c, .slice A2 n2 c2] w (ColsOut w (putS T (L.map Om.o))) := by
  have hl2 := hL.len
  have hlen := hfit.len
  rw [List.length_map, hl2] at hlen
  have HP := Lib.hid (placesOf_any A n c T w hT hn hTl)
  have HL := Lib.hid hL
  have HS := Lib.hid hs
  have HN := Lib.hid hl2
  have HFIT := Lib.hid hfit
  clear hT hL hs hl2 hfit
  go_enter Tryz.func11, Tryz.ntmps11
  go_wp2_with fail
  refine HP.out.mono ?_
  rintro e w1 ⟨m, rfl, hml, hmp, hf1⟩
  obtain ⟨g, hg⟩ : ∃ g, w1.heap.size = g := ⟨_, rfl⟩
  obtain ⟨w2, hw2⟩ : ∃ v, w1.alloc (.cells #[.slice none 0 0, .slice none 0 0, .slice none 0 0, .slice none 0 0, .slice none 0 0, .slice none 0 0, .slice none 0 0, .slice none 0 0, .slice none 0 0, .slice none 0 0, .slice none 0 0] 72) = v := ⟨_, rfl⟩
  have HSH := Lib.hid (sheet_new hg hw2 T)
  have hf2 : Fr (fun _ => False) w1 w2 := by rw [← hw2]; exact (Fr.refl _ _).alloc _
  have hgs : g ≤ w2.heap.size := by have := hf2.size; omega
  have HG : Hid (m < g ∧ w.heap.size ≤ g) := Lib.hid (by have h1 := hmp.lt; have h2 := hf1.size; omega)
  have HMP := Lib.hid (hmp.fr hf2 (fun h => h))
  have HF2 : Hid (Fr (fun k => g ≤ k) w2 w2) := Lib.hid (Fr.refl _ _)
  have HF0 := Lib.hid (hf1.trans hf2 (fun _ _ h => h))
  have HGS := Lib.hid hgs
  clear hml hmp hf1 hf2 hgs
  go_wp2_with fail
  clear hw2 hg
  go_loopw [13] (fun v wr => ∃ k : Nat, k ≤ n2 ∧ v = .int .i64 (k : Int) ∧ Hid (Sheet wr g g (fun _ => False) (ctsOf T ((L.take k).map Om.o))) ∧ Hid (Fr (fun k => g ≤ k) w2 wr)) (fun v _ => n2 - (intOf v).toNat)
  case atStart => exact ⟨0, Nat.zero_le _, rfl, HSH, HF2⟩
  case round =>
    obtain ⟨k, hk, rfl, HSK, HFK⟩ := hrel
    rename World => wr
    have hfw : Fr (fun _ => False) w wr := HF0.out.trans HFK.out (fun z hz e => by have := HG.out; omega)
    by_cases hlt : k < n2
    · obtain ⟨x, hx⟩ : ∃ x, L[k]? = some x := ⟨_, List.getElem?_eq_getElem (by have := HN.out; omega)⟩
      have hxm := List.mem_of_getElem? hx
      obtain ⟨bx, ox, rfl, hbx, hoat⟩ := (HL.out.fr hfw).1.2 k x hx
      have hprd := (HL.out.fr hfw).2 x hxm
      have hpl : 0 < x.o.pr.length → ∀ ad, x.A = some ad → ad.block < g := fun hp ad e => by
        obtain ⟨y, hy⟩ : ∃ y, x.o.pr[0]? = some y := ⟨_, List.getElem?_eq_getElem hp⟩
        obtain ⟨gy, oy, e2, hgy, _, _⟩ := (HL.out.2 x hxm).1.2 0 y hy
        rw [e] at e2
        injection e2 with e2
        subst e2
        have := HG.out.2
        exact Nat.lt_of_lt_of_le hgy this
      obtain ⟨q, v1, hq, hv1, hz1, hg1⟩ := new_zero wr
      have HV1 := Lib.hid hz1
      have HSV := Lib.hid (HSK.out.one hg1 (by omega) hz1.lt)
      have HQ : Hid (g ≤ q ∧ w.heap.size ≤ q) := Lib.hid (by have h1 := HGS.out; have h2 := HFK.out.size; have h3 := hfw.size; omega)
      have HFV : Hid (Fr (fun k => g ≤ k) w2 v1) := Lib.hid (HFK.out.trans hg1 (fun _ _ h => h.elim))
      have HST : Hid (ctsOf T ((L.take (k + 1)).map Om.o) = ctsOf T ((L.take k).map Om.o ++ [x.o])) := Lib.hid (by rw [List.take_add_one, hx]; simp)
      have hll : (L.take k).length = k := by rw [List.length_take]; have := HN.out; omega
      have hfk : Fit T ((L.take k).map Om.o) := by rw [List.map_take]; exact HFIT.out.take k
      have hplk := hfk.plen
      have HPK : Hid (((L.take k).map Om.o).length ≤ 2001 ∧ (prs ((L.take k).map Om.o)).length ≤ 32016) := Lib.hid ⟨hfk.len, hplk⟩
      have HX : Hid (x.short ∧ x.o.pr.length ≤ 16) := Lib.hid ⟨HS.out x hxm, (right_parts (HFIT.out.right x.o (List.mem_map.2 ⟨x, hxm, rfl⟩))).2.2.2.2.2.1⟩
      have HPR := Lib.hid (And.intro (hprd.fr0 hg1) hpl)
      obtain ⟨c0, c1, c2, c3, c4, c5, c6, c7, c8, c9, c10, c11, c12⟩ := hoat
      clear hx hxm hprd hpl hg1 hz1 hll hfk hplk HSK HFK hbx
      go_wp2_with (refine store_st oSz rfl (.tmp 8) (.tmp 16) rfl q (by rfl) (ols x) (by rfl) _ _ HV1.out rfl rfl (o_one _) ?_)
      intro v2 hr2 hf2
      have HV2 : Hid (RowO v2 q x) := Lib.hid hr2
      have HS2 : Hid (Sheet v2 g g (fun z => False ∨ z = q) (ctsOf T ((L.take k).map Om.o))) := Lib.hid (by
        obtain ⟨R, hS, e⟩ := HSV.out
        exact ⟨R, hS.scratch (Or.inr rfl) hf2, e⟩)
      have HF3 : Hid (Fr (fun k => g ≤ k) w2 v2) := Lib.hid (HFV.out.trans hf2 (fun z _ e => by rw [e]; exact HQ.out.1))
      have HPR2 : Hid (Prd v2 x ∧ (0 < x.o.pr.length → ∀ ad, x.A = some ad → ad.block < g)) := Lib.hid ⟨⟨by
        rcases Nat.eq_zero_or_pos x.o.pr.length with h0 | h0
        · rw [h0, List.eq_nil_of_length_eq_zero h0]; exact Prs.nil _ _
        · exact HPR.out.1.1.fr hf2 (fun ad e h => by have h1 := HPR.out.2 h0 ad e; have h2 := HQ.out.1; omega), HPR.out.1.2⟩, HPR.out.2⟩
      clear hr2 hf2 HSV HFV HV1 hv1 hq c0 c1 c2 c3 c4 c5 c6 c7 c8 c9 c10 c11 c12 hfw
      obtain ⟨d0, d1, d2, d3, d4, d5, d6, d7, d8, d9, d10, d11, d12⟩ := HV2.out.cells
      go_wp2_with fail
      clear d0 d1 d2 d3 d4 d5 d6 d7 d8 d9 d10 d11 d12
      refine (add_any m n T x g g _ _ _ _ _ _ _ _ _ _ _ _ _ HS2.out (HMP.out.fr HF3.out (fun h => by have := HG.out; omega)) HG.out.1 (by have h1 := HV2.out.lt; have h2 := HQ.out; omega) HPR2.out.1 HPR2.out.2 HX.out.1 (by have h := HPK.out; simp only [List.length_map] at h ⊢; omega) HX.out.2).mono ?_
      rintro e v3 ⟨rfl, hs3, hf3⟩
      have HS3 : Hid (Sheet v3 g g (fun _ => False) (ctsOf T ((L.take (k + 1)).map Om.o))) := Lib.hid (by
        rw [HST.out, cts_snoc]
        exact hs3.less (fun z hz => hz.elim))
      have HF4 : Hid (Fr (fun k => g ≤ k) w2 v3) := Lib.hid (HF3.out.trans hf3 (fun z _ h => h.1))
      clear hs3 hf3 HS2 HF3
      go_wp2_with fail
      go_roundw
      case rel => exact ⟨k + 1, by omega, by go_num, HS3, HF4⟩
      case measure => simp [intOf] <;> omega
    · obtain rfl : k = n2 := by omega
      have hall : L.take k = L := List.take_of_length_le (by have := HN.out; omega)
      rw [hall] at HSK
      have HFW := Lib.hid hfw
      clear hfw
      go_wp2_with fail
      refine (ccolumns_any g g _ T _ wr HSK.out HFIT.out).mono ?_
      rintro e w5 ⟨A5, n5, c5, K, rfl, h1, h2, h3, h4, h5, h6⟩
      have HC := Lib.hid (And.intro h1 (And.intro h2 (And.intro h3 (And.intro h4 h5))))
      have HF6 := Lib.hid (HFW.out.trans h6 (fun _ _ h => h))
      clear h1 h2 h3 h4 h5 h6
      go_wp2_with fail
      exact bodyPost_ret (v := .slice A5 n5 c5) (by simp [results, Tryz.results11, go_sem]) rfl ⟨A5, n5, c5, K, rfl, HC.out.1, HC.out.2.1, HC.out.2.2.1, HC.out.2.2.2.1, HC.out.2.2.2.2, HF6.out⟩
end Go.Proofs.YtedmnkcoflbciaaGreat
namespace Go.Proofs.YtedmnkcoflbciaaGreat
open Go.RowKit LebM Mem Go.Lib

theorem cons_app {w w1 w' : World} {b : UInt8} {L : List UInt8} {A' : Option Addr} {c' k : Nat} (hk : k = w.heap.size) (hf1 : Fr (fun _ => False) (w.alloc (.cells #[bytec b] 5)) w1)
    (hown' : w'.ownsRow w.heap.size 5 1 (.slice A' (1 + L.length) c') (1 + L.length) (bytec b :: L.map bytec))
    (hfr' : Fr (fun j => (Value.slice (some ⟨k, 0, none⟩) 1 1).ownBlock = some j) w1 w') : Gives w (b :: L) (.returned (.slice A' (1 + L.length) c')) w' := by
  subst hk
  refine ⟨A', c', by rw [Nat.add_comm]; rfl, ?_, ?_⟩
  · unfold Own
    rw [show (b :: L).length = 1 + L.length from by rw [Nat.add_comm]; rfl]
    exact hown'
  · exact (((Fr.refl _ w).alloc _).trans hf1 (fun _ _ h => h)).trans hfr' (fun j hj h => by simp [Value.ownBlock] at h; omega)

set_option maxRecDepth 100000 in
set_option maxHeartbeats 400000 in
theorem rU_any (n : Nat) (w : World) (hn : n < 18446744073709551616) :
    Calls Tryz.prog 60 #[.int .u64 (n : Int)] w (Gives w (u n)) := by
  induction n using u.induct generalizing w with
  | case1 n h =>
    go_enter Tryz.func60, Tryz.ntmps60
    go_wp2
    go_ret
    rw [u_small h]
    refine ⟨_, 1, rfl, ?_, (Fr.refl _ _).alloc _⟩
    rw [← bytec_ofNat (by omega)]
    exact own_one _ _ (Nat.le_refl _) rfl
  | case2 n h ih =>
    have H10 := u_len10 hn
    have hb0 : bytec (UInt8.ofNat (128 + n % 128)) = .int .u8 (128 + (n : Int) % 128) := by rw [bytec_ofNat (by omega)]; congr 1
    have hu := u_big h
    rw [hu] at H10 ⊢
    obtain ⟨b, hb⟩ : ∃ b, b = UInt8.ofNat (128 + n % 128) := ⟨_, rfl⟩
    rw [← hb] at hb0 H10 ⊢
    clear hb
    have hb := hb0
    clear hb0
    rw [List.length_cons] at H10
    clear hu
    have HB := Lib.hid hb
    clear hb
    go_enter Tryz.func60, Tryz.ntmps60
    go_wp2_with fail
    refine (ih _ (by omega)).mono ?_
    rintro e w1 ⟨A1, c1, rfl, hown1, hfr1⟩
    rw [← HB.out] at hfr1
    have h0 : w1.ownsRow w.heap.size 5 1 (.slice (some ⟨w.heap.size, 0, none⟩) 1 1) 1 [bytec b] := (own_one (w := w) b w.heap.size (Nat.le_refl _) rfl).fr hfr1
    have hsz := hfr1.size
    rw [HB.out] at hfr1
    go_wp2_with (at_builtin; refine wpList_app u8T _ rfl _ _ rfl w.heap.size _ _ _ rfl h0 _ _ _ _ rfl hown1.rd (bytec_one _) (by unfold maxLen; omega) (by omega) (by simp at hsz; omega) ?_)
    intro A' c' w' _ _ hown' hfr' _
    go_wp2
    go_ret
    rw [← HB.out] at hfr1
    exact cons_app rfl hfr1 hown' hfr'

/-- Go's quotient and rest -/
theorem quo_neg (n : Int) (h : n < 0) : n % 128 = 0 ∧ n.tmod 128 = 0 ∧ n.tdiv 128 = n / 128 ∨ n % 128 ≠ 0 ∧ n.tmod 128 = n % 128 - 128 ∧ n.tdiv 128 = n / 128 + 1 := by
  have h1 : n.tdiv 128 = -((-n) / 128) := by rw [← Int.neg_neg n, Int.neg_tdiv, Int.neg_neg, Int.tdiv_eq_ediv_of_nonneg (by omega)]
  have h2 := Int.tmod_add_mul_tdiv n 128
  omega

set_option maxRecDepth 100000 in
set_option maxHeartbeats 800000 in
theorem rS_any (n : Int) (w : World) (h0 : -9223372036854775808 ≤ n) (h1 : n < 9223372036854775808) :
    Calls Tryz.prog 61 #[.int .i64 n] w (Gives w (s n)) := by
  induction n using s.induct generalizing w with
  | case1 n h =>
    obtain ⟨ha, hb⟩ := h
    rw [s_small ⟨ha, hb⟩]
    have hbb : bytec (UInt8.ofNat (n % 128).toNat) = .int .u8 (n % 128) := by rw [bytec_ofNat (by omega)]; congr 1; omega
    have HB := Lib.hid hbb
    clear hbb
    by_cases hn : n < 0
    · have hq : n.tmod 128 = n := by rcases quo_neg n hn with h | h <;> omega
      have hw : n + 128 = n % 128 := by omega
      go_enter Tryz.func61, Tryz.ntmps61
      go_wp2
      go_ret
      refine ⟨_, 1, rfl, ?_, (Fr.refl _ _).alloc _⟩
      rw [← HB.out]
      exact own_one _ _ (Nat.le_refl _) rfl
    · have hw : n % 128 = n := by omega
      have HW := Lib.hid hw
      clear hw
      go_enter Tryz.func61, Tryz.ntmps61
      go_wp2
      go_ret
      refine ⟨_, 1, rfl, ?_, (Fr.refl _ _).alloc _⟩
      rw [← HB.out]
      exact own_one _ _ (Nat.le_refl _) rfl
  | case2 n h ih =>
    have H10 := s_len10 h0 h1
    have hb0 : bytec (UInt8.ofNat (128 + (n % 128).toNat)) = .int .u8 (128 + n % 128) := by rw [bytec_ofNat (by omega)]; congr 1; omega
    have hu := s_big h
    rw [hu] at H10 ⊢
    obtain ⟨b, hb⟩ : ∃ b, b = UInt8.ofNat (128 + (n % 128).toNat) := ⟨_, rfl⟩
    rw [← hb] at hb0 H10 ⊢
    clear hb
    have hb := hb0
    clear hb0
    rw [List.length_cons] at H10
    clear hu
    have HB := Lib.hid hb
    clear hb
    have hone : ∀ w1 : World, Fr (fun _ => False) (w.alloc (.cells #[.int .u8 (128 + n % 128)] 5)) w1 → w1.ownsRow w.heap.size 5 1 (.slice (some ⟨w.heap.size, 0, none⟩) 1 1) 1 [bytec b] := by
      intro w1 hf
      rw [← HB.out] at hf
      exact (own_one (w := w) b w.heap.size (Nat.le_refl _) rfl).fr hf
    have HO := Lib.hid hone
    clear hone
    have hsz : ∀ w1 : World, Fr (fun _ => False) (w.alloc (.cells #[.int .u8 (128 + n % 128)] 5)) w1 → w.heap.size ≤ w1.heap.size := by
      intro w1 hf
      have := hf.size
      simp at this
      omega
    have HS := Lib.hid hsz
    clear hsz
    by_cases hn : n < 0
    · rcases quo_neg n hn with ⟨hr, hm, hd⟩ | ⟨hr, hm, hd⟩
      · have H0 := Lib.hid hr
        have hlt : n < -64 := by omega
        rw [hr, Int.add_zero] at HB HO HS
        clear hr
        go_enter Tryz.func61, Tryz.ntmps61
        go_wp2_with fail
        refine (ih _ (by omega) (by omega)).mono ?_
        rintro e w1 ⟨A1, c1, rfl, hown1, hfr1⟩
        have hso := HO.out _ hfr1
        have hss := HS.out _ hfr1
        go_wp2_with (at_builtin; refine wpList_app u8T _ rfl _ _ rfl w.heap.size _ _ _ rfl hso _ _ _ _ rfl hown1.rd (bytec_one _) (by unfold maxLen; omega) (by omega) hss ?_)
        intro A' c' w' _ _ hown' hfr' _
        go_wp2
        go_ret
        rw [← HB.out] at hfr1
        exact cons_app rfl hfr1 hown' hfr'
      · have hlt : n < -64 := by omega
        obtain ⟨q, hq⟩ : ∃ q, q = n / 128 := ⟨_, rfl⟩
        obtain ⟨r, hr2⟩ : ∃ r, r = n % 128 := ⟨_, rfl⟩
        have hr0 : 0 < r := by omega
        have hr1 : r < 128 := by omega
        have hq0 : -9223372036854775808 ≤ q := by omega
        have hq1 : q < 0 := by omega
        rw [← hq] at hd ih H10 ⊢
        rw [← hr2] at hm HB HO HS
        clear hq hr2 hr
        go_enter Tryz.func61, Tryz.ntmps61
        go_wp2_with fail
        refine (ih _ (by omega) (by omega)).mono ?_
        rintro e w1 ⟨A1, c1, rfl, hown1, hfr1⟩
        have hso := HO.out _ hfr1
        have hss := HS.out _ hfr1
        go_wp2_with (at_builtin; refine wpList_app u8T _ rfl _ _ rfl w.heap.size _ _ _ rfl hso _ _ _ _ rfl hown1.rd (bytec_one _) (by unfold maxLen; omega) (by omega) hss ?_)
        intro A' c' w' _ _ hown' hfr' _
        go_wp2
        go_ret
        rw [← HB.out] at hfr1
        exact cons_app rfl hfr1 hown' hfr'
    · have hn64 : 64 ≤ n := by omega
      go_enter Tryz.func61, Tryz.ntmps61
      go_wp2_with fail
      refine (ih _ (by omega) (by omega)).mono ?_
      rintro e w1 ⟨A1, c1, rfl, hown1, hfr1⟩
      have hso := HO.out _ hfr1
      have hss := HS.out _ hfr1
      go_wp2_with (at_builtin; refine wpList_app u8T _ rfl _ _ rfl w.heap.size _ _ _ rfl hso _ _ _ _ rfl hown1.rd (bytec_one _) (by unfold maxLen; omega) (by omega) hss ?_)
      intro A' c' w' _ _ hown' hfr' _
      go_wp2
      go_ret
      rw [← HB.out] at hfr1
      exact cons_app rfl hfr1 hown' hfr'
end Go.Proofs.YtedmnkcoflbciaaGreat
namespace Go.Proofs.YtedmnkcoflbciaaGreat
open Go.RowKit Mem Go.Lib VaM LebM UtfM
attribute [local go_sem ↓] Go.wp_at_zero Go.wp_at_succ
set_option linter.unusedVariables false


set_option maxRecDepth 100000 in
set_option maxHeartbeats 1600000 in
theorem rputO0_any (v : V) (w : World) (hv : v.ok) (h : cl v.k = 0) : Calls Tryz.prog 56 #[valc v] w (Tells w (putV v)) := by
  rw [show putV v = [] from by simp [putV, h]]
  obtain ⟨g, hg⟩ : ∃ g, w.heap.size = g := ⟨_, rfl⟩
  obtain ⟨w1, hw1⟩ : ∃ w1, w.alloc (.cells #[.int .i64 v.k, .int .u64 (v.u : Int), .int .i64 v.n, .string (txt v.s)] 52) = w1 := ⟨_, rfl⟩
  have hf1 : Fr (fun _ => False) w w1 := by rw [← hw1]; exact (Fr.refl _ _).alloc _
  have hr1 : RowV w1 g v := by rw [← hw1, ← hg]; exact RowV.new w v
  obtain ⟨j0, j1, j2, j3⟩ := hr1.cells
  obtain ⟨k, hk⟩ : ∃ k, v.k = k := ⟨_, rfl⟩
  unfold valc
  rw [hk] at h hw1 j0 ⊢
  have HF1 := Lib.hid hf1
  clear hf1 hr1 hk hv
  rcases cl0 h with rfl | rfl | rfl
  all_goals
    go_enter Tryz.func56, Tryz.ntmps56
    go_wp2_with fail
    go_ret
    exact ⟨none, 0, rfl, Nat.le_refl _, Rd.nil _ _, HF1.out⟩

set_option maxRecDepth 100000 in
set_option maxHeartbeats 1600000 in
theorem rputO1_any (v : V) (w : World) (hv : v.ok) (h : cl v.k = 1) : Calls Tryz.prog 56 #[valc v] w (Tells w (putV v)) := by
  rw [show putV v = u v.u from by simp [putV, h]]
  obtain ⟨g, hg⟩ : ∃ g, w.heap.size = g := ⟨_, rfl⟩
  obtain ⟨w1, hw1⟩ : ∃ w1, w.alloc (.cells #[.int .i64 v.k, .int .u64 (v.u : Int), .int .i64 v.n, .string (txt v.s)] 52) = w1 := ⟨_, rfl⟩
  have hf1 : Fr (fun _ => False) w w1 := by rw [← hw1]; exact (Fr.refl _ _).alloc _
  have hr1 : RowV w1 g v := by rw [← hw1, ← hg]; exact RowV.new w v
  obtain ⟨j0, j1, j2, j3⟩ := hr1.cells
  obtain ⟨k, hk⟩ : ∃ k, v.k = k := ⟨_, rfl⟩
  unfold valc
  rw [hk] at h hw1 j0 ⊢
  have HF1 := Lib.hid hf1
  have hc := rU_any v.u w1 hv.2.1
  have HC := Lib.hid hc
  clear hc
  clear hf1 hr1 hk hv
  obtain rfl := cl1 h
  all_goals
    go_enter Tryz.func56, Tryz.ntmps56
    go_wp2_with fail
    refine HC.out.mono ?_
    intro e w5 h5
    obtain ⟨A5, c5, rfl, ho5, hf5⟩ := h5
    have HO5 := Lib.hid ho5
    have HF5 := Lib.hid (HF1.out.trans hf5 (fun _ _ h => h))
    clear ho5 hf5
    go_wp2_with fail
    go_ret
    exact ⟨A5, c5, rfl, HO5.out.cap.1, HO5.out.rd, HF5.out⟩

set_option maxRecDepth 100000 in
set_option maxHeartbeats 1600000 in
theorem rputO2_any (v : V) (w : World) (hv : v.ok) (h : cl v.k = 2) : Calls Tryz.prog 56 #[valc v] w (Tells w (putV v)) := by
  rw [show putV v = s v.n from by simp [putV, h]]
  obtain ⟨g, hg⟩ : ∃ g, w.heap.size = g := ⟨_, rfl⟩
  obtain ⟨w1, hw1⟩ : ∃ w1, w.alloc (.cells #[.int .i64 v.k, .int .u64 (v.u : Int), .int .i64 v.n, .string (txt v.s)] 52) = w1 := ⟨_, rfl⟩
  have hf1 : Fr (fun _ => False) w w1 := by rw [← hw1]; exact (Fr.refl _ _).alloc _
  have hr1 : RowV w1 g v := by rw [← hw1, ← hg]; exact RowV.new w v
  obtain ⟨j0, j1, j2, j3⟩ := hr1.cells
  obtain ⟨k, hk⟩ : ∃ k, v.k = k := ⟨_, rfl⟩
  unfold valc
  rw [hk] at h hw1 j0 ⊢
  have HF1 := Lib.hid hf1
  have hc := rS_any v.n w1 hv.2.2.1 hv.2.2.2
  have HC := Lib.hid hc
  clear hc
  clear hf1 hr1 hk hv
  rcases cl2 h with rfl | rfl | rfl
  all_goals
    go_enter Tryz.func56, Tryz.ntmps56
    go_wp2_with fail
    refine HC.out.mono ?_
    intro e w5 h5
    obtain ⟨A5, c5, rfl, ho5, hf5⟩ := h5
    have HO5 := Lib.hid ho5
    have HF5 := Lib.hid (HF1.out.trans hf5 (fun _ _ h => h))
    clear ho5 hf5
    go_wp2_with fail
    go_ret
    exact ⟨A5, c5, rfl, HO5.out.cap.1, HO5.out.rd, HF5.out⟩

set_option maxRecDepth 100000 in
set_option maxHeartbeats 1600000 in
theorem rputO3_any (v : V) (w : World) (hv : v.ok) (h : cl v.k = 3) : Calls Tryz.prog 56 #[valc v] w (Tells w (putV v)) := by
  rw [show putV v = v.s from by simp [putV, h]]
  obtain ⟨g, hg⟩ : ∃ g, w.heap.size = g := ⟨_, rfl⟩
  obtain ⟨w1, hw1⟩ : ∃ w1, w.alloc (.cells #[.int .i64 v.k, .int .u64 (v.u : Int), .int .i64 v.n, .string (txt v.s)] 52) = w1 := ⟨_, rfl⟩
  have hf1 : Fr (fun _ => False) w w1 := by rw [← hw1]; exact (Fr.refl _ _).alloc _
  have hr1 : RowV w1 g v := by rw [← hw1, ← hg]; exact RowV.new w v
  obtain ⟨j0, j1, j2, j3⟩ := hr1.cells
  obtain ⟨k, hk⟩ : ∃ k, v.k = k := ⟨_, rfl⟩
  unfold valc
  rw [hk] at h hw1 j0 ⊢
  have HF1 := Lib.hid hf1
  obtain ⟨A2, c2, w2, hb2, hc2, hr2, hf2⟩ := run_bytes v.s w1
  have HF2 := Lib.hid (hf1.trans hf2 (fun _ _ h => h))
  have HR2 := Lib.hid hr2
  have HC2 := Lib.hid hc2
  clear hr2 hc2 hf2
  clear hf1 hr1 hk hv
  obtain rfl := cl3 h
  all_goals
    go_enter Tryz.func56, Tryz.ntmps56
    go_wp2_with fail
    go_ret
    exact ⟨A2, c2, rfl, HC2.out, HR2.out, HF2.out⟩

set_option maxRecDepth 100000 in
set_option maxHeartbeats 1600000 in
theorem rputO4_any (v : V) (w : World) (hv : v.ok) (h : cl v.k = 4) : Calls Tryz.prog 56 #[valc v] w (Tells w (putV v)) := by
  rw [show putV v = v.s from by simp [putV, h]]
  obtain ⟨g, hg⟩ : ∃ g, w.heap.size = g := ⟨_, rfl⟩
  obtain ⟨w1, hw1⟩ : ∃ w1, w.alloc (.cells #[.int .i64 v.k, .int .u64 (v.u : Int), .int .i64 v.n, .string (txt v.s)] 52) = w1 := ⟨_, rfl⟩
  have hf1 : Fr (fun _ => False) w w1 := by rw [← hw1]; exact (Fr.refl _ _).alloc _
  have hr1 : RowV w1 g v := by rw [← hw1, ← hg]; exact RowV.new w v
  obtain ⟨j0, j1, j2, j3⟩ := hr1.cells
  obtain ⟨k, hk⟩ : ∃ k, v.k = k := ⟨_, rfl⟩
  unfold valc
  rw [hk] at h hw1 j0 ⊢
  have HF1 := Lib.hid hf1
  obtain ⟨A2, c2, w2, hb2, hc2, hr2, hf2⟩ := run_bytes v.s w1
  have HF2 := Lib.hid (hf1.trans hf2 (fun _ _ h => h))
  have HR2 := Lib.hid hr2
  have HC2 := Lib.hid hc2
  clear hr2 hc2 hf2
  clear hf1 hr1 hk hv
  obtain rfl := cl4 h
  all_goals
    go_enter Tryz.func56, Tryz.ntmps56
    go_wp2_with fail
    go_ret
    exact ⟨A2, c2, rfl, HC2.out, HR2.out, HF2.out⟩

set_option maxRecDepth 100000 in
set_option maxHeartbeats 1600000 in
theorem rputO5_any (v : V) (w : World) (hv : v.ok) (h : cl v.k = 5) : Calls Tryz.prog 56 #[valc v] w (Tells w (putV v)) := by
  rw [show putV v = [] from by simp [putV, h]]
  obtain ⟨g, hg⟩ : ∃ g, w.heap.size = g := ⟨_, rfl⟩
  obtain ⟨w1, hw1⟩ : ∃ w1, w.alloc (.cells #[.int .i64 v.k, .int .u64 (v.u : Int), .int .i64 v.n, .string (txt v.s)] 52) = w1 := ⟨_, rfl⟩
  have hf1 : Fr (fun _ => False) w w1 := by rw [← hw1]; exact (Fr.refl _ _).alloc _
  have hr1 : RowV w1 g v := by rw [← hw1, ← hg]; exact RowV.new w v
  obtain ⟨j0, j1, j2, j3⟩ := hr1.cells
  obtain ⟨k, hk⟩ : ∃ k, v.k = k := ⟨_, rfl⟩
  unfold valc
  rw [hk] at h hw1 j0 ⊢
  have HF1 := Lib.hid hf1
  have h5 := cl5 h
  have t3 : (k == 3) = false := by simp; omega
  have t4 : (k == 4) = false := by simp; omega
  have t5 : (k == 5) = false := by simp; omega
  have t6 : (k == 6) = false := by simp; omega
  have t7 : (k == 7) = false := by simp; omega
  have t8 : (k == 8) = false := by simp; omega
  clear h5
  clear hf1 hr1 hk hv
  skip
  all_goals
    go_enter Tryz.func56, Tryz.ntmps56
    go_wp2_with fail
    go_ret
    exact ⟨none, 0, rfl, Nat.le_refl _, Rd.nil _ _, HF1.out⟩

theorem rvPut_any (v : V) (w : World) (hv : v.ok) : Calls Tryz.prog 56 #[valc v] w (Tells w (putV v)) := by
  have hc := cl_le v.k
  rcases (show cl v.k = 0 ∨ cl v.k = 1 ∨ cl v.k = 2 ∨ cl v.k = 3 ∨ cl v.k = 4 ∨ cl v.k = 5 by omega) with e | e | e | e | e | e
  · exact rputO0_any v w hv e
  · exact rputO1_any v w hv e
  · exact rputO2_any v w hv e
  · exact rputO3_any v w hv e
  · exact rputO4_any v w hv e
  · exact rputO5_any v w hv e
end Go.Proofs.YtedmnkcoflbciaaGreat
