/-
  Layer 19, the program: Put.
  Contracts of layer 2's reference: U, S.
-/
import Derived.Test.YtohbcepbodcapaaZm47
import Derived.Test.YtohbcepbodcapaaZm20
import Derived.Test.YtohbcepbodcapaaZm02
namespace Go.Proofs.Ytohbcepbodcapaa
open Go.RowKit Mem Go.Lib LebM UtfM VaM OpM AcM RleM CsM
attribute [local go_sem ↓] Go.wp_at_zero Go.wp_at_succ
set_option linter.unusedVariables false

theorem sheet_new {w : World} {g : Nat} (hg : w.heap.size = g) {v : World} (hv : w.alloc (.cells #[.slice none 0 0, .slice none 0 0, .slice none 0 0, .slice none 0 0, .slice none 0 0, .slice none 0 0, .slice none 0 0, .slice none 0 0, .slice none 0 0, .slice none 0 0, .slice none 0 0] 55) = v) (T : List Tx) :
    Sheet v g g (fun _ => False) (ctsOf T []) := by
  refine ⟨[⟨ctC [], none, 0⟩, ⟨ctC [], none, 0⟩, ⟨ctW [], none, 0⟩, ⟨ctC [], none, 0⟩, ⟨ctC [], none, 0⟩, ⟨ctB [], none, 0⟩, ⟨ctC [], none, 0⟩, ⟨ctV [], none, 0⟩, ⟨ctC [], none, 0⟩, ⟨ctC [], none, 0⟩, ⟨ctC [], none, 0⟩], ⟨?_, fun r hr => ?_, ?_, fun r hr => ?_, Nat.le_refl _, fun _ h => h.elim, fun _ h => h.elim⟩, rfl⟩
  · rw [← hv, ← hg]
    exact Row.new w _ _
  · simp only [List.mem_cons, List.not_mem_nil, or_false] at hr
    rcases hr with rfl | rfl | rfl | rfl | rfl | rfl | rfl | rfl | rfl | rfl | rfl <;> exact World.ownsRow_nil _ _ _ _
  · simp [apartR, Rw.v, Value.ownBlock]
  · simp only [List.mem_cons, List.not_mem_nil, or_false] at hr
    rcases hr with rfl | rfl | rfl | rfl | rfl | rfl | rfl | rfl | rfl | rfl | rfl <;> simp [Rw.v, Value.ownBlock]
theorem cts_snoc (T : List Tx) (l : List O) (o : O) : ctsOf T (l ++ [o]) = [ctC ((l.map fun o => oneA T o.elem) ++ [oneA T o.elem]), ctC (l.map keyC ++ [keyC o]), ctW (l.map keyT ++ [keyT o]), ctC ((l.map fun o => oneA T o.obj) ++ [oneA T o.obj]), ctC ((l.map fun o => oneC o.obj) ++ [oneC o.obj]),
    ctB (l.map O.ins ++ [o.ins]), ctC ((l.map fun o => (true, o.act)) ++ [(true, o.act)]), ctV (l.map O.val ++ [o.val]), ctC (l.map numC ++ [numC o]), ctC ((prs l).map (oneA T) ++ o.pr.map (oneA T)), ctC ((prs l).map oneC ++ o.pr.map oneC)] := by
  have e : prs (l ++ [o]) = prs l ++ o.pr := by simp [prs]
  unfold ctsOf
  rw [e]
  simp only [List.map_append, List.map_cons, List.map_nil]
set_option maxRecDepth 100000 in
set_option maxHeartbeats 6400000 in
/-- THE CONTRACT of Put -/
theorem cPut_any (A : Option Addr) (n c : Nat) (T : List Tx) (A2 : Option Addr) (n2 c2 : Nat) (L : List Om) (w : World) (hT : Rd w A n (T.map tc)) (hn : n ≤ 1000000) (hTl : ∀ x ∈ T, x.length ≤ 1000000) (hL : Ops w A2 n2 L) (hs : ∀ x ∈ L, x.short) (hfit : Fit T (L.map Om.o)) :
    Calls Try.prog 7 #[.slice A n c, .slice A2 n2 c2] w (ColsOut w (putS T (L.map Om.o))) := by
  have hl2 := hL.len
  have hlen := hfit.len
  rw [List.length_map, hl2] at hlen
  have HP := Lib.hid (placesOf_any A n c T w hT hn hTl)
  have HL := Lib.hid hL
  have HS := Lib.hid hs
  have HN := Lib.hid hl2
  have HFIT := Lib.hid hfit
  clear hT hL hs hl2 hfit
  go_enter Try.func7, Try.ntmps7
  go_wp2_with fail
  refine HP.out.mono ?_
  rintro e w1 ⟨m, rfl, hml, hmp, hf1⟩
  obtain ⟨g, hg⟩ : ∃ g, w1.heap.size = g := ⟨_, rfl⟩
  obtain ⟨w2, hw2⟩ : ∃ v, w1.alloc (.cells #[.slice none 0 0, .slice none 0 0, .slice none 0 0, .slice none 0 0, .slice none 0 0, .slice none 0 0, .slice none 0 0, .slice none 0 0, .slice none 0 0, .slice none 0 0, .slice none 0 0] 55) = v := ⟨_, rfl⟩
  have HSH := Lib.hid (sheet_new hg hw2 T)
  have hf2 : Fr (fun _ => False) w1 w2 := by rw [← hw2]; exact (Fr.refl _ _).alloc _
  have hgs : g ≤ w2.heap.size := by have := hf2.size; omega
  have HG : Hid (m < g ∧ w.heap.size ≤ g) := Lib.hid (by have h1 := hmp.lt; have h2 := hf1.size; omega)
  have HMP := Lib.hid (hmp.fr hf2 (fun h => h))
  have HF2 : Hid (Fr (fun k => g ≤ k) w2 w2) := Lib.hid (Fr.refl _ _)
  have HF0 := Lib.hid (hf1.trans hf2 (fun _ _ h => h))
  have HGS := Lib.hid hgs
  clear hml hmp hf1 hf2 hgs
  go_wp2_with fail
  clear hw2 hg
  go_loopw [13] (fun v wr => ∃ k : Nat, k ≤ n2 ∧ v = .int .i64 (k : Int) ∧ Hid (Sheet wr g g (fun _ => False) (ctsOf T ((L.take k).map Om.o))) ∧ Hid (Fr (fun k => g ≤ k) w2 wr)) (fun v _ => n2 - (intOf v).toNat)
  case atStart => exact ⟨0, Nat.zero_le _, rfl, HSH, HF2⟩
  case round =>
    obtain ⟨k, hk, rfl, HSK, HFK⟩ := hrel
    rename World => wr
    have hfw : Fr (fun _ => False) w wr := HF0.out.trans HFK.out (fun z hz e => by have := HG.out; omega)
    by_cases hlt : k < n2
    · obtain ⟨x, hx⟩ : ∃ x, L[k]? = some x := ⟨_, List.getElem?_eq_getElem (by have := HN.out; omega)⟩
      have hxm := List.mem_of_getElem? hx
      obtain ⟨bx, ox, rfl, hbx, hoat⟩ := (HL.out.fr hfw).1.2 k x hx
      have hprd := (HL.out.fr hfw).2 x hxm
      have hpl : 0 < x.o.pr.length → ∀ ad, x.A = some ad → ad.block < g := fun hp ad e => by
        obtain ⟨y, hy⟩ : ∃ y, x.o.pr[0]? = some y := ⟨_, List.getElem?_eq_getElem hp⟩
        obtain ⟨gy, oy, e2, hgy, _, _⟩ := (HL.out.2 x hxm).1.2 0 y hy
        rw [e] at e2
        injection e2 with e2
        subst e2
        have := HG.out.2
        exact Nat.lt_of_lt_of_le hgy this
      obtain ⟨q, v1, hq, hv1, hz1, hg1⟩ := new_zero wr
      have HV1 := Lib.hid hz1
      have HSV := Lib.hid (HSK.out.one hg1 (by omega) hz1.lt)
      have HQ : Hid (g ≤ q ∧ w.heap.size ≤ q) := Lib.hid (by have h1 := HGS.out; have h2 := HFK.out.size; have h3 := hfw.size; omega)
      have HFV : Hid (Fr (fun k => g ≤ k) w2 v1) := Lib.hid (HFK.out.trans hg1 (fun _ _ h => h.elim))
      have HST : Hid (ctsOf T ((L.take (k + 1)).map Om.o) = ctsOf T ((L.take k).map Om.o ++ [x.o])) := Lib.hid (by rw [List.take_add_one, hx]; simp)
      have hll : (L.take k).length = k := by rw [List.length_take]; have := HN.out; omega
      have hfk : Fit T ((L.take k).map Om.o) := by rw [List.map_take]; exact HFIT.out.take k
      have hplk := hfk.plen
      have HPK : Hid (((L.take k).map Om.o).length ≤ 2001 ∧ (prs ((L.take k).map Om.o)).length ≤ 32016) := Lib.hid ⟨hfk.len, hplk⟩
      have HX : Hid (x.short ∧ x.o.pr.length ≤ 16) := Lib.hid ⟨HS.out x hxm, (right_parts (HFIT.out.right x.o (List.mem_map.2 ⟨x, hxm, rfl⟩))).2.2.2.2.2.1⟩
      have HPR := Lib.hid (And.intro (hprd.fr0 hg1) hpl)
      obtain ⟨c0, c1, c2, c3, c4, c5, c6, c7, c8, c9, c10, c11, c12⟩ := hoat
      clear hx hxm hprd hpl hg1 hz1 hll hfk hplk HSK HFK hbx
      go_wp2_with (refine store_st oSz rfl (.tmp 8) (.tmp 16) rfl q (by rfl) (ols x) (by rfl) _ _ HV1.out rfl rfl (o_one _) ?_)
      intro v2 hr2 hf2
      have HV2 : Hid (RowO v2 q x) := Lib.hid hr2
      have HS2 : Hid (Sheet v2 g g (fun z => False ∨ z = q) (ctsOf T ((L.take k).map Om.o))) := Lib.hid (by
        obtain ⟨R, hS, e⟩ := HSV.out
        exact ⟨R, hS.scratch (Or.inr rfl) hf2, e⟩)
      have HF3 : Hid (Fr (fun k => g ≤ k) w2 v2) := Lib.hid (HFV.out.trans hf2 (fun z _ e => by rw [e]; exact HQ.out.1))
      have HPR2 : Hid (Prd v2 x ∧ (0 < x.o.pr.length → ∀ ad, x.A = some ad → ad.block < g)) := Lib.hid ⟨⟨by
        rcases Nat.eq_zero_or_pos x.o.pr.length with h0 | h0
        · rw [h0, List.eq_nil_of_length_eq_zero h0]; exact Prs.nil _ _
        · exact HPR.out.1.1.fr hf2 (fun ad e h => by have h1 := HPR.out.2 h0 ad e; have h2 := HQ.out.1; omega), HPR.out.1.2⟩, HPR.out.2⟩
      clear hr2 hf2 HSV HFV HV1 hv1 hq c0 c1 c2 c3 c4 c5 c6 c7 c8 c9 c10 c11 c12 hfw
      obtain ⟨d0, d1, d2, d3, d4, d5, d6, d7, d8, d9, d10, d11, d12⟩ := HV2.out.cells
      go_wp2_with fail
      clear d0 d1 d2 d3 d4 d5 d6 d7 d8 d9 d10 d11 d12
      refine (add_any m n T x g g _ _ _ _ _ _ _ _ _ _ _ _ _ HS2.out (HMP.out.fr HF3.out (fun h => by have := HG.out; omega)) HG.out.1 (by have h1 := HV2.out.lt; have h2 := HQ.out; omega) HPR2.out.1 HPR2.out.2 HX.out.1 (by have h := HPK.out; simp only [List.length_map] at h ⊢; omega) HX.out.2).mono ?_
      rintro e v3 ⟨rfl, hs3, hf3⟩
      have HS3 : Hid (Sheet v3 g g (fun _ => False) (ctsOf T ((L.take (k + 1)).map Om.o))) := Lib.hid (by
        rw [HST.out, cts_snoc]
        exact hs3.less (fun z hz => hz.elim))
      have HF4 : Hid (Fr (fun k => g ≤ k) w2 v3) := Lib.hid (HF3.out.trans hf3 (fun z _ h => h.1))
      clear hs3 hf3 HS2 HF3
      go_wp2_with fail
      go_roundw
      case rel => exact ⟨k + 1, by omega, by go_num, HS3, HF4⟩
      case measure => simp [intOf] <;> omega
    · obtain rfl : k = n2 := by omega
      have hall : L.take k = L := List.take_of_length_le (by have := HN.out; omega)
      rw [hall] at HSK
      have HFW := Lib.hid hfw
      clear hfw
      go_wp2_with fail
      refine (columns_any g g _ T _ wr HSK.out HFIT.out).mono ?_
      rintro e w5 ⟨A5, n5, c5, K, rfl, h1, h2, h3, h4, h5, h6⟩
      have HC := Lib.hid (And.intro h1 (And.intro h2 (And.intro h3 (And.intro h4 h5))))
      have HF6 := Lib.hid (HFW.out.trans h6 (fun _ _ h => h))
      clear h1 h2 h3 h4 h5 h6
      go_wp2_with fail
      exact bodyPost_ret (v := .slice A5 n5 c5) (by simp [results, Try.results7, go_sem]) rfl ⟨A5, n5, c5, K, rfl, HC.out.1, HC.out.2.1, HC.out.2.2.1, HC.out.2.2.2.1, HC.out.2.2.2.2, HF6.out⟩
end Go.Proofs.Ytohbcepbodcapaa
namespace Go.Proofs.Ytohbcepbodcapaa
open Go.RowKit LebM Mem Go.Lib

theorem cons_app {w w1 w' : World} {b : UInt8} {L : List UInt8} {A' : Option Addr} {c' k : Nat} (hk : k = w.heap.size) (hf1 : Fr (fun _ => False) (w.alloc (.cells #[bytec b] 5)) w1)
    (hown' : w'.ownsRow w.heap.size 5 1 (.slice A' (1 + L.length) c') (1 + L.length) (bytec b :: L.map bytec))
    (hfr' : Fr (fun j => (Value.slice (some ⟨k, 0, none⟩) 1 1).ownBlock = some j) w1 w') : Gives w (b :: L) (.returned (.slice A' (1 + L.length) c')) w' := by
  subst hk
  refine ⟨A', c', by rw [Nat.add_comm]; rfl, ?_, ?_⟩
  · unfold Own
    rw [show (b :: L).length = 1 + L.length from by rw [Nat.add_comm]; rfl]
    exact hown'
  · exact (((Fr.refl _ w).alloc _).trans hf1 (fun _ _ h => h)).trans hfr' (fun j hj h => by simp [Value.ownBlock] at h; omega)

/-- Go's quotient and rest -/
theorem quo_neg (n : Int) (h : n < 0) : n % 128 = 0 ∧ n.tmod 128 = 0 ∧ n.tdiv 128 = n / 128 ∨ n % 128 ≠ 0 ∧ n.tmod 128 = n % 128 - 128 ∧ n.tdiv 128 = n / 128 + 1 := by
  have h1 : n.tdiv 128 = -((-n) / 128) := by rw [← Int.neg_neg n, Int.neg_tdiv, Int.neg_neg, Int.tdiv_eq_ediv_of_nonneg (by omega)]
  have h2 := Int.tmod_add_mul_tdiv n 128
  omega

end Go.Proofs.Ytohbcepbodcapaa
