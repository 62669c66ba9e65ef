/-
  Layer 19, the reference: Put (written by gen_rput19.py).
  Layer 19, the law ColsPuts: same (written by gen_laws19.py).
  Layer 19, the law ColsPuts (written by gen_laws19.py).
  Layer 17's rows: arguments that are names, ops, slices of ops, read.
-/
import Derived.Test.YtedmnkcoflbciaaGreatRcI
import Derived.Test.YtedmnkcoflbciaaGreatRcJ
import Derived.Test.YtedmnkcoflbciaaGreatZm53
import Derived.Test.YtedmnkcoflbciaaGreatZm04
import Derived.Test.YtedmnkcoflbciaaGreatZm51
import Derived.Test.YtedmnkcoflbciaaGreatLebC
import Derived.Test.YtedmnkcoflbciaaGreatZm00
import Derived.Test.YtedmnkcoflbciaaGreatZm18
import Derived.Test.YtedmnkcoflbciaaGreatZm28
import Derived.BigQuiet
import Derived.Test.YtedmnkcoflbciaaGreatZm40
import Derived.WalkMore
import Derived.Deep.Slices
import Derived.Deep.Fields
import Derived.ChangeMaps5
namespace Go.Proofs.YtedmnkcoflbciaaGreat
open Go.RowKit Mem Go.Lib LebM UtfM VaM OpM AcM RleM CsM DirM
attribute [local go_sem ↓] Go.wp_at_zero Go.wp_at_succ
set_option linter.unusedVariables false

theorem Prs.old {τ : Type} {p q : τ → Value} {w w' : World} {A : Option Addr} {n : Nat} {L : List τ} (h : Prs p q w A n L) (hf : Fr (fun k => w.heap.size ≤ k) w w') : Prs p q w' A n L :=
  ⟨h.1, fun k t hk => by
    obtain ⟨g, o, e, hg, h1, h2⟩ := h.2 k t hk
    exact ⟨g, o, e, Nat.lt_of_lt_of_le hg hf.size, hf.cell h1 (by show ¬ _ ≤ g; omega), hf.cell h2 (by show ¬ _ ≤ g; omega)⟩⟩
theorem Ops.old {w w' : World} {A : Option Addr} {n : Nat} {L : List Om} (h : Ops w A n L) (hf : Fr (fun k => w.heap.size ≤ k) w w') : Ops w' A n L :=
  ⟨⟨h.1.1, fun k x hk => by
    obtain ⟨b, o, e, hb, hc⟩ := h.1.2 k x hk
    exact ⟨b, o, e, Nat.lt_of_lt_of_le hb hf.size, hc.fr hf (by show ¬ _ ≤ b; omega)⟩⟩, fun x hx => ⟨(h.2 x hx).1.old hf, (h.2 x hx).2⟩⟩
theorem rd_old {w w' : World} {A : Option Addr} {n : Nat} {xs : List Value} (h : Rd w A n xs) (hf : Fr (fun k => w.heap.size ≤ k) w w') : Rd w' A n xs :=
  h.frp hf (fun hn ad e => by have := h.lt hn ad e; show ¬ _ ≤ ad.block; omega)
theorem cls_of {w : World} {base n : Nat} {A : Option Addr} {c : Nat} {L : List C} (hn : L.length = n) (h : Rw.own w base ⟨⟨77, 2, n, L.flatMap (ccells nv)⟩, A, c⟩) : Cls nv w A n L := by
  subst hn
  exact OwnC.cls (T := 77) h
set_option maxRecDepth 1000000 in
set_option maxHeartbeats 12800000 in
/-- THE CONTRACT of the reference's Put -/
theorem rcPut_any (AT : Option Addr) (nT cT : Nat) (T : List Tx) (AO : Option Addr) (n2 cO : Nat) (L : List Om) (w : World) (hT : Rd w AT nT (T.map tc)) (hnT : nT ≤ 1000000000) (hL : Ops w AO n2 L) (hs : ∀ x ∈ L, x.short) (hfit : Fit T (L.map Om.o)) :
    Calls Tryz.prog 12 #[.slice AT nT cT, .slice AO n2 cO] w fun e w' => ∃ A' c', e = .returned (.slice A' (putS T (L.map Om.o)).length c') ∧ OwnP ridc rtxt 39 w' w.heap.size A' c' (putS T (L.map Om.o)) ∧ Fr (fun _ => False) w w' := by
  obtain ⟨g, hg⟩ : ∃ g, w.heap.size = g := ⟨_, rfl⟩
  obtain ⟨w1, hw1⟩ : ∃ v, w.alloc (.cells #[.slice none 0 0, .slice none 0 0, .slice none 0 0, .slice none 0 0, .slice none 0 0, .slice none 0 0, .slice none 0 0, .slice none 0 0, .slice none 0 0, .slice none 0 0, .slice none 0 0, .slice none 0 0] 75) = v := ⟨_, rfl⟩
  have hf1 : Fr (fun _ => False) w w1 := by rw [← hw1]; exact (Fr.refl _ _).alloc _
  have hG : Row w1 g 75 (List.replicate 12 (.slice none 0 0)) := by rw [← hw1, ← hg]; exact Row.new w _ _
  have HG := Lib.hid hG
  have HF1 := Lib.hid hf1
  have hln := hL.len
  have hlen := hfit.len
  rw [List.length_map, hln] at hlen
  have HL : Hid (∀ w', Fr (fun k => g ≤ k) w1 w' → Ops w' AO n2 L ∧ Rd w' AT nT (T.map tc)) := Lib.hid (fun w' hf => by
    have h : Fr (fun k => w.heap.size ≤ k) w w' := by rw [hg]; exact (HF1.out.mono (fun _ _ h => h.elim)).trans hf (fun _ _ h => h)
    exact ⟨hL.old h, rd_old hT h⟩)
  have HFIT0 := Lib.hid hfit
  obtain ⟨l, hl⟩ : ∃ l, L.map Om.o = l := ⟨_, rfl⟩
  rw [hl] at hfit ⊢
  have HFIT := Lib.hid hfit
  have HLL := Lib.hid hl
  have HLN := Lib.hid hln
  have HSH := Lib.hid hs
  have HGS : Hid (w.heap.size = g) := Lib.hid hg
  clear hf1 hG hln hfit hs hL hT hl
  go_enter Tryz.func12, Tryz.ntmps12
  go_wp2_with fail
  clear hw1 hg
  refine rputL_loop _ _ _ _ _ _ _ _ _ _ _ _ _ _ _ _ _ _ _ _ _ _ _ _ _ _ _ _ _ _ _ _ _ _ _ _ _ _ _ _ _ _ _ _ _ _ _ _ _ _ _ _ _ _ _ _ _ _ _ _ _ _ _ _ _ _ _ _ _ _ _ _ _ _ _ _ _ _ _ _ _ _ _ _ _ _ _ _ _ _ _ _ _ _ _ _ _ _ _ _ _ _ _ _ _ _ _ _ _ _ _ _ _ _ _ _ _ _ _ _ _ _ _ _ _ _ _ _ _ _ _ _ _ _ _ _ _ _ _ _ _ _ _ _ _ _ _ _ _ _ _ _ _ _ _ _ _ _ _ _ _ _ _ _ _ _ _ _ _ _ _ _ _ _ _ _ _ _ _ _ _ _ _ _ _ _ _ _ _ _ _ _ _ _ _ _ _ _ _ _ _ _ _ _ _ _ _ _ _ _ _ _ _ _ _ _ _ _ _ _ _ _ _ _ _ _ _ _ _ _ _ _ _ _ _ _ _ _ _ _ w1 g nT cT n2 cO AT AO T L HG HFIT0 HLN HSH hnT HL ?_
  intro A0 A1 A2 A3 A6 A9 A10 A11 A12 A13 A14 c0 c1 c2 c3 c6 c9 c10 c11 c12 c13 c14 w2 a10 a11 a12 a13 a14 a15 a16 a17 a23 a24 a25 a26 a27 a28 a29 a30 a31 a32 a33 a34 a35 a36 a37 a38 a39 a40 a41 a42 a43 a44 a45 a46 a47 a48 a49 a50 a51 a52 a53 a54 a55 a56 a57 a58 a59 a60 a61 a62 a63 a64 a65 a66 a67 a68 a69 a70 a71 a72 a73 a74 a75 a76 a77 a78 a79 a80 a81 a82 a83 a84 a85 a86 a87 a88 a89 a90 a91 a92 a93 a94 a95 a96 a97 a98 a99 a100 a101 a102 a103 a104 a105 a106 a107 a108 a109 a110 a111 a112 a113 a114 a115 a116 a117 a118 a119 a120 a121 a122 a123 a124 a125 a126 a127 a128 a129 a130 a131 a132 a133 a134 a135 a136 a137 a138 a139 a140 a141 a142 a143 a144 a145 a146 a147 a148 a149 a150 a151 a152 a153 a154 a155 a156 a157 a158 a159 a160 a161 a162 a163 a164 a165 a166 a167 a168 a169 a170 HR HF2
  have hfl := HLN.out
  have hl := HLL.out
  rw [hl] at HR
  have hll : l.length = n2 := by rw [← hl, List.length_map]; exact HLN.out
  have hpl := HFIT.out.plen
  obtain ⟨m, hm⟩ : ∃ m, (prs l).length = m := ⟨_, rfl⟩
  rw [hm] at HR hpl
  have hr := HR.out
  unfold Rsh at hr
  have ha := hr.all
  simp only [List.mem_cons, List.not_mem_nil, or_false, forall_eq_or_imp, forall_eq] at ha
  obtain ⟨o0, o1, o2, o3, o4, o5, o6, o7, o8, o9, o10, o11, o12, o13, o14⟩ := ha
  have H0 := Lib.hid (cls_of (by rw [List.length_map]; exact hll) o0)
  have H1 := Lib.hid (cls_of (by rw [List.length_map]; exact hll) o1)
  have H2 := Lib.hid (cls_of (by rw [List.length_map]; exact hll) o2)
  have H3 := Lib.hid (cls_of (by rw [List.length_map]; exact hll) o3)
  have H6 := Lib.hid (cls_of (by rw [List.length_map]; exact hll) o6)
  have H9 := Lib.hid (cls_of (by rw [List.length_map]; exact hll) o9)
  have h10 : Cls nv w2 A10 ((prs l).map (CsM.oneA T)).length ((prs l).map (CsM.oneA T)) := OwnC.cls (T := 77) o10
  have h11 : Cls nv w2 A11 ((prs l).map CsM.oneC).length ((prs l).map CsM.oneC) := OwnC.cls (T := 77) o11
  rw [List.length_map, hm] at h10 h11
  have H10 := Lib.hid h10
  have H11 := Lib.hid h11
  have h12 : Cls sv w2 A12 n2 (l.map CsM.keyT) := by
    have hk : (l.map CsM.keyT).length = n2 := by rw [List.length_map]; exact hll
    rw [← hk]
    rw [← hk] at o12
    exact OwnC.cls (T := 80) o12
  have h13 : Rd w2 A13 n2 ((l.map O.ins).map boc) := by
    have e : (l.map O.ins).map boc = l.map fun o => boc o.ins := by rw [List.map_map]; rfl
    rw [e]
    exact Rd.of_own o13
  have h14 : Vls w2 A14 n2 (l.map O.val) := by
    have hk : (l.map O.val).length = n2 := by rw [List.length_map]; exact hll
    rw [← hk]
    rw [← hk] at o14
    exact OwnV.vls o14
  have H12 := Lib.hid h12
  have H13 := Lib.hid h13
  have HC : Hid (∀ w', Fr (fun _ => False) w2 w' → w'.cell? ⟨g, 0, none⟩ = some (.slice A0 n2 c0) ∧ w'.cell? ⟨g, 1, none⟩ = some (.slice A1 n2 c1) ∧ w'.cell? ⟨g, 2, none⟩ = some (.slice A2 n2 c2) ∧ w'.cell? ⟨g, 3, none⟩ = some (.slice A3 n2 c3) ∧ w'.cell? ⟨g, 6, none⟩ = some (.slice A6 n2 c6) ∧ w'.cell? ⟨g, 9, none⟩ = some (.slice A9 n2 c9) ∧ w'.cell? ⟨g, 10, none⟩ = some (.slice A10 m c10) ∧ w'.cell? ⟨g, 11, none⟩ = some (.slice A11 m c11)) := Lib.hid (fun w' hf => ⟨(hr.row.fr hf (fun h => h)).cell rfl, (hr.row.fr hf (fun h => h)).cell rfl, (hr.row.fr hf (fun h => h)).cell rfl, (hr.row.fr hf (fun h => h)).cell rfl, (hr.row.fr hf (fun h => h)).cell rfl, (hr.row.fr hf (fun h => h)).cell rfl, (hr.row.fr hf (fun h => h)).cell rfl, (hr.row.fr hf (fun h => h)).cell rfl⟩)
  have HF2' : Hid (Fr (fun _ => False) w w2) := Lib.hid (HF1.out.trans HF2.out (fun k hk h => by have := HGS.out; omega))
  have hput := rPut15_any A14 n2 c14 (l.map O.val) w2 h14 (by omega) HFIT.out.m8
  obtain ⟨M, hM⟩ : ∃ B, putM (l.map O.val) = B := ⟨_, rfl⟩
  obtain ⟨P, hP⟩ : ∃ B, putB (l.map O.val) = B := ⟨_, rfl⟩
  rw [hM, hP] at hput
  have HPUT := Lib.hid hput
  have HM := Lib.hid hM
  have HP := Lib.hid hP
  have hn3 : n2 ≤ 3000 := by omega
  have hm3 : m ≤ 1000000 := by omega
  clear hr o0 o1 o2 o3 o4 o5 o6 o7 o8 o9 o10 o11 o12 o13 o14 h10 h11 h12 h13 h14 hput hM hP HR hfl hlen hpl
  go_wp2_with fail
  refine HPUT.out.mono ?_
  rintro e w3 ⟨A15, c15, A16, c16, rfl, ho15, ho16, hf3⟩
  have HB15 := Lib.hid ho15
  have HB16 := Lib.hid ho16
  have HF3 := Lib.hid hf3
  clear ho15 ho16 hf3 HPUT
  go_upto_region 31 with fail
  refine rput31_any _ _ _ _ _ _ _ _ _ _ _ _ _ _ _ _ _ _ _ _ _ _ _ _ _ _ _ _ _ _ _ _ _ _ _ _ _ _ _ _ _ _ _ _ _ _ _ _ _ _ _ _ _ _ _ _ _ _ _ _ _ _ _ _ _ _ _ _ _ _ _ _ _ _ _ _ _ _ _ _ _ _ _ _ _ _ _ _ _ _ _ _ _ _ _ _ _ _ _ _ _ _ _ _ _ _ _ _ _ _ _ _ _ _ _ _ _ _ _ _ _ _ _ _ _ _ _ _ _ _ _ _ _ _ _ _ _ _ _ _ _ _ _ _ _ _ _ _ _ _ _ _ _ _ _ _ _ _ _ _ _ _ _ _ _ _ _ _ _ _ _ _ _ _ _ _ _ _ _ _ _ _ _ _ _ _ _ _ _ _ _ _ _ _ _ _ _ _ _ _ _ _ _ _ _ _ _ _ _ _ _ _ _ _ _ _ _ _ _ _ _ _ _ _ _ _ _ _ _ _ _ _ _ _ _ _ _ _ _ _ _ _ w3 g n2 m A0 A1 A2 A3 A6 A9 A10 A11 A12 A13 A15 A16 c0 c1 c2 c3 c6 c9 c10 c11 c12 c13 c15 c16 _ _ _ _ _ _ _ _ _ _ M P w2.heap.size w2.heap.size hn3 hm3 (Lib.hid (fun w' hf => HC.out w' (HF3.out.trans hf (fun _ _ h => h))))
    (Lib.hid (H0.out.fr HF3.out (fun _ _ h => h))) (Lib.hid HFIT.out.m1) (Lib.hid (H1.out.fr HF3.out (fun _ _ h => h))) (Lib.hid HFIT.out.m2) (Lib.hid (H2.out.fr HF3.out (fun _ _ h => h))) (Lib.hid HFIT.out.m3) (Lib.hid (H3.out.fr HF3.out (fun _ _ h => h))) (Lib.hid HFIT.out.m4) (Lib.hid (H6.out.fr HF3.out (fun _ _ h => h))) (Lib.hid HFIT.out.m7) (Lib.hid (H9.out.fr HF3.out (fun _ _ h => h))) (Lib.hid HFIT.out.m10) (Lib.hid (H10.out.fr HF3.out (fun _ _ h => h))) (Lib.hid HFIT.out.m11) (Lib.hid (H11.out.fr HF3.out (fun _ _ h => h))) (Lib.hid HFIT.out.m12) (Lib.hid (H12.out.fr HF3.out (fun _ _ h => h))) (Lib.hid HFIT.out.m5) (Lib.hid (H13.out.fr HF3.out (fun _ _ h => h))) HB15 HB16 ?_
  intro ga w4 b176 b177 b178 b179 b180 b181 b182 b183 b184 b185 b186 b187 b188 b189 b190 b191 b192 b193 b194 b195 b196 b197 b198 b199 b200 b201 b202 b203 b204 b205 b206 b207 b208 b209 b210 b211 b212 b213 b214 b215 b216 b217 b218 b219 b220 b221 b222 b223 b224 b225 HROW HX
  obtain ⟨KS, hKS⟩ : ∃ K, colsA T l = K := ⟨_, rfl⟩
  have hkr : Row w4 ga 39 (KS.flatMap (pcells ridc rtxt)) := by
    have h := HROW.out
    rw [← HM.out, ← HP.out] at h
    rw [← hKS]
    exact h
  have hkl : KS.length = 12 := by rw [← hKS]; rfl
  have HKL : Hid (KS.length = 12 ∧ putS T l = DirM.full KS) := Lib.hid ⟨hkl, by rw [← hKS]; rfl⟩
  have HKR := Lib.hid hkr
  have HF4 : Hid (Fr (fun _ => False) w w4) := Lib.hid ((HF2'.out.trans HF3.out (fun _ _ h => h)).trans HX.out.2 (fun _ _ h => h))
  have HBG : Hid (w.heap.size ≤ ga) := Lib.hid (by have h1 := HX.out.1; have h2 := HF2'.out.size; have h3 := HF3.out.size; omega)
  have HSM : Hid (∀ c ∈ KS, c.1 ≤ 1000) := Lib.hid (by
    rw [← hKS]
    intro c hc
    unfold colsA at hc
    simp only [List.mem_cons, List.not_mem_nil, or_false] at hc
    rcases hc with rfl | rfl | rfl | rfl | rfl | rfl | rfl | rfl | rfl | rfl | rfl | rfl <;> simp)
  clear hKS hkr hkl HROW HX HB15 HB16 H0 H1 H2 H3 H6 H9 H10 H11 H12 H13 HC HM HP HF3 HF2 HF2' HG HF1 HL HFIT HFIT0 HSH HLL hl
  go_wp2_with fail
  go_loopw [21, 22] (fun s v wr => ∃ (k j : Nat) (A : Option Addr) (c : Nat), k ≤ 12 ∧ v = .int .i64 (k : Int) ∧ s = .slice A j c ∧ j ≤ k ∧ Hid (j = (DirM.full (KS.take k)).length) ∧ Hid (OwnP ridc rtxt 39 wr w.heap.size A c (DirM.full (KS.take k))) ∧ Hid (Row wr ga 39 (KS.flatMap (pcells ridc rtxt))) ∧ Hid ((Value.slice A j c).ownBlock ≠ some ga) ∧ Hid (Fr (fun _ => False) w wr)) (fun _ v _ => 12 - (intOf v).toNat)
  case atStart => exact ⟨0, 0, none, 0, Nat.zero_le _, rfl, rfl, Nat.le_refl _, (rfl : 0 = (DirM.full (KS.take 0)).length), OwnP.nil _ _ _, HKR.out, (by simp [Value.ownBlock] : (Value.slice none 0 0).ownBlock ≠ some ga), HF4.out⟩
  case round =>
    obtain ⟨k, j, A, c, hk, rfl, rfl, hj, HJ, HO, HR, HNG, HF⟩ := hrel
    rename World => wr
    by_cases hlt : k < 12
    · obtain ⟨⟨id, S⟩, hx⟩ : ∃ x, KS[k]? = some x := ⟨_, List.getElem?_eq_getElem (by have := HKL.out.1; omega)⟩
      have hfs := fullR_step hx
      simp only at hfs
      have h0' : wr.cell? ⟨ga, k * 2, none⟩ = some (.int .i64 (id : Int)) := HR.out.cell (by have h := flat_k (pcells ridc rtxt) 2 (fun _ => rfl) KS k (id, S) hx 0 (by omega); rw [Nat.add_zero] at h; exact h)
      have h1' : wr.cell? ⟨ga, k * 2 + 1, none⟩ = some (.string (txt S)) := HR.out.cell (by have h := flat_k (pcells ridc rtxt) 2 (fun _ => rfl) KS k (id, S) hx 1 (by omega); exact h)
      have hid := HSM.out _ (List.mem_of_getElem? hx)
      simp only at hid
      obtain ⟨z, hz⟩ : ∃ z, S.length = z := ⟨_, rfl⟩
      rw [hz] at hfs
      have hsz : (txt S).size = z := hz
      have HFS := Lib.hid hfs
      have HZ := Lib.hid hz
      clear hx hfs hz
      by_cases hz0 : z = 0
      · subst hz0
        obtain rfl : S = [] := List.eq_nil_of_length_eq_zero HZ.out
        have t0 : (txt ([] : List UInt8)).toList.isEmpty = true := by rw [txt_empty]; rfl
        have HFS0 : Hid (DirM.full (KS.take (k + 1)) = DirM.full (KS.take k)) := Lib.hid (by rw [HFS.out, if_neg (by omega), List.append_nil])
        go_wp2_with fail
        go_roundw
        case rel => exact ⟨k + 1, j, A, c, by omega, by go_num, rfl, by omega, by rw [HFS0.out]; exact HJ, by rw [HFS0.out]; exact HO, HR, HNG, HF⟩
        case measure => simp [intOf]; omega
      · have HFS1 : Hid (DirM.full (KS.take (k + 1)) = DirM.full (KS.take k) ++ [(id, S)]) := Lib.hid (by rw [HFS.out, if_pos (by omega)])
        have t0 : (txt S).toList.isEmpty = false := by
          rw [txt_empty]
          exact decide_eq_false (fun h => hz0 (by rw [← HZ.out, h]; rfl))
        obtain ⟨XS, hXS⟩ : ∃ X, (DirM.full (KS.take k)).flatMap (pcells ridc rtxt) = X := ⟨_, rfl⟩
        have hox : wr.ownsRow w.heap.size 39 2 (.slice A j c) j XS := by
          have h := HO.out
          unfold OwnP at h
          rw [← HJ.out, hXS] at h
          exact h
        have HOX := Lib.hid hox
        have HXS := Lib.hid hXS
        obtain ⟨wb, hwb⟩ : ∃ v, wr.alloc (.cells #[.int .i64 (id : Int), .string (txt S)] 39) = v := ⟨_, rfl⟩
        obtain ⟨kb, hkb⟩ : ∃ k, wr.heap.size = k := ⟨_, rfl⟩
        have hfb : Fr (fun _ => False) wr wb := by rw [← hwb]; exact (Fr.refl _ _).alloc _
        have hrb : Row wb kb 39 [.int .i64 (id : Int), .string (txt S)] := by rw [← hwb, ← hkb]; exact Row.new wr _ _
        have HRB := Lib.hid hrb
        have HFB := Lib.hid hfb
        have HOB : Hid (wb.ownsRow w.heap.size 39 2 (.slice A j c) j XS) := Lib.hid (hfb.own hox (fun _ _ h => h))
        have HBW : Hid (w.heap.size ≤ wb.heap.size) := Lib.hid (by have h1 := HF.out.size; have h2 := hfb.size; omega)
        clear hox hXS hfb hrb
        go_wp2_with (at_builtin; refine wpList_appM rcTS wb rfl _ _ rfl w.heap.size (.slice A j c) j XS rfl HOB.out ⟨kb, 0, none⟩ 1 1 [.int .i64 (id : Int), .string (txt S)] rfl rfl (fun i u h => by rw [Mem.addr_add]; exact HRB.out.cell h) (by intro u hu; simp at hu; rcases hu with rfl | rfl <;> rfl) (j + 1) rfl (by unfold maxLen; omega) (by omega) HBW.out ?_)
        intro A' c' w6 hown hle hfr hat
        have HO6 : Hid (OwnP ridc rtxt 39 w6 w.heap.size A' c' (DirM.full (KS.take k) ++ [(id, S)])) := Lib.hid (by
          refine OwnP.snoc (t := (id, S)) (N := j + 1) (by rw [← HJ.out]) ?_
          rw [HXS.out]
          exact hown)
        have HR6 : Hid (Row w6 ga 39 (KS.flatMap (pcells ridc rtxt))) := Lib.hid ((HR.out.fr HFB.out (fun h => h)).fr hfr (fun h => by
          exact HNG.out h))
        have HF6 : Hid (Fr (fun _ => False) w w6) := Lib.hid ((HF.out.trans HFB.out (fun _ _ h => h)).trans hfr (fun b hb h => by have h1 := (HOB.out.lt b h).1; omega))
        have HNG6 : Hid ((Value.slice A' (j + 1) c').ownBlock ≠ some ga) := Lib.hid (by
          rcases hat with e | e
          · rw [e]; exact HNG.out
          · rw [e]
            intro h
            injection h with h
            have h1 := HR.out.lt
            have h2 := HFB.out.size
            omega)
        clear hown hle hfr hat hwb hkb
        go_wp2_with fail
        go_roundw
        case rel => exact ⟨k + 1, j + 1, A', c', by omega, by go_num, rfl, by omega, by rw [HFS1.out, List.length_append, ← HJ.out]; rfl, by rw [HFS1.out]; exact HO6, HR6, HNG6, HF6⟩
        case measure => simp [intOf]; omega
    · obtain rfl : k = 12 := by omega
      have hall : KS.take 12 = KS := List.take_of_length_le (by have := HKL.out.1; omega)
      rw [hall] at HJ HO
      go_wp2_with fail
      refine bodyPost_ret (v := .slice A j c) (by simp [results, Tryz.results12, go_sem]) rfl ⟨A, c, ?_, ?_, HF.out⟩
      · rw [HKL.out.2, ← HJ.out]
      · rw [HKL.out.2]
        exact HO.out
end Go.Proofs.YtedmnkcoflbciaaGreat
namespace Go.Proofs.YtedmnkcoflbciaaGreat
open Go.RowKit Mem Go.Lib LebM UtfM VaM OpM AcM RleM CsM
attribute [local go_sem ↓] Go.wp_at_zero Go.wp_at_succ
set_option linter.unusedVariables false

set_option maxRecDepth 100000 in
set_option maxHeartbeats 6400000 in
theorem lsame19_any (A : Option Addr) (n c : Nat) (L : List Cl) (A' : Option Addr) (c' : Nat) (M : List DirM.Col) (w : World) (hL : Cols w A n L) (hM : Prs ridc rtxt w A' n M) (hv : L.map Cl.v = M) (hn : n ≤ 1000000) :
    Calls Tryz.prog 10 #[.slice A n c, .slice A' n c'] w fun e w' => e = .returned (.bool true) ∧ Fr (fun _ => False) w w' := by
  have hln := hL.1.1
  have HL := Lib.hid hL
  have HM := Lib.hid hM
  have HLN := Lib.hid hln
  have HV := Lib.hid hv
  have t0 : ((n : Int) != (n : Int)) = false := by simp
  clear hL hM hln hv
  go_enter Tryz.func10, Tryz.ntmps10
  go_wp2_with fail
  go_loopw [5] (fun v wr => ∃ k : Nat, k ≤ n ∧ v = .int .i64 (k : Int) ∧ Hid (Fr (fun _ => False) w wr)) (fun v _ => n - (intOf v).toNat)
  case atStart => exact ⟨0, Nat.zero_le _, rfl, Fr.refl _ _⟩
  case round =>
    obtain ⟨k, hk, rfl, HF⟩ := hrel
    rename World => wr
    by_cases hlt : k < n
    · obtain ⟨y, hy⟩ : ∃ y, L[k]? = some y := ⟨_, List.getElem?_eq_getElem (by have := HLN.out; omega)⟩
      have hx : M[k]? = some y.v := by rw [← HV.out, List.getElem?_map, hy]; rfl
      obtain ⟨gx, ox, rfl, _, h0, h1⟩ := (HM.out.fr HF.out (fun _ _ => fun h => h)).2 k _ hx
      obtain ⟨gy, oy, rfl, _, g0, g1⟩ := (HL.out.1.fr HF.out (fun _ _ => fun h => h)).2 k _ hy
      have hby := HL.out.2 y (List.mem_of_getElem? hy)
      obtain ⟨id, hid⟩ : ∃ id, y.id = id := ⟨_, rfl⟩
      obtain ⟨z, hz⟩ : ∃ z, y.B.length = z := ⟨_, rfl⟩
      obtain ⟨X, hX⟩ : ∃ X, y.B = X := ⟨_, rfl⟩
      have h0' : wr.cell? ⟨gx, ox + k * 2, none⟩ = some (.int .i64 (id : Int)) := by rw [← hid]; exact h0
      have h1' : wr.cell? ⟨gx, ox + k * 2 + 1, none⟩ = some (.string (txt X)) := by rw [← hX]; exact h1
      simp only [idc, dac] at g0 g1
      have hrd := hby.1.fr HF.out (fun _ _ h => h)
      rw [hid] at g0
      rw [hz] at g1 hrd
      rw [hX] at hrd
      have hcv : ∀ q, (convert 34 9 (.slice y.A z y.c)).run Tryz.prog (wr.drewN q) = .ok (.string (txt X)) (wr.drewN q) := fun q => str_rd (hrd.drewN q) y.c
      clear hx hy hby hid hz hX hrd h0 h1
      go_upto_region 6 with fail
      go_quiet (fail)
      go_wp2_with fail
      go_roundw
      case rel => exact ⟨k + 1, by omega, by go_num, HF.out.drewN _⟩
      case measure => simp [intOf]; omega
    · obtain rfl : k = n := by omega
      go_wp2_with fail
      go_ret
      exact ⟨rfl, HF.out⟩
end Go.Proofs.YtedmnkcoflbciaaGreat
namespace Go.Proofs.YtedmnkcoflbciaaGreat
open Go.RowKit Mem Go.Lib LebM UtfM VaM OpM AcM RleM CsM
attribute [local go_sem ↓] Go.wp_at_zero Go.wp_at_succ
set_option linter.unusedVariables false

set_option maxRecDepth 100000 in
set_option maxHeartbeats 12800000 in
theorem colsputs_law (a : Tx) (A : Option Addr) (n c : Nat) (L : List Om) (w : World) (hL : Ops w A n L) (hn : n ≤ 9223372036854775807) (hlen : ∀ x ∈ L, x.lens) (hv : ∀ x ∈ L, x.o.val.ok) (ha : a.length ≤ 9223372036854775807) :
    Calls Tryz.prog 3 #[.string (txt a), .slice A n c] w fun e w' => e = .returned (.bool true) ∧ Fr (fun _ => False) w w' := by
  have HAW := Lib.hid (fun w' => awake19_any w')
  have HL := Lib.hid hL
  have HV := Lib.hid hv
  have hsza := txt_sz a
  obtain ⟨ma, hma⟩ : ∃ m, m = a.length := ⟨_, rfl⟩
  rw [← hma] at hsza
  have HLa : Hid (a.length = ma) := Lib.hid hma.symm
  have hfw := fun w' (hf : Fr (fun _ => False) w w') => rfew_any A n c L 60 w' (hL.fr hf) hn (by omega) hlen
  obtain ⟨b, hb⟩ : ∃ b, (decide (n ≤ 60) && fewB L) = b := ⟨_, rfl⟩
  simp only [hb] at hfw
  have hfw2 : ∀ w' (hf : Fr (fun _ => False) w w'), Calls Tryz.prog 7 #[.slice A n c, .int .i64 60] w' fun e w'' => e = .returned (.bool b) ∧ w' = w'' := hfw
  have HFW := Lib.hid hfw2
  clear hma hfw hfw2 hL hn hlen hv
  by_cases hq : 100 < ma
  · have tq : decide ((100 : Int) < (ma : Int)) = true := decide_eq_true (by omega)
    have tq' : decide (100 < ma) = true := decide_eq_true hq
    clear hq
    go_enter Tryz.func3, Tryz.ntmps3
    go_wp2_with fail
    refine (HAW.out _).mono ?_
    rintro e w1 ⟨rfl, hf⟩
    have HF1 := Lib.hid (hf)
    clear hf
    go_wp2_with fail
    refine (HAW.out _).mono ?_
    rintro e w3 ⟨rfl, hf⟩
    have HF3 := Lib.hid (HF1.out.trans hf (fun _ _ h => h))
    clear hf
    go_wp2_with fail
    go_ret
    exact ⟨rfl, HF3.out⟩
  · have tq : decide ((100 : Int) < (ma : Int)) = false := decide_eq_false (by omega)
    have tq' : decide (100 < ma) = false := decide_eq_false hq
    cases b with
    | false =>
      clear hb
      go_enter Tryz.func3, Tryz.ntmps3
      go_wp2_with fail
      refine (HAW.out _).mono ?_
      rintro e w1 ⟨rfl, hf⟩
      have HF1 := Lib.hid (hf)
      clear hf
      go_wp2_with fail
      refine (HFW.out _ HF1.out).mono ?_
      rintro e w2 ⟨rfl, rfl⟩
      go_wp2_with fail
      refine (HAW.out _).mono ?_
      rintro e w3 ⟨rfl, hf⟩
      have HF3 := Lib.hid (HF1.out.trans hf (fun _ _ h => h))
      clear hf
      go_wp2_with fail
      go_ret
      exact ⟨rfl, HF3.out⟩
    | true =>
      rw [Bool.and_eq_true, decide_eq_true_eq] at hb
      have HRT := Lib.hid (fun w' (hf : Fr (fun _ => False) w w') => right19_any A n c L w' (HL.out.fr hf) (by omega) (fun x hx => ⟨(few_short hb.2 x hx).1, HV.out x hx⟩))
      have HFIT := Lib.hid (fun (M : List Om) (hM : M = L.filter (fun x => rightO x.o)) => fit_right a HL.out.len hb.1 hb.2 HV.out (by have := HLa.out; omega) hM)
      clear hb
      go_enter Tryz.func3, Tryz.ntmps3
      go_wp2_with fail
      refine (HAW.out _).mono ?_
      rintro e w1 ⟨rfl, hf⟩
      have HF1 := Lib.hid (hf)
      clear hf
      go_wp2_with fail
      refine (HFW.out _ HF1.out).mono ?_
      rintro e w2 ⟨rfl, rfl⟩
      go_wp2_with fail
      refine (HRT.out _ HF1.out).mono ?_
      rintro e w3 ⟨A1, c1, M, hM, rfl, hO1, hops, hf3⟩
      obtain ⟨hfit, htx, htl, hsh, hml⟩ := HFIT.out M hM
      have hmo : M = [] ∨ M ≠ [] := by cases M <;> simp
      obtain ⟨nm, hnm⟩ : ∃ n, M.length = n := ⟨_, rfl⟩
      rw [hnm] at hops hml
      have HM := Lib.hid hM
      have HNM := Lib.hid hnm
      have HO := Lib.hid hops
      have HOW := Lib.hid hO1
      have HF3 := Lib.hid (HF1.out.trans hf3 (fun _ _ h => h))
      have HTB := Lib.hid (fun w' (hf : Fr (fun _ => False) w3 w') => racTable_any a A1 nm c1 M w' (hops.fr hf) (by omega) (by have := HLa.out; omega) (fun x hx => ⟨(hsh x hx).1, by have := (hsh x hx).2; omega⟩))
      obtain ⟨T, hT⟩ : ∃ T, tabA a (namesM M) = T := ⟨_, rfl⟩
      rw [hT] at hfit htx htl
      have HFT := Lib.hid hfit
      have HTT := Lib.hid hT
      have HTX := Lib.hid (And.intro htx htl)
      have HSH := Lib.hid hsh
      clear hM hops hO1 hf3 hfit htx htl hsh hT HRT HFIT HFW
      rw [hnm]
      clear hnm
      go_wp2_with fail
      refine (HTB.out _ (Fr.refl _ _)).mono ?_
      rintro e w4 ⟨A4, c4, rfl, ho4, hf4⟩
      rw [HTT.out] at ho4
      rw [HTT.out]
      obtain ⟨nt, hnt⟩ : ∃ k, T.length = k := ⟨_, rfl⟩
      rw [hnt]
      have HRD : Hid (Rd w4 A4 nt (T.map tc)) := Lib.hid (by have h := ho4.rd; rwa [hnt] at h)
      have HNT : Hid (nt ≤ 10000) := Lib.hid (by rw [← hnt]; exact HTX.out.2)
      have HO4 := Lib.hid (HO.out.fr hf4)
      have HF4 := Lib.hid (HF3.out.trans hf4 (fun _ _ h => h))
      have HPUT := Lib.hid (fun w' (hf : Fr (fun _ => False) w4 w') => cPut_any A4 nt c4 T A1 nm c1 M w' (HRD.out.fr hf (fun _ _ h => h)) (by have := HNT.out; omega) HTX.out.1 (HO4.out.fr hf) (fun x hx => (HSH.out x hx).1) HFT.out)
      clear ho4 hf4 hnt HTB
      go_wp2_with fail
      refine (HPUT.out _ (Fr.refl _ _)).mono ?_
      rintro e w5 ⟨A5, n5, c5, K, rfl, hC, hKv, hn5, hc5, _, hf5⟩
      have HF5 := Lib.hid (HF4.out.trans hf5 (fun _ _ h => h))
      have HC := Lib.hid hC
      have hkl := hC.1.1
      have HN5 : Hid (n5 = (putS T (M.map Om.o)).length ∧ n5 ≤ 12) := Lib.hid (by
        have h1 := congrArg List.length hKv
        rw [List.length_map, hkl] at h1
        have := put_len T (M.map Om.o)
        omega)
      have HKV := Lib.hid hKv
      have HRP := Lib.hid (rcPut_any A4 nt c4 T A1 nm c1 M w5 (HRD.out.fr hf5 (fun _ _ h => h)) (by have := HNT.out; omega) (HO4.out.fr hf5) (fun x hx => (HSH.out x hx).1) HFT.out)
      clear hC hKv hf5 hkl hmo
      go_wp2_with fail
      refine HRP.out.mono ?_
      rintro e w6 ⟨A6, c6, rfl, ho6, hf6⟩
      rw [← HN5.out.1]
      have hps := ho6.prs
      rw [← HN5.out.1] at hps
      have HPS := Lib.hid hps
      have HC6 := Lib.hid (HC.out.fr hf6)
      have HF6 := Lib.hid (HF5.out.trans hf6 (fun _ _ h => h))
      clear ho6 hps hf6
      go_wp2_with fail
      refine (lsame19_any A5 n5 c5 K A6 c6 _ w6 HC6.out HPS.out HKV.out (by have := HN5.out.2; omega)).mono ?_
      rintro e w7 ⟨rfl, hf7⟩
      have HF7 := Lib.hid (HF6.out.trans hf7 (fun _ _ h => h))
      clear hf7
      go_wp2_with fail
      exact bodyPost_ret (v := .bool true) (by simp [results, Tryz.results3, go_sem]) rfl ⟨rfl, HF7.out⟩

end Go.Proofs.YtedmnkcoflbciaaGreat
namespace Go.Proofs.YtedmnkcoflbciaaGreat
open Go.ChangeShapes Go.WideShapes Go.RowKit Go.Deep Mem LebM UtfM VaM OpM
set_option linter.unusedVariables false
set_option maxRecDepth 100000

theorem pick_list {α : Type} (n : Nat) (p : Nat → α → Prop) (h : ∀ i, i < n → ∃ x, p i x) : ∃ l : List α, l.length = n ∧ ∀ i x, l[i]? = some x → p i x := by
  induction n with
  | zero => exact ⟨[], rfl, fun i x hx => by simp at hx⟩
  | succ n ih =>
    obtain ⟨l, hl, hp⟩ := ih (fun i hi => h i (by omega))
    obtain ⟨x, hx⟩ := h n (by omega)
    refine ⟨l ++ [x], by simp [hl], fun i y hy => ?_⟩
    by_cases hi : i < n
    · rw [List.getElem?_append_left (by omega)] at hy
      exact hp i y hy
    · have hlt := (List.getElem?_eq_some_iff.1 hy).1
      simp at hlt
      obtain rfl : i = n := by omega
      rw [List.getElem?_append_right (by omega), hl, Nat.sub_self] at hy
      injection hy with hy
      rw [← hy]
      exact hx
section
variable {H : Type} {enc : TypeId × Value → H} {w : World} {base : Nat} {held : Bool}
theorem at_int {k : Nat} {cs : List Value} {x : DataW H × List MemPlace} (h : DataW.trod enc Tryz.prog w base (fun _ => true) held k 2 cs = some x) : ∃ n : Int, cs = [.int .i64 n] ∧ -9223372036854775808 ≤ n ∧ n < 9223372036854775808 := by
  obtain ⟨n, e, _, q⟩ := DataW.trod_int Tryz.underlying2 h
  have b := bounds_i64 q
  exact ⟨n, e, b.1, by have := b.2; omega⟩
theorem at_str {k : Nat} {cs : List Value} {x : DataW H × List MemPlace} (h : DataW.trod enc Tryz.prog w base (fun _ => true) held k 9 cs = some x) : ∃ B : List UInt8, cs = [.string (txt B)] ∧ B.length ≤ maxLen := by
  obtain ⟨s, e, _, q⟩ := DataW.trod_string Tryz.underlying9 h
  refine ⟨s.data.toList, ?_, q⟩
  rw [e, show txt s.data.toList = s from by cases s; simp [txt]]
theorem at_bool {k : Nat} {cs : List Value} {x : DataW H × List MemPlace} (h : DataW.trod enc Tryz.prog w base (fun _ => true) held k 4 cs = some x) : ∃ b : Bool, cs = [.bool b] := by
  obtain ⟨b, e, _⟩ := DataW.trod_bool Tryz.underlying4 h
  exact ⟨b, e⟩
theorem ce_int : Tryz.prog.cellsOf 2 = 1 := by kernel_rfl
theorem ce_in : Tryz.prog.cellsOf 3 = 1 := by kernel_rfl
theorem ce_u64 : Tryz.prog.cellsOf 50 = 1 := by kernel_rfl
theorem ce_str : Tryz.prog.cellsOf 9 = 1 := by kernel_rfl
theorem ce_bool : Tryz.prog.cellsOf 4 = 1 := by kernel_rfl
theorem ce_nm : Tryz.prog.cellsOf 49 = 2 := by kernel_rfl
theorem ce_val : Tryz.prog.cellsOf 52 = 4 := by kernel_rfl
theorem ce_nms : Tryz.prog.cellsOf 53 = 1 := by kernel_rfl
theorem ce_op : Tryz.prog.cellsOf 55 = 13 := by kernel_rfl
theorem at_nm {k : Nat} {cs : List Value} {x : DataW H × List MemPlace} (h : DataW.trod enc Tryz.prog w base (fun _ => true) held k 49 cs = some x) : ∃ y : Nm, cs = nls y ∧ y.ok ∧ y.a.length ≤ maxLen := by
  obtain ⟨xs, n, _, _, hl, hxl, hf⟩ := DataW.trod_struct Tryz.underlying49 h
  rw [ce_nm] at hl
  match cs, hl, xs, hxl with
  | [c0, c1], _, [y0, y1], _ =>
    have h0 : DataW.trod enc Tryz.prog w base (fun _ => true) held n 2 (([c0, c1].drop 0).take (Tryz.prog.cellsOf 2)) = some y0 := hf 0 _ rfl
    have h1 : DataW.trod enc Tryz.prog w base (fun _ => true) held n 9 (([c0, c1].drop 1).take (Tryz.prog.cellsOf 9)) = some y1 := hf 1 _ rfl
    rw [ce_int] at h0
    rw [ce_str] at h1
    obtain ⟨c, e0, b0⟩ := at_int (x := y0) (by simpa using h0)
    obtain ⟨a, e1, b1⟩ := at_str (x := y1) (by simpa using h1)
    injection e0 with e0
    injection e1 with e1
    exact ⟨⟨c, a⟩, by rw [e0, e1]; rfl, b0, b1⟩
theorem at_val {k : Nat} {cs : List Value} {x : DataW H × List MemPlace} (h : DataW.trod enc Tryz.prog w base (fun _ => true) held k 52 cs = some x) : ∃ v : V, cs = vls v ∧ v.ok ∧ v.s.length ≤ maxLen := by
  obtain ⟨xs, n, _, _, hl, hxl, hf⟩ := DataW.trod_struct Tryz.underlying52 h
  rw [ce_val] at hl
  match cs, hl, xs, hxl with
  | [c0, c1, c2, c3], _, [y0, y1, y2, y3], _ =>
    have h0 : DataW.trod enc Tryz.prog w base (fun _ => true) held n 3 (([c0, c1, c2, c3].drop 0).take (Tryz.prog.cellsOf 3)) = some y0 := hf 0 _ rfl
    have h1 : DataW.trod enc Tryz.prog w base (fun _ => true) held n 50 (([c0, c1, c2, c3].drop 1).take (Tryz.prog.cellsOf 50)) = some y1 := hf 1 _ rfl
    have h2 : DataW.trod enc Tryz.prog w base (fun _ => true) held n 2 (([c0, c1, c2, c3].drop 2).take (Tryz.prog.cellsOf 2)) = some y2 := hf 2 _ rfl
    have h3 : DataW.trod enc Tryz.prog w base (fun _ => true) held n 9 (([c0, c1, c2, c3].drop 3).take (Tryz.prog.cellsOf 9)) = some y3 := hf 3 _ rfl
    rw [ce_in] at h0
    rw [ce_u64] at h1
    rw [ce_int] at h2
    rw [ce_str] at h3
    have g0 : DataW.trod enc Tryz.prog w base (fun _ => true) held n 3 [c0] = some y0 := by simpa using h0
    have g1 : DataW.trod enc Tryz.prog w base (fun _ => true) held n 50 [c1] = some y1 := by simpa using h1
    obtain ⟨n0, e0, _, q0⟩ := DataW.trod_int Tryz.underlying3 g0
    obtain ⟨n1, e1, _, q1⟩ := DataW.trod_int Tryz.underlying50 g1
    obtain ⟨n2, e2, b2⟩ := at_int (x := y2) (by simpa using h2)
    obtain ⟨s, e3, b3⟩ := at_str (x := y3) (by simpa using h3)
    injection e0 with e0
    injection e1 with e1
    injection e2 with e2
    injection e3 with e3
    have b0 := bounds_i64 q0
    have b1 := bounds_u64 q1
    obtain ⟨u, rfl⟩ := Int.eq_ofNat_of_zero_le b1.1
    exact ⟨⟨n0, u, n2, s⟩, by rw [e0, e1, e2, e3]; rfl, ⟨⟨b0.1, by have := b0.2; show n0 < _; omega⟩, by have := b1.2; show u < _; omega, b2⟩, b3⟩
/-- cells of a block, where they can be read -/
theorem cells_at {a : Addr} {m : Nat} {cs : List Value} (h : w.cells? base a m = some cs) : cs.length = m ∧ ∀ j, j < m → w.cell? (a.add j) = cs[j]? := by
  obtain ⟨_, h1, h2⟩ := World.cells?_some h
  exact ⟨h1, h2⟩
theorem plain_of {a : Addr} {u : Value} (h : w.cell? ((a.add (0 * 2)).add 0) = some u) : a = ⟨a.block, a.off, none⟩ := by
  obtain ⟨bb, oo, spot⟩ := a
  have hspot : spot = none := World.cell?_spot h
  subst hspot
  rfl
theorem plain_of13 {a : Addr} {u : Value} (h : w.cell? ((a.add (0 * 13)).add 0) = some u) : a = ⟨a.block, a.off, none⟩ := by
  obtain ⟨bb, oo, spot⟩ := a
  have hspot : spot = none := World.cell?_spot h
  subst hspot
  rfl
theorem at_nms {k : Nat} {cs : List Value} {x : DataW H × List MemPlace} (h : DataW.trod enc Tryz.prog w base (fun _ => true) held k 53 cs = some x) : ∃ (A : Option Addr) (n c : Nat) (L : List Nm), cs = [.slice A n c] ∧ n ≤ c ∧ c ≤ maxLen ∧ Nms w A n L ∧ (∀ y ∈ L, y.ok ∧ y.a.length ≤ maxLen) := by
  rcases open_slice Tryz.underlying53 h with ⟨hcs, _⟩ | ⟨a, len, cap, m, n, D, Pl, hcs, _, hl, hm, hmm, _, hi⟩
  · exact ⟨none, 0, 0, [], hcs, Nat.le_refl _, Nat.zero_le _, Prs.nil _ _, fun y hy => by cases hy⟩
  · simp at hmm
    subst hmm
    rw [ce_nm] at hi
    have hplain : 0 < len → a = ⟨a.block, a.off, none⟩ := fun h0 => by
      obtain ⟨cs', hc, ht⟩ := hi 0 (by omega)
      obtain ⟨_, hat⟩ := cells_at hc
      obtain ⟨y, rfl, _, _⟩ := at_nm ht
      exact plain_of (hat 0 (by omega))
    obtain ⟨L, hL, hp⟩ := pick_list len (fun i (y : Nm) => (∃ g o, some a = some ⟨g, o, none⟩ ∧ g < w.heap.size ∧ w.cell? ⟨g, o + i * 2, none⟩ = some (ncc y) ∧ w.cell? ⟨g, o + i * 2 + 1, none⟩ = some (nac y)) ∧ y.ok ∧ y.a.length ≤ maxLen) (fun i hil => by
      obtain ⟨cs', hc, ht⟩ := hi i (by omega)
      obtain ⟨_, hat⟩ := cells_at hc
      obtain ⟨y, rfl, hok, hyl⟩ := at_nm ht
      have h0 := hat 0 (by omega)
      have h1 := hat 1 (by omega)
      have hpl := hplain (by omega)
      rw [hpl] at h0 h1
      simp only [Addr.add_lit] at h0 h1
      refine ⟨y, ⟨a.block, a.off, by rw [← hpl], World.block_lt_of_cell? w ⟨a.block, a.off + i * 2 + 0, none⟩ h0, h0, h1⟩, hok, hyl⟩)
    refine ⟨some a, len, m, L, hcs, hl, hm, ⟨hL, fun i y hy => (hp i y hy).1⟩, fun y hy => ?_⟩
    obtain ⟨i, hi⟩ := List.getElem?_of_mem hy
    exact (hp i y hi).2
/-- what is known of an op's cells that can be read -/
def Om.good (w : World) (x : Om) : Prop := x.lens ∧ x.o.val.ok ∧ Nms w x.A x.o.pr.length x.o.pr ∧ x.o.pr.length ≤ x.c ∧ x.c ≤ maxLen
theorem at_op {k : Nat} {cs : List Value} {x : DataW H × List MemPlace} (h : DataW.trod enc Tryz.prog w base (fun _ => true) held k 55 cs = some x) : ∃ y : Om, cs = ols y ∧ y.good w := by
  obtain ⟨xs, n, _, _, hl, hxl, hf⟩ := DataW.trod_struct Tryz.underlying55 h
  rw [ce_op] at hl
  match cs, hl, xs, hxl with
  | [c0, c1, c2, c3, c4, c5, c6, c7, c8, c9, c10, c11, c12], _, [y0, y1, y2, y3, y4, y5, y6, y7], _ =>
    have h0 : DataW.trod enc Tryz.prog w base (fun _ => true) held n 49 (([c0, c1, c2, c3, c4, c5, c6, c7, c8, c9, c10, c11, c12].drop 0).take (Tryz.prog.cellsOf 49)) = some y0 := hf 0 _ rfl
    have h1 : DataW.trod enc Tryz.prog w base (fun _ => true) held n 9 (([c0, c1, c2, c3, c4, c5, c6, c7, c8, c9, c10, c11, c12].drop 2).take (Tryz.prog.cellsOf 9)) = some y1 := hf 1 _ rfl
    have h2 : DataW.trod enc Tryz.prog w base (fun _ => true) held n 4 (([c0, c1, c2, c3, c4, c5, c6, c7, c8, c9, c10, c11, c12].drop 3).take (Tryz.prog.cellsOf 4)) = some y2 := hf 2 _ rfl
    have h3 : DataW.trod enc Tryz.prog w base (fun _ => true) held n 49 (([c0, c1, c2, c3, c4, c5, c6, c7, c8, c9, c10, c11, c12].drop 4).take (Tryz.prog.cellsOf 49)) = some y3 := hf 3 _ rfl
    have h4 : DataW.trod enc Tryz.prog w base (fun _ => true) held n 4 (([c0, c1, c2, c3, c4, c5, c6, c7, c8, c9, c10, c11, c12].drop 6).take (Tryz.prog.cellsOf 4)) = some y4 := hf 4 _ rfl
    have h5 : DataW.trod enc Tryz.prog w base (fun _ => true) held n 2 (([c0, c1, c2, c3, c4, c5, c6, c7, c8, c9, c10, c11, c12].drop 7).take (Tryz.prog.cellsOf 2)) = some y5 := hf 5 _ rfl
    have h6 : DataW.trod enc Tryz.prog w base (fun _ => true) held n 52 (([c0, c1, c2, c3, c4, c5, c6, c7, c8, c9, c10, c11, c12].drop 8).take (Tryz.prog.cellsOf 52)) = some y6 := hf 6 _ rfl
    have h7 : DataW.trod enc Tryz.prog w base (fun _ => true) held n 53 (([c0, c1, c2, c3, c4, c5, c6, c7, c8, c9, c10, c11, c12].drop 12).take (Tryz.prog.cellsOf 53)) = some y7 := hf 7 _ rfl
    rw [ce_nm] at h0 h3
    rw [ce_str] at h1
    rw [ce_bool] at h2 h4
    rw [ce_int] at h5
    rw [ce_val] at h6
    rw [ce_nms] at h7
    obtain ⟨ob, e0, k0, l0⟩ := at_nm (x := y0) (by simpa using h0)
    obtain ⟨ke, e1, l1⟩ := at_str (x := y1) (by simpa using h1)
    obtain ⟨kd, e2⟩ := at_bool (x := y2) (by simpa using h2)
    obtain ⟨el, e3, k3, l3⟩ := at_nm (x := y3) (by simpa using h3)
    obtain ⟨is, e4⟩ := at_bool (x := y4) (by simpa using h4)
    obtain ⟨ac, e5, k5⟩ := at_int (x := y5) (by simpa using h5)
    obtain ⟨va, e6, k6, l6⟩ := at_val (x := y6) (by simpa using h6)
    obtain ⟨A, m, c, L, e7, hnc, hcm, hr, hok⟩ := at_nms (x := y7) (by simpa using h7)
    obtain rfl : L.length = m := hr.1
    unfold nls at e0 e3
    unfold vls at e6
    simp only [List.cons.injEq, and_true] at e0 e1 e2 e3 e4 e5 e6 e7
    refine ⟨⟨⟨ob, ke, kd, el, is, ac, va, L⟩, A, c⟩, ?_, ⟨l0, l3, l1, l6, Nat.le_trans hnc hcm, fun y hy => (hok y hy).2⟩, k6, hr, hnc, hcm⟩
    unfold ols
    rw [e0.1, e0.2, e1, e2, e3.1, e3.2, e4, e5, e6.1, e6.2.1, e6.2.2.1, e6.2.2.2, e7]
/-- a slice of ops -/
theorem at_ops {k : Nat} {cs : List Value} {x : DataW H × List MemPlace} (h : DataW.trod enc Tryz.prog w base (fun _ => true) held k 22 cs = some x) : ∃ (A : Option Addr) (n c : Nat) (L : List Om), cs = [.slice A n c] ∧ n ≤ c ∧ c ≤ maxLen ∧ (L.length = n ∧ ∀ k x, L[k]? = some x → ∃ b o, A = some ⟨b, o, none⟩ ∧ b < w.heap.size ∧ Oat w b (o + k * 13) x) ∧ (∀ y ∈ L, y.good w) := by
  rcases open_slice Tryz.underlying22 h with ⟨hcs, _⟩ | ⟨a, len, cap, m, n, D, Pl, hcs, _, hl, hm, hmm, _, hi⟩
  · exact ⟨none, 0, 0, [], hcs, Nat.le_refl _, Nat.zero_le _, ⟨rfl, fun k x h => by simp at h⟩, fun y hy => by cases hy⟩
  · simp at hmm
    subst hmm
    rw [ce_op] at hi
    have hplain : 0 < len → a = ⟨a.block, a.off, none⟩ := fun h0 => by
      obtain ⟨cs', hc, ht⟩ := hi 0 (by omega)
      obtain ⟨_, hat⟩ := cells_at hc
      obtain ⟨y, rfl, _⟩ := at_op ht
      exact plain_of13 (hat 0 (by omega))
    obtain ⟨L, hL, hp⟩ := pick_list len (fun i (y : Om) => (∃ b o, some a = some ⟨b, o, none⟩ ∧ b < w.heap.size ∧ Oat w b (o + i * 13) y) ∧ y.good w) (fun i hil => by
      obtain ⟨cs', hc, ht⟩ := hi i (by omega)
      obtain ⟨_, hat⟩ := cells_at hc
      obtain ⟨y, rfl, hg⟩ := at_op ht
      have hpl := hplain (by omega)
      have hj : ∀ j u, (ols y)[j]? = some u → w.cell? ⟨a.block, a.off + i * 13 + j, none⟩ = some u := fun j u hu => by
        have h1 := hat j (List.getElem?_eq_some_iff.1 hu).1
        rw [hpl, hu] at h1
        simp only [Addr.add_lit] at h1
        exact h1
      have h0 := oat_of hj
      exact ⟨y, ⟨a.block, a.off, by rw [← hpl], World.block_lt_of_cell? w ⟨a.block, a.off + i * 13, none⟩ h0.1, h0⟩, hg⟩)
    refine ⟨some a, len, m, L, hcs, hl, hm, ⟨hL, fun i y hy => (hp i y hy).1⟩, fun y hy => ?_⟩
    obtain ⟨i, hi⟩ := List.getElem?_of_mem hy
    exact (hp i y hi).2
end
theorem ops_arg {H : Type} {enc : TypeId × Value → H} {W : World} {r : Reach} {b0 : Nat} {v : Value} {d : DataW H} {p : List MemPlace} (hv : Value.okWide Tryz.prog W r b0 22 v)
    (h : DataW.Trod enc Tryz.prog W 0 (fun _ => true) true 22 v d p) : ∃ (A : Option Addr) (n c : Nat) (L : List Om), v = .slice A n c ∧ n ≤ 9223372036854775807 ∧ Ops W A n L ∧ (∀ y ∈ L, y.lens) ∧ ∀ y ∈ L, y.o.val.ok := by
  obtain ⟨a0, len, cap, rfl⟩ := okWide_slice Tryz.underlying22 hv
  obtain ⟨fuel, hf⟩ := h
  obtain ⟨A, n, c, L, e, h1, h2, h3, h4⟩ := at_ops (cs := [.slice a0 len cap]) (by simpa [Value.cells] using hf)
  injection e with e
  exact ⟨A, n, c, L, e, Nat.le_trans h1 h2, ⟨h3, fun y hy => (h4 y hy).2.2⟩, fun y hy => (h4 y hy).1, fun y hy => (h4 y hy).2.1⟩
theorem str_arg {H : Type} {enc : TypeId × Value → H} {W : World} {r : Reach} {b0 : Nat} {v : Value} {d : DataW H} {p : List MemPlace} (hv : Value.okWide Tryz.prog W r b0 9 v)
    (h : DataW.Trod enc Tryz.prog W 0 (fun _ => true) true 9 v d p) : ∃ B : List UInt8, v = .string (txt B) ∧ B.length ≤ 9223372036854775807 := by
  obtain ⟨s, rfl, _, _, ws⟩ := Go.ChangeMaps.open_string Tryz.underlying9 hv h
  exact ⟨s.data.toList, by rw [show txt s.data.toList = s from by cases s; simp [txt]], ws⟩
end Go.Proofs.YtedmnkcoflbciaaGreat
