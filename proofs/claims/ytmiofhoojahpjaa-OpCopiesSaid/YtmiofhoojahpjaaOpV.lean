/-
  Layer 17, the law OpCopies (written by gen_copies.py).
-/
import Derived.Test.YtmiofhoojahpjaaOpJ
import Derived.Test.YtmiofhoojahpjaaOpZa
import Derived.Test.YtmiofhoojahpjaaOpI
import Derived.BigQuiet
import Derived.StillTailTactics
namespace Go.Proofs.Ytmiofhoojahpjaa
open Go.RowKit Mem Go.Lib LebM UtfM VaM OpM
attribute [local go_sem ↓] Go.wp_at_zero Go.wp_at_succ
set_option linter.unusedVariables false

/-- a slice of names in a block of its own, whatever names -/
def Blk17 (w : World) (base : Nat) (x : Om) : Prop := 0 < x.o.pr.length → ∃ g cur, x.A = some ⟨g, 0, none⟩ ∧ base ≤ g ∧ w.heap[g]? = some (.cells cur 27 (0, 0)) ∧ x.o.pr.length * 2 ≤ cur.size
theorem Blk17.of {w : World} {base : Nat} {x : Om} (h : OwnN w base x.A x.c x.o.pr) : Blk17 w base x := by
  intro hn
  rcases h.2 with ⟨hv, h0⟩ | ⟨g, cap, cur, hv, hb, hg, hnc, hcm, hsz, _⟩
  · injection hv with _ h1 h2
    omega
  · injection hv with h1 h2 h3
    exact ⟨g, cur, h1, hb, hg, by omega⟩
theorem Blk17.fr {w w' : World} {base : Nat} {x : Om} (h : Blk17 w base x) (hf : Fr (fun _ => False) w w') : Blk17 w' base x := fun hn => by
  obtain ⟨g, cur, h1, h2, h3, h4⟩ := h hn
  exact ⟨g, cur, h1, h2, hf.blk h3 (fun h => h), h4⟩
theorem Blk17.set {w : World} {base : Nat} {x : Om} (h : Blk17 w base x) (g i : Nat) (u : Value) : Blk17 (w.setCell ⟨g, i, none⟩ u) base x := fun hn => by
  obtain ⟨g', cur, h1, h2, h3, h4⟩ := h hn
  by_cases hg : g' = g
  · subst hg
    refine ⟨g', cur.setIfInBounds i u, h1, h2, ?_, by simpa using h4⟩
    simp [World.setCell, Array.getElem?_modify, h3]
  · exact ⟨g', cur, h1, h2, ((Fr.refl (fun b => b = g) w).setCell (p := ⟨g, i, none⟩) (fun _ => rfl) u).blk h3 hg, h4⟩
theorem run_addx (B : List UInt8) (hB : B.length ≤ 1000000) (w : World) : (Op.stringOp .add (txt B) ⟨#[120]⟩).run Try.prog w = .ok (.string (txt (B ++ [120]))) w := by
  have hs : (txt B).size = B.length := txt_sz B
  have h1 : ((⟨#[120]⟩ : ByteArray)).size = 1 := rfl
  have hm : IntKind.i64.max = 9223372036854775807 := rfl
  have e : txt B ++ (⟨#[120]⟩ : ByteArray) = txt (B ++ [120]) := by
    apply ByteArray.ext
    rw [ByteArray.data_append]
    simp [txt]
  unfold Op.stringOp
  simp only [hs, h1, hm]
  rw [if_neg (by omega), e]
  rfl
set_option maxRecDepth 100000 in
set_option maxHeartbeats 12800000 in
theorem opcopies_law (A : Option Addr) (n c : Nat) (L : List Om) (w : World) (hL : Ops w A n L) (hn : n ≤ 9223372036854775807) (hlen : ∀ x ∈ L, x.lens) :
    Calls Try.prog 7 #[.slice A n c] w fun e w' => e = .returned (.bool true) ∧ Fr (fun _ => False) w w' := by
  have hln := hL.len
  have haw := fun w' => awake17_any w'
  have hfw := fun w' (hf : Fr (fun _ => False) w w') => rfew_any A n c L 60 w' (hL.fr hf) hn (by omega) hlen
  obtain ⟨b, hb⟩ : ∃ b, (decide (n ≤ 60) && fewB L) = b := ⟨_, rfl⟩
  simp only [hb] at hfw
  have hfw2 : ∀ w' (hf : Fr (fun _ => False) w w'), Calls Try.prog 10 #[.slice A n c, .int .i64 60] w' fun e w'' => e = .returned (.bool b) ∧ w' = w'' := hfw
  have HAW := Lib.hid haw
  have HFW := Lib.hid hfw2
  have HL := Lib.hid hL
  have HLN := Lib.hid hln
  cases b with
  | false =>
    clear hL hln hn hlen haw hfw hfw2 hb
    go_enter Try.func7, Try.ntmps7
    go_wp2_with fail
    refine (HAW.out _).mono ?_
    rintro e w1 ⟨rfl, hf⟩
    have HF1 := Lib.hid hf
    clear hf
    go_wp2_with fail
    refine (HFW.out _ HF1.out).mono ?_
    rintro e w2 ⟨rfl, rfl⟩
    go_wp2_with fail
    refine (HAW.out _).mono ?_
    rintro e w3 ⟨rfl, hf⟩
    have HF3 := Lib.hid (HF1.out.trans hf (fun _ _ h => h))
    clear hf
    go_wp2_with fail
    go_ret
    exact ⟨rfl, HF3.out⟩
  | true =>
    rw [Bool.and_eq_true, decide_eq_true_eq] at hb
    have hn60 := hb.1
    have HSH := Lib.hid (few_short hb.2)
    clear hL hln hn hlen haw hfw hfw2 hb
    go_enter Try.func7, Try.ntmps7
    go_wp2_with fail
    refine (HAW.out _).mono ?_
    rintro e w1 ⟨rfl, hf⟩
    have HF1 := Lib.hid hf
    clear hf
    go_wp2_with fail
    refine (HFW.out _ HF1.out).mono ?_
    rintro e w2 ⟨rfl, rfl⟩
    have hcp := copy_any A n c L w1 (HL.out.fr HF1.out) (by omega) (fun x hx => (HSH.out x hx).1)
    have HCP := Lib.hid hcp
    clear hcp
    go_wp2_with fail
    refine HCP.out.mono ?_
    intro e w3 h3
    obtain ⟨A1, c1, M, rfl, hmo, ho, hpm, hf⟩ := h3
    have hmn : M.length = n := by
      have := congrArg List.length hmo
      rw [List.length_map, List.length_map] at this
      have := HLN.out
      omega
    have hsame : ∀ (k : Nat) (x y : Om), M[k]? = some x → L[k]? = some y → x.o = y.o := fun k x y hx hy => by
      have h1 : (M.map Om.o)[k]? = some x.o := by rw [List.getElem?_map, hx]; rfl
      have h2 : (L.map Om.o)[k]? = some y.o := by rw [List.getElem?_map, hy]; rfl
      rw [hmo, h2] at h1
      injection h1 with h1
      exact h1.symm
    have HF3 := Lib.hid (HF1.out.trans hf (fun _ _ h => h))
    have hpr : ∀ x ∈ M, Prd w3 x := fun x hx => by
      have h := hpm x hx
      exact ⟨h.prs, (own_cap h).2.1, (own_cap h).2.2⟩
    have hmp : ∀ x ∈ M, x.o.pr.length ≤ 40 := fun x hx => by
      obtain ⟨k, hk⟩ := List.getElem?_of_mem hx
      have hkl := (List.getElem?_eq_some_iff.1 hk).1
      obtain ⟨y, hy⟩ : ∃ y, L[k]? = some y := ⟨_, List.getElem?_eq_getElem (by have := HLN.out; omega)⟩
      rw [hsame k x y hk hy]
      exact (HSH.out y (List.mem_of_getElem? hy)).2
    have hops := ho.ops hpr
    rw [hmn] at hops ⊢
    have hrs := rsameO_any A1 n c1 M A n c L w3 hops (HL.out.fr HF3.out) (by omega) (by omega) (fun x hx => by have := hmp x hx; omega) (fun x hx => by have := (HSH.out x hx).2; omega) true (by simp [hmo])
    have HRS := Lib.hid hrs
    have HO : Hid (∀ (k : Nat) (x : Om), M[k]? = some x → ∃ b o, A1 = some ⟨b, o, none⟩ ∧ Oat w3 b (o + k * 13) x ∧ w1.heap.size ≤ b) := Lib.hid (fun k x hk => by
      obtain ⟨b, o, e, _, hat⟩ := ho.at_ k x hk
      exact ⟨b, o, e, hat, (ho.lt b (by rw [e]; rfl)).1⟩)
    have HTY : Hid (∀ (b o : Nat), A1 = some ⟨b, o, none⟩ → ∀ x ∈ M, ∀ g, x.A = some ⟨g, 0, none⟩ → 0 < x.o.pr.length → g ≠ b) := Lib.hid (fun b o e x hx g hg hp hgb => by
      subst hgb
      have h1 : (Value.slice A1 M.length c1).ownBlock = some g := by
        rcases ho.2 with ⟨hv, h0⟩ | ⟨g', cap, cur, hv, _⟩
        · rw [e] at hv; cases hv
        · rw [e]; rfl
      have h2 : (Value.slice x.A x.o.pr.length x.c).ownBlock = some g := by rw [hg]; rfl
      exact own_two ho (hpm x hx) (by decide) h1 h2)
    have HPB : Hid (∀ x ∈ M, Blk17 w3 w1.heap.size x) := Lib.hid (fun x hx => Blk17.of (hpm x hx))
    have HSM := Lib.hid hsame
    have HMN := Lib.hid hmn
    have HF13 := Lib.hid hf
    have HMP := Lib.hid hmp
    clear hmo ho hpm hf hmn hsame hpr hops hrs HCP hmp
    go_wp2_with fail
    refine HRS.out.mono ?_
    rintro e w4 ⟨rfl, hf⟩
    have HF4 : Hid (Fr (fun _ => False) w1 w4) := Lib.hid (HF13.out.trans hf (fun _ _ h => h))
    have HO4 : Hid (∀ (k : Nat) (x : Om), M[k]? = some x → ∃ b o, A1 = some ⟨b, o, none⟩ ∧ Oat w4 b (o + k * 13) x ∧ w1.heap.size ≤ b) := Lib.hid (fun k x hk => by
      obtain ⟨b, o, e, hat, hb⟩ := HO.out k x hk
      exact ⟨b, o, e, hat.fr hf (fun h => h), hb⟩)
    have HPB4 : Hid (∀ x ∈ M, Blk17 w4 w1.heap.size x) := Lib.hid (fun x hx => (HPB.out x hx).fr hf)
    clear hf HO HPB HRS HF13 HF3
    go_wp2_with fail
    go_loopw [4] (fun i wr => ∃ k : Nat, k ≤ n ∧ i = .int .i64 (k : Int) ∧ Hid (Fr (fun _ => False) w1 wr) ∧ Hid (∀ (k : Nat) (x : Om), M[k]? = some x → ∃ b o, A1 = some ⟨b, o, none⟩ ∧ Oat wr b (o + k * 13) x ∧ w1.heap.size ≤ b) ∧ Hid (∀ x ∈ M, Blk17 wr w1.heap.size x)) (fun i _ => n - (intOf i).toNat)
    case atStart => exact ⟨0, Nat.zero_le _, rfl, HF4, HO4, HPB4⟩
    case round =>
      obtain ⟨k, hk, rfl, HFR, HOR, HPR⟩ := hrel
      rename World => wr
      by_cases hlt : k < n
      · obtain ⟨x, hx⟩ : ∃ x, M[k]? = some x := ⟨_, List.getElem?_eq_getElem (by have := HMN.out; omega)⟩
        obtain ⟨y, hy⟩ : ∃ y, L[k]? = some y := ⟨_, List.getElem?_eq_getElem (by have := HLN.out; omega)⟩
        have hxy := HSM.out k x y hx hy
        obtain ⟨lp, hlp⟩ : ∃ l, x.o.pr.length = l := ⟨_, rfl⟩
        have hl40 : lp ≤ 40 := by rw [← hlp]; exact HMP.out x (List.mem_of_getElem? hx)
        have HLP := Lib.hid hlp
        have HLPY : Hid (y.o.pr.length = lp) := Lib.hid (by rw [← hlp, hxy])
        obtain ⟨bx, ox, hA1, _, _⟩ := HOR.out k x hx
        obtain ⟨by', oy, hA, _, _⟩ := HL.out.1.2 k y hy
        obtain ⟨Ax, hAx⟩ : ∃ q, x.A = q := ⟨_, rfl⟩
        obtain ⟨Ay, hAy⟩ : ∃ q, y.A = q := ⟨_, rfl⟩
        have HAx := Lib.hid hAx
        have HAy := Lib.hid hAy
        have HX := Lib.hid hx
        have HY := Lib.hid hy
        have HXM := Lib.hid (List.mem_of_getElem? hx)
        have HYM := Lib.hid (List.mem_of_getElem? hy)
        subst hA1 hA
        clear hx hy hxy hlp hAx hAy
        go_wp2_with fail
        go_loopw [5] (fun i wq => ∃ j : Nat, j ≤ lp ∧ i = .int .i64 (j : Int) ∧ Hid (Fr (fun _ => False) w1 wq) ∧ Hid (∀ (k : Nat) (x : Om), M[k]? = some x → ∃ b o, (some ⟨bx, ox, none⟩ : Option Addr) = some ⟨b, o, none⟩ ∧ Oat wq b (o + k * 13) x ∧ w1.heap.size ≤ b) ∧ Hid (∀ x ∈ M, Blk17 wq w1.heap.size x)) (fun i _ => lp - (intOf i).toNat)
        case atStart => exact ⟨0, Nat.zero_le _, rfl, HFR, HOR, HPR⟩
        case round =>
          obtain ⟨j, hj, rfl, HFQ, HOQ, HPQ⟩ := hrel
          rename World => wq
          obtain ⟨b', o', hbo, hat, hbb⟩ := HOQ.out k x HX.out
          injection hbo with hbo
          injection hbo with hbo1 hbo2
          subst hbo1 hbo2
          obtain ⟨k0, k1, k2, k3, k4, k5, k6, k7, k8, k9, k10, k11, k12⟩ := hat
          rw [HLP.out, HAx.out] at k12
          clear k0 k1 k2 k3 k4 k5 k6 k7 k8 k9 k10 k11
          by_cases hlt2 : j < lp
          · obtain ⟨u, hu⟩ : ∃ u, y.o.pr[j]? = some u := ⟨_, List.getElem?_eq_getElem (by have := HLPY.out; omega)⟩
            have HFW2 : Hid (Fr (fun _ => False) w wq) := Lib.hid (HF1.out.trans HFQ.out (fun _ _ h => h))
            obtain ⟨gv, ov, hav, hgv, n0, n1⟩ := ((HL.out.2 y HYM.out).fr0 HF1.out).1.2 j u hu
            obtain ⟨by2, oy2, hya, _, hyat⟩ := (HL.out.fr HF1.out).1.2 k y HY.out
            injection hya with hya
            injection hya with hya1 hya2
            subst hya1 hya2
            have hlb : by' < w1.heap.size := by
              have h := hyat.1
              exact World.block_lt_of_cell? w1 _ h
            simp only [ncc, nac] at n0 n1
            obtain ⟨gx, cur, hax, hgx, hgb, hgs⟩ := HPQ.out x HXM.out (by have := HLP.out; omega)
            have hgne := HTY.out bx ox rfl x HXM.out gx hax (by have := HLP.out; omega)
            have hax2 := HAx.out.symm.trans hax
            have hav2 := HAy.out.symm.trans hav
            subst hax2 hav2
            have hm0 := HFQ.out.cell n0 (fun h => h)
            have hm1 := HFQ.out.cell n1 (fun h => h)
            obtain ⟨y0, y1, y2, y3, y4, y5, y6, y7, y8, y9, y10, y11, y12⟩ := hyat.fr HFQ.out (fun h => h)
            rw [HLPY.out, HAy.out] at y12
            have hul : u.a.length ≤ 1000000 := (HSH.out y HYM.out).1.2.2.2.2.2 u (List.mem_of_getElem? hu)
            have HG : Hid (gx ≠ bx ∧ w1.heap.size ≤ gx ∧ by' < w1.heap.size ∧ gv < w1.heap.size) := Lib.hid ⟨hgne, hgx, hlb, hgv⟩
            have HBQ : Hid (wq.heap[gx]? = some (.cells cur 27 (0, 0)) ∧ lp * 2 ≤ cur.size) := Lib.hid ⟨hgb, by rw [← HLP.out]; exact hgs⟩
            have HYAT := Lib.hid (hyat.fr HFQ.out (fun h => h))
            have HUL := Lib.hid hul
            have HM0 := Lib.hid hm0
            have HM1 := Lib.hid hm1
            obtain ⟨p2, hp2⟩ : ∃ p, wq.heap.size = p := ⟨_, rfl⟩
            obtain ⟨v1, hv1⟩ : ∃ v, wq.alloc (.cells #[.int .i64 0, .string ⟨#[]⟩] 27) = v := ⟨_, rfl⟩
            have hg1 : Fr (fun _ => False) wq v1 := by rw [← hv1]; exact (Fr.refl _ _).alloc _
            have hz1 : RowN v1 p2 zeroN := by rw [← hv1, ← hp2]; exact RowN.new wq zeroN
            have HV1 := Lib.hid hz1
            have HG1 := Lib.hid hg1
            have HP2 := Lib.hid hp2
            have hjI : (j : Int) < (lp : Int) := by omega
            have hkI : (k : Int) < (n : Int) := by omega
            clear hu hgv hav hgx hgb hgs hgne hax n0 n1 hul hg1 hz1 hlb hyat y0 y1 y2 y3 y4 y5 y6 y7 y8 y9 y10 y11
            go_wp2_with (refine store_st nSz rfl (.tmp 6) (.tmp 44) rfl p2 (by rfl) (nls u) (by rfl) _ _ HV1.out rfl rfl (n_one _) ?_)
            intro v2 hr2 hf2
            have hu2 : RowN v2 p2 u := hr2
            have HG2 : Hid (Fr (fun _ => False) wq v2) := Lib.hid (HG1.out.trans hf2 (fun b hb h => by have := HP2.out; omega))
            obtain ⟨d0, d1⟩ := hu2.cells
            have HU2 := Lib.hid hu2
            have hk12 := HG2.out.cell k12 (fun h => h)
            have hgx2 := HG2.out.blk HBQ.out.1 (fun h => h)
            obtain ⟨o1, ho1⟩ : ∃ o, cur[j * 2 + 1]? = some o := ⟨_, Array.getElem?_eq_getElem (by have := HBQ.out.2; omega)⟩
            have hcx : v2.cell? ⟨gx, j * 2 + 1, none⟩ = some o1 := by rw [cell_of hgx2]; exact ho1
            have fx : v2.frozen? ⟨gx, j * 2 + 1, none⟩ = false := free_of hgx2 _
            have HGX2 := Lib.hid hgx2
            obtain ⟨ux, hux⟩ : ∃ B, txt (u.a ++ [120]) = B := ⟨_, rfl⟩
            have hadd : ∀ w' : World, (Op.stringOp .add (txt u.a) ⟨#[120]⟩).run Try.prog w' = .ok (.string ux) w' := fun w' => by rw [← hux]; exact run_addx u.a (HUL.out) w'
            clear hux
            clear hr2 hf2 hv1 hp2 k12 hm0 hm1 y12 hgx2 ho1
            go_upto_region 13 with fail
            go_still_tail 11, (by kernel_rfl)
            change wpList _ _ _ _ _ v2.drew
            obtain ⟨v3, hv3⟩ : ∃ v, (v2.drew).setCell ⟨gx, j * 2 + 1, none⟩ (.string ux) = v := ⟨_, rfl⟩
            have fd : (v2.drew).frozen? ⟨gx, j * 2 + 1, none⟩ = false := fx
            have ed : (v2.drew).cell? ⟨gx, j * 2 + 1, none⟩ = some o1 := hcx
            have hff : Fr (fun b => b = gx) v2 v3 := by rw [← hv3]; exact (Fr.refl _ _).drew.trans (Fr.set1 _ _ _ _) (fun _ _ h => h)
            have hqf : Fr (fun b => b = gx) wq v3 := (HG2.out.mono (fun _ _ h => h.elim)).trans hff (fun _ _ h => h)
            have hgxl : gx < p2 := by rw [← HP2.out]; exact Mem.lt_of_heap HBQ.out.1
            have HU3 := Lib.hid (HU2.out.fr hff (fun h => by omega))
            have hY3 := HYAT.out.fr hqf (fun h => by have := HG.out; omega)
            have hm0 := hqf.cell HM0.out (fun h => by have h' : gv = gx := h; have := HG.out; omega)
            have hm1 := hqf.cell HM1.out (fun h => by have h' : gv = gx := h; have := HG.out; omega)
            have HFN : Hid (Fr (fun _ => False) w1 v3) := Lib.hid (HFQ.out.trans hqf (fun b hb h => by have := HG.out; omega))
            have HON : Hid (∀ (k : Nat) (x : Om), M[k]? = some x → ∃ b o, (some ⟨bx, ox, none⟩ : Option Addr) = some ⟨b, o, none⟩ ∧ Oat v3 b (o + k * 13) x ∧ w1.heap.size ≤ b) := Lib.hid (fun k x hk => by
              obtain ⟨b, o, e, hat, hb⟩ := HOQ.out k x hk
              injection e with e
              injection e with e1 e2
              subst e1 e2
              exact ⟨bx, ox, rfl, hat.fr hqf (fun h => HG.out.1 h.symm), hb⟩)
            have HPN : Hid (∀ x ∈ M, Blk17 v3 w1.heap.size x) := Lib.hid (fun x hx => by
              have h := (((HPQ.out x hx).fr HG2.out).set gx (j * 2 + 1) (.string ux))
              have e : (v2.setCell ⟨gx, j * 2 + 1, none⟩ (.string ux)).heap = v3.heap := by rw [← hv3]; rfl
              intro hn
              obtain ⟨g', cur', a1, a2, a3, a4⟩ := h hn
              exact ⟨g', cur', a1, a2, by rw [← e]; exact a3, a4⟩)
            obtain ⟨y0, y1, y2, y3, y4, y5, y6, y7, y8, y9, y10, y11, y12⟩ := hY3
            rw [HLPY.out, HAy.out] at y12
            obtain ⟨q1, q2⟩ := n_neq u u
            rw [eqN_self] at q2
            clear y0 y1 y2 y3 y4 y5 y6 y7 y8 y9 y10 y11 hff hqf hgxl hadd
            go_upto_region 14 with fail
            clear hv3 fd ed d0 d1 hcx fx hk12
            obtain ⟨d0, d1⟩ := HU3.out.cells
            go_quiet (fail)
            have HFN2 := Lib.hid (HFN.out.drewN nq)
            have HON2 : Hid (∀ (k : Nat) (x : Om), M[k]? = some x → ∃ b o, (some ⟨bx, ox, none⟩ : Option Addr) = some ⟨b, o, none⟩ ∧ Oat (v3.drewN nq) b (o + k * 13) x ∧ w1.heap.size ≤ b) := Lib.hid HON.out
            have HPN2 : Hid (∀ x ∈ M, Blk17 (v3.drewN nq) w1.heap.size x) := Lib.hid HPN.out
            clear d0 d1 y12 hm0 hm1 q1 q2
            go_wp2_with fail
            exact ⟨⟨j + 1, by omega, by go_num, HFN2, HON2, HPN2⟩, by simp [intOf]; omega⟩
          · obtain rfl : j = lp := by omega
            go_wp2_with fail
            exact ⟨⟨k + 1, by omega, by go_num, HFQ, HOQ, HPQ⟩, by simp [intOf]; omega⟩
      · obtain rfl : k = n := by omega
        go_wp2_with fail
        go_ret
        exact ⟨rfl, HF1.out.trans HFR.out (fun _ _ h => h)⟩
end Go.Proofs.Ytmiofhoojahpjaa
