/-
  Layer 20, the program: the reader: positive, signed, text, table.
  Layer 20: a slice of one hash is made.
-/
import Derived.Test.YtbnkahjmeobblaaZm23
import Derived.Test.YtbnkahjmeobblaaAcH
import Derived.Test.YtbnkahjmeobblaaZm22
import Derived.Great.BuildSlice
namespace Go.Proofs.Ytbnkahjmeobblaa
open Go.RowKit Mem Go.Lib LebM DirM AcM HeM
attribute [local go_sem ↓] Go.wp_at_zero Go.wp_at_succ
set_option linter.unusedVariables false

theorem z20 (n : Nat) : ((n : Int) == 0) = decide (n = 0) := by
  by_cases h : n = 0
  · subst h; rfl
  · rw [decide_eq_false h]; simp; omega
theorem z20' (n : Nat) : (n == 0) = decide (n = 0) := by
  by_cases h : n = 0
  · subst h; rfl
  · rw [decide_eq_false h]; simp; omega
theorem nz20 (n : Nat) : ((n : Int) != 0) = decide (n ≠ 0) := by
  by_cases h : n = 0
  · subst h; rfl
  · rw [decide_eq_true h]; simp; omega
theorem nz20' (n : Nat) : (n != 0) = decide (n ≠ 0) := by
  by_cases h : n = 0
  · subst h; rfl
  · rw [decide_eq_true h]; simp; omega
theorem OwT.frS {S : Nat → Prop} {w w' : World} {base c : Nat} {A : Option Addr} {L : List Tx} (h : OwT w base A c L) (hf : Fr S w w') (hS : ∀ k, base ≤ k → ¬ S k) : OwT w' base A c L := hf.own h (fun k hk => hS k (h.lt k hk).1)
theorem refuseM_any (g X : Nat) (s : St) (b : Bool) (x : Int) (w : World) (h : Hdm w g s) (hx : x = (X : Int)) :
    Calls Try.prog 61 #[.pointer (some ⟨g, 0, none⟩), .bool b, .int .i64 x] w fun e w' => e = .returned (.tuple #[]) ∧ Hdm w' g ⟨s.l, rf b X s.e⟩ ∧ Fr (fun k => k = g) w w' := by
  obtain ⟨A, n, c, hr, hrd, hnc, hn9, hne⟩ := h
  refine (hRefuse_any g A n c s.e X x b w hr hx).mono ?_
  rintro e w' ⟨rfl, hr', hf⟩
  exact ⟨rfl, ⟨A, n, c, hr', hrd.frp hf (fun hn ad e h => by have h7 := hne hn ad e; have h8 : ad.block = g := h; omega), hnc, hn9, hne⟩, hf⟩
theorem Hdm.lt {w : World} {g : Nat} {s : St} (h : Hdm w g s) : g < w.heap.size := by
  obtain ⟨A, n, c, hr, _⟩ := h
  exact Row.lt hr
theorem Hdm.fr {S : Nat → Prop} {w w' : World} {g : Nat} {s : St} (h : Hdm w g s) (hf : Fr S w w') (hS : ∀ k, k ≤ g → ¬ S k) : Hdm w' g s := by
  obtain ⟨A, n, c, hr, hrd, hnc, hn9, hne⟩ := h
  exact ⟨A, n, c, Row.fr hr hf (hS g (Nat.le_refl _)), hrd.frp hf (fun hn ad e h => hS _ (by have := hne hn ad e; omega) h), hnc, hn9, hne⟩
set_option maxRecDepth 100000 in
set_option maxHeartbeats 1600000 in
theorem hPositive_any (g : Nat) (s : St) (m : Nat) (w : World) (h : Hdm w g s) (hm : m ≤ 9007199254740991) :
    Calls Try.prog 58 #[.pointer (some ⟨g, 0, none⟩), .int .u64 (m : Int)] w fun e w' => e = .returned (.int .i64 ((pos m s).1 : Int)) ∧ Hdm w' g (pos m s).2 ∧ Fr (fun k => k = g) w w' := by
  have HN := Lib.hid (hNumber_any g s m w h hm)
  obtain ⟨N, hN⟩ : ∃ N, (num m s).1 = N := ⟨_, rfl⟩
  obtain ⟨s1, hs1⟩ : ∃ s1, (num m s).2 = s1 := ⟨_, rfl⟩
  have e : pos m s = (N, ⟨s1.l, rf (decide (N = 0)) 3 s1.e⟩) := by unfold pos; rw [hN, hs1]
  rw [hN, hs1] at HN
  rw [e]
  obtain ⟨b, hb⟩ : ∃ b, decide (N = 0) = b := ⟨_, rfl⟩
  rw [hb]
  have t0 : ((N : Int) == 0) = b := by rw [← hb]; exact z20 N
  have t0' : (N == 0) = b := by rw [← hb]; exact z20' N
  clear h hN hs1 e hb
  go_enter Try.func58, Try.ntmps58
  go_wp2_with fail
  refine HN.out.mono ?_
  rintro e w1 ⟨rfl, hd1, hf1⟩
  have HR := Lib.hid (refuseM_any g 3 s1 b 3 w1 hd1 rfl)
  have HF1 := Lib.hid hf1
  clear hd1 hf1
  go_wp2_with fail
  refine HR.out.mono ?_
  rintro e w2 ⟨rfl, hd2, hf2⟩
  have HD2 := Lib.hid hd2
  have HF2 := Lib.hid (HF1.out.trans hf2 (fun _ _ h => h))
  clear hd2 hf2
  go_wp2_with fail
  go_ret
  exact ⟨rfl, HD2.out, HF2.out⟩
set_option maxRecDepth 100000 in
set_option maxHeartbeats 3200000 in
theorem hSigned_any (g : Nat) (s : St) (w : World) (h : Hdm w g s) :
    Calls Try.prog 59 #[.pointer (some ⟨g, 0, none⟩)] w fun e w' => e = .returned (.int .i64 (sig s).1) ∧ Hdm w' g (sig s).2 ∧ Fr (fun k => k = g) w w' := by
  obtain ⟨B, E⟩ := s
  by_cases hE : E = 0
  · subst hE
    have es : sig ⟨B, 0⟩ = ((gs B).1, ⟨B.drop (gs B).2.1, (gs B).2.2⟩) := by unfold sig; rw [if_neg (by simp)]
    obtain ⟨A, n, c, hr, hrd, hnc, hn9, hne⟩ := h
    simp only at hr hrd
    have d0 : w.cell? ⟨g, 0, none⟩ = some (.slice A n c) := Row.cell hr rfl
    have d1 : w.cell? ⟨g, 1, none⟩ = some (.int .i64 0) := Row.cell hr rfl
    have hBn : B.length = n := by simpa using hrd.1
    have hg := GetS_any A n c B w hrd hnc
    obtain ⟨N, hN⟩ : ∃ N, (gs B).1 = N := ⟨_, rfl⟩
    obtain ⟨k, hk⟩ : ∃ k, (gs B).2.1 = k := ⟨_, rfl⟩
    obtain ⟨E, hE⟩ : ∃ E, (gs B).2.2 = E := ⟨_, rfl⟩
    have hkn : k ≤ n := by
      rw [← hk, ← hBn]
      have := (spanK_le B).1
      unfold gs
      split
      · exact Nat.zero_le _
      · split
        · exact this
        · exact Nat.zero_le _
    rw [hN, hk, hE] at es hg
    rw [es]
    obtain ⟨b, hb⟩ : ∃ b, decide (E ≠ 0) = b := ⟨_, rfl⟩
    have t0 : ((E : Int) != 0) = b := by rw [← hb]; exact nz20 E
    have t0' : (E != 0) = b := by rw [← hb]; exact nz20' E
    have hrb : rf b E 0 = E := by
      rw [← hb]
      by_cases h0 : E = 0
      · subst h0; rfl
      · rw [decide_eq_true h0]; rfl
    have HRB := Lib.hid hrb
    have HR := Lib.hid hr
    have HRD := Lib.hid hrd
    have HG := Lib.hid hg
    have HNE := Lib.hid hne
    have HRF := Lib.hid (fun w h => hRefuse_any g A n c 0 E (E : Int) b w h rfl)
    clear hr hrd hg hne hBn hN hk hE es hrb hb
    go_enter Try.func59, Try.ntmps59
    go_wp2_with fail
    refine HG.out.mono ?_
    rintro e w1 ⟨rfl, hf1⟩
    have HR1 := Lib.hid (Row.fr HR.out hf1 (fun h => h))
    have HK1 : Hid (Fr (fun k => k = g) w w1) := Lib.hid (hf1.mono (fun _ _ h => h.elim))
    clear hf1 d0 d1
    go_wp2_with fail
    refine (HRF.out w1 HR1.out).mono ?_
    rintro e w3 ⟨rfl, hr3, hf3⟩
    rw [HRB.out] at hr3
    have d0 : w3.cell? ⟨g, 0, none⟩ = some (.slice A n c) := Row.cell hr3 rfl
    have f0 : w3.frozen? ⟨g, 0, none⟩ = false := Row.free hr3 0
    have HR3 := Lib.hid hr3
    have HK3 := Lib.hid (HK1.out.trans hf3 (fun _ _ h => h))
    have HRD3 := Lib.hid (HRD.out.frp HK3.out (fun hn ad e h => by have h7 := HNE.out hn ad e; have h8 : ad.block = g := h; omega))
    clear hr3 hf3
    by_cases hck : c = k
    · subst hck
      go_wp2_with fail
      go_ret
      exact ⟨rfl, Hdm.cut_eq HR3.out HRD3.out hnc hn9 HNE.out hkn, HK3.out.trans (Fr.set1 _ g 0 _) (fun _ _ h => h)⟩
    · go_wp2_with fail
      go_ret
      exact ⟨rfl, Hdm.cut_ne HR3.out HRD3.out hnc hn9 HNE.out hkn hck, HK3.out.trans (Fr.set1 _ g 0 _) (fun _ _ h => h)⟩
  · have es : sig ⟨B, E⟩ = (0, ⟨B, E⟩) := by unfold sig; rw [if_pos hE]
    rw [es]
    have t0 : ((E : Int) != 0) = true := by simp; omega
    have t0' : (E != 0) = true := by simp; omega
    have H := Lib.hid h
    obtain ⟨A, n, c, hr, _⟩ := h
    have d1 : w.cell? ⟨g, 1, none⟩ = some (.int .i64 (E : Int)) := Row.cell hr rfl
    clear hr hE es
    go_enter Try.func59, Try.ntmps59
    go_wp2_with fail
    go_ret
    exact ⟨rfl, H.out, Fr.refl _ _⟩
set_option maxRecDepth 100000 in
set_option maxHeartbeats 1600000 in
theorem hText_any (g : Nat) (s : St) (m : Nat) (w : World) (h : Hdm w g s) (hm : m ≤ 9007199254740991) :
    Calls Try.prog 57 #[.pointer (some ⟨g, 0, none⟩), .int .i64 (m : Int)] w fun e w' => e = .returned (.string (txt (byt m s).1)) ∧ Hdm w' g (byt m s).2 ∧ Fr (fun k => k = g) w w' := by
  have HN := Lib.hid (hBytes_any g s m w h hm)
  obtain ⟨x, hx⟩ : ∃ x, (byt m s).1 = x := ⟨_, rfl⟩
  obtain ⟨s1, hs1⟩ : ∃ s1, (byt m s).2 = s1 := ⟨_, rfl⟩
  rw [hx, hs1] at HN ⊢
  clear h hx hs1
  go_enter Try.func57, Try.ntmps57
  go_wp2_with fail
  refine HN.out.mono ?_
  rintro e w1 ⟨A', c', rfl, hrd, _, _, hd1, hf1⟩
  have hs := str_rd hrd c'
  obtain ⟨z, hz⟩ : ∃ z, x.length = z := ⟨_, rfl⟩
  rw [hz] at hs ⊢
  have HD1 := Lib.hid hd1
  have HF1 := Lib.hid hf1
  clear hd1 hf1 hrd
  go_wp2_with fail
  go_ret
  exact ⟨rfl, HD1.out.fr (S := fun _ => False) (by first | exact Fr.refl _ _ | exact (Fr.refl _ _).drew) (fun _ _ h => h), by first | exact HF1.out | exact HF1.out.drew⟩
theorem get_le20 (a : Tx) (B : List UInt8) : (getA a B).2.1 ≤ B.length := by
  unfold getA
  split
  · exact Nat.zero_le _
  · split
    · exact Nat.zero_le _
    · rename_i h1 h2
      have h3 := (run_ok (a := a) (gu B).1 [] (B.drop (gu B).2.1) (by omega)).2.2.2.2.2
      have h4 := (DirM.gu_lt B).2.1
      rw [List.length_drop] at h3
      show (gu B).2.1 + _ ≤ _
      omega
set_option maxRecDepth 100000 in
set_option maxHeartbeats 3200000 in
theorem hTable_any (g : Nat) (s : St) (a : Tx) (w : World) (h : Hdm w g s) (ha : a.length ≤ 1000000) :
    Calls Try.prog 40 #[.pointer (some ⟨g, 0, none⟩), .string (txt a)] w fun e w' => ∃ A' c', e = .returned (.slice A' (tabS a s).1.length c') ∧ OwT w' w.heap.size A' c' (tabS a s).1 ∧ Hdm w' g (tabS a s).2 ∧ Fr (fun k => k = g) w w' := by
  obtain ⟨B, E⟩ := s
  by_cases hE : E = 0
  · subst hE
    have es : tabS a ⟨B, 0⟩ = ((getA a B).1, ⟨B.drop (getA a B).2.1, (getA a B).2.2⟩) := by unfold tabS; rw [if_neg (by simp)]
    obtain ⟨A, n, c, hr, hrd, hnc, hn9, hne⟩ := h
    simp only at hr hrd
    have d0 : w.cell? ⟨g, 0, none⟩ = some (.slice A n c) := Row.cell hr rfl
    have d1 : w.cell? ⟨g, 1, none⟩ = some (.int .i64 0) := Row.cell hr rfl
    have hBn : B.length = n := by simpa using hrd.1
    have hg := acGet_any a A n c B w hrd hnc (by omega) ha
    obtain ⟨T, hT⟩ : ∃ T, (getA a B).1 = T := ⟨_, rfl⟩
    obtain ⟨k, hk⟩ : ∃ k, (getA a B).2.1 = k := ⟨_, rfl⟩
    obtain ⟨E, hE⟩ : ∃ E, (getA a B).2.2 = E := ⟨_, rfl⟩
    have hkn : k ≤ n := by
      rw [← hk, ← hBn]
      exact get_le20 a B
    rw [hT, hk, hE] at es hg
    rw [es]
    obtain ⟨z, hz⟩ : ∃ z, T.length = z := ⟨_, rfl⟩
    obtain ⟨b, hb⟩ : ∃ b, decide (E ≠ 0) = b := ⟨_, rfl⟩
    have t0 : ((E : Int) != 0) = b := by rw [← hb]; exact nz20 E
    have t0' : (E != 0) = b := by rw [← hb]; exact nz20' E
    have hrb : rf b E 0 = E := by
      rw [← hb]
      by_cases h0 : E = 0
      · subst h0; rfl
      · rw [decide_eq_true h0]; rfl
    have hgw : g < w.heap.size := Row.lt hr
    have HGW := Lib.hid hgw
    have HRB := Lib.hid hrb
    have HR := Lib.hid hr
    have HRD := Lib.hid hrd
    have HG := Lib.hid hg
    have HNE := Lib.hid hne
    have HZ := Lib.hid hz
    have HRF := Lib.hid (fun w h => hRefuse_any g A n c 0 E (E : Int) b w h rfl)
    clear hr hrd hg hne hBn hT hk hE es hrb hb hgw hz ha
    go_enter Try.func40, Try.ntmps40
    go_wp2_with fail
    refine HG.out.mono ?_
    rintro e w1 ⟨A2, c2, rfl, ho1, hf1⟩
    rw [HZ.out]
    have HO1 := Lib.hid ho1
    have HR1 := Lib.hid (Row.fr HR.out hf1 (fun h => h))
    have HK1 : Hid (Fr (fun k => k = g) w w1) := Lib.hid (hf1.mono (fun _ _ h => h.elim))
    clear hf1 d0 d1 ho1
    go_wp2_with fail
    refine (HRF.out w1 HR1.out).mono ?_
    rintro e w3 ⟨rfl, hr3, hf3⟩
    rw [HRB.out] at hr3
    have d0 : w3.cell? ⟨g, 0, none⟩ = some (.slice A n c) := Row.cell hr3 rfl
    have f0 : w3.frozen? ⟨g, 0, none⟩ = false := Row.free hr3 0
    have HR3 := Lib.hid hr3
    have HO3 := Lib.hid (HO1.out.frS hf3 (fun k hk h => by have := HGW.out; omega))
    have HK3 := Lib.hid (HK1.out.trans hf3 (fun _ _ h => h))
    have HRD3 := Lib.hid (HRD.out.frp HK3.out (fun hn ad e h => by have h7 := HNE.out hn ad e; have h8 : ad.block = g := h; omega))
    clear hr3 hf3
    by_cases hck : c = k
    · subst hck
      go_wp2_with fail
      go_ret
      rw [HZ.out]
      exact ⟨A2, c2, rfl, HO3.out.frS (Fr.set1 _ g 0 _) (fun k hk h => by have := HGW.out; omega), Hdm.cut_eq HR3.out HRD3.out hnc hn9 HNE.out hkn, HK3.out.trans (Fr.set1 _ g 0 _) (fun _ _ h => h)⟩
    · go_wp2_with fail
      go_ret
      rw [HZ.out]
      exact ⟨A2, c2, rfl, HO3.out.frS (Fr.set1 _ g 0 _) (fun k hk h => by have := HGW.out; omega), Hdm.cut_ne HR3.out HRD3.out hnc hn9 HNE.out hkn hck, HK3.out.trans (Fr.set1 _ g 0 _) (fun _ _ h => h)⟩
  · have es : tabS a ⟨B, E⟩ = ([], ⟨B, E⟩) := by unfold tabS; rw [if_pos hE]
    rw [es]
    have t0 : ((E : Int) != 0) = true := by simp; omega
    have t0' : (E != 0) = true := by simp; omega
    have H := Lib.hid h
    obtain ⟨A, n, c, hr, _⟩ := h
    have d1 : w.cell? ⟨g, 1, none⟩ = some (.int .i64 (E : Int)) := Row.cell hr rfl
    clear hr hE es
    go_enter Try.func40, Try.ntmps40
    go_wp2_with fail
    go_ret
    exact ⟨none, 0, rfl, OwT.nil _ _, H.out, Fr.refl _ _⟩
end Go.Proofs.Ytbnkahjmeobblaa
namespace Go.Proofs.Ytbnkahjmeobblaa
open Go.RowKit Mem Go.Lib AcM HeM
set_option linter.unusedVariables false

theorem fold_set {α : Type} : ∀ (C : List α) (D : List α) (o : Nat), o + C.length = D.length → (C.zipIdx o).foldl (fun (cs : Array α) x => cs.setIfInBounds x.2 x.1) D.toArray = (D.take o ++ C).toArray
  | [], D, o, h => by
    simp at h
    subst h
    simp
  | x :: C, D, o, h => by
    rw [List.length_cons] at h
    rw [List.zipIdx_cons, List.foldl_cons]
    simp only [List.setIfInBounds_toArray]
    rw [fold_set C (D.set o x) (o + 1) (by rw [List.length_set]; omega)]
    congr 1
    rw [List.take_set, List.take_add_one, List.getElem?_eq_getElem (by omega), Option.toList_some, List.set_append_right _ _ (by simp; omega)]
    simp [Nat.min_eq_left (show o ≤ D.length by omega)]
theorem fill_one (C Z : Array Value) (hC : C.size = 32) (hZ : Z.size = 32) : Instr.fill (fun i => some (i * 32, 32)) Z [(0, .agg C)] = some C := by
  obtain ⟨C⟩ := C
  obtain ⟨Z⟩ := Z
  have h := fold_set C Z 0 (by simp at hC hZ; omega)
  have hc : C.length = 32 := by simpa using hC
  have hz : Z.length = 32 := by simpa using hZ
  simp only [List.take_zero, List.nil_append] at h
  simp [Instr.fill, Value.cells, hc, hz]
  exact h
/-- one hash of a slice of them, by value -/
theorem load_h {ops : Array Oper} {rest : List Oper} {op : Oper} {a : Act} {w : World} {Q : Exit → Act → World → Prop} (hgd : op.guard = none) (x : Operand) (ho : op.op = .load 60 x)
    (g o : Nat) (hx : a.eval x = .pointer (some ⟨g, o, none⟩)) (h : Tx) (hl : h.length = 32) (C : Array Value) (hC : (h.map bytec).toArray = C) (hr : w.rangeAt g o (h.map bytec))
    (K : wpList Try.prog ops Q rest (a.put op.dst (.agg C)) w) : wpList Try.prog ops Q (op :: rest) a w := by
  subst hC
  exact wpList_load_mid hgd 60 x ho g o hx (h.map bytec) _ hr Try.underlying60 rfl (by rw [hsz20, List.length_map, hl]) K
theorem exec_load_h {op : Oper} {a : Act} {w : World} (x : Operand) (ho : op.op = .load 60 x) (g o : Nat) (hx : a.eval x = .pointer (some ⟨g, o, none⟩)) (h : Tx) (hl : h.length = 32) (C : Array Value) (hC : (h.map bytec).toArray = C) (hr : w.rangeAt g o (h.map bytec)) :
    (execOp a.eval op).run Try.prog w = .ok (.value (.agg C)) w := by
  subst hC
  unfold execOp
  simp only [ho, hx, Instr.loadAt, Instr.sureAddr, Sem.run_bind, Sem.run_pure, Result.andThen_ok, run_loadVar_mid w g o 60 (h.map bytec) _ hr Try.underlying60 rfl (by rw [hsz20, List.length_map, hl])]
theorem wpList_build1 {ops : Array Oper} {rest : List Oper} {o : Oper} {a : Act} {w : World} {Q : Exit → Act → World → Prop} (hg : o.guard = none) (x : Operand) (ho : o.op = .buildSlice 22 1 #[(0, x)])
    (C : Array Value) (hx : a.eval x = .agg C) (hC : C.size = 32)
    (h : wpList Try.prog ops Q rest (a.put o.dst (.slice (some ⟨w.heap.size, 0, none⟩) 1 1)) (w.alloc (.cells C 60))) : wpList Try.prog ops Q (o :: rest) a w := by
  obtain ⟨ie, hie, hz, hs⟩ : ∃ ie, Try.prog.info? 60 = some ie ∧ ie.zero = some (.agg (Array.replicate 32 (.int .u8 0))) ∧ ie.size = 32 := by
    have h0 : (Try.prog.info? 60).map (fun i => (i.zero, i.size)) = some (some (.agg (Array.replicate 32 (.int .u8 0))), 32) := by kernel_rfl
    cases hq : Try.prog.info? 60 with
    | none => rw [hq] at h0; cases h0
    | some ie =>
      rw [hq] at h0
      simp only [Option.map_some, Option.some.injEq, Prod.mk.injEq] at h0
      exact ⟨ie, rfl, h0.1, h0.2⟩
  refine wpList_buildSlice hg 22 60 1 #[(0, x)] ho C ie _ Try.underlying22 hie hz (by rw [hs]; decide) (by rw [hs]; decide) ?_ h
  rw [hs]
  have e : (#[(0, x)].map fun (i, x) => (i, a.eval x)).toList = [(0, .agg C)] := by simp [hx]
  rw [e]
  exact fill_one C _ hC (by simp)
end Go.Proofs.Ytbnkahjmeobblaa
