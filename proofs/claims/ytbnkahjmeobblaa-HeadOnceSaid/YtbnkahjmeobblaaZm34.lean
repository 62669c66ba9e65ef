/-
  Layer 20, the program: Right, putText, putDeps (written by gen_hright.py).
  append(s, make([]T, m)...) onto a row of the call's own: one-cell elements; whether there is room or not. No program named.
-/
import Derived.Test.YtbnkahjmeobblaaZm33
import Derived.Test.YtbnkahjmeobblaaZm23
import Derived.Test.YtbnkahjmeobblaaZm30
import Derived.Test.YtbnkahjmeobblaaZm12
import Derived.Test.YtbnkahjmeobblaaZm00
import Derived.Lib.AppendZerosOnto
namespace Go.Proofs.Ytbnkahjmeobblaa
open Go.RowKit Mem Go.Lib LebM UtfM AcM OpM HeM
attribute [local go_sem ↓] Go.wp_at_zero Go.wp_at_succ
set_option linter.unusedVariables false

set_option maxRecDepth 100000 in
set_option maxHeartbeats 6400000 in
theorem hRight_any (ch : Ch) (A : Option Addr) (k : Nat) (A2 : Option Addr) (n2 k2 : Nat) (w : World) (hd : Hsh w A ch.d.length ch.d) (ha : ch.a.length ≤ 1000000) (hm : ch.m.length ≤ 1000000) (hdl : ch.d.length ≤ 1000000) :
    Calls Try.prog 10 #[chc ch A k A2 n2 k2] w fun e w' => e = .returned (.bool (rightH ch)) ∧ Fr (fun _ => False) w w' := by
  obtain ⟨a, q, s, t, m, d⟩ := ch
  simp only at hd ha hm hdl
  unfold chc
  simp only
  obtain ⟨nd, hnd⟩ : ∃ nd, d.length = nd := ⟨_, rfl⟩
  obtain ⟨va, hva⟩ : ∃ v, actorB a = v := ⟨_, rfl⟩
  obtain ⟨vq, hvq⟩ : ∃ v, rightN q = v := ⟨_, rfl⟩
  obtain ⟨vs, hvs⟩ : ∃ v, rightN s = v := ⟨_, rfl⟩
  obtain ⟨vl, hvl⟩ : ∃ v, decide (m.length ≤ 1000) = v := ⟨_, rfl⟩
  obtain ⟨vv, hvv⟩ : ∃ v, decide (wh m = m.length) = v := ⟨_, rfl⟩
  obtain ⟨vd, hvd⟩ : ∃ v, decide (d.length ≤ 16) = v := ⟨_, rfl⟩
  obtain ⟨vr, hvr⟩ : ∃ v, rises d = v := ⟨_, rfl⟩
  have e : rightH ⟨a, q, s, t, m, d⟩ = (va && (vq && (vs && (vl && (vv && (vd && vr)))))) := by unfold rightH; rw [hva, hvq, hvs, hvl, hvv, hvd, hvr]
  rw [e]
  have hac := fun (w : World) (j : Nat) (hj : j = w.heap.size) => actor1 a w hj (by omega)
  have hval := fun (w : World) (j : Nat) (hj : j = w.heap.size) => valid_one m w hj (by omega)
  have hri := fun (w' : World) (hf : Fr (fun _ => False) w w') => rising_any A d.length k d w' (hd.fr hf) (by omega)
  rw [hva] at hac
  rw [hvv] at hval
  rw [hvr, hnd] at hri
  obtain ⟨ml, hml⟩ : ∃ ml, m.length = ml := ⟨_, rfl⟩
  have hsz := txt_sz m
  rw [hml] at hsz hvl
  rw [hnd] at hvd ⊢
  have tl : decide ((ml : Int) ≤ 1000) = vl := by rw [← hvl]; exact decide_eq_decide.2 (by omega)
  have td : decide ((nd : Int) ≤ 16) = vd := by rw [← hvd]; exact decide_eq_decide.2 (by omega)
  have tl' : decide (ml ≤ 1000) = vl := hvl
  have td' : decide (nd ≤ 16) = vd := hvd
  obtain ⟨g, hg⟩ : ∃ g, w.heap.size = g := ⟨_, rfl⟩
  obtain ⟨w1, hw1⟩ : ∃ w1, w.alloc (.cells [.string (txt a), .int .i64 q, .int .i64 s, .int .i64 t, .string (txt m), .slice A nd k, .slice A2 n2 k2].toArray 25) = w1 := ⟨_, rfl⟩
  have HR1 : Hid (Row w1 g 25 [.string (txt a), .int .i64 q, .int .i64 s, .int .i64 t, .string (txt m), .slice A nd k, .slice A2 n2 k2]) := Lib.hid (by rw [← hw1, ← hg]; exact Row.new _ _ _)
  have HF1 : Hid (Fr (fun _ => False) w w1) := Lib.hid (by rw [← hw1]; exact (Fr.refl _ _).alloc _)
  have HAC := Lib.hid hac
  have HVA := Lib.hid hval
  have HRI := Lib.hid hri
  have b0 : w1.cell? ⟨g, 0, none⟩ = some (.string (txt a)) := Row.cell HR1.out rfl
  have b1 : w1.cell? ⟨g, 1, none⟩ = some (.int .i64 q) := Row.cell HR1.out rfl
  have b2 : w1.cell? ⟨g, 2, none⟩ = some (.int .i64 s) := Row.cell HR1.out rfl
  have b4 : w1.cell? ⟨g, 4, none⟩ = some (.string (txt m)) := Row.cell HR1.out rfl
  have b5 : w1.cell? ⟨g, 5, none⟩ = some (.slice A nd k) := Row.cell HR1.out rfl
  clear hac hval hri hd ha hm hdl hnd hva hvl hvv hvd hvr hml e
  go_enter Try.func10, Try.ntmps10
  go_wp2_with fail
  clear hw1 hg b0 b1 b2 b4 b5
  refine (HAC.out _ _ rfl).mono ?_
  rintro e w2 ⟨rfl, hf2⟩
  have HR2 := Lib.hid (HR1.out.fr hf2 (fun h => h))
  have HF2 := Lib.hid (HF1.out.trans hf2 (fun _ _ h => h))
  clear hf2
  have b0 : w2.cell? ⟨g, 0, none⟩ = some (.string (txt a)) := Row.cell HR2.out rfl
  have b1 : w2.cell? ⟨g, 1, none⟩ = some (.int .i64 q) := Row.cell HR2.out rfl
  have b2 : w2.cell? ⟨g, 2, none⟩ = some (.int .i64 s) := Row.cell HR2.out rfl
  have b4 : w2.cell? ⟨g, 4, none⟩ = some (.string (txt m)) := Row.cell HR2.out rfl
  have b5 : w2.cell? ⟨g, 5, none⟩ = some (.slice A nd k) := Row.cell HR2.out rfl
  cases va with
  | false =>
    go_wp2_with fail
    go_ret
    exact ⟨rfl, HF2.out⟩
  | true =>
    go_wp2_with fail
    refine (rightN_any q w2).mono ?_
    rintro e w3 ⟨rfl, rfl⟩
    rw [hvq]
    cases vq with
    | false =>
      go_wp2_with fail
      go_ret
      exact ⟨rfl, HF2.out⟩
    | true =>
      go_wp2_with fail
      refine (rightN_any s w2).mono ?_
      rintro e w3 ⟨rfl, rfl⟩
      rw [hvs]
      cases vs with
      | false =>
        go_wp2_with fail
        go_ret
        exact ⟨rfl, HF2.out⟩
      | true =>
        cases vl with
        | false =>
          go_wp2_with fail
          go_ret
          exact ⟨rfl, HF2.out⟩
        | true =>
          go_wp2_with fail
          clear b0 b1 b2 b4 b5
          refine (HVA.out _ _ rfl).mono ?_
          rintro e w4 ⟨rfl, hf4⟩
          have HR4 := Lib.hid (HR2.out.fr hf4 (fun h => h))
          have HF4 := Lib.hid (HF2.out.trans hf4 (fun _ _ h => h))
          clear hf4
          have b0 : w4.cell? ⟨g, 0, none⟩ = some (.string (txt a)) := Row.cell HR4.out rfl
          have b1 : w4.cell? ⟨g, 1, none⟩ = some (.int .i64 q) := Row.cell HR4.out rfl
          have b2 : w4.cell? ⟨g, 2, none⟩ = some (.int .i64 s) := Row.cell HR4.out rfl
          have b4 : w4.cell? ⟨g, 4, none⟩ = some (.string (txt m)) := Row.cell HR4.out rfl
          have b5 : w4.cell? ⟨g, 5, none⟩ = some (.slice A nd k) := Row.cell HR4.out rfl
          cases vv with
          | false =>
            go_wp2_with fail
            go_ret
            exact ⟨rfl, HF4.out⟩
          | true =>
            cases vd with
            | false =>
              go_wp2_with fail
              go_ret
              exact ⟨rfl, HF4.out⟩
            | true =>
              go_wp2_with fail
              refine (HRI.out w4 HF4.out).mono ?_
              rintro e w5 ⟨rfl, hf5⟩
              have HF5 := Lib.hid (HF4.out.trans hf5 (fun _ _ h => h))
              clear b0 b1 b2 b4 b5 hf5
              go_wp2_with fail
              go_ret
              exact ⟨rfl, HF5.out⟩
set_option maxRecDepth 100000 in
set_option maxHeartbeats 3200000 in
theorem putText_any (x : Tx) (w : World) (hl : x.length ≤ 1000000) : Calls Try.prog 31 #[.string (txt x)] w (Gives w (headT x)) := by
  have hsz := txt_sz x
  obtain ⟨l, hlx⟩ : ∃ l, x.length = l := ⟨_, rfl⟩
  rw [hlx] at hl hsz
  have e2 : IntKind.u64.wrap (l : Int) = (l : Int) := by rw [IntKind.wrap_u64]; omega
  have hU := U_any l w (show l < 18446744073709551616 by omega)
  have hul2 := u_len10 (show l < 18446744073709551616 by omega)
  obtain ⟨R, hR⟩ : ∃ R, headT x = R := ⟨_, rfl⟩
  have hRE : R = u l ++ x := by rw [← hR]; unfold headT; rw [hlx]
  rw [hR]
  obtain ⟨C, hC⟩ : ∃ C, u l = C := ⟨_, rfl⟩
  rw [hC] at hU hRE hul2
  have HU := Lib.hid hU
  have HRE := Lib.hid hRE
  have HRL : Hid (R.length ≤ 1000000000000) := Lib.hid (by rw [hRE, List.length_append]; omega)
  clear hU hR hRE hC hl hlx hul2
  go_enter Try.func31, Try.ntmps31
  go_wp2_with fail
  refine HU.out.mono ?_
  rintro e w1 ⟨A1, c1, rfl, ho1, hf1⟩
  have HO1 := Lib.hid ho1
  have HF1 := Lib.hid hf1
  have HS1 : Hid (w.heap.size ≤ w1.heap.size) := Lib.hid hf1.size
  clear ho1 hf1
  go_wp2_with (at_builtin; refine wpList_appX _ rfl _ _ rfl w.heap.size _ _ C x rfl HO1.out rfl R HRE.out HRL.out HS1.out ?_)
  intro A2 c2 w2 ho2 hf2
  have HO2 := Lib.hid ho2
  have HF2 : Hid (Fr (fun _ => False) w w2) := Lib.hid (HF1.out.trans hf2 (fun k hk h => by have := (HO1.out.lt k h).1; omega))
  clear ho2 hf2
  obtain ⟨z, hz⟩ : ∃ z, R.length = z := ⟨_, rfl⟩
  have HZ := Lib.hid hz
  rw [hz]
  clear hz
  go_wp2_with fail
  go_ret
  exact ⟨A2, c2, by rw [HZ.out]; rfl, HO2.out, HF2.out⟩
theorem flat_len32 : ∀ (D : List Tx), (∀ h ∈ D, h.length = 32) → D.flatten.length = D.length * 32
  | [], _ => rfl
  | h :: D, hh => by
    rw [List.flatten_cons, List.length_append, hh h (List.mem_cons_self ..), flat_len32 D (fun x hx => hh x (List.mem_cons_of_mem _ hx)), List.length_cons]
    omega
set_option maxRecDepth 100000 in
set_option maxHeartbeats 6400000 in
theorem putDeps_any (A : Option Addr) (n c : Nat) (L : List Tx) (w : World) (hL : Hsh w A n L) (hn : n ≤ 100000) : Calls Try.prog 30 #[.slice A n c] w (Gives w (u L.length ++ L.flatten)) := by
  have e2 : IntKind.u64.wrap (n : Int) = (n : Int) := by rw [IntKind.wrap_u64]; omega
  have hU := U_any n w (show n < 18446744073709551616 by omega)
  have hul2 := u_len10 (show n < 18446744073709551616 by omega)
  have HLN := Lib.hid hL.1
  have HL := Lib.hid hL
  have HUL := Lib.hid hul2
  rw [hL.1]
  obtain ⟨base, hbase⟩ : ∃ b, w.heap.size = b := ⟨_, rfl⟩
  unfold Gives at hU ⊢
  rw [hbase] at hU ⊢
  obtain ⟨R, hR⟩ : ∃ R, u n ++ L.flatten = R := ⟨_, rfl⟩
  rw [hR]
  have HRE := Lib.hid hR
  have HU := Lib.hid hU
  have HB := Lib.hid hbase
  clear hU hul2 hL hR hbase
  go_enter Try.func30, Try.ntmps30
  go_wp2_with fail
  refine HU.out.mono ?_
  rintro e w1 ⟨A1, c1, rfl, ho1, hf1⟩
  obtain ⟨B1, hB1⟩ : ∃ B, u n = B := ⟨_, rfl⟩
  rw [hB1] at ho1 ⊢
  have HB1 := Lib.hid hB1
  have HO1 := Lib.hid ho1
  have HF1 := Lib.hid hf1
  clear ho1 hf1 hB1
  go_wp2_with fail
  go_loopw [3, 12] (fun b v wr => ∃ k : Nat, k ≤ n ∧ v = .int .i64 (k : Int) ∧ ∃ A1 c1 B, b = .slice A1 B.length c1 ∧ Hid (B = u n ++ (L.take k).flatten) ∧ Hid (Own wr base A1 c1 B) ∧ Hid (Fr (fun _ => False) w wr)) (fun _ v _ => n - (intOf v).toNat)
  case atStart => exact ⟨0, Nat.zero_le _, rfl, A1, c1, B1, rfl, Lib.hid (by rw [HB1.out]; simp), HO1, HF1⟩
  case round =>
    obtain ⟨k, hk, rfl, A3, c3, B, rfl, HBE, HO, HF⟩ := hrel
    rename World => wr
    by_cases hlt : k < n
    · have t1 : decide ((k : Int) < (n : Int)) = true := decide_eq_true (by omega)
      obtain ⟨x, hx⟩ : ∃ x, L[k]? = some x := ⟨_, List.getElem?_eq_getElem (by have := HLN.out; omega)⟩
      have hLr := HL.out.fr HF.out
      obtain ⟨g, o, rfl, _, hrx⟩ := hLr.2.2 k x hx
      have hx32 := HL.out.2.1 x (List.mem_of_getElem? hx)
      have hnext : B ++ x = u n ++ (L.take (k + 1)).flatten := by
        rw [List.take_add_one, hx, List.flatten_append, HBE.out]
        simp
      have hbl : (B ++ x).length ≤ 1000000000000 := by
        have h1 := flat_len32 (L.take (k + 1)) (fun y hy => HL.out.2.1 y (List.mem_of_mem_take hy))
        have h2 := HUL.out
        rw [List.length_take] at h1
        rw [hnext, List.length_append]
        omega
      obtain ⟨B3, hB3⟩ : ∃ B3, B3 = B ++ x := ⟨_, rfl⟩
      rw [← hB3] at hnext hbl
      obtain ⟨C, hC⟩ : ∃ C, (x.map bytec).toArray = C := ⟨_, rfl⟩
      have HSZ : Hid (C.size = 32) := Lib.hid (by rw [← hC]; simp [hx32])
      have HONE : Hid (C.all (·.oneCell') = true) := Lib.hid (by rw [← hC, List.all_toArray, List.all_eq_true]; exact hb_one x)
      have HRX := Lib.hid hrx
      have HC := Lib.hid hC
      have HX32 := Lib.hid hx32
      have HN := Lib.hid hnext
      have HBL := Lib.hid hbl
      have HB3 := Lib.hid hB3
      have hkn : k < n := hlt
      obtain ⟨p, hp⟩ : ∃ p, wr.heap.size = p := ⟨_, rfl⟩
      obtain ⟨w2, hw2⟩ : ∃ w2, wr.alloc (.cells #[.int .u8 0, .int .u8 0, .int .u8 0, .int .u8 0, .int .u8 0, .int .u8 0, .int .u8 0, .int .u8 0, .int .u8 0, .int .u8 0, .int .u8 0, .int .u8 0, .int .u8 0, .int .u8 0, .int .u8 0, .int .u8 0, .int .u8 0, .int .u8 0, .int .u8 0, .int .u8 0, .int .u8 0, .int .u8 0, .int .u8 0, .int .u8 0, .int .u8 0, .int .u8 0, .int .u8 0, .int .u8 0, .int .u8 0, .int .u8 0, .int .u8 0, .int .u8 0] 60) = w2 := ⟨_, rfl⟩
      have hb2 : w2.heap[p]? = some (.cells (Array.replicate 32 (.int .u8 0)) 60 (0, 0)) := by rw [← hw2, ← hp]; exact heap_alloc_new _ _
      have HB2 := Lib.hid hb2
      have HF2 : Hid (Fr (fun _ => False) wr w2) := Lib.hid (by rw [← hw2]; exact (Fr.refl _ _).alloc _)
      have HPB : Hid (base ≤ p) := Lib.hid (by have := HF.out.size; have := HB.out; omega)
      have HOL : Hid (∀ k, (Value.slice A3 B.length c3).ownBlock = some k → base ≤ k ∧ k < p) := Lib.hid (fun k hk => by have := HO.out.lt k hk; omega)
      clear hLr hrx hx32 hnext hbl hB3 hC hb2 hx
      go_wp2_with (first | (refine load_h rfl (.tmp 14) rfl g (o + k * 32) rfl x HX32.out C HC.out HRX.out ?_) | (refine wpList_store_blk hashT20 rfl (.tmp 5) (.tmp 15) rfl p rfl C rfl _ _ HB2.out HSZ.out (by simp) HONE.out ?_))
      intro w3 hb3 hf3
      have HO3 : Hid (Own w3 base A3 c3 B) := Lib.hid (hf3.own (HO.out.fr HF2.out) (fun k hk h => by have h1 : k = p := h; have := HOL.out k hk; omega))
      have HRD3 : Hid (Rd w3 (some ⟨p, 0, none⟩) 32 (x.map bytec)) := Lib.hid (by have h := rd_blk (xs := x.map bytec) (by rw [HC.out]; exact hb3); rwa [List.length_map, HX32.out] at h)
      have HF3 : Hid (Fr (fun _ => False) w w3) := Lib.hid ((HF.out.trans HF2.out (fun _ _ h => h)).trans hf3 (fun k hk h => by have h1 : k = p := h; have := HPB.out; have := HB.out; omega))
      have HS3 : Hid (base ≤ w3.heap.size) := Lib.hid (by have := HF3.out.size; have := HB.out; omega)
      clear hw2 hp hb3 hf3
      go_wp2_with (at_builtin; refine wpList_appB _ rfl (.tmp 16) (.tmp 17) rfl base A3 c3 B rfl HO3.out (some ⟨p, 0, none⟩) 32 32 x rfl HRD3.out (by omega) B3 HB3.out HBL.out HS3.out ?_)
      intro A4 c4 w4 ho4 hf4 _
      have HO4 := Lib.hid ho4
      have HF4 : Hid (Fr (fun _ => False) w w4) := Lib.hid (HF3.out.trans hf4 (fun k hk h => by have := HOL.out k h; have := HB.out; omega))
      clear ho4 hf4
      go_wp2_with fail
      exact ⟨⟨k + 1, by omega, rfl, A4, c4, B3, rfl, HN, HO4, HF4⟩, by show n - ((k : Int) + 1).toNat < n - (k : Int).toNat; omega⟩
    · have t1 : decide ((k : Int) < (n : Int)) = false := decide_eq_false (by omega)
      have hkn : k = n := by omega
      subst hkn
      have HBR : Hid (B = R) := Lib.hid (by rw [HBE.out, List.take_of_length_le (by have := HLN.out; omega), HRE.out])
      have hbr := HBR.out
      subst hbr
      obtain ⟨z, hz⟩ : ∃ z, B.length = z := ⟨_, rfl⟩
      have HZ := Lib.hid hz
      rw [hz]
      clear hz
      go_wp2_with fail
      go_ret
      exact ⟨A3, c3, by rw [HZ.out]; rfl, HO.out, HF.out⟩
end Go.Proofs.Ytbnkahjmeobblaa
namespace Go.Proofs.Ytbnkahjmeobblaa.Mem
open Go Go.Lib
theorem zeros_are (z : Value) (m : Nat) : Builtin.zeroCells #[z] m = (List.replicate m z).toArray := by
  apply Array.ext
  · simp [Builtin.zeroCells]
  · intro i h1 h2
    simp [Builtin.zeroCells] at h1 ⊢
    rw [Nat.mod_one]
    rfl
section
variable {P : Program}
theorem run_app_zeros {t tn e : TypeId} {z : Value} {bytes : Nat} {kn : IntKind} (hT : ElemTy P t e z bytes) (htn : P.underlying tn = some (.int kn)) (hzc : z.cells = #[z]) (hz1 : z.oneCell' = true) (ty : TypeId) (w : World) (base : Nat) (v : Value) (n : Nat) (xs : List Value) (hown : w.ownsRow base e 1 v n xs)
    (kq : IntKind) (m : Nat) (h63 : n + m ≤ maxLen) (hbytes : (n + m) * bytes ≤ 140737488355328) (hbase : base ≤ w.heap.size) :
    ∃ v' w', (Builtin.append_ #[t, tn] ty #[v, .int kq (m : Int)]).run P w = .ok v' w' ∧ w'.ownsRow base e 1 v' (n + m) (xs ++ List.replicate m z) ∧ Fr (fun k => v.ownBlock = some k) w w' ∧
      (v'.ownBlock = v.ownBlock ∨ v'.ownBlock = some w.heap.size) := by
  obtain ⟨i, hi, hz, hs, hb⟩ := info_parts hT.info
  have hsmall : n + m ≤ 9223372036854775807 := by simp only [maxLen] at h63; omega
  have hw : IntKind.i64.wrap (m : Int) = m := by rw [IntKind.wrap_i64]; omega
  have hneg : ¬ ((m : Int) < 0) := by omega
  have hmb : m * bytes ≤ 140737488355328 := Nat.le_trans (Nat.mul_le_mul_right _ (by omega)) hbytes
  have h48i : ¬ (281474976710656 < (m : Int) * (bytes : Int)) := by rw [← Int.natCast_mul]; omega
  have hlen : (xs ++ List.replicate m z).length = (n + m) * 1 := by have := hown.1; simp at this ⊢; omega
  by_cases hm : m = 0
  · subst hm
    have hw0 : IntKind.i64.wrap 0 = 0 := by decide
    refine ⟨v, w, ?_, by simpa using hown, Fr.refl _ _, .inl rfl⟩
    rcases hown.2 with ⟨rfl, rfl⟩ | ⟨g, cap, cur, rfl, _, _, hnc, _⟩
    · simp [Builtin.append_, run_underlying hT.und, run_underlying htn, sizeOf, typeInfo, hi, asInt, asIntOf, hw0]
    · simp [Builtin.append_, run_underlying hT.und, run_underlying htn, sizeOf, typeInfo, hi, asInt, asIntOf, hw0, hnc, storeCells]
  · have grown : ∀ old : Nat, (w.drew.alloc (.cells (xs.toArray ++ Builtin.zeroCells z.cells m ++ Builtin.zeroCells z.cells (grownCap w (n + m) old e - (n + m))) e)).ownsRow base e 1
        (.slice (some ⟨w.heap.size, 0, none⟩) (n + m) (grownCap w (n + m) old e)) (n + m) (xs ++ List.replicate m z) := by
      intro old
      have hge := grownCap_ge w (n + m) old e
      have hcm : grownCap w (n + m) old e ≤ maxLen := grownCap_le_maxLen w (n + m) old e h63
      refine ⟨hlen, .inr ⟨w.heap.size, _, _, rfl, hbase, heap_alloc_new w.drew _, hge, hcm, ?_, ?_⟩⟩
      · rw [hzc, zeros_are, zeros_are]
        have := hown.1
        simp at this ⊢
        omega
      · rw [hzc, zeros_are, zeros_are]
        simp only [Array.toList_append, List.append_assoc]
        rw [← List.append_assoc, ← hlen]
        exact List.take_left
    have frn : ∀ o : Obj, Fr (fun k => v.ownBlock = some k) w (w.drew.alloc o) := fun o => (Fr.refl _ w).drew.alloc o
    rcases hown.2 with ⟨rfl, rfl⟩ | ⟨g, cap, cur, rfl, hbg, hg, hnc, hcm, hcs, htake⟩
    · obtain rfl : xs = [] := List.eq_nil_of_length_eq_zero (by simpa using hown.1)
      have hr := run_append_grow_zeros (P := P) w t tn ty e i z kq kn hT.und htn hi hz none 0 0 [] (by simp [Builtin.firstCells]) m (by omega) (by omega) (by omega) (by omega) (by rw [hb]; omega) (by rw [hb]; exact growslice_fits (by omega) hbytes)
      exact ⟨_, _, hr, grown 0, frn _, .inr rfl⟩
    · by_cases hroom : n + m ≤ cap
      · have hst : (storeCells ⟨g, n, none⟩ (List.replicate m z) 0).run P w = .ok () (w.setRow g (cur.toList.take n ++ List.replicate m z ++ cur.toList.drop (n + m)).toArray) := by
          have := run_storeCells_at P g n e (List.replicate m z) 0 cur w hg (by simp; omega) (fun u hu => by rw [(List.mem_replicate.1 hu).2]; exact hz1)
          simpa only [Nat.add_zero, List.length_replicate] using this
        have hl := hown.1
        simp only [Nat.mul_one] at htake hl
        rw [htake] at hst
        have hns : ¬ m = 0 := hm
        refine ⟨.slice (some ⟨g, 0, none⟩) (n + m) cap, w.setRow g (xs ++ List.replicate m z ++ cur.toList.drop (n + m)).toArray, ?_, ⟨hlen, .inr ⟨g, cap, (xs ++ List.replicate m z ++ cur.toList.drop (n + m)).toArray, rfl, hbg, setRow_heap w g cur _ e _ hg, hroom, hcm, ?_, ?_⟩⟩, ?_, .inl rfl⟩
        · simp [Builtin.append_, run_underlying hT.und, run_underlying htn, sizeOf, typeInfo, zeroValue, hi, hz, asInt, asIntOf, hw, hneg, hs, hb, h48i, hroom, hns, hzc, zeros_are, Addr.add_lit, hst]
        · simp
          omega
        · show List.take ((n + m) * 1) (xs ++ List.replicate m z ++ cur.toList.drop (n + m)) = _
          rw [← hlen]
          exact List.take_left
        · exact Fr.of_grown ⟨rfl, rfl, rfl, by simp, fun k _ hk => setRow_other w g k _ (fun e => hk (by simp [Value.ownBlock, e]))⟩
      · have holds : ∀ j u, xs[j]? = some u → w.drew.cell? ((⟨g, 0, none⟩ : Addr).add j) = some u := hown.cells (g := g) rfl
        have hf := run_firstCells_some (P := P) w.drew i.size n ⟨g, 0, none⟩ n cap xs (by rw [hs]; exact hown.1) holds
        have hr := run_append_grow_zeros (P := P) w t tn ty e i z kq kn hT.und htn hi hz (some ⟨g, 0, none⟩) n cap xs hf m (by omega) (by omega) (by omega) (by omega) (by rw [hb]; omega) (by rw [hb]; exact growslice_fits (by omega) hbytes)
        exact ⟨_, _, hr, grown cap, frn _, .inr rfl⟩
theorem wpList_appZ {t tn e : TypeId} {z : Value} {bytes : Nat} {kn : IntKind} (hT : ElemTy P t e z bytes) (htn : P.underlying tn = some (.int kn)) (hzc : z.cells = #[z]) (hz1 : z.oneCell' = true) {ops : Array Oper} {rest : List Oper} {o : Oper} {a : Act} {Q : Exit → Act → World → Prop} (w : World) (hgd : o.guard = none) (s x : Operand)
    (ho : o.op = .call { callee := .builtin .append, args := #[s, x], argTypes := #[t, tn] })
    (base : Nat) (v : Value) (n : Nat) (xs : List Value) (hs : a.eval s = v) (hown : w.ownsRow base e 1 v n xs)
    (kq : IntKind) (m : Nat) (hx : a.eval x = .int kq (m : Int))
    (h63 : n + m ≤ maxLen) (hbytes : (n + m) * bytes ≤ 140737488355328) (hbase : base ≤ w.heap.size)
    (h : ∀ A' c' w', n + m ≤ c' → c' ≤ maxLen → w'.ownsRow base e 1 (.slice A' (n + m) c') (n + m) (xs ++ List.replicate m z) → Fr (fun k => v.ownBlock = some k) w w' →
      ((Value.slice A' (n + m) c').ownBlock = v.ownBlock ∨ (Value.slice A' (n + m) c').ownBlock = some w.heap.size) → wpList P ops Q rest (a.put o.dst (.slice A' (n + m) c')) w') : wpList P ops Q (o :: rest) a w := by
  refine wpList_plain hgd fun K hK => ?_
  obtain ⟨v', w', hrun, h2, h3, h4⟩ := run_app_zeros (P := P) hT htn hzc hz1 o.type w base v n xs hown kq m h63 hbytes hbase
  obtain ⟨A', c', rfl, hc1, hc2⟩ := own_form h2
  unfold Oper.wp execOp
  simp only [ho, resolve, invoke, builtin, Sem.run_bind, Sem.run_pure, Result.andThen_ok, List.map_toArray, List.map_cons, List.map_nil, hs, hx, hrun]
  exact hK _ _ (h A' c' w' hc1 hc2 h2 h3 h4)
end
end Go.Proofs.Ytbnkahjmeobblaa.Mem
