/-
  Layer 6, the program: three.
  Layer 6, the program: nearest, same, size.
-/
import Derived.Test.YtahfmcdhcbfkaaaDoorZm36
import Derived.Deep.DeepCutAuto
import Derived.Laws.Cover3
import Derived.Test.YtahfmcdhcbfkaaaDoorZm09
import Derived.Test.YtahfmcdhcbfkaaaDoorZm06
import Derived.Deep.RegionHeld3
import Derived.StillTailTactics
namespace Go.Proofs.YtahfmcdhcbfkaaaDoor
open Go.RowKit LzM LzN Mem Go.Lib
set_option linter.unusedVariables false

theorem keyT : RowTy Tryd.prog 76 3 := ⟨⟨_, _, Tryd.underlying76⟩, by kernel_rfl⟩
theorem wrap3 {k : Nat} (h : k ≤ 1000000) : IntKind.i64.wrap ((k : Int) + 3) = ((k + 3 : Nat) : Int) := by rw [IntWalk.i64_left]; unfold wrap64; omega
/-- an array out of the middle of a row -/
theorem load_at {w : World} {ad : Addr} {xs : List Value} {ty : TypeId} {n : Nat} (hT : RowTy Tryd.prog ty n) (hn : xs.length = n) (h : ∀ j v, xs[j]? = some v → w.cell? (ad.add j) = some v) : (Instr.loadAt ty (.pointer (some ad))).run Tryd.prog w = .ok (.agg xs.toArray) w := by
  obtain ⟨m, e, hu⟩ := hT.und
  have hl := run_loadCells_list (P := Tryd.prog) w ad xs h
  have hs := hT.size
  cases hq : (Tryd.prog).info? ty with
  | none => simp [hq] at hs
  | some i =>
    have hs1 : i.size = xs.length := by rw [hn]; simpa [hq] using hs
    simp [Instr.loadAt, Instr.sureAddr, loadVar, isAgg, run_underlying hu, sizeOf, typeInfo, hq, hs1, hl]
theorem wpList_load_run {ty : TypeId} {ops : Array Oper} {rest : List Oper} {op : Oper} {a : Act} {w : World} {Q : Exit → Act → World → Prop} (hgd : op.guard = none) (x : Operand) (ho : op.op = .load ty x)
    (u v : Value) (hx : a.eval x = u) (hr : (Instr.loadAt ty u).run Tryd.prog w = .ok v w) (h : wpList Tryd.prog ops Q rest (a.put op.dst v) w) : wpList Tryd.prog ops Q (op :: rest) a w := by
  refine wpList_plain hgd fun K hK => ?_
  unfold Oper.wp execOp
  simp only [ho, hx, hr, Sem.run_bind, Sem.run_pure, Result.andThen_ok]
  exact hK _ _ h

set_option maxRecDepth 100000 in
set_option maxHeartbeats 1600000 in
theorem three_any (p : Nat) (A : Option Addr) (n c : Nat) (B : List UInt8) (a : Nat) (w : World) (h0 : w.cell? ⟨p, 0, none⟩ = some (.slice A n c)) (hB : Rd w A n (B.map bytec)) (ha : a + 3 ≤ n) (hn : n ≤ 1000000) (hc : n ≤ c) (hcm : c ≤ maxLen) :
    Calls Tryd.prog 46 #[.pointer (some ⟨p, 0, none⟩), .int .i64 (a : Int)] w fun e w' => e = .returned (kv (key B a)) ∧ Fr (fun _ => False) w w' := by
  have HR := Lib.hid hB
  have H0 := Lib.hid h0
  have e3 := wrap3 (k := a) (by omega)
  obtain ⟨b, hb⟩ : ∃ b, b = a + 3 := ⟨_, rfl⟩
  rw [← hb] at e3
  have hbn : b ≤ n := by omega
  unfold maxLen at hcm
  obtain ⟨K, hK⟩ : ∃ K, K = kc (key B a) := ⟨_, rfl⟩
  unfold kv
  rw [← hK]
  have HK := Lib.hid hK
  have HSZ : Hid (K.size = 3) := Lib.hid (by rw [hK]; rfl)
  have HONE : Hid (K.all (·.oneCell') = true) := Lib.hid (by rw [hK]; simp [kc, bytec, Value.oneCell'])
  have HBE := Lib.hid hb
  clear hB h0 hK
  go_enter Tryd.func46, Tryd.ntmps46
  go_upto_region 1 with fail
  obtain ⟨w0, hw0⟩ : ∃ w0, w.alloc (.cells #[.int .u8 0, .int .u8 0, .int .u8 0] 76) = w0 := ⟨_, rfl⟩
  change Code.wp _ _ _ _ (w.alloc (.cells #[.int .u8 0, .int .u8 0, .int .u8 0] 76))
  rw [hw0]
  have hres0 : w0.heap[w.heap.size]? = some (.cells #[.int .u8 0, .int .u8 0, .int .u8 0] 76 (0, 0)) := by rw [← hw0]; exact heap_alloc_new w _
  have hf0 : Fr (fun _ => False) w w0 := by rw [← hw0]; exact (Fr.refl _ _).alloc _
  obtain ⟨g, hg⟩ : ∃ g, g = w.heap.size := ⟨_, rfl⟩
  rw [← hg] at hres0 ⊢
  have HG := Lib.hid hg
  have HRES := Lib.hid hres0
  have HF0 := Lib.hid hf0
  have c0 := hf0.cell H0.out (fun h => h)
  obtain ⟨ad, rfl, hr⟩ := (HR.out.fr hf0 (fun _ _ h => h)).2 (by omega)
  have hln : B.length = n := by simpa using HR.out.1
  have hl : (Instr.loadAt 76 (.pointer (some (ad.add a)))).run Tryd.prog w0 = .ok (.agg K) w0 := by
    rw [HK.out]
    refine load_at keyT (xs := [bytec B[a]!, bytec B[a + 1]!, bytec B[a + 2]!]) rfl (fun j v hj => ?_)
    rw [add_add]
    refine hr _ v ?_
    match j, hj with
    | 0, hj => rw [← hj, Nat.add_zero, List.getElem?_map, List.getElem?_eq_getElem (by omega), getElem!_pos B a (by omega)]; rfl
    | 1, hj => rw [← hj, List.getElem?_map, List.getElem?_eq_getElem (by omega), getElem!_pos B (a + 1) (by omega)]; rfl
    | 2, hj => rw [← hj, List.getElem?_map, List.getElem?_eq_getElem (by omega), getElem!_pos B (a + 2) (by omega)]; rfl
  have HL := Lib.hid hl
  have hat : ∀ w, (Instr.arrayAt 76 (.slice (some (ad.add a)) 3 (c - a))).run Tryd.prog w = .ok (.pointer (some (ad.add a))) w := fun w => run_arrayAt w 76 _ 3 _ 3 (c - a) Tryd.underlying76 (by omega)
  clear hw0 hg hres0 hf0 hr hln hl
  go_wp2_with (first | (refine wpList_load_run rfl (.tmp 13) rfl (.pointer (some (ad.add a))) (.agg K) rfl HL.out ?_) | (refine wpList_store_blk keyT rfl (.tmp 4) (.tmp 14) rfl g rfl K rfl _ _ HRES.out HSZ.out rfl HONE.out ?_))
  intro w3 hg3 hf3
  have HG3 := Lib.hid hg3
  have HF3 : Hid (Fr (fun _ => False) w w3) := Lib.hid (HF0.out.trans hf3 (fun b hb e => by have := HG.out; omega))
  clear hg3 hf3
  go_wp2_with fail
  exact bodyPost_ret (v := .agg K) (results_blk keyT rfl g rfl K _ HG3.out HSZ.out) rfl ⟨rfl, HF3.out⟩
end Go.Proofs.YtahfmcdhcbfkaaaDoor
namespace Go.Proofs.YtahfmcdhcbfkaaaDoor
open Go.RowKit LzM LzN Mem Go.Lib
set_option linter.unusedVariables false

theorem look_num (o : Option Nat) : (if o.isSome = true then lookI o else (-1 : Int)) = num o := by cases o <;> rfl

set_option maxRecDepth 100000 in
set_option maxHeartbeats 1600000 in
theorem nearest_any (p : Nat) (A : Option Addr) (n c m N : Nat) (B : List UInt8) (f : Key → Option Nat) (a : Nat) (w : World) (h0 : w.cell? ⟨p, 0, none⟩ = some (.slice A n c)) (h1 : w.cell? ⟨p, 1, none⟩ = some (.map (some m))) (hM : Mp w m N f)
    (hB : Rd w A n (B.map bytec)) (ha : a + 3 ≤ n) (hn : n ≤ 1000000) (hc : n ≤ c) (hcm : c ≤ maxLen) :
    Calls Tryd.prog 45 #[.pointer (some ⟨p, 0, none⟩), .int .i64 (a : Int)] w fun e w' => e = .returned (.int .i64 (num (f (key B a)))) ∧ Fr (fun _ => False) w w' := by
  have HR := Lib.hid hB
  have H0 := Lib.hid h0
  have HM := Lib.hid hM
  have HA := Lib.hid (And.intro ha (And.intro hn (And.intro hc hcm)))
  obtain ⟨K, hK⟩ : ∃ K, K = kv (key B a) := ⟨_, rfl⟩
  obtain ⟨z, hz⟩ : ∃ z, z = lookI (f (key B a)) := ⟨_, rfl⟩
  obtain ⟨q, hq⟩ : ∃ q, q = (f (key B a)).isSome := ⟨_, rfl⟩
  have hN := look_num (f (key B a))
  rw [← hz, ← hq] at hN
  have hlk : ∀ w', Mp w' m N f → (Instr.lookup 72 (.map (some m)) K true).run Tryd.prog w' = .ok (.tuple #[.int .i64 z, .bool q]) w' := by
    intro w' h
    rw [hK, hz, hq]
    exact h.look _
  have HLK := Lib.hid hlk
  have hth : ∀ w', Rd w' A n (B.map bytec) → w'.cell? ⟨p, 0, none⟩ = some (.slice A n c) → Calls Tryd.prog 46 #[.pointer (some ⟨p, 0, none⟩), .int .i64 (a : Int)] w' fun e w2 => e = .returned K ∧ Fr (fun _ => False) w' w2 := by
    intro w' h1 h2
    rw [hK]
    exact three_any p A n c B a w' h2 h1 ha hn hc hcm
  have HTH := Lib.hid hth
  rw [← hN]
  clear hB h0 hM ha hn hc hcm hK hz hq hlk hth hN
  cases q
  all_goals go_enter Tryd.func45, Tryd.ntmps45
  all_goals go_wp2_with fail
  all_goals go_region_held3 (fun w' => w'.cell? ⟨p, 1, none⟩ = some (.map (some m)))
    (first
      | go_keep
      | exact hk2)
    (first
      | (go_at_call 46
         refine (HTH.out w.drew HR.out.drew H0.out).mono ?_
         rintro e w2 ⟨rfl, hf2⟩
         have hk2 : w2.cell? ⟨p, 1, none⟩ = some (.map (some m)) := hf2.cell (w := w.drew) h1 (fun h => h)
         have hl2 := HLK.out w2 (HM.out.fr ((Fr.refl (fun _ => False) w).drew.trans hf2 (fun _ _ h => h)) (fun h => h))
         have HF2 := Lib.hid ((Fr.refl (fun _ => False) w).drew.trans hf2 (fun _ _ h => h))
         clear hf2))
  all_goals go_wp2_with fail
  all_goals go_ret
  all_goals exact ⟨rfl, HF2.out⟩

/-- as many are the same from the beginning on: k -/
def Same (X Y : List UInt8) (k : Nat) : Prop := k ≤ Y.length ∧ (∀ j, j < k → X[j]! = Y[j]!) ∧ (k = Y.length ∨ X[k]! ≠ Y[k]!)
theorem rd_byte {w : World} {A : Option Addr} {n : Nat} {X : List UInt8} (h : Rd w A n (X.map bytec)) {k : Nat} (hk : k < n) : ∃ ad, A = some ad ∧ w.cell? (ad.add k) = some (.int .u8 ((X[k]!).toNat : Int)) := by
  have hl : X.length = n := by simpa using h.1
  obtain ⟨ad, u, e, h1, h2⟩ := h.at_ hk
  rw [List.getElem?_map, List.getElem?_eq_getElem (by omega)] at h1
  refine ⟨ad, e, ?_⟩
  rw [h2, getElem!_pos X k (by omega), ← h1]
  rfl

set_option maxRecDepth 100000 in
set_option maxHeartbeats 1600000 in
theorem sameT_any (A A2 : Option Addr) (n c c2 : Nat) (X Y : List UInt8) (w : World) (hX : Rd w A n (X.map bytec)) (hY : Rd w A2 n (Y.map bytec)) (hn : n ≤ 1000000) :
    Calls Tryd.prog 47 #[.slice A n c, .slice A2 n c2] w fun e w' => ∃ k, e = .returned (.int .i64 ((k : Nat) : Int)) ∧ Same X Y k ∧ w = w' := by
  have hlx : X.length = n := by simpa using hX.1
  have hly : Y.length = n := by simpa using hY.1
  have HX := Lib.hid hX
  have HY := Lib.hid hY
  have HL := Lib.hid (And.intro hlx hly)
  clear hX hY hlx hly
  go_enter Tryd.func47, Tryd.ntmps47
  go_wp2_with fail
  go_loopw [9] (fun i wr => ∃ k : Nat, k ≤ n ∧ i = .int .i64 (k : Int) ∧ Hid (∀ j, j < k → X[j]! = Y[j]!) ∧ w = wr) (fun i _ => n - (intOf i).toNat)
  case atStart => exact ⟨0, Nat.zero_le _, rfl, fun j hj => by omega, rfl⟩
  case round =>
    obtain ⟨k, hk, rfl, HE, rfl⟩ := hrel
    by_cases hlt : k < n
    · obtain ⟨ad, rfl, h1⟩ := rd_byte HX.out hlt
      obtain ⟨ad2, rfl, h2⟩ := rd_byte HY.out hlt
      obtain ⟨x, hx⟩ : ∃ x, x = X[k]! := ⟨_, rfl⟩
      obtain ⟨y, hy⟩ : ∃ y, y = Y[k]! := ⟨_, rfl⟩
      rw [← hx] at h1
      rw [← hy] at h2
      have HXY := Lib.hid (And.intro hx hy)
      obtain ⟨u, hu⟩ : ∃ u, u = x.toNat := ⟨_, rfl⟩
      obtain ⟨v, hv⟩ : ∃ v, v = y.toNat := ⟨_, rfl⟩
      rw [← hu] at h1
      rw [← hv] at h2
      have HUV := Lib.hid (And.intro hu hv)
      clear hx hy hu hv
      by_cases hxy : u = v
      · have hE : ∀ j, j < k + 1 → X[j]! = Y[j]! := by
          intro j hj
          by_cases e : j = k
          · rw [e, ← HXY.out.1, ← HXY.out.2]
            exact UInt8.toNat_inj.1 (HUV.out.1.symm.trans (hxy.trans HUV.out.2))
          · exact HE.out j (by omega)
        have HE2 := Lib.hid hE
        clear hE
        go_wp2_with fail
        exact ⟨⟨k + 1, by omega, by go_num, HE2.out, trivial⟩, by simp [intOf]; omega⟩
      · go_wp2_with fail
        go_ret
        refine ⟨k, rfl, ⟨by rw [HL.out.2]; omega, HE.out, .inr (fun e => hxy ?_)⟩, rfl⟩
        rw [HUV.out.1, HUV.out.2, HXY.out.1, HXY.out.2, e]
    · obtain rfl : k = n := by omega
      go_wp2_with fail
      go_ret
      exact ⟨k, rfl, ⟨by rw [HL.out.2]; omega, HE.out, .inl HL.out.2.symm⟩, rfl⟩

set_option maxRecDepth 100000 in
theorem size_any (t : Tok) (w : World) :
    Calls Tryd.prog 26 #[tokc t] w fun e w' => e = .returned (.int .i64 (max t.l 1)) ∧ Fr (fun _ => False) w w' := by
  obtain ⟨b, l, d⟩ := t
  unfold tokc bytec
  go_enter Tryd.func26, Tryd.ntmps26
  go_wp2
  all_goals go_ret
  · exact ⟨by rw [show max l 1 = 1 by omega]; rfl, (Fr.refl _ w).alloc _⟩
  · exact ⟨by rw [show max l 1 = l by omega]; rfl, (Fr.refl _ w).alloc _⟩
end Go.Proofs.YtahfmcdhcbfkaaaDoor
