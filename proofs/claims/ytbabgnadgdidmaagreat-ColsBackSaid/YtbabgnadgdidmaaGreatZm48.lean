import Derived.Test.YtbabgnadgdidmaaGreatZm00
import Derived.Test.YtbabgnadgdidmaaGreatZm31
import Derived.Test.YtbabgnadgdidmaaGreatZm43
import Derived.Test.YtbabgnadgdidmaaGreatZm46
import Derived.Test.YtbabgnadgdidmaaGreatZm47
import Derived.Test.YtbabgnadgdidmaaGreatZm35
import Derived.Test.YtbabgnadgdidmaaGreatZm37
set_option linter.unusedVariables false
set_option maxRecDepth 100000
set_option maxHeartbeats 12800000
namespace Go.Proofs.YtbabgnadgdidmaaGreat
section
open Go.RowKit Mem Go.Lib LebM UtfM VaM OpM AcM RleM CsM DirM
attribute [local go_sem ↓] Go.wp_at_zero Go.wp_at_succ
def RdrC (w : World) (r : Nat) (A : Option Addr) (n c : Nat) (b : Bool) : Prop := Row w r 91 [.slice A n c, .bool b]
theorem RdrC.fr {S : Nat → Prop} {w w' : World} {r : Nat} {A : Option Addr} {n c : Nat} {b : Bool} (h : RdrC w r A n c b) (hf : Fr S w w') (hS : ¬ S r) : RdrC w' r A n c b := Row.fr h hf hS
theorem findC_le19 {M id : Int} : ∀ {L : List Cl}, (∀ x ∈ L, (x.B.length : Int) ≤ M) → 0 ≤ M → ((findC (L.map Cl.v) id).length : Int) ≤ M
  | [], _, h0 => by simpa [findC] using h0
  | x :: L, h, h0 => by
    show ((if (x.id : Int) = id then x.B else findC (L.map Cl.v) id).length : Int) ≤ M;split
    · exact h x (List.mem_cons_self ..)
    · exact findC_le19 (fun y hy => h y (List.mem_cons_of_mem _ hy)) h0
theorem refuse_any (r : Nat) (A : Option Addr) (n c : Nat) (b x : Bool) (w : World) (h : RdrC w r A n c b) :
    Calls Tryz.prog 65 #[.pointer (some ⟨r, 0, none⟩), .bool x] w fun e w' => e = .returned (.tuple #[]) ∧ RdrC w' r A n c (b || x) ∧ Fr (fun k => k = r) w w' := by
  have hrow : Row w r 91 [.slice A n c, .bool b] := h;have c0 : w.cell? ⟨r, 0 + 1, none⟩ = some (.bool b) := hrow.cell rfl;have c1 : w.frozen? ⟨r, 0 + 1, none⟩ = false := hrow.free 1;simp only [Nat.zero_add] at c0 c1;have hset := hrow.set 1 (.bool (b || x));simp only [List.set_cons_succ, List.set_cons_zero] at hset;have HST := hid hset;have HF := hid (Fr.set1 w r 1 (.bool (b || x)));clear hset h hrow;cases b with
  | true =>
    simp only [Bool.true_or] at HST HF ⊢;go_enter Tryz.func65, Tryz.ntmps65;go_wp2_with fail
    go_end0
    exact ⟨rfl, HST.out, HF.out⟩
  | false =>
    simp only [Bool.false_or] at HST HF ⊢;go_enter Tryz.func65, Tryz.ntmps65;go_wp2_with fail
    go_end0
    exact ⟨rfl, HST.out, HF.out⟩
theorem mkWn (m : Nat) (hm : m ≤ 1000000) (w : World) : (Instr.makeSlice 67 (.int .i64 (m : Int)) (.int .i64 (m : Int))).run Tryz.prog w = .ok (.slice (some ⟨w.heap.size, 0, none⟩) m m) (w.alloc (.cells ((List.replicate m ((false, []) : Bool × List UInt8)).flatMap (ccells sv)).toArray 81)) := by
  obtain ⟨i, hi, hz, hs, hb⟩ : ∃ i, Tryz.prog.info? 81 = some i ∧ i.zero = some (.agg #[.bool false, (.string (txt []))]) ∧ i.size = 2 ∧ i.bytes = 24 := by
    have h := cellTW.info;cases hq : Tryz.prog.info? 81 with
    | none => rw [hq] at h; cases h
    | some i =>
      rw [hq] at h;simp only [Option.map_some, Option.some.injEq, Prod.mk.injEq] at h;exact ⟨i, rfl, h.1, h.2.1, h.2.2⟩
  have h := run_makeSlice (P := Tryz.prog) w 67 81 i _ Tryz.underlying67 hi hz .i64 .i64 (m : Int) (m : Int) (by omega) (by omega) (by rw [hs]; omega) (by rw [hb]; omega) (by omega);rw [h, hs, Int.toNat_natCast];refine congrArg (fun q => Result.ok _ (w.alloc (.cells q 81))) ?_;have e := made_rep [.bool false, .string (txt [])] (by simp) m;rw [List.flatMap_def, List.map_replicate];exact e
theorem mkBn (m : Nat) (hm : m ≤ 4000000) (w : World) : (Instr.makeSlice 70 (.int .i64 (m : Int)) (.int .i64 (m : Int))).run Tryz.prog w = .ok (.slice (some ⟨w.heap.size, 0, none⟩) m m) (w.alloc (.cells ((List.replicate m false).map boc).toArray 4)) := by
  obtain ⟨i, hi, hz, hs, hb⟩ : ∃ i, Tryz.prog.info? 4 = some i ∧ i.zero = some (.bool false) ∧ i.size = 1 ∧ i.bytes = 1 := by
    have h := bT13.info;cases hq : Tryz.prog.info? 4 with
    | none => rw [hq] at h; cases h
    | some i =>
      rw [hq] at h;simp only [Option.map_some, Option.some.injEq, Prod.mk.injEq] at h;exact ⟨i, rfl, h.1, h.2.1, h.2.2⟩
  have h := run_makeSlice (P := Tryz.prog) w 70 4 i _ Tryz.underlying70 hi hz .i64 .i64 (m : Int) (m : Int) (by omega) (by omega) (by rw [hs]; omega) (by rw [hb]; omega) (by omega);rw [h, hs, Int.toNat_natCast];refine congrArg (fun q => Result.ok _ (w.alloc (.cells q 4))) ?_;have e := made_rep [.bool false] (by simp) m;rw [List.length_singleton, show (List.replicate m [Value.bool false]).flatten = List.replicate m (Value.bool false) from by simp] at e;rw [List.map_replicate];exact e
theorem own_rowW {w : World} {base g n : Nat} {G : List (Bool × List UInt8)} (hn : G.length = n) (hr : Row w g 81 (G.flatMap (ccells sv))) (hb : base ≤ g) (hx : n ≤ maxLen) : OwnC sv 81 w base (some ⟨g, 0, none⟩) n G := by
  subst hn;have e : (G.flatMap (ccells sv)).length = G.length * 2 := flat_klen _ 2 (fun _ => rfl) G;exact ⟨e, .inr ⟨g, G.length, (G.flatMap (ccells sv)).toArray, rfl, hb, hr, Nat.le_refl _, hx, by simp [e], by rw [← e]; exact List.take_length⟩⟩
theorem own_rowB {w : World} {base g n : Nat} {G : List Bool} (hn : G.length = n) (hr : Row w g 4 (G.map boc)) (hb : base ≤ g) (hx : n ≤ maxLen) : OwB w base (some ⟨g, 0, none⟩) n G := by
  subst hn;have e : (G.map boc).length = G.length * 1 := by simp
  exact ⟨e, .inr ⟨g, G.length, (G.map boc).toArray, rfl, hb, hr, Nat.le_refl _, hx, by simp, by rw [← e]; exact List.take_length⟩⟩
theorem columnC_any (F : FuncId) (r : Nat) (A : Option Addr) (m c : Nat) (b : Bool) (L : List Cl) (id : Int) (n : Nat) (X : List (Bool × Int) × Nat) (w : World) (hR : RdrC w r A m c b) (hL : Cols w A m L) (hm : m ≤ 1000000) (hb : ∀ x ∈ L, x.B.length ≤ 1000000) (hn : n ≤ 100000) (hF : ∀ (args : Array Value) (w : World), (callFunc F args).run Tryz.prog w = .ok (.enter F args) w)
    (hG : ∀ (w1 : World) (A1 : Option Addr) (c1 : Nat) (B : List UInt8), B = findC (L.map Cl.v) id → Rd w1 A1 B.length (B.map bytec) → B.length ≤ c1 → B.length ≤ 1000000 → Calls Tryz.prog F #[.slice A1 B.length c1, .int .i64 (n : Int)] w1 fun e w2 =>
      ∃ A' c', e = .returned (.tuple #[.slice A' X.1.length c', .int .i64 (X.2 : Int)]) ∧ OwnC nv 78 w2 w1.heap.size A' c' X.1 ∧ Fr (fun _ => False) w1 w2) :
    Calls Tryz.prog 66 #[.pointer (some ⟨r, 0, none⟩), .int .i64 id, .int .i64 (n : Int), .func (.func F) #[] #[]] w fun e w' =>
      ∃ A' c', e = .returned (.slice A' (colF (false, 0) n X).1.length c') ∧ OwnC nv 78 w' w.heap.size A' c' (colF (false, 0) n X).1 ∧ RdrC w' r A m c (b || (colF (false, 0) n X).2) ∧ Fr (fun k => k = r) w w' := by
  have hrow : Row w r 91 [.slice A m c, .bool b] := hR;have c0 : w.cell? ⟨r, 0, none⟩ = some (.slice A m c) := hrow.cell rfl;have hfind := find_any A m c L id w hL hm (fun x hx => by have := hb x hx; omega);obtain ⟨B, hB⟩ := nm_ (findC (L.map Cl.v) id);have hBl : B.length ≤ 1000000 := by
    rw [← hB];have := findC_le19 (M := 1000000) (id := id) (L := L) (fun x hx => by have := hb x hx; omega) (by decide);omega
  rw [hB] at hfind;have HFIND := hid hfind;have HG := hid (fun w1 A1 c1 => hG w1 A1 c1 B hB.symm);obtain ⟨LX, e⟩ := X;have hcf : colF (false, 0) n (LX, e) = if e = 0 ∧ LX.length = 0 then (List.replicate n (false, 0), false) else (LX, !decide (e = 0) || !decide (LX.length = n)) := rfl;obtain ⟨Y, hY⟩ := nm_ (colF (false, 0) n (LX, e));rw [hY] at hcf ⊢;have HCF := hid hcf;have HR := hid hR;have HRO := hid hrow.lt;obtain ⟨ll, hll⟩ := nm_ LX.length;simp only [hll] at HG HCF;have HLL := hid hll;have t0 : ((e : Int) == 0) = decide (e = 0) := (Bool.eq_iff_iff.2 (by simp))
  have t1 : ((ll : Int) == 0) = decide (ll = 0) := (Bool.eq_iff_iff.2 (by simp))
  have t2 : ((e : Int) != 0) = !decide (e = 0) := by rw [bne, t0]
  have t3 : ((ll : Int) != (n : Int)) = !decide (ll = n) := by rw [bne]; congr 1; exact (Bool.eq_iff_iff.2 (by simp; omega))
  obtain ⟨p, hp⟩ := nm_ (decide (e = 0));obtain ⟨q, hq⟩ := nm_ (decide (ll = 0));obtain ⟨s, hs⟩ := nm_ (decide (ll = n));rw [hp] at t0 t2;rw [hq] at t1;rw [hs] at t3;have HPQ := hid (And.intro hp (And.intro hq hs));clear hR hL hb hG hfind hB hcf hY hrow hll hp hq hs;have hmain : Calls Tryz.prog 66 #[.pointer (some ⟨r, 0, none⟩), .int .i64 id, .int .i64 (n : Int), .func (.func F) #[] #[]] w fun e w' =>
      ∃ A' c', e = .returned (.slice A' Y.1.length c') ∧ OwnC nv 78 w' w.heap.size A' c' Y.1 ∧ RdrC w' r A m c (b || Y.2) ∧ Fr (fun k => k = r) w w' := by
   by_cases hpq : p = true ∧ q = true
   · obtain ⟨rfl, rfl⟩ := hpq;have hY2 : Y = (List.replicate n (false, 0), false) := by
      have h1 := HPQ.out;rw [HCF.out, if_pos ⟨of_decide_eq_true h1.1, of_decide_eq_true h1.2.1⟩]
     have HY := hid hY2;clear hY2;go_enter Tryz.func66, Tryz.ntmps66;go_wp2_with fail;refine HFIND.out.mono ?_;rintro e1 w1 ⟨A1, c1, rfl, ho1, hf1⟩;have hcap := ho1.2;have hrd := Rd.of_own ho1;have hget := HG.out w1 A1 c1 hrd (own_cap ho1).2.1 hBl;have HF1 := hid hf1;have HGET := hid hget;clear ho1 hf1 hcap hrd hget;go_wp2_with fail;refine HGET.out.mono ?_;rintro e2 w2 ⟨A2, c2, rfl, ho2, hf2⟩;have HF2 := hid (HF1.out.trans hf2 im_);clear ho2 hf2;have hmk := mkCn n (by omega) w2;obtain ⟨w3, hw3⟩ := nm_ (w2.alloc (.cells ((List.replicate n ((false, 0) : Bool × Int)).flatMap (ccells nv)).toArray 78));rw [hw3] at hmk;have HF3 : Hid (Fr (fun _ => False) w2 w3) := hid (by rw [← hw3]; exact (Fr.refl _ _).alloc _);have HR3 : Hid (Row w3 w2.heap.size 78 ((List.replicate n ((false, 0) : Bool × Int)).flatMap (ccells nv))) := hid (by rw [← hw3]; exact Row.new w2 _ _);clear hw3;go_wp2_with fail;have hf := HF2.out.trans HF3.out im_;have ho := own_rowC (base := w.heap.size) (n := n) (G := List.replicate n (false, 0)) (by simp) HR3.out HF2.out.size (by unfold maxLen; omega);refine bodyPost_ret (v := .slice (some ⟨w2.heap.size, 0, none⟩) n n) (by simp [results, Tryz.results66, go_sem]) rfl ?_;rw [HY.out];refine ⟨some ⟨w2.heap.size, 0, none⟩, n, ?_, ho, ?_, hf.mono (fun _ _ h => h.elim)⟩
     · simp
     · rw [Bool.or_false];exact HR.out.fr hf (fun h => h)
   · have hY2 : Y = (LX, !p || !s) := by
      have h1 := HPQ.out;rw [HCF.out, if_neg (fun h => hpq ⟨by rw [← h1.1]; exact decide_eq_true h.1, by rw [← h1.2.1]; exact decide_eq_true h.2⟩), h1.1, h1.2.2]
     have HY := hid hY2;have hpq2 : (p = false ∧ True) ∨ (p = true ∧ q = false) := by revert hpq; cases p <;> cases q <;> simp
     clear hY2 hpq;have hfin : ∀ (A2 : Option Addr) (c2 : Nat) (w2 w3 : World), Hid (∀ k, (Value.slice A2 ll c2).ownBlock = some k → k ≠ r) → Hid (OwnC nv 78 w2 w.heap.size A2 c2 LX) → Hid (Fr (fun _ => False) w w2) → RdrC w3 r A m c (b || (!p || !s)) → Fr (fun k => k = r) w2 w3 → ∃ A' c', (Ending.returned (.slice A2 ll c2)) = .returned (.slice A' Y.1.length c') ∧ OwnC nv 78 w3 w.heap.size A' c' Y.1 ∧ RdrC w3 r A m c (b || Y.2) ∧ Fr (fun k => k = r) w w3 := by
      intro A2 c2 w2 w3 hne ho hf hr hf3;rw [HY.out];refine ⟨A2, c2, by rw [HLL.out], hf3.own ho.out (fun k hk h => hne.out k (by rw [HLL.out] at hk; exact hk) h), hr, (hf.out.mono (fun _ _ h => h.elim)).trans hf3 im_⟩
     have HFIN := hid hfin;clear hfin;go_enter Tryz.func66, Tryz.ntmps66;go_wp2_with fail;refine HFIND.out.mono ?_;rintro e1 w1 ⟨A1, c1, rfl, ho1, hf1⟩;have hrd := Rd.of_own ho1;have hget := HG.out w1 A1 c1 hrd (own_cap ho1).2.1 hBl;have HF1 := hid hf1;have HGET := hid hget;clear ho1 hf1 hrd hget;go_wp2_with fail;refine HGET.out.mono ?_;rintro e2 w2 ⟨A2, c2, rfl, ho2, hf2⟩;have HO2 := hid (own_base ho2 HF1.out.size);have HNE : Hid (∀ k, (Value.slice A2 ll c2).ownBlock = some k → k ≠ r) := hid (fun k hk => by
       rw [← HLL.out] at hk;have h1 := (ho2.lt k hk).1;have h2 := HRO.out;have h3 := HF1.out.size;omega)
     have HF2 := hid (HF1.out.trans hf2 im_);have HREF := hid (fun x => refuse_any r A m c b x w2 (HR.out.fr HF2.out (fun h => h)));clear ho2 hf2;rcases hpq2 with ⟨rfl, _⟩ | ⟨rfl, rfl⟩ <;> (
      try simp only [Bool.not_true, Bool.not_false, Bool.true_or, Bool.false_or] at t2 HFIN
      go_wp2_with fail;refine (HREF.out _).mono ?_;rintro e3 w3 ⟨rfl, hr3, hf3⟩;have HH := hid (HFIN.out A2 c2 w2 w3 HNE HO2 HF2 hr3 hf3);clear hr3 hf3;go_wp2_with fail;exact bodyPost_ret (v := .slice A2 ll c2) (by simp [results, Tryz.results66, go_sem]) rfl HH.out)
  exact hmain
theorem columnW_any (F : FuncId) (r : Nat) (A : Option Addr) (m c : Nat) (b : Bool) (L : List Cl) (id : Int) (n : Nat) (X : List (Bool × List UInt8) × Nat) (w : World) (hR : RdrC w r A m c b) (hL : Cols w A m L) (hm : m ≤ 1000000) (hb : ∀ x ∈ L, x.B.length ≤ 1000000) (hn : n ≤ 100000) (hF : ∀ (args : Array Value) (w : World), (callFunc F args).run Tryz.prog w = .ok (.enter F args) w)
    (hG : ∀ (w1 : World) (A1 : Option Addr) (c1 : Nat) (B : List UInt8), B = findC (L.map Cl.v) id → Rd w1 A1 B.length (B.map bytec) → B.length ≤ c1 → B.length ≤ 1000000 → Calls Tryz.prog F #[.slice A1 B.length c1, .int .i64 (n : Int)] w1 fun e w2 =>
      ∃ A' c', e = .returned (.tuple #[.slice A' X.1.length c', .int .i64 (X.2 : Int)]) ∧ OwnC sv 81 w2 w1.heap.size A' c' X.1 ∧ Fr (fun _ => False) w1 w2) :
    Calls Tryz.prog 68 #[.pointer (some ⟨r, 0, none⟩), .int .i64 id, .int .i64 (n : Int), .func (.func F) #[] #[]] w fun e w' =>
      ∃ A' c', e = .returned (.slice A' (colF (false, []) n X).1.length c') ∧ OwnC sv 81 w' w.heap.size A' c' (colF (false, []) n X).1 ∧ RdrC w' r A m c (b || (colF (false, []) n X).2) ∧ Fr (fun k => k = r) w w' := by
  have hrow : Row w r 91 [.slice A m c, .bool b] := hR;have c0 : w.cell? ⟨r, 0, none⟩ = some (.slice A m c) := hrow.cell rfl;have hfind := find_any A m c L id w hL hm (fun x hx => by have := hb x hx; omega);obtain ⟨B, hB⟩ := nm_ (findC (L.map Cl.v) id);have hBl : B.length ≤ 1000000 := by
    rw [← hB];have := findC_le19 (M := 1000000) (id := id) (L := L) (fun x hx => by have := hb x hx; omega) (by decide);omega
  rw [hB] at hfind;have HFIND := hid hfind;have HG := hid (fun w1 A1 c1 => hG w1 A1 c1 B hB.symm);obtain ⟨LX, e⟩ := X;have hcf : colF (false, []) n (LX, e) = if e = 0 ∧ LX.length = 0 then (List.replicate n (false, []), false) else (LX, !decide (e = 0) || !decide (LX.length = n)) := rfl;obtain ⟨Y, hY⟩ := nm_ (colF (false, []) n (LX, e));rw [hY] at hcf ⊢;have HCF := hid hcf;have HR := hid hR;have HRO := hid hrow.lt;obtain ⟨ll, hll⟩ := nm_ LX.length;simp only [hll] at HG HCF;have HLL := hid hll;have t0 : ((e : Int) == 0) = decide (e = 0) := (Bool.eq_iff_iff.2 (by simp))
  have t1 : ((ll : Int) == 0) = decide (ll = 0) := (Bool.eq_iff_iff.2 (by simp))
  have t2 : ((e : Int) != 0) = !decide (e = 0) := by rw [bne, t0]
  have t3 : ((ll : Int) != (n : Int)) = !decide (ll = n) := by rw [bne]; congr 1; exact (Bool.eq_iff_iff.2 (by simp; omega))
  obtain ⟨p, hp⟩ := nm_ (decide (e = 0));obtain ⟨q, hq⟩ := nm_ (decide (ll = 0));obtain ⟨s, hs⟩ := nm_ (decide (ll = n));rw [hp] at t0 t2;rw [hq] at t1;rw [hs] at t3;have HPQ := hid (And.intro hp (And.intro hq hs));clear hR hL hb hG hfind hB hcf hY hrow hll hp hq hs;have hmain : Calls Tryz.prog 68 #[.pointer (some ⟨r, 0, none⟩), .int .i64 id, .int .i64 (n : Int), .func (.func F) #[] #[]] w fun e w' =>
      ∃ A' c', e = .returned (.slice A' Y.1.length c') ∧ OwnC sv 81 w' w.heap.size A' c' Y.1 ∧ RdrC w' r A m c (b || Y.2) ∧ Fr (fun k => k = r) w w' := by
   by_cases hpq : p = true ∧ q = true
   · obtain ⟨rfl, rfl⟩ := hpq;have hY2 : Y = (List.replicate n (false, []), false) := by
      have h1 := HPQ.out;rw [HCF.out, if_pos ⟨of_decide_eq_true h1.1, of_decide_eq_true h1.2.1⟩]
     have HY := hid hY2;clear hY2;go_enter Tryz.func68, Tryz.ntmps68;go_wp2_with fail;refine HFIND.out.mono ?_;rintro e1 w1 ⟨A1, c1, rfl, ho1, hf1⟩;have hcap := ho1.2;have hrd := Rd.of_own ho1;have hget := HG.out w1 A1 c1 hrd (own_cap ho1).2.1 hBl;have HF1 := hid hf1;have HGET := hid hget;clear ho1 hf1 hcap hrd hget;go_wp2_with fail;refine HGET.out.mono ?_;rintro e2 w2 ⟨A2, c2, rfl, ho2, hf2⟩;have HF2 := hid (HF1.out.trans hf2 im_);clear ho2 hf2;have hmk := mkWn n (by omega) w2;obtain ⟨w3, hw3⟩ := nm_ (w2.alloc (.cells ((List.replicate n ((false, []) : Bool × List UInt8)).flatMap (ccells sv)).toArray 81));rw [hw3] at hmk;have HF3 : Hid (Fr (fun _ => False) w2 w3) := hid (by rw [← hw3]; exact (Fr.refl _ _).alloc _);have HR3 : Hid (Row w3 w2.heap.size 81 ((List.replicate n ((false, []) : Bool × List UInt8)).flatMap (ccells sv))) := hid (by rw [← hw3]; exact Row.new w2 _ _);clear hw3;go_wp2_with fail;have hf := HF2.out.trans HF3.out im_;have ho := own_rowW (base := w.heap.size) (n := n) (G := List.replicate n (false, [])) (by simp) HR3.out HF2.out.size (by unfold maxLen; omega);refine bodyPost_ret (v := .slice (some ⟨w2.heap.size, 0, none⟩) n n) (by simp [results, Tryz.results68, go_sem]) rfl ?_;rw [HY.out];refine ⟨some ⟨w2.heap.size, 0, none⟩, n, ?_, ho, ?_, hf.mono (fun _ _ h => h.elim)⟩
     · simp
     · rw [Bool.or_false];exact HR.out.fr hf (fun h => h)
   · have hY2 : Y = (LX, !p || !s) := by
      have h1 := HPQ.out;rw [HCF.out, if_neg (fun h => hpq ⟨by rw [← h1.1]; exact decide_eq_true h.1, by rw [← h1.2.1]; exact decide_eq_true h.2⟩), h1.1, h1.2.2]
     have HY := hid hY2;have hpq2 : (p = false ∧ True) ∨ (p = true ∧ q = false) := by revert hpq; cases p <;> cases q <;> simp
     clear hY2 hpq;have hfin : ∀ (A2 : Option Addr) (c2 : Nat) (w2 w3 : World), Hid (∀ k, (Value.slice A2 ll c2).ownBlock = some k → k ≠ r) → Hid (OwnC sv 81 w2 w.heap.size A2 c2 LX) → Hid (Fr (fun _ => False) w w2) → RdrC w3 r A m c (b || (!p || !s)) → Fr (fun k => k = r) w2 w3 → ∃ A' c', (Ending.returned (.slice A2 ll c2)) = .returned (.slice A' Y.1.length c') ∧ OwnC sv 81 w3 w.heap.size A' c' Y.1 ∧ RdrC w3 r A m c (b || Y.2) ∧ Fr (fun k => k = r) w w3 := by
      intro A2 c2 w2 w3 hne ho hf hr hf3;rw [HY.out];refine ⟨A2, c2, by rw [HLL.out], hf3.own ho.out (fun k hk h => hne.out k (by rw [HLL.out] at hk; exact hk) h), hr, (hf.out.mono (fun _ _ h => h.elim)).trans hf3 im_⟩
     have HFIN := hid hfin;clear hfin;go_enter Tryz.func68, Tryz.ntmps68;go_wp2_with fail;refine HFIND.out.mono ?_;rintro e1 w1 ⟨A1, c1, rfl, ho1, hf1⟩;have hrd := Rd.of_own ho1;have hget := HG.out w1 A1 c1 hrd (own_cap ho1).2.1 hBl;have HF1 := hid hf1;have HGET := hid hget;clear ho1 hf1 hrd hget;go_wp2_with fail;refine HGET.out.mono ?_;rintro e2 w2 ⟨A2, c2, rfl, ho2, hf2⟩;have HO2 := hid (own_base ho2 HF1.out.size);have HNE : Hid (∀ k, (Value.slice A2 ll c2).ownBlock = some k → k ≠ r) := hid (fun k hk => by
       rw [← HLL.out] at hk;have h1 := (ho2.lt k hk).1;have h2 := HRO.out;have h3 := HF1.out.size;omega)
     have HF2 := hid (HF1.out.trans hf2 im_);have HREF := hid (fun x => refuse_any r A m c b x w2 (HR.out.fr HF2.out (fun h => h)));clear ho2 hf2;rcases hpq2 with ⟨rfl, _⟩ | ⟨rfl, rfl⟩ <;> (
      try simp only [Bool.not_true, Bool.not_false, Bool.true_or, Bool.false_or] at t2 HFIN
      go_wp2_with fail;refine (HREF.out _).mono ?_;rintro e3 w3 ⟨rfl, hr3, hf3⟩;have HH := hid (HFIN.out A2 c2 w2 w3 HNE HO2 HF2 hr3 hf3);clear hr3 hf3;go_wp2_with fail;exact bodyPost_ret (v := .slice A2 ll c2) (by simp [results, Tryz.results68, go_sem]) rfl HH.out)
  exact hmain
theorem columnB_any (F : FuncId) (r : Nat) (A : Option Addr) (m c : Nat) (b : Bool) (L : List Cl) (id : Int) (n : Nat) (X : List (Bool) × Nat) (w : World) (hR : RdrC w r A m c b) (hL : Cols w A m L) (hm : m ≤ 1000000) (hb : ∀ x ∈ L, x.B.length ≤ 1000000) (hn : n ≤ 100000) (hF : ∀ (args : Array Value) (w : World), (callFunc F args).run Tryz.prog w = .ok (.enter F args) w)
    (hG : ∀ (w1 : World) (A1 : Option Addr) (c1 : Nat) (B : List UInt8), B = findC (L.map Cl.v) id → Rd w1 A1 B.length (B.map bytec) → B.length ≤ c1 → B.length ≤ 1000000 → Calls Tryz.prog F #[.slice A1 B.length c1, .int .i64 (n : Int)] w1 fun e w2 =>
      ∃ A' c', e = .returned (.tuple #[.slice A' X.1.length c', .int .i64 (X.2 : Int)]) ∧ OwB w2 w1.heap.size A' c' X.1 ∧ Fr (fun _ => False) w1 w2) :
    Calls Tryz.prog 70 #[.pointer (some ⟨r, 0, none⟩), .int .i64 id, .int .i64 (n : Int), .func (.func F) #[] #[]] w fun e w' =>
      ∃ A' c', e = .returned (.slice A' (colF false n X).1.length c') ∧ OwB w' w.heap.size A' c' (colF false n X).1 ∧ RdrC w' r A m c (b || (colF false n X).2) ∧ Fr (fun k => k = r) w w' := by
  have hrow : Row w r 91 [.slice A m c, .bool b] := hR;have c0 : w.cell? ⟨r, 0, none⟩ = some (.slice A m c) := hrow.cell rfl;have hfind := find_any A m c L id w hL hm (fun x hx => by have := hb x hx; omega);obtain ⟨B, hB⟩ := nm_ (findC (L.map Cl.v) id);have hBl : B.length ≤ 1000000 := by
    rw [← hB];have := findC_le19 (M := 1000000) (id := id) (L := L) (fun x hx => by have := hb x hx; omega) (by decide);omega
  rw [hB] at hfind;have HFIND := hid hfind;have HG := hid (fun w1 A1 c1 => hG w1 A1 c1 B hB.symm);obtain ⟨LX, e⟩ := X;have hcf : colF false n (LX, e) = if e = 0 ∧ LX.length = 0 then (List.replicate n false, false) else (LX, !decide (e = 0) || !decide (LX.length = n)) := rfl;obtain ⟨Y, hY⟩ := nm_ (colF false n (LX, e));rw [hY] at hcf ⊢;have HCF := hid hcf;have HR := hid hR;have HRO := hid hrow.lt;obtain ⟨ll, hll⟩ := nm_ LX.length;simp only [hll] at HG HCF;have HLL := hid hll;have t0 : ((e : Int) == 0) = decide (e = 0) := (Bool.eq_iff_iff.2 (by simp))
  have t1 : ((ll : Int) == 0) = decide (ll = 0) := (Bool.eq_iff_iff.2 (by simp))
  have t2 : ((e : Int) != 0) = !decide (e = 0) := by rw [bne, t0]
  have t3 : ((ll : Int) != (n : Int)) = !decide (ll = n) := by rw [bne]; congr 1; exact (Bool.eq_iff_iff.2 (by simp; omega))
  obtain ⟨p, hp⟩ := nm_ (decide (e = 0));obtain ⟨q, hq⟩ := nm_ (decide (ll = 0));obtain ⟨s, hs⟩ := nm_ (decide (ll = n));rw [hp] at t0 t2;rw [hq] at t1;rw [hs] at t3;have HPQ := hid (And.intro hp (And.intro hq hs));clear hR hL hb hG hfind hB hcf hY hrow hll hp hq hs;have hmain : Calls Tryz.prog 70 #[.pointer (some ⟨r, 0, none⟩), .int .i64 id, .int .i64 (n : Int), .func (.func F) #[] #[]] w fun e w' =>
      ∃ A' c', e = .returned (.slice A' Y.1.length c') ∧ OwB w' w.heap.size A' c' Y.1 ∧ RdrC w' r A m c (b || Y.2) ∧ Fr (fun k => k = r) w w' := by
   by_cases hpq : p = true ∧ q = true
   · obtain ⟨rfl, rfl⟩ := hpq;have hY2 : Y = (List.replicate n false, false) := by
      have h1 := HPQ.out;rw [HCF.out, if_pos ⟨of_decide_eq_true h1.1, of_decide_eq_true h1.2.1⟩]
     have HY := hid hY2;clear hY2;go_enter Tryz.func70, Tryz.ntmps70;go_wp2_with fail;refine HFIND.out.mono ?_;rintro e1 w1 ⟨A1, c1, rfl, ho1, hf1⟩;have hcap := ho1.2;have hrd := Rd.of_own ho1;have hget := HG.out w1 A1 c1 hrd (own_cap ho1).2.1 hBl;have HF1 := hid hf1;have HGET := hid hget;clear ho1 hf1 hcap hrd hget;go_wp2_with fail;refine HGET.out.mono ?_;rintro e2 w2 ⟨A2, c2, rfl, ho2, hf2⟩;have HF2 := hid (HF1.out.trans hf2 im_);clear ho2 hf2;have hmk := mkBn n (by omega) w2;obtain ⟨w3, hw3⟩ := nm_ (w2.alloc (.cells ((List.replicate n false).map boc).toArray 4));rw [hw3] at hmk;have HF3 : Hid (Fr (fun _ => False) w2 w3) := hid (by rw [← hw3]; exact (Fr.refl _ _).alloc _);have HR3 : Hid (Row w3 w2.heap.size 4 ((List.replicate n false).map boc)) := hid (by rw [← hw3]; exact Row.new w2 _ _);clear hw3;go_wp2_with fail;have hf := HF2.out.trans HF3.out im_;have ho := own_rowB (base := w.heap.size) (n := n) (G := List.replicate n false) (by simp) HR3.out HF2.out.size (by unfold maxLen; omega);refine bodyPost_ret (v := .slice (some ⟨w2.heap.size, 0, none⟩) n n) (by simp [results, Tryz.results70, go_sem]) rfl ?_;rw [HY.out];refine ⟨some ⟨w2.heap.size, 0, none⟩, n, ?_, ho, ?_, hf.mono (fun _ _ h => h.elim)⟩
     · simp
     · rw [Bool.or_false];exact HR.out.fr hf (fun h => h)
   · have hY2 : Y = (LX, !p || !s) := by
      have h1 := HPQ.out;rw [HCF.out, if_neg (fun h => hpq ⟨by rw [← h1.1]; exact decide_eq_true h.1, by rw [← h1.2.1]; exact decide_eq_true h.2⟩), h1.1, h1.2.2]
     have HY := hid hY2;have hpq2 : (p = false ∧ True) ∨ (p = true ∧ q = false) := by revert hpq; cases p <;> cases q <;> simp
     clear hY2 hpq;have hfin : ∀ (A2 : Option Addr) (c2 : Nat) (w2 w3 : World), Hid (∀ k, (Value.slice A2 ll c2).ownBlock = some k → k ≠ r) → Hid (OwB w2 w.heap.size A2 c2 LX) → Hid (Fr (fun _ => False) w w2) → RdrC w3 r A m c (b || (!p || !s)) → Fr (fun k => k = r) w2 w3 → ∃ A' c', (Ending.returned (.slice A2 ll c2)) = .returned (.slice A' Y.1.length c') ∧ OwB w3 w.heap.size A' c' Y.1 ∧ RdrC w3 r A m c (b || Y.2) ∧ Fr (fun k => k = r) w w3 := by
      intro A2 c2 w2 w3 hne ho hf hr hf3;rw [HY.out];refine ⟨A2, c2, by rw [HLL.out], hf3.own ho.out (fun k hk h => hne.out k (by rw [HLL.out] at hk; exact hk) h), hr, (hf.out.mono (fun _ _ h => h.elim)).trans hf3 im_⟩
     have HFIN := hid hfin;clear hfin;go_enter Tryz.func70, Tryz.ntmps70;go_wp2_with fail;refine HFIND.out.mono ?_;rintro e1 w1 ⟨A1, c1, rfl, ho1, hf1⟩;have hrd := Rd.of_own ho1;have hget := HG.out w1 A1 c1 hrd (own_cap ho1).2.1 hBl;have HF1 := hid hf1;have HGET := hid hget;clear ho1 hf1 hrd hget;go_wp2_with fail;refine HGET.out.mono ?_;rintro e2 w2 ⟨A2, c2, rfl, ho2, hf2⟩;have HO2 := hid (own_base ho2 HF1.out.size);have HNE : Hid (∀ k, (Value.slice A2 ll c2).ownBlock = some k → k ≠ r) := hid (fun k hk => by
       rw [← HLL.out] at hk;have h1 := (ho2.lt k hk).1;have h2 := HRO.out;have h3 := HF1.out.size;omega)
     have HF2 := hid (HF1.out.trans hf2 im_);have HREF := hid (fun x => refuse_any r A m c b x w2 (HR.out.fr HF2.out (fun h => h)));clear ho2 hf2;rcases hpq2 with ⟨rfl, _⟩ | ⟨rfl, rfl⟩ <;> (
      try simp only [Bool.not_true, Bool.not_false, Bool.true_or, Bool.false_or] at t2 HFIN
      go_wp2_with fail;refine (HREF.out _).mono ?_;rintro e3 w3 ⟨rfl, hr3, hf3⟩;have HH := hid (HFIN.out A2 c2 w2 w3 HNE HO2 HF2 hr3 hf3);clear hr3 hf3;go_wp2_with fail;exact bodyPost_ret (v := .slice A2 ll c2) (by simp [results, Tryz.results70, go_sem]) rfl HH.out)
  exact hmain
theorem colU_any (r : Nat) (A : Option Addr) (m c : Nat) (b : Bool) (L : List Cl) (id : Int) (n : Nat) (w : World) (hR : RdrC w r A m c b) (hL : Cols w A m L) (hm : m ≤ 1000000) (hb : ∀ x ∈ L, x.B.length ≤ 1000000) (hn : n ≤ 100000) :
    Calls Tryz.prog 66 #[.pointer (some ⟨r, 0, none⟩), .int .i64 id, .int .i64 (n : Int), .func (.func 63) #[] #[]] w fun e w' =>
      ∃ A' c', e = .returned (.slice A' (colU (L.map Cl.v) id n).1.length c') ∧ OwnC nv 78 w' w.heap.size A' c' (colU (L.map Cl.v) id n).1 ∧ RdrC w' r A m c (b || (colU (L.map Cl.v) id n).2) ∧ Fr (fun k => k = r) w w' :=
  columnC_any 63 r A m c b L id n (gU (L.map Cl.v) id n) w hR hL hm hb hn (fun _ _ => rfl) (fun w1 A1 c1 B hB hr hc hl => by
    subst hB;exact pGet_any A1 _ c1 _ n w1 hr hc (by omega) (by omega) (by omega))
theorem colD_any (r : Nat) (A : Option Addr) (m c : Nat) (b : Bool) (L : List Cl) (id : Int) (n : Nat) (w : World) (hR : RdrC w r A m c b) (hL : Cols w A m L) (hm : m ≤ 1000000) (hb : ∀ x ∈ L, x.B.length ≤ 1000000) (hn : n ≤ 100000) :
    Calls Tryz.prog 66 #[.pointer (some ⟨r, 0, none⟩), .int .i64 id, .int .i64 (n : Int), .func (.func 67) #[] #[]] w fun e w' =>
      ∃ A' c', e = .returned (.slice A' (colD (L.map Cl.v) id n).1.length c') ∧ OwnC nv 78 w' w.heap.size A' c' (colD (L.map Cl.v) id n).1 ∧ RdrC w' r A m c (b || (colD (L.map Cl.v) id n).2) ∧ Fr (fun k => k = r) w w' :=
  columnC_any 67 r A m c b L id n (gD (L.map Cl.v) id n) w hR hL hm hb hn (fun _ _ => rfl) (fun w1 A1 c1 B hB hr hc hl => by
    subst hB;exact dGet_any A1 _ c1 _ n w1 hr hc (by omega) (by omega) (by omega))
theorem colW_any (r : Nat) (A : Option Addr) (m c : Nat) (b : Bool) (L : List Cl) (id : Int) (n : Nat) (w : World) (hR : RdrC w r A m c b) (hL : Cols w A m L) (hm : m ≤ 1000000) (hb : ∀ x ∈ L, x.B.length ≤ 1000000) (hn : n ≤ 100000) :
    Calls Tryz.prog 68 #[.pointer (some ⟨r, 0, none⟩), .int .i64 id, .int .i64 (n : Int), .func (.func 69) #[] #[]] w fun e w' =>
      ∃ A' c', e = .returned (.slice A' (colW (L.map Cl.v) id n).1.length c') ∧ OwnC sv 81 w' w.heap.size A' c' (colW (L.map Cl.v) id n).1 ∧ RdrC w' r A m c (b || (colW (L.map Cl.v) id n).2) ∧ Fr (fun k => k = r) w w' :=
  columnW_any 69 r A m c b L id n (gW (L.map Cl.v) id n) w hR hL hm hb hn (fun _ _ => rfl) (fun w1 A1 c1 B hB hr hc hl => by
    subst hB;exact pGetW_any A1 _ c1 _ n w1 hr hc (by omega) (by omega) (by omega))
theorem colB_any (r : Nat) (A : Option Addr) (m c : Nat) (b : Bool) (L : List Cl) (id : Int) (n : Nat) (w : World) (hR : RdrC w r A m c b) (hL : Cols w A m L) (hm : m ≤ 1000000) (hb : ∀ x ∈ L, x.B.length ≤ 1000000) (hn : n ≤ 100000) (h52 : (findC (L.map Cl.v) id).length ≤ 100000) :
    Calls Tryz.prog 70 #[.pointer (some ⟨r, 0, none⟩), .int .i64 id, .int .i64 (n : Int), .func (.func 71) #[] #[]] w fun e w' =>
      ∃ A' c', e = .returned (.slice A' (colB (L.map Cl.v) id n).1.length c') ∧ OwB w' w.heap.size A' c' (colB (L.map Cl.v) id n).1 ∧ RdrC w' r A m c (b || (colB (L.map Cl.v) id n).2) ∧ Fr (fun k => k = r) w w' :=
  columnB_any 71 r A m c b L id n (gB (L.map Cl.v) id n) w hR hL hm hb hn (fun _ _ => rfl) (fun w1 A1 c1 B hB hr hc hl => by
    subst hB;exact bGet_any A1 _ c1 _ n w1 hr hc (by omega) (by omega) (by omega))
end
section
open Go.RowKit Mem Go.Lib LebM UtfM VaM OpM AcM RleM CsM DirM
attribute [local go_sem ↓] Go.wp_at_zero Go.wp_at_succ
theorem sum_any (r : Nat) (A : Option Addr) (m c : Nat) (b : Bool) (A2 : Option Addr) (n c2 : Nat) (L : List C) (w : World) (hR : RdrC w r A m c b) (hL : Cls nv w A2 n L) (hn : n ≤ 100000) (hne : ∀ ad, A2 = some ad → ad.block ≠ r) (h0 : ∀ x ∈ L, 0 ≤ x.2) :
    Calls Tryz.prog 73 #[.pointer (some ⟨r, 0, none⟩), .slice A2 n c2] w fun e w' => e = .returned (.int .i64 (sumR L : Nat)) ∧ RdrC w' r A m c (b || manyR L) ∧ Fr (fun k => k = r) w w' := by
 have hll := hL.1;have HL := hid hL;have HLL := hid hll;have HR := hid hR;have HNE := hid hne;have H0 := hid h0;clear hR hL hne h0 hll;go_enter Tryz.func73, Tryz.ntmps73;go_wp2_with fail
 go_loopw [5, 10] (fun u v wr => ∃ k : Nat, k ≤ n ∧ v = .int .i64 (k : Int) ∧ u = .int .i64 (sumR (L.take k) : Nat) ∧ Hid (RdrC wr r A m c (b || manyR (L.take k))) ∧ Hid (Fr (fun k => k = r) w wr)) (fun _ v _ => n - (intOf v).toNat)
 case atStart => exact ⟨0, Nat.zero_le _, rfl, rfl, hid (by simpa [manyR] using HR.out), hid (Fr.refl _ _)⟩
 case round =>
  obtain ⟨k, hk, rfl, rfl, HRK, HFK⟩ := hrel
  rename World => wr
  by_cases hlt : k < n
  · obtain ⟨x, hx⟩ : ∃ x, L[k]? = some x := ⟨_, List.getElem?_eq_getElem (by have := HLL.out; omega)⟩
    obtain ⟨g, o, rfl, hg, d0, d1⟩ := (HL.out.fr HFK.out HNE.out).2 k x hx;obtain ⟨v, hv⟩ : ∃ v : Nat, x.2 = (v : Int) := ⟨x.2.toNat, by have := H0.out x (List.mem_of_getElem? hx); omega⟩
    have hst : L.take (k + 1) = L.take k ++ [x] := by rw [List.take_add_one, hx]; rfl
    have hs1 := sumR_snoc (L.take k) x;have hs2 := manyR_snoc (L.take k) x;rw [← hst, hv] at hs1 hs2;have hsl := sumR_le (L.take k);rw [List.length_take] at hsl;have hsb : sumR (L.take k) ≤ 1600000 := by
     have : min k L.length * 16 ≤ k * 16 := Nat.mul_le_mul_right 16 (Nat.min_le_left _ _);omega
    obtain ⟨s, hs⟩ := nm_ (sumR (L.take k));obtain ⟨y, hy⟩ := nm_ ((b || manyR (L.take k)));rw [hs] at hs1 hsb ⊢;rw [hy] at HRK;simp only [nv] at d1;rw [hv] at d1;obtain ⟨t, ht⟩ := nm_ x.1;rw [ht] at d0;have HS1 := hid hs1;have HS2 : Hid ((y || decide (16 < (v : Int))) = (b || manyR (L.take (k + 1)))) := hid (by rw [hs2, ← hy, Bool.or_assoc]);obtain ⟨p, hp⟩ := nm_ wr.heap.size;obtain ⟨w1, hw1⟩ := nm_ (wr.alloc (.cells #[.bool false, .int .i64 0] 78));have hf1 : Fr (fun _ => False) wr w1 := by rw [← hw1]; exact (Fr.refl _ _).alloc _
    have HR1 : Hid (Row w1 p 78 [.bool false, .int .i64 0]) := hid (by rw [← hw1, ← hp]; exact Row.new wr _ _);have HF1 := hid hf1;have HP := hid hp;clear hx hst hs1 hs2 hsl hs hy hf1 hg hv ht
    go_upto_region 5 with (refine store_st cSz rfl (.tmp 7) (.tmp 13) rfl p (by rfl) [.bool t, .int .i64 (v : Int)] (by rfl) _ _ HR1.out rfl rfl (c_one _ _) ?_)
    intro w2 hr2 hf2;have e1 : w2.cell? ⟨p, 1, none⟩ = some (.int .i64 (v : Int)) := hr2.cell rfl;have hf3 : Fr (fun _ => False) wr w2 := HF1.out.trans hf2 (fun z hz e => by have := HP.out; omega);have HREF := hid (fun x => refuse_any r A m c y x w2 (HRK.out.fr hf3 (fun h => h)));have HF3 := hid (HFK.out.trans (hf3.mono (fun _ _ h => h.elim)) (fun _ _ h => h) : Fr (fun k => k = r) w w2);have HR2 := hid hr2;have HNP : Hid (p ≠ r) := hid (by have h1 := Row.lt HRK.out; have := HP.out; omega);clear hr2 hf2 hf3 hw1 hp d0 d1 e1;have e1 : w2.cell? ⟨p, 1, none⟩ = some (.int .i64 (v : Int)) := HR2.out.cell rfl;go_wp2_with fail;refine (HREF.out _).mono ?_;rintro e w3 ⟨rfl, hr3, hf4⟩;have e2 : w3.cell? ⟨p, 1, none⟩ = some (.int .i64 (v : Int)) := hf4.cell e1 HNP.out;have HF4 := hid (HF3.out.trans hf4 im_);have HR3 := hid hr3;clear hr3 hf4 e1;go_wp2_with fail
    go_roundw
    case rel => exact ⟨k + 1, by omega, by go_num, by rw [HS1.out]; congr 1; split <;> omega, hid (by rw [← HS2.out]; exact HR3.out), HF4⟩
    case measure => simp [intOf] <;> omega
  · obtain rfl : k = n := by omega
    have hall : L.take k = L := List.take_of_length_le (by have := HLL.out; omega);rw [hall] at HRK ⊢;go_wp2_with fail;exact bodyPost_ret (v := .int .i64 (sumR L : Nat)) (by simp [results, Tryz.results73, go_sem]) rfl ⟨rfl, HRK.out, HFK.out⟩
end
end Go.Proofs.YtbabgnadgdidmaaGreat
