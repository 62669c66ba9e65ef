import Derived.Test.YtbabgnadgdidmaaGreatZm00
import Derived.Test.YtbabgnadgdidmaaGreatZm19
set_option linter.unusedVariables false
set_option maxRecDepth 100000
set_option maxHeartbeats 12800000
namespace Go.Proofs.YtbabgnadgdidmaaGreat
section
open Go.RowKit Mem Go.Lib RleM
attribute [local go_sem ↓] Go.wp_at_zero Go.wp_at_succ
theorem addC_any (base : Nat) (A : Option Addr) (c : Nat) (L : List ((Bool × Int) × Nat)) (i : Bool) (x : Int) (n : Nat) (w : World) (hO : OwnG nv 206 w base A c L) (hb : base ≤ w.heap.size) (hl : L.length ≤ 1000000000)
    (hn : ∀ g ∈ L, g.2 + n < 9223372036854775808) (hn0 : n < 9223372036854775808) :
    Calls Tryz.prog 127 #[.slice A L.length c, .agg #[.bool i, (.int .i64 x)], .int .i64 (n : Int)] w fun e w' => ∃ A' c', e = .returned (.slice A' (addG L (i, x) n).length c') ∧
     OwnG nv 206 w' base A' c' (addG L (i, x) n) ∧ Fr (fun k => (Value.slice A L.length c).ownBlock = some k) w w' := by
 rcases Nat.eq_zero_or_pos n with rfl | hpos
 · rw [addG_zero];have HO := hid (hO.alloc (.cells #[.bool i, (.int .i64 x)] 78));have HF : Hid (Fr (fun k => (Value.slice A L.length c).ownBlock = some k) w (w.alloc (.cells #[.bool i, (.int .i64 x)] 78))) := hid ((Fr.refl _ _).alloc _);obtain ⟨N, hN⟩ : ∃ N, N = L.length := ⟨_, rfl⟩
   rw [← hN] at HF hl ⊢;have HN := hid hN;clear hO hn hN;go_enter Tryz.func127, Tryz.ntmps127;go_wp2_with fail;go_ret;exact ⟨A, c, rfl, HO.out, HF.out⟩
 · have t0 : ((n : Int) == 0) = false := by simp; omega
   have t0' : (n == 0) = false := by simp; omega
   rcases snoc_cases L with rfl | ⟨L', d, m, rfl⟩
   · rw [addG_nil _ (by omega)];have HO := hid hO;have HB := hid hb;clear hO hn hl hb;go_enter Tryz.func127, Tryz.ntmps127;go_wp2_with fail
     go_quiet (fail)
     obtain ⟨wq, hwq⟩ := nm_ ((w.alloc (.cells #[.bool i, (.int .i64 x)] 78)).drewN nq);rw [hwq];obtain ⟨g4, hg4⟩ := nm_ w.heap.size;rw [hg4];have hfq : Fr (fun _ => False) w wq := by rw [← hwq]; exact ((Fr.refl _ _).alloc _).drewN nq
     have hblk : wq.heap[g4]? = some (.cells #[.bool i, (.int .i64 x)] 78 (0, 0)) := by rw [← hwq, ← hg4]; exact heap_alloc_new w _
     have k0 : wq.cell? ⟨g4, 0, none⟩ = some (.bool i) := by rw [cell_of hblk 0]; rfl
     have k1 : wq.cell? ⟨g4, 1, none⟩ = some (.int .i64 x) := by rw [cell_of hblk 1]; rfl
     have HOq := hid (HO.out.fr hfq);have HFq := hid hfq;have hbq : base ≤ wq.heap.size := Nat.le_trans HB.out hfq.size;clear hwq hg4 hfq hblk;obtain ⟨N1, hN1⟩ : ∃ N1, N1 = ([] : List ((Bool × Int) × Nat)).length + 1 := ⟨_, rfl⟩
     have hN1' : N1 = 1 := hN1;go_wp2_with (at_builtin; refine wpList_appS grpTC _ rfl _ _ rfl base _ _ _ rfl (HOq.out.alloc _) _ _ [.bool i, (.int .i64 x), .int .i64 (n : Int)] rfl rfl (new_at rfl [.bool i, (.int .i64 x), .int .i64 (n : Int)] _) (by intro u hu; simp at hu; rcases hu with rfl | rfl | rfl <;> rfl) N1 hN1 (by unfold maxLen; omega) (by omega) (by simp; omega) ?_)
     intro A' c' w' hown' _ hfr';subst hN1';have HO3 : Hid (OwnG nv 206 w' base A' c' [((i, x), n)]) := hid hown';have HF3 : Hid (Fr (fun k => (Value.slice A ([] : List ((Bool × Int) × Nat)).length c).ownBlock = some k) w w') := hid ((HFq.out.mono (fun _ _ h => h.elim)).trans (((Fr.refl _ _).alloc _).trans hfr' (fun _ _ h => h)) (fun _ _ h => h));clear hown' hfr'
     go_wp2
     go_ret;exact ⟨A', c', rfl, HO3.out, HF3.out⟩
   · obtain ⟨⟨b, y⟩, hd⟩ : ∃ d', d' = d := ⟨_, rfl⟩
     subst hd;obtain ⟨g, rfl⟩ : ∃ g, A = some ⟨g, 0, none⟩ := by
      rcases hO.2 with ⟨hv, h0⟩ | ⟨g, cap, cur, hv, _⟩
      · simp at hv
      · exact ⟨g, by injection hv⟩
     obtain ⟨p, hp⟩ : ∃ p, p = L'.length := ⟨_, rfl⟩
     obtain ⟨N, hN⟩ : ∃ N, N = (L' ++ [((b, y), m)]).length := ⟨_, rfl⟩
     have hNp : N = p + 1 := by rw [hN, hp]; simp
     have hgr := hO.grs.2 p ((b, y), m) (by rw [hp]; simp);obtain ⟨g', o', e', -, c1, c2, c3⟩ := hgr;obtain ⟨rfl, rfl⟩ : g = g' ∧ 0 = o' := by injection e' with e'; injection e' with e1 e2; exact ⟨e1, e2⟩
     have hfz : w.frozen? ⟨g, p * 3 + 2, none⟩ = false := hO.frozenAt _;have hglt : g < w.heap.size := (hO.lt g rfl).2;rw [Nat.zero_add] at c1 c2 c3;simp only [nv] at c2;have hmn : m + n < 9223372036854775808 := hn ((b, y), m) (by simp);obtain ⟨q, hq⟩ := nm_ (decide ((b, y) = (i, x)));have q1 := fun (o p : Operand) (w : World) => cell_gdC .eql b i y x o p w;have q2 := fun (w : World) => cell_eqlC b i y x w;rw [hq] at q2;rw [addG_snoc _ _ _ _ (by omega), ← hN];have HO := hid hO;have HB := hid hb;have HN := hid hN;have HP := hid hp;have HNP := hid hNp;have HQ := hid hq;have hlN : N ≤ 1000000000 := by rw [hN]; exact hl
     have hpN : p < N := by omega
     have r1 : IntKind.i64.wrap ((N : Int) - 1) = (p : Int) := by rw [IntKind.wrap_i64]; omega
     have t1 : decide ((0 : Int) ≤ (p : Int)) = true := by simp
     clear hO hn hl hb hN hp hNp hq e';cases q with
     | true =>
      have e : (b, y) = (i, x) := of_decide_eq_true HQ.out;rw [if_pos e];obtain ⟨M, hM⟩ : ∃ M, M = m + n := ⟨_, rfl⟩
      rw [← hM];have r2 : IntKind.i64.wrap ((m : Int) + (n : Int)) = (M : Int) := by rw [IntKind.wrap_i64]; omega
      have HM := hid hM;clear e hM hmn;go_enter Tryz.func127, Tryz.ntmps127;go_wp2_with fail
      go_quiet (fail)
      obtain ⟨wq, hwq⟩ := nm_ ((w.alloc (.cells #[.bool i, (.int .i64 x)] 78)).drewN nq);rw [hwq];obtain ⟨g4, hg4⟩ := nm_ w.heap.size;rw [hg4];have hfq : Fr (fun _ => False) w wq := by rw [← hwq]; exact ((Fr.refl _ _).alloc _).drewN nq
      have hblk : wq.heap[g4]? = some (.cells #[.bool i, (.int .i64 x)] 78 (0, 0)) := by rw [← hwq, ← hg4]; exact heap_alloc_new w _
      have k0 : wq.cell? ⟨g4, 0, none⟩ = some (.bool i) := by rw [cell_of hblk 0]; rfl
      have k1 : wq.cell? ⟨g4, 1, none⟩ = some (.int .i64 x) := by rw [cell_of hblk 1]; rfl
      have HOq := hid (HO.out.fr hfq);have HFq := hid hfq;have hbq : base ≤ wq.heap.size := Nat.le_trans HB.out hfq.size;clear hwq hg4 hfq hblk;have hfz2 : wq.frozen? ⟨g, p * 3 + 2, none⟩ = false := HOq.out.frozenAt _;have c3q := HFq.out.cell c3 (fun h => h);clear c1 c2 c3 hfz;go_wp2_with fail;go_ret;refine ⟨some ⟨g, 0, none⟩, c, by rw [HN.out]; simp, ?_, ?_⟩
      · have h := HOq.out.last M;rw [← HP.out] at h;exact h
      · exact Fr.setCell (S := fun k => (Value.slice (some ⟨g, 0, none⟩) N c).ownBlock = some k) (HFq.out.mono (fun _ _ h => h.elim)) (p := ⟨g, p * 3 + 2, none⟩) (fun _ => rfl) _
     | false =>
      have e : ¬ (b, y) = (i, x) := of_decide_eq_false HQ.out;rw [if_neg e];clear e;go_enter Tryz.func127, Tryz.ntmps127;go_wp2_with fail
      go_quiet (fail)
      obtain ⟨wq, hwq⟩ := nm_ ((w.alloc (.cells #[.bool i, (.int .i64 x)] 78)).drewN nq);rw [hwq];obtain ⟨g4, hg4⟩ := nm_ w.heap.size;rw [hg4];have hfq : Fr (fun _ => False) w wq := by rw [← hwq]; exact ((Fr.refl _ _).alloc _).drewN nq
      have hblk : wq.heap[g4]? = some (.cells #[.bool i, (.int .i64 x)] 78 (0, 0)) := by rw [← hwq, ← hg4]; exact heap_alloc_new w _
      have k0 : wq.cell? ⟨g4, 0, none⟩ = some (.bool i) := by rw [cell_of hblk 0]; rfl
      have k1 : wq.cell? ⟨g4, 1, none⟩ = some (.int .i64 x) := by rw [cell_of hblk 1]; rfl
      have HOq := hid (HO.out.fr hfq);have HFq := hid hfq;have hbq : base ≤ wq.heap.size := Nat.le_trans HB.out hfq.size;clear hwq hg4 hfq hblk;obtain ⟨N1, hN1⟩ : ∃ N1, N1 = (L' ++ [((b, y), m)]).length + 1 := ⟨_, rfl⟩
      have hN1' : N1 = N + 1 := by rw [hN1, HN.out]
      have hOq := HOq.out;unfold OwnG at hOq;rw [← HN.out] at hOq;obtain ⟨XS, hXS⟩ : ∃ XS, XS = (L' ++ [((b, y), m)]).flatMap (gcells nv) := ⟨_, rfl⟩
      rw [← hXS] at hOq;have HXS := hid hXS;have HN1 := hid hN1;have HN1' := hid hN1';have HOq2 := hid hOq;have hN1l : N1 ≤ 1000000001 := by omega
      clear c1 c2 c3 hfz hXS hN1 hN1' hOq;go_wp2_with (at_builtin; refine wpList_appS grpTC _ rfl _ _ rfl base _ _ _ rfl (HOq2.out.alloc _) _ _ [.bool i, (.int .i64 x), .int .i64 (n : Int)] rfl rfl (new_at rfl [.bool i, (.int .i64 x), .int .i64 (n : Int)] _) (by intro u hu; simp at hu; rcases hu with rfl | rfl | rfl <;> rfl) N1 HN1'.out (by unfold maxLen; omega) (by omega) (by simp; omega) ?_)
      intro A' c' w' hown' _ hfr';rw [HXS.out] at hown';have HO3 := hid (OwnG.snoc (f := nv) (t := ((i, x), n)) HN1.out hown');have HF3 : Hid (Fr (fun k => (Value.slice (some ⟨g, 0, none⟩) N c).ownBlock = some k) w w') := hid ((HFq.out.mono (fun _ _ h => h.elim)).trans (((Fr.refl _ _).alloc _).trans hfr' (fun _ _ h => h)) (fun _ _ h => h));clear hown' hfr'
      go_wp2
      go_ret;refine ⟨A', c', by rw [HN1.out]; simp, HO3.out, HF3.out⟩
theorem addW_any (base : Nat) (A : Option Addr) (c : Nat) (L : List ((Bool × (List UInt8)) × Nat)) (i : Bool) (x : (List UInt8)) (n : Nat) (w : World) (hO : OwnG sv 212 w base A c L) (hb : base ≤ w.heap.size) (hl : L.length ≤ 1000000000)
    (hn : ∀ g ∈ L, g.2 + n < 9223372036854775808) (hn0 : n < 9223372036854775808) :
    Calls Tryz.prog 133 #[.slice A L.length c, .agg #[.bool i, (.string (txt x))], .int .i64 (n : Int)] w fun e w' => ∃ A' c', e = .returned (.slice A' (addG L (i, x) n).length c') ∧
     OwnG sv 212 w' base A' c' (addG L (i, x) n) ∧ Fr (fun k => (Value.slice A L.length c).ownBlock = some k) w w' := by
 rcases Nat.eq_zero_or_pos n with rfl | hpos
 · rw [addG_zero];have HO := hid (hO.alloc (.cells #[.bool i, (.string (txt x))] 81));have HF : Hid (Fr (fun k => (Value.slice A L.length c).ownBlock = some k) w (w.alloc (.cells #[.bool i, (.string (txt x))] 81))) := hid ((Fr.refl _ _).alloc _);obtain ⟨N, hN⟩ : ∃ N, N = L.length := ⟨_, rfl⟩
   rw [← hN] at HF hl ⊢;have HN := hid hN;clear hO hn hN;go_enter Tryz.func133, Tryz.ntmps133;go_wp2_with fail;go_ret;exact ⟨A, c, rfl, HO.out, HF.out⟩
 · have t0 : ((n : Int) == 0) = false := by simp; omega
   have t0' : (n == 0) = false := by simp; omega
   rcases snoc_cases L with rfl | ⟨L', d, m, rfl⟩
   · rw [addG_nil _ (by omega)];have HO := hid hO;have HB := hid hb;clear hO hn hl hb;go_enter Tryz.func133, Tryz.ntmps133;go_wp2_with fail
     go_quiet (fail)
     obtain ⟨wq, hwq⟩ := nm_ ((w.alloc (.cells #[.bool i, (.string (txt x))] 81)).drewN nq);rw [hwq];obtain ⟨g4, hg4⟩ := nm_ w.heap.size;rw [hg4];have hfq : Fr (fun _ => False) w wq := by rw [← hwq]; exact ((Fr.refl _ _).alloc _).drewN nq
     have hblk : wq.heap[g4]? = some (.cells #[.bool i, (.string (txt x))] 81 (0, 0)) := by rw [← hwq, ← hg4]; exact heap_alloc_new w _
     have k0 : wq.cell? ⟨g4, 0, none⟩ = some (.bool i) := by rw [cell_of hblk 0]; rfl
     have k1 : wq.cell? ⟨g4, 1, none⟩ = some (.string (txt x)) := by rw [cell_of hblk 1]; rfl
     have HOq := hid (HO.out.fr hfq);have HFq := hid hfq;have hbq : base ≤ wq.heap.size := Nat.le_trans HB.out hfq.size;clear hwq hg4 hfq hblk;obtain ⟨N1, hN1⟩ : ∃ N1, N1 = ([] : List ((Bool × (List UInt8)) × Nat)).length + 1 := ⟨_, rfl⟩
     have hN1' : N1 = 1 := hN1;go_wp2_with (at_builtin; refine wpList_appS grpTW _ rfl _ _ rfl base _ _ _ rfl (HOq.out.alloc _) _ _ [.bool i, (.string (txt x)), .int .i64 (n : Int)] rfl rfl (new_at rfl [.bool i, (.string (txt x)), .int .i64 (n : Int)] _) (by intro u hu; simp at hu; rcases hu with rfl | rfl | rfl <;> rfl) N1 hN1 (by unfold maxLen; omega) (by omega) (by simp; omega) ?_)
     intro A' c' w' hown' _ hfr';subst hN1';have HO3 : Hid (OwnG sv 212 w' base A' c' [((i, x), n)]) := hid hown';have HF3 : Hid (Fr (fun k => (Value.slice A ([] : List ((Bool × (List UInt8)) × Nat)).length c).ownBlock = some k) w w') := hid ((HFq.out.mono (fun _ _ h => h.elim)).trans (((Fr.refl _ _).alloc _).trans hfr' (fun _ _ h => h)) (fun _ _ h => h));clear hown' hfr'
     go_wp2
     go_ret;exact ⟨A', c', rfl, HO3.out, HF3.out⟩
   · obtain ⟨⟨b, y⟩, hd⟩ : ∃ d', d' = d := ⟨_, rfl⟩
     subst hd;obtain ⟨g, rfl⟩ : ∃ g, A = some ⟨g, 0, none⟩ := by
      rcases hO.2 with ⟨hv, h0⟩ | ⟨g, cap, cur, hv, _⟩
      · simp at hv
      · exact ⟨g, by injection hv⟩
     obtain ⟨p, hp⟩ : ∃ p, p = L'.length := ⟨_, rfl⟩
     obtain ⟨N, hN⟩ : ∃ N, N = (L' ++ [((b, y), m)]).length := ⟨_, rfl⟩
     have hNp : N = p + 1 := by rw [hN, hp]; simp
     have hgr := hO.grs.2 p ((b, y), m) (by rw [hp]; simp);obtain ⟨g', o', e', -, c1, c2, c3⟩ := hgr;obtain ⟨rfl, rfl⟩ : g = g' ∧ 0 = o' := by injection e' with e'; injection e' with e1 e2; exact ⟨e1, e2⟩
     have hfz : w.frozen? ⟨g, p * 3 + 2, none⟩ = false := hO.frozenAt _;have hglt : g < w.heap.size := (hO.lt g rfl).2;rw [Nat.zero_add] at c1 c2 c3;simp only [sv] at c2;have hmn : m + n < 9223372036854775808 := hn ((b, y), m) (by simp);obtain ⟨q, hq⟩ := nm_ (decide ((b, y) = (i, x)));have q1 := fun (o p : Operand) (w : World) => cell_gdW .eql b i y x o p w;have q2 := fun (w : World) => cell_eqlW b i y x w;rw [hq] at q2;rw [addG_snoc _ _ _ _ (by omega), ← hN];have HO := hid hO;have HB := hid hb;have HN := hid hN;have HP := hid hp;have HNP := hid hNp;have HQ := hid hq;have hlN : N ≤ 1000000000 := by rw [hN]; exact hl
     have hpN : p < N := by omega
     have r1 : IntKind.i64.wrap ((N : Int) - 1) = (p : Int) := by rw [IntKind.wrap_i64]; omega
     have t1 : decide ((0 : Int) ≤ (p : Int)) = true := by simp
     clear hO hn hl hb hN hp hNp hq e';cases q with
     | true =>
      have e : (b, y) = (i, x) := of_decide_eq_true HQ.out;rw [if_pos e];obtain ⟨M, hM⟩ : ∃ M, M = m + n := ⟨_, rfl⟩
      rw [← hM];have r2 : IntKind.i64.wrap ((m : Int) + (n : Int)) = (M : Int) := by rw [IntKind.wrap_i64]; omega
      have HM := hid hM;clear e hM hmn;go_enter Tryz.func133, Tryz.ntmps133;go_wp2_with fail
      go_quiet (fail)
      obtain ⟨wq, hwq⟩ := nm_ ((w.alloc (.cells #[.bool i, (.string (txt x))] 81)).drewN nq);rw [hwq];obtain ⟨g4, hg4⟩ := nm_ w.heap.size;rw [hg4];have hfq : Fr (fun _ => False) w wq := by rw [← hwq]; exact ((Fr.refl _ _).alloc _).drewN nq
      have hblk : wq.heap[g4]? = some (.cells #[.bool i, (.string (txt x))] 81 (0, 0)) := by rw [← hwq, ← hg4]; exact heap_alloc_new w _
      have k0 : wq.cell? ⟨g4, 0, none⟩ = some (.bool i) := by rw [cell_of hblk 0]; rfl
      have k1 : wq.cell? ⟨g4, 1, none⟩ = some (.string (txt x)) := by rw [cell_of hblk 1]; rfl
      have HOq := hid (HO.out.fr hfq);have HFq := hid hfq;have hbq : base ≤ wq.heap.size := Nat.le_trans HB.out hfq.size;clear hwq hg4 hfq hblk;have hfz2 : wq.frozen? ⟨g, p * 3 + 2, none⟩ = false := HOq.out.frozenAt _;have c3q := HFq.out.cell c3 (fun h => h);clear c1 c2 c3 hfz;go_wp2_with fail;go_ret;refine ⟨some ⟨g, 0, none⟩, c, by rw [HN.out]; simp, ?_, ?_⟩
      · have h := HOq.out.last M;rw [← HP.out] at h;exact h
      · exact Fr.setCell (S := fun k => (Value.slice (some ⟨g, 0, none⟩) N c).ownBlock = some k) (HFq.out.mono (fun _ _ h => h.elim)) (p := ⟨g, p * 3 + 2, none⟩) (fun _ => rfl) _
     | false =>
      have e : ¬ (b, y) = (i, x) := of_decide_eq_false HQ.out;rw [if_neg e];clear e;go_enter Tryz.func133, Tryz.ntmps133;go_wp2_with fail
      go_quiet (fail)
      obtain ⟨wq, hwq⟩ := nm_ ((w.alloc (.cells #[.bool i, (.string (txt x))] 81)).drewN nq);rw [hwq];obtain ⟨g4, hg4⟩ := nm_ w.heap.size;rw [hg4];have hfq : Fr (fun _ => False) w wq := by rw [← hwq]; exact ((Fr.refl _ _).alloc _).drewN nq
      have hblk : wq.heap[g4]? = some (.cells #[.bool i, (.string (txt x))] 81 (0, 0)) := by rw [← hwq, ← hg4]; exact heap_alloc_new w _
      have k0 : wq.cell? ⟨g4, 0, none⟩ = some (.bool i) := by rw [cell_of hblk 0]; rfl
      have k1 : wq.cell? ⟨g4, 1, none⟩ = some (.string (txt x)) := by rw [cell_of hblk 1]; rfl
      have HOq := hid (HO.out.fr hfq);have HFq := hid hfq;have hbq : base ≤ wq.heap.size := Nat.le_trans HB.out hfq.size;clear hwq hg4 hfq hblk;obtain ⟨N1, hN1⟩ : ∃ N1, N1 = (L' ++ [((b, y), m)]).length + 1 := ⟨_, rfl⟩
      have hN1' : N1 = N + 1 := by rw [hN1, HN.out]
      have hOq := HOq.out;unfold OwnG at hOq;rw [← HN.out] at hOq;obtain ⟨XS, hXS⟩ : ∃ XS, XS = (L' ++ [((b, y), m)]).flatMap (gcells sv) := ⟨_, rfl⟩
      rw [← hXS] at hOq;have HXS := hid hXS;have HN1 := hid hN1;have HN1' := hid hN1';have HOq2 := hid hOq;have hN1l : N1 ≤ 1000000001 := by omega
      clear c1 c2 c3 hfz hXS hN1 hN1' hOq;go_wp2_with (at_builtin; refine wpList_appS grpTW _ rfl _ _ rfl base _ _ _ rfl (HOq2.out.alloc _) _ _ [.bool i, (.string (txt x)), .int .i64 (n : Int)] rfl rfl (new_at rfl [.bool i, (.string (txt x)), .int .i64 (n : Int)] _) (by intro u hu; simp at hu; rcases hu with rfl | rfl | rfl <;> rfl) N1 HN1'.out (by unfold maxLen; omega) (by omega) (by simp; omega) ?_)
      intro A' c' w' hown' _ hfr';rw [HXS.out] at hown';have HO3 := hid (OwnG.snoc (f := sv) (t := ((i, x), n)) HN1.out hown');have HF3 : Hid (Fr (fun k => (Value.slice (some ⟨g, 0, none⟩) N c).ownBlock = some k) w w') := hid ((HFq.out.mono (fun _ _ h => h.elim)).trans (((Fr.refl _ _).alloc _).trans hfr' (fun _ _ h => h)) (fun _ _ h => h));clear hown' hfr'
      go_wp2
      go_ret;refine ⟨A', c', by rw [HN1.out]; simp, HO3.out, HF3.out⟩
end
section
open Go.RowKit Mem Go.Lib RleM
attribute [local go_sem ↓] Go.wp_at_zero Go.wp_at_succ
theorem cellTC : ElemTyS Tryz.prog 64 78 (.agg #[.bool false, (.int .i64 0)]) 2 16 := ⟨Tryz.underlying64, by kernel_rfl, rfl, by decide⟩
theorem gatherC_any (A : Option Addr) (n c : Nat) (L : List (Bool × Int)) (w : World) (hL : Cls nv w A n L) (hn : n ≤ 1000000) :
    Calls Tryz.prog 93 #[.slice A n c] w fun e w' => ∃ A' c', e = .returned (.slice A' (gatherG L).length c') ∧ OwnG nv 206 w' w.heap.size A' c' (gatherG L) ∧ Fr (fun _ => False) w w' := by
 have HL := hid hL;have hln := hL.1;have HLN := hid hln;clear hL hln;obtain ⟨base, hbase⟩ : ∃ base, base = w.heap.size := ⟨_, rfl⟩
 have HB := hid hbase;rw [← hbase];clear hbase;obtain ⟨R, hR⟩ : ∃ R, R = gatherG L := ⟨_, rfl⟩
 rw [← hR];have HR := hid hR;clear hR;go_enter Tryz.func93, Tryz.ntmps93;go_wp2_with fail
 go_loopw [3, 8] (fun s v wr => ∃ (k : Nat) (G : List ((Bool × Int) × Nat)) (A1 : Option Addr) (c1 : Nat), k ≤ n ∧ v = .int .i64 (k : Int) ∧ s = .slice A1 G.length c1 ∧ Hid (G = gatherG (L.take k)) ∧ Hid (OwnG nv 206 wr base A1 c1 G) ∧ Hid (Fr (fun _ => False) w wr)) (fun _ v _ => n - (intOf v).toNat)
 case atStart => exact ⟨0, [], none, 0, Nat.zero_le _, rfl, rfl, by rw [List.take_zero]; rfl, OwnG.nil _ _ _, Fr.refl _ _⟩
 case round =>
  obtain ⟨k, G, A1, c1, hk, rfl, rfl, HG, HO, HF⟩ := hrel
  rename World => wr
  by_cases hlt : k < n
  · obtain ⟨t, ht⟩ : ∃ t, L[k]? = some t := ⟨_, List.getElem?_eq_getElem (by have := HLN.out; omega)⟩
    obtain ⟨g, o, rfl, hg, h1, h2⟩ := (HL.out.fr HF.out (fun _ _ => id)).2 k t ht;obtain ⟨i, x⟩ := t;simp only [nv] at h1 h2;have hnext : gatherG (L.take (k + 1)) = addG G (i, x) 1 := by
     rw [HG.out, ← gather_snoc, List.take_add_one, ht];rfl
    have hgl : G.length ≤ 1000000 := by rw [HG.out]; have := gather_len (L.take k); rw [List.length_take] at this; omega
    have hgm : ∀ g ∈ G, g.2 + 1 < 9223372036854775808 := by
     intro g hg;rw [HG.out] at hg;have := gather_mem hg;rw [List.length_take] at this;omega
    have HM := hid hgm;have HNX := hid hnext;clear ht hnext hgm;go_wp2_with fail;obtain ⟨w1, hw1⟩ := nm_ (wr.alloc (.cells #[.bool i, (.int .i64 x)] 78));rw [hw1];have hf1 : Fr (fun _ => False) wr w1 := by rw [← hw1]; exact (Fr.refl _ _).alloc _
    have hc := addC_any base A1 c1 G i x 1 w1 (HO.out.fr hf1) (by have := HB.out; have := HF.out.size; have := hf1.size; omega) (by omega) HM.out (by omega);have HC := hid hc;have HF1 := hid (HF.out.trans hf1 im_);obtain ⟨G2, hG2⟩ : ∃ G2, G2 = addG G (i, x) 1 := ⟨_, rfl⟩
    rw [← hG2] at HC HNX;clear hw1 hf1 h1 h2 hc hG2;go_wp2_with fail;refine HC.out.mono ?_;rintro e w2 ⟨A2, c2, rfl, hO2, hf2⟩;have HO2 := hid hO2;have HF2 : Hid (Fr (fun _ => False) w w2) := hid (HF1.out.trans hf2 (fun b hb h => by have := HO.out.lt _ h; have := HB.out; omega));clear hO2 hf2;go_wp2_with fail;exact ⟨⟨k + 1, G2, A2, c2, by omega, by go_num, rfl, HNX.out.symm, HO2.out, HF2.out⟩, by simp [intOf]; omega⟩
  · obtain rfl : k = n := by omega
    have he : R = G := by rw [HG.out, HR.out, List.take_of_length_le (by have := HLN.out; omega)]
    have HE2 := hid he;clear he;go_wp2_with fail;go_ret;rw [HE2.out];exact ⟨A1, c1, rfl, HO.out, HF.out⟩
theorem mkC (m : Nat) (hm : m ≤ 4000000) (w : World) : ∃ cs : Array Value, cs.size = m * 2 ∧ (Instr.makeSlice 64 (.int .i64 0) (.int .i64 (m : Int))).run Tryz.prog w = .ok (.slice (some ⟨w.heap.size, 0, none⟩) 0 m) (w.alloc (.cells cs 78)) := by
 obtain ⟨i, hi, hz, hs, hb⟩ : ∃ i, Tryz.prog.info? 78 = some i ∧ i.zero = some (.agg #[.bool false, (.int .i64 0)]) ∧ i.size = 2 ∧ i.bytes = 16 := by
  have h := cellTC.info;cases hq : Tryz.prog.info? 78 with
  | none => rw [hq] at h; cases h
  | some i =>
   rw [hq] at h;simp only [Option.map_some, Option.some.injEq, Prod.mk.injEq] at h;exact ⟨i, rfl, h.1, h.2.1, h.2.2⟩
 have h := run_makeSlice (P := Tryz.prog) w 64 78 i _ Tryz.underlying64 hi hz .i64 .i64 (0 : Int) (m : Int) (by omega) (by omega) (by rw [hs]; omega) (by rw [hb]; omega) (by omega);exact ⟨_, by rw [hs]; simp [madeCells], h⟩
theorem cellTW : ElemTyS Tryz.prog 67 81 (.agg #[.bool false, (.string (txt []))]) 2 24 := ⟨Tryz.underlying67, by kernel_rfl, rfl, by decide⟩
theorem gatherW_any (A : Option Addr) (n c : Nat) (L : List (Bool × (List UInt8))) (w : World) (hL : Cls sv w A n L) (hn : n ≤ 1000000) :
    Calls Tryz.prog 98 #[.slice A n c] w fun e w' => ∃ A' c', e = .returned (.slice A' (gatherG L).length c') ∧ OwnG sv 212 w' w.heap.size A' c' (gatherG L) ∧ Fr (fun _ => False) w w' := by
 have HL := hid hL;have hln := hL.1;have HLN := hid hln;clear hL hln;obtain ⟨base, hbase⟩ : ∃ base, base = w.heap.size := ⟨_, rfl⟩
 have HB := hid hbase;rw [← hbase];clear hbase;obtain ⟨R, hR⟩ : ∃ R, R = gatherG L := ⟨_, rfl⟩
 rw [← hR];have HR := hid hR;clear hR;go_enter Tryz.func98, Tryz.ntmps98;go_wp2_with fail
 go_loopw [3, 8] (fun s v wr => ∃ (k : Nat) (G : List ((Bool × (List UInt8)) × Nat)) (A1 : Option Addr) (c1 : Nat), k ≤ n ∧ v = .int .i64 (k : Int) ∧ s = .slice A1 G.length c1 ∧ Hid (G = gatherG (L.take k)) ∧ Hid (OwnG sv 212 wr base A1 c1 G) ∧ Hid (Fr (fun _ => False) w wr)) (fun _ v _ => n - (intOf v).toNat)
 case atStart => exact ⟨0, [], none, 0, Nat.zero_le _, rfl, rfl, by rw [List.take_zero]; rfl, OwnG.nil _ _ _, Fr.refl _ _⟩
 case round =>
  obtain ⟨k, G, A1, c1, hk, rfl, rfl, HG, HO, HF⟩ := hrel
  rename World => wr
  by_cases hlt : k < n
  · obtain ⟨t, ht⟩ : ∃ t, L[k]? = some t := ⟨_, List.getElem?_eq_getElem (by have := HLN.out; omega)⟩
    obtain ⟨g, o, rfl, hg, h1, h2⟩ := (HL.out.fr HF.out (fun _ _ => id)).2 k t ht;obtain ⟨i, x⟩ := t;simp only [sv] at h1 h2;have hnext : gatherG (L.take (k + 1)) = addG G (i, x) 1 := by
     rw [HG.out, ← gather_snoc, List.take_add_one, ht];rfl
    have hgl : G.length ≤ 1000000 := by rw [HG.out]; have := gather_len (L.take k); rw [List.length_take] at this; omega
    have hgm : ∀ g ∈ G, g.2 + 1 < 9223372036854775808 := by
     intro g hg;rw [HG.out] at hg;have := gather_mem hg;rw [List.length_take] at this;omega
    have HM := hid hgm;have HNX := hid hnext;clear ht hnext hgm;go_wp2_with fail;obtain ⟨w1, hw1⟩ := nm_ (wr.alloc (.cells #[.bool i, (.string (txt x))] 81));rw [hw1];have hf1 : Fr (fun _ => False) wr w1 := by rw [← hw1]; exact (Fr.refl _ _).alloc _
    have hc := addW_any base A1 c1 G i x 1 w1 (HO.out.fr hf1) (by have := HB.out; have := HF.out.size; have := hf1.size; omega) (by omega) HM.out (by omega);have HC := hid hc;have HF1 := hid (HF.out.trans hf1 im_);obtain ⟨G2, hG2⟩ : ∃ G2, G2 = addG G (i, x) 1 := ⟨_, rfl⟩
    rw [← hG2] at HC HNX;clear hw1 hf1 h1 h2 hc hG2;go_wp2_with fail;refine HC.out.mono ?_;rintro e w2 ⟨A2, c2, rfl, hO2, hf2⟩;have HO2 := hid hO2;have HF2 : Hid (Fr (fun _ => False) w w2) := hid (HF1.out.trans hf2 (fun b hb h => by have := HO.out.lt _ h; have := HB.out; omega));clear hO2 hf2;go_wp2_with fail;exact ⟨⟨k + 1, G2, A2, c2, by omega, by go_num, rfl, HNX.out.symm, HO2.out, HF2.out⟩, by simp [intOf]; omega⟩
  · obtain rfl : k = n := by omega
    have he : R = G := by rw [HG.out, HR.out, List.take_of_length_le (by have := HLN.out; omega)]
    have HE2 := hid he;clear he;go_wp2_with fail;go_ret;rw [HE2.out];exact ⟨A1, c1, rfl, HO.out, HF.out⟩
theorem mkW (m : Nat) (hm : m ≤ 4000000) (w : World) : ∃ cs : Array Value, cs.size = m * 2 ∧ (Instr.makeSlice 67 (.int .i64 0) (.int .i64 (m : Int))).run Tryz.prog w = .ok (.slice (some ⟨w.heap.size, 0, none⟩) 0 m) (w.alloc (.cells cs 81)) := by
 obtain ⟨i, hi, hz, hs, hb⟩ : ∃ i, Tryz.prog.info? 81 = some i ∧ i.zero = some (.agg #[.bool false, (.string (txt []))]) ∧ i.size = 2 ∧ i.bytes = 24 := by
  have h := cellTW.info;cases hq : Tryz.prog.info? 81 with
  | none => rw [hq] at h; cases h
  | some i =>
   rw [hq] at h;simp only [Option.map_some, Option.some.injEq, Prod.mk.injEq] at h;exact ⟨i, rfl, h.1, h.2.1, h.2.2⟩
 have h := run_makeSlice (P := Tryz.prog) w 67 81 i _ Tryz.underlying67 hi hz .i64 .i64 (0 : Int) (m : Int) (by omega) (by omega) (by rw [hs]; omega) (by rw [hb]; omega) (by omega);exact ⟨_, by rw [hs]; simp [madeCells], h⟩
end
end Go.Proofs.YtbabgnadgdidmaaGreat
