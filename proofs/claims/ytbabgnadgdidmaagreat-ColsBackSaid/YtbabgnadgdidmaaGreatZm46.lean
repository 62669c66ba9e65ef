import Derived.Test.YtbabgnadgdidmaaGreatZm00
import Derived.Test.YtbabgnadgdidmaaGreatZm45
import Derived.Test.YtbabgnadgdidmaaGreatZm31
import Derived.Test.YtbabgnadgdidmaaGreatZm05
import Derived.Lib.SliceRun
set_option linter.unusedVariables false
set_option maxRecDepth 100000
set_option maxHeartbeats 12800000
namespace Go.Proofs.YtbabgnadgdidmaaGreat
section
open Go.RowKit Mem Go.Lib LebM DirM
attribute [local go_sem ↓] Go.wp_at_zero Go.wp_at_succ
theorem find_at {L : List Cl} {k : Nat} {x : Cl} {id : Int} (hx : L[k]? = some x) (h : ∀ (j : Nat) (y : Cl), j < k → L[j]? = some y → (y.id : Int) ≠ id) (he : (x.id : Int) = id) : findC (L.map Cl.v) id = x.B := by
 induction L generalizing k with
 | nil => simp at hx
 | cons y L ih =>
  cases k with
  | zero =>
   simp at hx;subst hx;show (if (y.id : Int) = id then y.B else _) = _;rw [if_pos he]
  | succ k =>
   show (if (y.id : Int) = id then y.B else findC (L.map Cl.v) id) = _;rw [if_neg (h 0 y (by omega) (by simp))];exact ih (by simpa using hx) (fun j z hj hz => h (j + 1) z (by omega) (by simpa using hz))
theorem find_none {L : List Cl} {id : Int} (h : ∀ (j : Nat) (y : Cl), L[j]? = some y → (y.id : Int) ≠ id) : findC (L.map Cl.v) id = [] := by
 induction L with
 | nil => rfl
 | cons y L ih =>
  show (if (y.id : Int) = id then y.B else findC (L.map Cl.v) id) = _;rw [if_neg (h 0 y (by simp))];exact ih (fun j z hz => h (j + 1) z (by simpa using hz))
theorem find_any (A : Option Addr) (n c : Nat) (L : List Cl) (id : Int) (w : World) (hL : Cols w A n L) (hn : n ≤ 1000000) (hb : ∀ x ∈ L, x.B.length ≤ 1000000) :
    Calls Tryz.prog 64 #[.slice A n c, .int .i64 id] w (Gives w (findC (L.map Cl.v) id)) := by
 have hln := hL.1.1;have HL := hid hL;have HLN := hid hln;have HBB := hid hb;obtain ⟨base, hbase⟩ : ∃ base, base = w.heap.size := ⟨_, rfl⟩
 have HB := hid hbase;unfold Gives;rw [← hbase];clear hL hln hb hbase;go_enter Tryz.func64, Tryz.ntmps64;go_wp2_with fail
 go_loopw [9] (fun v wr => ∃ (k : Nat), k ≤ n ∧ v = .int .i64 (k : Int) ∧ Hid (∀ (j : Nat) (y : Cl), j < k → L[j]? = some y → (y.id : Int) ≠ id) ∧ Hid (Fr (fun _ => False) w wr)) (fun v _ => n - (intOf v).toNat)
 case atStart => exact ⟨0, Nat.zero_le _, rfl, (fun j y h => absurd h (by omega)), Fr.refl _ _⟩
 case round =>
  obtain ⟨k, hk, rfl, HN, HF⟩ := hrel
  rename World => wr
  by_cases hlt : k < n
  · obtain ⟨x, hx⟩ : ∃ x, L[k]? = some x := ⟨_, List.getElem?_eq_getElem (by have := HLN.out; omega)⟩
    obtain ⟨gx, ox, rfl, hgx, h0, h1⟩ := (HL.out.1.fr HF.out (fun _ _ => fun h => h)).2 k x hx;have hby := HL.out.2 x (List.mem_of_getElem? hx);have hxb := HBB.out x (List.mem_of_getElem? hx);simp only [idc, dac] at h0 h1;obtain ⟨z, hz⟩ := nm_ x.B.length;obtain ⟨i, hi⟩ : ∃ i : Int, (x.id : Int) = i := ⟨_, rfl⟩
    rw [hz] at h1 hxb;rw [hi] at h0;obtain ⟨p, hp⟩ := nm_ wr.heap.size;obtain ⟨w1, hw1⟩ := nm_ (wr.alloc (.cells #[.int .i64 0, .slice none 0 0] 37));have hf1 : Fr (fun _ => False) wr w1 := by rw [← hw1]; exact (Fr.refl _ _).alloc _
    have hr1 : Row w1 p 37 [.int .i64 0, .slice none 0 0] := by rw [← hw1, ← hp]; exact Row.new wr _ _
    have HW1 := hid hr1;have HPP := hid hp;have HF1 := hid hf1;have HBY := hid hby;have HX := hid hx;have HZ := hid hz;have HIE := hid hi;clear hx hby hz hi hr1 hf1
    go_upto_region 4 with (refine store_st colSzD rfl (.tmp 6) (.tmp 12) rfl p (by rfl) [.int .i64 i, .slice x.A z x.c] (by rfl) _ _ HW1.out rfl rfl (by simp [Value.oneCell']) ?_)
    intro w2 hr2 hf2;have k0 : w2.cell? ⟨p, 0, none⟩ = some (.int .i64 i) := hr2.cell rfl;have k1 : w2.cell? ⟨p, 1, none⟩ = some (.slice x.A z x.c) := hr2.cell rfl;have hfr2 : Fr (fun _ => False) wr w2 := HF1.out.trans hf2 (fun b hb h => by have := HPP.out; omega);have HFR2 := hid (HF.out.trans hfr2 im_);clear hr2 hf2 hw1 hp h0 h1 hfr2;by_cases he : i = id
    · have t0 : (i == id) = true := by simpa using he
      have hby2 := HBY.out.1.fr HFR2.out (fun _ _ h => h);rw [HZ.out] at hby2;have hcl := cloneB_any x.A z x.c x.B w2 hby2 (by omega);have hfi : findC (L.map Cl.v) id = x.B := find_at HX.out HN.out (by rw [HIE.out, he]);have HFI := hid hfi;have HCL := hid hcl;clear hby2 hcl hfi he;go_wp2_with fail;refine HCL.out.mono ?_;rintro e w3 ⟨A3, c3, rfl, ho3, hf3⟩;have HO3 := hid (ho3.base (by have h1 := HB.out; have h2 := HFR2.out.size; omega : base ≤ w2.heap.size));have HF3 := hid (HFR2.out.trans hf3 im_);clear ho3 hf3;go_wp2_with fail;go_ret;rw [HFI.out];exact ⟨A3, c3, rfl, HO3.out, HF3.out⟩
    · have t0 : (i == id) = false := by simpa using he
      have HE := hid he;clear he;go_wp2_with fail
      go_roundw
      case rel =>
       refine ⟨k + 1, by omega, by go_num, hid (fun j y hj hy => ?_), HFR2⟩;by_cases hjk : j = k
       · subst hjk;rw [HX.out] at hy;injection hy with hy
         subst hy;rw [HIE.out];exact HE.out
       · exact HN.out j y (by omega) hy
      case measure => simp [intOf]; omega
  · obtain rfl : k = n := by omega
    have hfi : findC (L.map Cl.v) id = [] := find_none (fun j y hy => HN.out j y (by have := (List.getElem?_eq_some_iff.1 hy).1; have := HLN.out; omega) hy);have HFI := hid hfi;clear hfi;go_wp2_with fail;go_ret;rw [HFI.out];exact ⟨none, 0, rfl, Own.nil _ _, HF.out⟩
end
section
open Go.RowKit Mem Go.Lib RleM LebM VaM
attribute [local go_sem ↓] Go.wp_at_zero Go.wp_at_succ
theorem cloneC_any (A : Option Addr) (n c : Nat) (L : List (Bool × Int)) (w : World) (hL : Cls nv w A n L) (hn : n ≤ 1000000) (h0 : 0 < n) :
    Calls Tryz.prog 139 #[.slice A n c] w fun e w' => ∃ A' c', e = .returned (.slice A' n c') ∧ OwnC nv 78 w' w.heap.size A' c' L ∧ Fr (fun _ => False) w w' := by
 have hln := hL.1;obtain ⟨t, ht⟩ : ∃ t, L[0]? = some t := ⟨_, List.getElem?_eq_getElem (by omega)⟩
 obtain ⟨g, o, rfl, _, _, _⟩ := hL.2 0 t ht;have hcs := (hL.fr ((Fr.refl (fun _ => False) w).alloc (.cells #[] 78)) (fun _ _ h => h)).cells;have hlen : (L.flatMap (ccells nv)).length = n * 2 := by rw [flat_klen (ccells nv) 2 (fun _ => rfl), hln]
 have hone : ∀ u ∈ L.flatMap (ccells nv), u.oneCell' = true := by
  intro u hu;obtain ⟨c, _, hc⟩ := List.mem_flatMap.1 hu;simp [ccells, nv] at hc;rcases hc with rfl | rfl <;> rfl
 have hmade := World.ownsRow_made (base := w.heap.size) (e := 78) (size := 2) w #[] 0 (Nat.le_refl _) (Nat.zero_le _) rfl;have hq : (binOp .eql 64 (.slice (some ⟨g, o, none⟩) n c) (.slice none 0 0)).run Tryz.prog w = .ok (.bool false) w := run_eql_slice_nil w _ _ _ n c 0 0 Tryz.underlying64;have HLN := hid hln;have HCS := hid hcs;have HLEN := hid hlen;have HONE := hid hone;have HMADE := hid hmade;clear hL hln ht hcs hlen hone hmade;go_enter Tryz.func139, Tryz.ntmps139;go_wp2_with (at_builtin; refine wpList_appM cellTC _ rfl _ _ rfl w.heap.size _ _ _ rfl HMADE.out _ _ _ _ rfl HLEN.out HCS.out HONE.out n (by omega) (by unfold maxLen; omega) (by omega) (by simp) ?_)
 intro A' c' w' hown' _ hfr' _;have hf : Fr (fun _ => False) w w' := ((Fr.refl (fun _ => False) w).alloc _).trans hfr' (fun b hb h => by simp [Value.ownBlock] at h; omega);have ho : OwnC nv 78 w' w.heap.size A' c' L := by unfold OwnC; rw [HLN.out]; exact hown'
 have HF := hid hf;have HO := hid ho;clear hown' hfr' hf ho;go_wp2_with fail;go_ret;exact ⟨A', c', rfl, HO.out, HF.out⟩
theorem wPad_any (A : Option Addr) (n c : Nat) (L : List (Bool × Int)) (m : Int) (w : World) (hL : Cls nv w A n L) (hn : n ≤ 1000000) (hm0 : -9223372036854775808 ≤ m) (hm : m ≤ 4000000) :
    Calls Tryz.prog 110 #[.slice A n c, .int .i64 m] w fun e w' => ∃ A' c', e = .returned (.tuple #[.slice A' (padR L m).1.length c', .bool (padR L m).2]) ∧ OwnC nv 78 w' w.heap.size A' c' (padR L m).1 ∧ Fr (fun _ => False) w w' := by
 have hln := hL.1;by_cases h0 : 0 < n
 · have e : padR L m = (L, decide ((n : Int) = m)) := by unfold padR; rw [if_pos (by omega), hln]
   have hcl := cloneC_any A n c L w hL hn h0;obtain ⟨b, hb⟩ : ∃ b, b = decide ((n : Int) = m) := ⟨_, rfl⟩
   have t0 : decide ((0 : Int) < (n : Int)) = true := by simp; omega
   have t0' : decide (0 < n) = true := by simp; omega
   have t1 : ((n : Int) == m) = b := by rw [hb]; rfl
   rw [e, ← hb];simp only [hln];have HCL := hid hcl;clear hL hln e hcl hb;go_enter Tryz.func110, Tryz.ntmps110;go_wp2_with fail;refine HCL.out.mono ?_;intro e w1 h1;obtain ⟨A1, c1, rfl, ho1, hf1⟩ := h1;have HO1 := hid ho1;have HF1 := hid hf1;clear ho1 hf1;go_wp2_with fail;refine bodyPost_ret (v := .tuple #[.slice A1 n c1, .bool b]) (by simp [results, Tryz.results110, go_sem]) rfl ⟨A1, c1, rfl, HO1.out, HF1.out⟩
 · obtain rfl : n = 0 := by omega
   obtain rfl : L = [] := List.length_eq_zero_iff.1 hln;have e : padR [] m = (List.replicate m.toNat (false, 0), true) := by unfold padR; rw [if_neg (by simp), if_neg (by omega)]
   rw [e];simp only [List.length_replicate];have t1 : decide ((2147483647 : Int) < m) = false := by simp; omega
   by_cases hneg : 0 ≤ m
   · obtain ⟨k, rfl⟩ := Int.eq_ofNat_of_zero_le hneg;have hmk := mkCn k (by omega) w;obtain ⟨w1, hw1⟩ := nm_ (w.alloc (.cells ((List.replicate k ((false, 0) : Bool × Int)).flatMap (ccells nv)).toArray 78));rw [hw1] at hmk;have hr1 : Row w1 w.heap.size 78 ((List.replicate k ((false, 0) : Bool × Int)).flatMap (ccells nv)) := by rw [← hw1]; exact Row.new w _ _
     have hf1 : Fr (fun _ => False) w w1 := by rw [← hw1]; exact (Fr.refl _ _).alloc _
     have ho1 := own_rowC (base := w.heap.size) (n := k) (by simp) hr1 (Nat.le_refl _) (by unfold maxLen; omega);rw [Int.toNat_natCast];have HO1 := hid ho1;have HF1 := hid hf1;clear hL hln e hr1 hf1 ho1 hw1;go_enter Tryz.func110, Tryz.ntmps110;go_wp2_with fail;refine bodyPost_ret (v := .tuple #[.slice (some ⟨w.heap.size, 0, none⟩) k k, .bool true]) (by simp [results, Tryz.results110, go_sem]) rfl ⟨_, k, rfl, HO1.out, HF1.out⟩
   · have hmk := mkCn 0 (by omega) w;obtain ⟨w1, hw1⟩ := nm_ (w.alloc (.cells ((List.replicate 0 ((false, 0) : Bool × Int)).flatMap (ccells nv)).toArray 78));rw [hw1] at hmk;have hr1 : Row w1 w.heap.size 78 ((List.replicate 0 ((false, 0) : Bool × Int)).flatMap (ccells nv)) := by rw [← hw1]; exact Row.new w _ _
     have hf1 : Fr (fun _ => False) w w1 := by rw [← hw1]; exact (Fr.refl _ _).alloc _
     have ho1 := own_rowC (base := w.heap.size) (n := 0) (by simp) hr1 (Nat.le_refl _) (by unfold maxLen; omega);rw [show m.toNat = 0 by omega];have HO1 := hid ho1;have HF1 := hid hf1;simp only [Int.natCast_zero] at hmk;clear hL hln e hr1 hf1 ho1 hw1;go_enter Tryz.func110, Tryz.ntmps110;go_wp2_with fail;refine bodyPost_ret (v := .tuple #[.slice (some ⟨w.heap.size, 0, none⟩) 0 0, .bool true]) (by simp [results, Tryz.results110, go_sem]) rfl ⟨_, 0, rfl, HO1.out, HF1.out⟩
end
end Go.Proofs.YtbabgnadgdidmaaGreat
