/-
  Layer 17, the law OpIds (written by gen_ids.py).
-/
import Derived.Test.YtmiofhoojahpjaaOpS
import Derived.Test.YtmiofhoojahpjaaOpT
namespace Go.Proofs.Ytmiofhoojahpjaa
open Go.RowKit Mem Go.Lib LebM UtfM VaM OpM
set_option linter.unusedVariables false

theorem opids_law (a b : Nm) (s : List UInt8) (w : World) (ha : a.a.length ≤ 9223372036854775807) (hb : b.a.length ≤ 9223372036854775807) (hs : s.length ≤ 9223372036854775807) :
    Calls Try.prog 4 #[nmc a, nmc b, .string (txt s)] w fun e w' => e = .returned (.bool true) ∧ Fr (fun _ => False) w w' := by
  by_cases hsm : a.a.length ≤ 100 ∧ b.a.length ≤ 100 ∧ s.length ≤ 100
  · cases hc0 : decide (a.c = 0) with
    | true =>
      cases has : actorB s with
      | false => exact opids_t0 a b s w ha hb hs hsm hc0 has
      | true =>
        cases haa : actorB a.a with
        | false => exact opids_t1 a b s w ha hb hs hsm hc0 has haa
        | true => exact opids_t2 a b s w ha hb hs hsm hc0 has haa
    | false =>
      cases has : actorB s with
      | false => exact opids_f0 a b s w ha hb hs hsm hc0 has
      | true =>
        cases haa : actorB a.a with
        | false => exact opids_f1 a b s w ha hb hs hsm hc0 has haa
        | true => exact opids_f2 a b s w ha hb hs hsm hc0 has haa
  · exact opids_big a b s w ha hb hs hsm
end Go.Proofs.Ytmiofhoojahpjaa
