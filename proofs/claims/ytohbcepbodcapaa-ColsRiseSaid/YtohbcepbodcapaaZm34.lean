/-
  Layer 11, the program: take, of cells (written by gen11.py out of rleJ.src).
  Layer 11, the program: a reader's run of like cells (written by gen11.py out of rleN.src).
-/
import Derived.Test.YtohbcepbodcapaaZm29
import Derived.Test.YtohbcepbodcapaaZm33
namespace Go.Proofs.Ytohbcepbodcapaa
open Go.RowKit Mem Go.Lib RleM LebM
attribute [local go_sem ↓] Go.wp_at_zero Go.wp_at_succ
set_option linter.unusedVariables false

end Go.Proofs.Ytohbcepbodcapaa
namespace Go.Proofs.Ytohbcepbodcapaa
open Go.RowKit Mem Go.Lib RleM LebM
attribute [local go_sem ↓] Go.wp_at_zero Go.wp_at_succ
set_option linter.unusedVariables false

def fpU : Value := .func (.func 52) #[] #[]
def fgU : Value := .func (.func 53) #[] #[]
def fpS : Value := .func (.func 75) #[] #[]
def fgS : Value := .func (.func 76) #[] #[]
def fpW : Value := .func (.func 59) #[] #[]
def fgW : Value := .func (.func 60) #[] #[]
end Go.Proofs.Ytohbcepbodcapaa
