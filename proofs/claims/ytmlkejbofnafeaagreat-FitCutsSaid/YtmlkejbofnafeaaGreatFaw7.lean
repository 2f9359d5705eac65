/- The examples of chapter 7 are as the document says. -/
import Derived.Test.YtmlkejbofnafeaaGreatFvw1
import Derived.Test.YtmlkejbofnafeaaGreatFvv2
namespace Go.Proofs.YtmlkejbofnafeaaGreat.Ev
set_option linter.unusedSimpArgs false
open Go Go.RowKit
set_option linter.unusedVariables false
set_option maxRecDepth 100000
def etalonlaw07_awake_s : Sig := ⟨4, ⟨0, 0, 0⟩, ⟨0, 1, 0⟩, [], [], (.bool (.var 0)), []⟩

def aw_C0 : Prop := CallIs Tryz.prog 57 [(.agg [(.complex .f64 (.lit 13917023571936280576) (.lit 0)), (.int .i64 (.lit 1))]), (.agg [(.complex .f64 (.lit 13917023571936280576) (.lit 0)), (.int .i64 (.lit 1))])] (.tuple [(.agg [(.complex .f64 (.lit 4690228806923845632) (.lit 0)), (.int .i64 (.lit 3))]), (.int .i64 (.lit 0))])
theorem aw_C0_ok : aw_C0 := call_is mixed names S1_ok (lf := 100000) (d := 60) _ _ _ (by kernel_rfl) (by kernel_rfl) (by kernel_rfl) (by kernel_rfl) (by kernel_rfl)
def aw_C1 : Prop := CallIs Tryz.prog 58 [(.agg [(.complex .f64 (.lit 13917023571936280576) (.lit 0)), (.int .i64 (.lit 1))])] (.tuple [(.agg [(.int .i64 (.lit 377486)), (.int .i64 (.lit 377490))]), (.int .i64 (.lit 0))])
theorem aw_C1_ok : aw_C1 := call_is mixed names S1_ok (lf := 100000) (d := 60) _ _ _ (by kernel_rfl) (by kernel_rfl) (by kernel_rfl) (by kernel_rfl) (by kernel_rfl)
def aw_C2 : Prop := CallIs Tryz.prog 155 [(.agg [(.int .i64 (.lit 1048576)), (.int .i64 (.lit 1048576))])] (.tuple [(.agg [(.complex .f64 (.lit 4697254411347427328) (.lit 0)), (.int .i64 (.lit 0))]), (.int .i64 (.lit 0))])
theorem aw_C2_ok : aw_C2 := call_is mixed names S1_ok (lf := 100000) (d := 60) _ _ _ (by kernel_rfl) (by kernel_rfl) (by kernel_rfl) (by kernel_rfl) (by kernel_rfl)
def aw_C3 : Prop := CallIs Tryz.prog 155 [(.agg [(.int .i64 (.lit 0)), (.int .i64 (.lit 0))])] (.tuple [(.agg [(.complex .f64 (.lit 0) (.lit 0)), (.int .i64 (.lit 0))]), (.int .i64 (.lit 0))])
theorem aw_C3_ok : aw_C3 := call_is mixed names S1_ok (lf := 100000) (d := 60) _ _ _ (by kernel_rfl) (by kernel_rfl) (by kernel_rfl) (by kernel_rfl) (by kernel_rfl)
def aw_C4 : Prop := CallIs Tryz.prog 57 [(.agg [(.complex .f64 (.lit 4697254411347427328) (.lit 0)), (.int .i64 (.lit 0))]), (.agg [(.complex .f64 (.lit 4697254411347427328) (.lit 0)), (.int .i64 (.lit 0))])] (.tuple [(.agg [(.complex .f64 (.lit 4697254411347427328) (.lit 0)), (.int .i64 (.lit 0))]), (.int .i64 (.lit 0))])
theorem aw_C4_ok : aw_C4 := call_is mixed names S1_ok (lf := 100000) (d := 60) _ _ _ (by kernel_rfl) (by kernel_rfl) (by kernel_rfl) (by kernel_rfl) (by kernel_rfl)
def aw_C5 : Prop := CallIs Tryz.prog 57 [(.agg [(.complex .f64 (.lit 0) (.lit 0)), (.int .i64 (.lit 0))]), (.agg [(.complex .f64 (.lit 0) (.lit 0)), (.int .i64 (.lit 0))])] (.tuple [(.agg [(.complex .f64 (.lit 0) (.lit 0)), (.int .i64 (.lit 0))]), (.int .i64 (.lit 0))])
theorem aw_C5_ok : aw_C5 := call_is mixed names S1_ok (lf := 100000) (d := 60) _ _ _ (by kernel_rfl) (by kernel_rfl) (by kernel_rfl) (by kernel_rfl) (by kernel_rfl)
def aw_C6 : Prop := CallIs Tryz.prog 99 [(.agg [(.complex .f64 (.lit 4697254411347427328) (.lit 0)), (.int .i64 (.lit 0))]), (.agg [(.complex .f64 (.lit 0) (.lit 0)), (.int .i64 (.lit 0))])] (.tuple [(.agg [(.complex .f64 (.lit 4697254411347427328) (.lit 0)), (.int .i64 (.lit 0))]), (.int .i64 (.lit 0))])
theorem aw_C6_ok : aw_C6 := call_is mixed names S1_ok (lf := 100000) (d := 60) _ _ _ (by kernel_rfl) (by kernel_rfl) (by kernel_rfl) (by kernel_rfl) (by kernel_rfl)
def aw_C7 : Prop := CallIs Tryz.prog 136 [(.agg [(.int .i64 (.lit 1048576)), (.int .i64 (.lit 1048576))])] (.tuple [(.agg [(.complex .f64 (.lit 4697254411347427328) (.lit 0)), (.int .i64 (.lit 0))]), (.int .i64 (.lit 0))])
theorem aw_C7_ok : aw_C7 := call_is mixed names S1_ok (lf := 100000) (d := 60) _ _ _ (by kernel_rfl) (by kernel_rfl) (by kernel_rfl) (by kernel_rfl) (by kernel_rfl)
def aw_C8 : Prop := CallIs Tryz.prog 155 [(.agg [(.int .i64 (.lit 2097152)), (.int .i64 (.lit 2097152))])] (.tuple [(.agg [(.complex .f64 (.lit 4701758010974797824) (.lit 0)), (.int .i64 (.lit 0))]), (.int .i64 (.lit 0))])
theorem aw_C8_ok : aw_C8 := call_is mixed names S1_ok (lf := 100000) (d := 60) _ _ _ (by kernel_rfl) (by kernel_rfl) (by kernel_rfl) (by kernel_rfl) (by kernel_rfl)
def aw_C9 : Prop := CallIs Tryz.prog 57 [(.agg [(.complex .f64 (.lit 4701758010974797824) (.lit 0)), (.int .i64 (.lit 0))]), (.agg [(.complex .f64 (.lit 4701758010974797824) (.lit 0)), (.int .i64 (.lit 0))])] (.tuple [(.agg [(.complex .f64 (.lit 4706261610602168320) (.lit 0)), (.int .i64 (.lit 0))]), (.int .i64 (.lit 0))])
theorem aw_C9_ok : aw_C9 := call_is mixed names S1_ok (lf := 100000) (d := 60) _ _ _ (by kernel_rfl) (by kernel_rfl) (by kernel_rfl) (by kernel_rfl) (by kernel_rfl)
def aw_C10 : Prop := CallIs Tryz.prog 99 [(.agg [(.complex .f64 (.lit 4706261610602168320) (.lit 0)), (.int .i64 (.lit 0))]), (.agg [(.complex .f64 (.lit 0) (.lit 0)), (.int .i64 (.lit 0))])] (.tuple [(.agg [(.complex .f64 (.lit 4706261610602168320) (.lit 0)), (.int .i64 (.lit 0))]), (.int .i64 (.lit 0))])
theorem aw_C10_ok : aw_C10 := call_is mixed names S1_ok (lf := 100000) (d := 60) _ _ _ (by kernel_rfl) (by kernel_rfl) (by kernel_rfl) (by kernel_rfl) (by kernel_rfl)
def aw_C11 : Prop := CallIs Tryz.prog 136 [(.agg [(.int .i64 (.lit 4194304)), (.int .i64 (.lit 4194304))])] (.tuple [(.agg [(.complex .f64 (.lit 4701758010974797824) (.lit 0)), (.int .i64 (.lit 0))]), (.int .i64 (.lit 0))])
theorem aw_C11_ok : aw_C11 := call_is mixed names S1_ok (lf := 100000) (d := 60) _ _ _ (by kernel_rfl) (by kernel_rfl) (by kernel_rfl) (by kernel_rfl) (by kernel_rfl)
def aw_C12 : Prop := CallIs Tryz.prog 178 [(.agg [(.int .i64 (.lit 4194304)), (.int .i64 (.lit 4194304))])] (.tuple [(.agg [(.complex .f64 (.lit 4697254411347427328) (.lit 0)), (.int .i64 (.lit 0))]), (.int .i64 (.lit 0))])
theorem aw_C12_ok : aw_C12 := call_is mixed names S1_ok (lf := 100000) (d := 60) _ _ _ (by kernel_rfl) (by kernel_rfl) (by kernel_rfl) (by kernel_rfl) (by kernel_rfl)
def aw_C13 : Prop := CallIs Tryz.prog 171 [(.agg [(.int .i64 (.lit 0)), (.int .i64 (.lit 0))])] (.tuple [(.agg [(.int .i64 (.lit 1048576)), (.int .i64 (.lit 1048576))]), (.int .i64 (.lit 0))])
theorem aw_C13_ok : aw_C13 := call_is mixed names S1_ok (lf := 100000) (d := 60) _ _ _ (by kernel_rfl) (by kernel_rfl) (by kernel_rfl) (by kernel_rfl) (by kernel_rfl)
def aw_C14 : Prop := CallIs Tryz.prog 153 [(.int .i64 (.lit 1)), (.int .i64 (.lit 2))] (.tuple [(.agg [(.complex .f64 (.lit 4692750811720056832) (.lit 0)), (.int .i64 (.lit 0))]), (.int .i64 (.lit 0))])
theorem aw_C14_ok : aw_C14 := call_is mixed names S1_ok (lf := 100000) (d := 60) _ _ _ (by kernel_rfl) (by kernel_rfl) (by kernel_rfl) (by kernel_rfl) (by kernel_rfl)
def aw_C15 : Prop := CallIs Tryz.prog 113 [(.agg [(.complex .f64 (.toF .f64 (.lit 1048576)) (.toF .f64 (.lit 0))), (.int .i64 (.lit 0))]), (.agg [(.complex .f64 (.lit 4697254411347427328) (.lit 0)), (.int .i64 (.lit 0))])] (.tuple [(.agg [(.complex .f64 (.lit 4701758010974797824) (.lit 0)), (.int .i64 (.lit 0))]), (.int .i64 (.lit 0))])
theorem aw_C15_ok : aw_C15 := call_is mixed names S1_ok (lf := 100000) (d := 60) _ _ _ (by kernel_rfl) (by kernel_rfl) (by kernel_rfl) (by kernel_rfl) (by kernel_rfl)
def aw_C16 : Prop := CallIs Tryz.prog 57 [(.agg [(.complex .f64 (.lit 4701758010974797824) (.lit 0)), (.int .i64 (.lit 0))]), (.agg [(.complex .f64 (.lit 4692750811720056832) (.lit 0)), (.int .i64 (.lit 0))])] (.tuple [(.agg [(.complex .f64 (.lit 4697254411347427328) (.lit 0)), (.int .i64 (.lit 0))]), (.int .i64 (.lit 0))])
theorem aw_C16_ok : aw_C16 := call_is mixed names S1_ok (lf := 100000) (d := 60) _ _ _ (by kernel_rfl) (by kernel_rfl) (by kernel_rfl) (by kernel_rfl) (by kernel_rfl)
def aw_C17 : Prop := CallIs Tryz.prog 99 [(.agg [(.complex .f64 (.toF .f64 (.lit 1048576)) (.toF .f64 (.lit 0))), (.int .i64 (.lit 0))]), (.agg [(.complex .f64 (.lit 4697254411347427328) (.lit 0)), (.int .i64 (.lit 0))])] (.tuple [(.agg [(.complex .f64 (.lit 0) (.lit 0)), (.int .i64 (.lit 0))]), (.int .i64 (.lit 0))])
theorem aw_C17_ok : aw_C17 := call_is mixed names S1_ok (lf := 100000) (d := 60) _ _ _ (by kernel_rfl) (by kernel_rfl) (by kernel_rfl) (by kernel_rfl) (by kernel_rfl)
def aw_C18 : Prop := CallIs Tryz.prog 57 [(.agg [(.complex .f64 (.lit 0) (.lit 0)), (.int .i64 (.lit 0))]), (.agg [(.complex .f64 (.lit 4692750811720056832) (.lit 0)), (.int .i64 (.lit 0))])] (.tuple [(.agg [(.complex .f64 (.lit 0) (.lit 0)), (.int .i64 (.lit 0))]), (.int .i64 (.lit 0))])
theorem aw_C18_ok : aw_C18 := call_is mixed names S1_ok (lf := 100000) (d := 60) _ _ _ (by kernel_rfl) (by kernel_rfl) (by kernel_rfl) (by kernel_rfl) (by kernel_rfl)
def aw_C19 : Prop := CallIs Tryz.prog 97 [(.agg [(.complex .f64 (.lit 0) (.lit 0)), (.int .i64 (.lit 0))]), (.agg [(.complex .f64 (.lit 4701758010974797824) (.lit 0)), (.int .i64 (.lit 0))])] (.tuple [(.agg [(.complex .f64 (.lit 0) (.lit 0)), (.int .i64 (.lit 0))]), (.int .i64 (.lit 0))])
theorem aw_C19_ok : aw_C19 := call_is mixed names S1_ok (lf := 100000) (d := 60) _ _ _ (by kernel_rfl) (by kernel_rfl) (by kernel_rfl) (by kernel_rfl) (by kernel_rfl)
def aw_C20 : Prop := CallIs Tryz.prog 57 [(.agg [(.complex .f64 (.lit 0) (.lit 0)), (.int .i64 (.lit 0))]), (.agg [(.complex .f64 (.lit 4701758010974797824) (.lit 0)), (.int .i64 (.lit 0))])] (.tuple [(.agg [(.complex .f64 (.lit 0) (.lit 0)), (.int .i64 (.lit 0))]), (.int .i64 (.lit 0))])
theorem aw_C20_ok : aw_C20 := call_is mixed names S1_ok (lf := 100000) (d := 60) _ _ _ (by kernel_rfl) (by kernel_rfl) (by kernel_rfl) (by kernel_rfl) (by kernel_rfl)
def aw_C21 : Prop := CallIs Tryz.prog 57 [(.agg [(.complex .f64 (.toF .f64 (.lit 1048576)) (.toF .f64 (.lit 0))), (.int .i64 (.lit 0))]), (.agg [(.complex .f64 (.lit 4697254411347427328) (.lit 0)), (.int .i64 (.lit 0))])] (.tuple [(.agg [(.complex .f64 (.lit 4697254411347427328) (.lit 0)), (.int .i64 (.lit 0))]), (.int .i64 (.lit 0))])
theorem aw_C21_ok : aw_C21 := call_is mixed names S1_ok (lf := 100000) (d := 60) _ _ _ (by kernel_rfl) (by kernel_rfl) (by kernel_rfl) (by kernel_rfl) (by kernel_rfl)
def aw_C22 : Prop := CallIs Tryz.prog 113 [(.agg [(.complex .f64 (.lit 4697254411347427328) (.lit 0)), (.int .i64 (.lit 0))]), (.agg [(.complex .f64 (.lit 0) (.lit 0)), (.int .i64 (.lit 0))])] (.tuple [(.agg [(.complex .f64 (.lit 4697254411347427328) (.lit 0)), (.int .i64 (.lit 0))]), (.int .i64 (.lit 0))])
theorem aw_C22_ok : aw_C22 := call_is mixed names S1_ok (lf := 100000) (d := 60) _ _ _ (by kernel_rfl) (by kernel_rfl) (by kernel_rfl) (by kernel_rfl) (by kernel_rfl)
def aw_C23 : Prop := CallIs Tryz.prog 57 [(.agg [(.complex .f64 (.toF .f64 (.lit 1048576)) (.toF .f64 (.lit 0))), (.int .i64 (.lit 0))]), (.agg [(.complex .f64 (.lit 0) (.lit 0)), (.int .i64 (.lit 0))])] (.tuple [(.agg [(.complex .f64 (.lit 0) (.lit 0)), (.int .i64 (.lit 0))]), (.int .i64 (.lit 0))])
theorem aw_C23_ok : aw_C23 := call_is mixed names S1_ok (lf := 100000) (d := 60) _ _ _ (by kernel_rfl) (by kernel_rfl) (by kernel_rfl) (by kernel_rfl) (by kernel_rfl)
def aw_C24 : Prop := CallIs Tryz.prog 57 [(.agg [(.complex .f64 (.lit 0) (.lit 0)), (.int .i64 (.lit 0))]), (.agg [(.complex .f64 (.lit 4697254411347427328) (.lit 0)), (.int .i64 (.lit 0))])] (.tuple [(.agg [(.complex .f64 (.lit 0) (.lit 0)), (.int .i64 (.lit 0))]), (.int .i64 (.lit 0))])
theorem aw_C24_ok : aw_C24 := call_is mixed names S1_ok (lf := 100000) (d := 60) _ _ _ (by kernel_rfl) (by kernel_rfl) (by kernel_rfl) (by kernel_rfl) (by kernel_rfl)
def aw_C25 : Prop := CallIs Tryz.prog 113 [(.agg [(.complex .f64 (.lit 0) (.lit 0)), (.int .i64 (.lit 0))]), (.agg [(.complex .f64 (.lit 0) (.lit 0)), (.int .i64 (.lit 0))])] (.tuple [(.agg [(.complex .f64 (.lit 0) (.lit 0)), (.int .i64 (.lit 0))]), (.int .i64 (.lit 0))])
theorem aw_C25_ok : aw_C25 := call_is mixed names S1_ok (lf := 100000) (d := 60) _ _ _ (by kernel_rfl) (by kernel_rfl) (by kernel_rfl) (by kernel_rfl) (by kernel_rfl)
def aw_C26 : Prop := CallIs Tryz.prog 113 [(.agg [(.complex .f64 (.lit 0) (.lit 0)), (.int .i64 (.lit 0))]), (.agg [(.complex .f64 (.lit 4697254411347427328) (.lit 0)), (.int .i64 (.lit 0))])] (.tuple [(.agg [(.complex .f64 (.lit 4697254411347427328) (.lit 0)), (.int .i64 (.lit 0))]), (.int .i64 (.lit 0))])
theorem aw_C26_ok : aw_C26 := call_is mixed names S1_ok (lf := 100000) (d := 60) _ _ _ (by kernel_rfl) (by kernel_rfl) (by kernel_rfl) (by kernel_rfl) (by kernel_rfl)
def aw_C27 : Prop := CallIs Tryz.prog 155 [(.agg [(.int .i64 (.lit 4194304)), (.int .i64 (.lit 4194304))])] (.tuple [(.agg [(.complex .f64 (.lit 4706261610602168320) (.lit 0)), (.int .i64 (.lit 0))]), (.int .i64 (.lit 0))])
theorem aw_C27_ok : aw_C27 := call_is mixed names S1_ok (lf := 100000) (d := 60) _ _ _ (by kernel_rfl) (by kernel_rfl) (by kernel_rfl) (by kernel_rfl) (by kernel_rfl)
def aw_C28 : Prop := CallIs Tryz.prog 57 [(.agg [(.complex .f64 (.lit 4706261610602168320) (.lit 0)), (.int .i64 (.lit 0))]), (.agg [(.complex .f64 (.lit 4706261610602168320) (.lit 0)), (.int .i64 (.lit 0))])] (.tuple [(.agg [(.complex .f64 (.lit 4715268809856909312) (.lit 0)), (.int .i64 (.lit 0))]), (.int .i64 (.lit 0))])
theorem aw_C28_ok : aw_C28 := call_is mixed names S1_ok (lf := 100000) (d := 60) _ _ _ (by kernel_rfl) (by kernel_rfl) (by kernel_rfl) (by kernel_rfl) (by kernel_rfl)
def aw_C29 : Prop := CallIs Tryz.prog 99 [(.agg [(.complex .f64 (.lit 4715268809856909312) (.lit 0)), (.int .i64 (.lit 0))]), (.agg [(.complex .f64 (.lit 0) (.lit 0)), (.int .i64 (.lit 0))])] (.tuple [(.agg [(.complex .f64 (.lit 4715268809856909312) (.lit 0)), (.int .i64 (.lit 0))]), (.int .i64 (.lit 0))])
theorem aw_C29_ok : aw_C29 := call_is mixed names S1_ok (lf := 100000) (d := 60) _ _ _ (by kernel_rfl) (by kernel_rfl) (by kernel_rfl) (by kernel_rfl) (by kernel_rfl)
def aw_C30 : Prop := CallIs Tryz.prog 136 [(.agg [(.int .i64 (.lit 16777216)), (.int .i64 (.lit 16777216))])] (.tuple [(.agg [(.complex .f64 (.lit 4706261610602168320) (.lit 0)), (.int .i64 (.lit 0))]), (.int .i64 (.lit 0))])
theorem aw_C30_ok : aw_C30 := call_is mixed names S1_ok (lf := 100000) (d := 60) _ _ _ (by kernel_rfl) (by kernel_rfl) (by kernel_rfl) (by kernel_rfl) (by kernel_rfl)
def aw_C31 : Prop := CallIs Tryz.prog 57 [(.agg [(.complex .f64 (.lit 0) (.lit 0)), (.int .i64 (.lit 0))]), (.agg [(.complex .f64 (.lit 4706261610602168320) (.lit 0)), (.int .i64 (.lit 0))])] (.tuple [(.agg [(.complex .f64 (.lit 0) (.lit 0)), (.int .i64 (.lit 0))]), (.int .i64 (.lit 0))])
theorem aw_C31_ok : aw_C31 := call_is mixed names S1_ok (lf := 100000) (d := 60) _ _ _ (by kernel_rfl) (by kernel_rfl) (by kernel_rfl) (by kernel_rfl) (by kernel_rfl)
def aw_C32 : Prop := CallIs Tryz.prog 57 [(.agg [(.complex .f64 (.lit 4697254411347427328) (.lit 0)), (.int .i64 (.lit 0))]), (.agg [(.complex .f64 (.lit 4706261610602168320) (.lit 0)), (.int .i64 (.lit 0))])] (.tuple [(.agg [(.complex .f64 (.lit 4706261610602168320) (.lit 0)), (.int .i64 (.lit 0))]), (.int .i64 (.lit 0))])
theorem aw_C32_ok : aw_C32 := call_is mixed names S1_ok (lf := 100000) (d := 60) _ _ _ (by kernel_rfl) (by kernel_rfl) (by kernel_rfl) (by kernel_rfl) (by kernel_rfl)
def aw_C33 : Prop := CallIs Tryz.prog 113 [(.agg [(.complex .f64 (.lit 0) (.lit 0)), (.int .i64 (.lit 0))]), (.agg [(.complex .f64 (.lit 4706261610602168320) (.lit 0)), (.int .i64 (.lit 0))])] (.tuple [(.agg [(.complex .f64 (.lit 4706261610602168320) (.lit 0)), (.int .i64 (.lit 0))]), (.int .i64 (.lit 0))])
theorem aw_C33_ok : aw_C33 := call_is mixed names S1_ok (lf := 100000) (d := 60) _ _ _ (by kernel_rfl) (by kernel_rfl) (by kernel_rfl) (by kernel_rfl) (by kernel_rfl)
def aw_C34 : Prop := CallIs Tryz.prog 113 [(.agg [(.complex .f64 (.lit 4697254411347427328) (.lit 0)), (.int .i64 (.lit 0))]), (.agg [(.complex .f64 (.lit 4706261610602168320) (.lit 0)), (.int .i64 (.lit 0))])] (.tuple [(.agg [(.complex .f64 (.lit 4707387510509010944) (.lit 0)), (.int .i64 (.lit 0))]), (.int .i64 (.lit 0))])
theorem aw_C34_ok : aw_C34 := call_is mixed names S1_ok (lf := 100000) (d := 60) _ _ _ (by kernel_rfl) (by kernel_rfl) (by kernel_rfl) (by kernel_rfl) (by kernel_rfl)
def aw_C35 : Prop := CallIs Tryz.prog 99 [(.agg [(.complex .f64 (.lit 4697254411347427328) (.lit 0)), (.int .i64 (.lit 0))]), (.agg [(.complex .f64 (.lit 4706261610602168320) (.lit 0)), (.int .i64 (.lit 0))])] (.tuple [(.agg [(.complex .f64 (.lit 13927381847643258880) (.lit 0)), (.int .i64 (.lit 0))]), (.int .i64 (.lit 0))])
theorem aw_C35_ok : aw_C35 := call_is mixed names S1_ok (lf := 100000) (d := 60) _ _ _ (by kernel_rfl) (by kernel_rfl) (by kernel_rfl) (by kernel_rfl) (by kernel_rfl)
def aw_C36 : Prop := CallIs Tryz.prog 97 [(.agg [(.complex .f64 (.lit 13927381847643258880) (.lit 0)), (.int .i64 (.lit 0))]), (.agg [(.complex .f64 (.lit 4707387510509010944) (.lit 0)), (.int .i64 (.lit 0))])] (.tuple [(.agg [(.complex .f64 (.lit 13917023571936280576) (.lit 0)), (.int .i64 (.lit 1))]), (.int .i64 (.lit 0))])
theorem aw_C36_ok : aw_C36 := call_is mixed names S1_ok (lf := 100000) (d := 60) _ _ _ (by kernel_rfl) (by kernel_rfl) (by kernel_rfl) (by kernel_rfl) (by kernel_rfl)
def aw_C37 : Prop := CallIs Tryz.prog 97 [(.agg [(.complex .f64 (.lit 4697254411347427328) (.lit 0)), (.int .i64 (.lit 0))]), (.agg [(.complex .f64 (.lit 4697254411347427328) (.lit 0)), (.int .i64 (.lit 0))])] (.tuple [(.agg [(.complex .f64 (.lit 4697254411347427328) (.lit 0)), (.int .i64 (.lit 0))]), (.int .i64 (.lit 0))])
theorem aw_C37_ok : aw_C37 := call_is mixed names S1_ok (lf := 100000) (d := 60) _ _ _ (by kernel_rfl) (by kernel_rfl) (by kernel_rfl) (by kernel_rfl) (by kernel_rfl)
def aw_C38 : Prop := CallIs Tryz.prog 97 [(.agg [(.complex .f64 (.lit 4706261610602168320) (.lit 0)), (.int .i64 (.lit 0))]), (.agg [(.complex .f64 (.lit 4701758010974797824) (.lit 0)), (.int .i64 (.lit 0))])] (.tuple [(.agg [(.complex .f64 (.lit 4701758010974797824) (.lit 0)), (.int .i64 (.lit 0))]), (.int .i64 (.lit 0))])
theorem aw_C38_ok : aw_C38 := call_is mixed names S1_ok (lf := 100000) (d := 60) _ _ _ (by kernel_rfl) (by kernel_rfl) (by kernel_rfl) (by kernel_rfl) (by kernel_rfl)
def aw_C39 : Prop := CallIs Tryz.prog 97 [(.agg [(.complex .f64 (.lit 4715268809856909312) (.lit 0)), (.int .i64 (.lit 0))]), (.agg [(.complex .f64 (.lit 4706261610602168320) (.lit 0)), (.int .i64 (.lit 0))])] (.tuple [(.agg [(.complex .f64 (.lit 4706261610602168320) (.lit 0)), (.int .i64 (.lit 0))]), (.int .i64 (.lit 0))])
theorem aw_C39_ok : aw_C39 := call_is mixed names S1_ok (lf := 100000) (d := 60) _ _ _ (by kernel_rfl) (by kernel_rfl) (by kernel_rfl) (by kernel_rfl) (by kernel_rfl)
def aw_S0 : Sig := ⟨42, ⟨0, 0, 0⟩, ⟨0, 0, 0⟩, [(.agg [(.int .i64 (.lit 10000)), (.int .i64 (.lit 0)), (.int .i64 (.lit 0)), (.int .i64 (.lit 0)), (.int .i64 (.lit 4000)), (.int .i64 (.lit 4000)), (.slice (some ⟨0, 0, none⟩) 1 1), (.int .i64 (.lit 40000)), (.int .i64 (.lit 0))])], [(some ⟨[(.int .i64 (.lit 20000)), (.int .i64 (.lit 20000)), (.int .i64 (.lit 1000)), (.int .i64 (.lit 1000)), (.int .i64 (.lit 0))], 61, false, false, none⟩), none, none, none, none, none, none, none, none], (.tuple [(.agg [(.complex .f64 (.lit 13917023571936280576) (.lit 0)), (.int .i64 (.lit 1))]), (.int .i64 (.lit 0))]), []⟩
def aw_S0e : CallE := ⟨aw_S0.f, aw_S0.args, [0], aw_S0.H, aw_S0.r, []⟩
def aw_S1 : Sig := ⟨42, ⟨0, 0, 0⟩, ⟨0, 0, 0⟩, [(.agg [(.int .i64 (.lit 10000)), (.int .i64 (.lit 0)), (.int .i64 (.lit 0)), (.int .i64 (.lit 1)), (.int .i64 (.lit 4000)), (.int .i64 (.lit 4000)), (.slice (some ⟨0, 0, none⟩) 1 1), (.int .i64 (.lit 40000)), (.int .i64 (.lit 0))])], [(some ⟨[(.int .i64 (.lit 20000)), (.int .i64 (.lit 20000)), (.int .i64 (.lit 1000)), (.int .i64 (.lit 1000)), (.int .i64 (.lit 0))], 61, false, false, none⟩), none, none, none, none, none, none, none, none, none], (.tuple [(.agg [(.complex .f64 (.lit 13917023571936280576) (.lit 0)), (.int .i64 (.lit 1))]), (.int .i64 (.lit 0))]), []⟩
def aw_S1e : CallE := ⟨aw_S1.f, aw_S1.args, [0], aw_S1.H, aw_S1.r, []⟩
def aw_S2 : Sig := ⟨16, ⟨0, 0, 0⟩, ⟨0, 0, 0⟩, [(.slice (some ⟨2, 0, none⟩) 3 3), (.slice (some ⟨3, 0, none⟩) 3 3)], [none, none, (some ⟨[(.int .i64 (.lit 1)), (.int .i64 (.lit 0)), (.int .i64 (.lit 0)), (.int .i64 (.lit 1)), (.int .i64 (.lit 1)), (.int .i64 (.lit 1))], 57, false, false, none⟩), (some ⟨[(.int .i64 (.lit 1)), (.int .i64 (.lit 2)), (.int .i64 (.lit 4))], 3, false, false, none⟩)], (.tuple [(.agg [(.int .i64 (.lit 4)), (.int .i64 (.lit 3)), (.int .i64 (.lit 7)), (.int .i64 (.lit 3))]), (.int .i64 (.lit 0))]), []⟩
def aw_S2e : CallE := ⟨aw_S2.f, aw_S2.args, [2, 3], aw_S2.H, aw_S2.r, []⟩
def aw_K2_t : Tr :=
  (.ret ⟨[], [], []⟩ [])
theorem aw_K2 {R : Prop}
  (H : R) :
    R ∧ Spec Tryz.prog aw_S2 ⟨[], [], []⟩ [] [] [] :=
  Eq.mp (by kernel_rfl) (exV_of (K := fun d => app3 aw_S2.out R d ∧ Spec Tryz.prog aw_S2 ⟨[], [], []⟩ d.1 d.2.1 d.2.2) (tree_at mixed names S1_ok (S := S1 Tryz.prog) (lf := 100000) (d := 60) aw_S2 aw_K2_t {} ⟨[], [], []⟩ rfl (by kernel_rfl) (by kernel_rfl) (by kernel_rfl) ⟨fz, fz, fz, fz⟩ (R := fun d => app3 aw_S2.out R d) (Eq.mp (by kernel_rfl) H)))
theorem aw_S2_ok : Spec Tryz.prog aw_S2 ⟨[], [], []⟩ [] [] [] := (aw_K2 (R := True) (have h := trivial; h)).2
theorem aw_S2e_ok : aw_S2e.Ok Tryz.prog (envV ⟨[], [], []⟩) := callE_is rfl aw_S2_ok
def aw_K1_t : Tr :=
  (.pcall 155 [(.agg [(.int .i64 (.lit 1048576)), (.int .i64 (.lit 1048576))])] (.tuple [(.agg [(.complex .f64 (.lit 4697254411347427328) (.lit 0)), (.int .i64 (.lit 0))]), (.int .i64 (.lit 0))]) ⟨0, 0, 0⟩
  (.pcall 155 [(.agg [(.int .i64 (.lit 0)), (.int .i64 (.lit 0))])] (.tuple [(.agg [(.complex .f64 (.lit 0) (.lit 0)), (.int .i64 (.lit 0))]), (.int .i64 (.lit 0))]) ⟨0, 0, 0⟩
  (.pcall 57 [(.agg [(.complex .f64 (.lit 4697254411347427328) (.lit 0)), (.int .i64 (.lit 0))]), (.agg [(.complex .f64 (.lit 4697254411347427328) (.lit 0)), (.int .i64 (.lit 0))])] (.tuple [(.agg [(.complex .f64 (.lit 4697254411347427328) (.lit 0)), (.int .i64 (.lit 0))]), (.int .i64 (.lit 0))]) ⟨0, 0, 0⟩
  (.pcall 57 [(.agg [(.complex .f64 (.lit 0) (.lit 0)), (.int .i64 (.lit 0))]), (.agg [(.complex .f64 (.lit 0) (.lit 0)), (.int .i64 (.lit 0))])] (.tuple [(.agg [(.complex .f64 (.lit 0) (.lit 0)), (.int .i64 (.lit 0))]), (.int .i64 (.lit 0))]) ⟨0, 0, 0⟩
  (.pcall 99 [(.agg [(.complex .f64 (.lit 4697254411347427328) (.lit 0)), (.int .i64 (.lit 0))]), (.agg [(.complex .f64 (.lit 0) (.lit 0)), (.int .i64 (.lit 0))])] (.tuple [(.agg [(.complex .f64 (.lit 4697254411347427328) (.lit 0)), (.int .i64 (.lit 0))]), (.int .i64 (.lit 0))]) ⟨0, 0, 0⟩
  (.pcall 136 [(.agg [(.int .i64 (.lit 1048576)), (.int .i64 (.lit 1048576))])] (.tuple [(.agg [(.complex .f64 (.lit 4697254411347427328) (.lit 0)), (.int .i64 (.lit 0))]), (.int .i64 (.lit 0))]) ⟨0, 0, 0⟩
  (.pcall 97 [(.agg [(.complex .f64 (.lit 4697254411347427328) (.lit 0)), (.int .i64 (.lit 0))]), (.agg [(.complex .f64 (.lit 4697254411347427328) (.lit 0)), (.int .i64 (.lit 0))])] (.tuple [(.agg [(.complex .f64 (.lit 4697254411347427328) (.lit 0)), (.int .i64 (.lit 0))]), (.int .i64 (.lit 0))]) ⟨0, 0, 0⟩
  (.pcall 155 [(.agg [(.int .i64 (.lit 2097152)), (.int .i64 (.lit 2097152))])] (.tuple [(.agg [(.complex .f64 (.lit 4701758010974797824) (.lit 0)), (.int .i64 (.lit 0))]), (.int .i64 (.lit 0))]) ⟨0, 0, 0⟩
  (.pcall 57 [(.agg [(.complex .f64 (.lit 4701758010974797824) (.lit 0)), (.int .i64 (.lit 0))]), (.agg [(.complex .f64 (.lit 4701758010974797824) (.lit 0)), (.int .i64 (.lit 0))])] (.tuple [(.agg [(.complex .f64 (.lit 4706261610602168320) (.lit 0)), (.int .i64 (.lit 0))]), (.int .i64 (.lit 0))]) ⟨0, 0, 0⟩
  (.pcall 99 [(.agg [(.complex .f64 (.lit 4706261610602168320) (.lit 0)), (.int .i64 (.lit 0))]), (.agg [(.complex .f64 (.lit 0) (.lit 0)), (.int .i64 (.lit 0))])] (.tuple [(.agg [(.complex .f64 (.lit 4706261610602168320) (.lit 0)), (.int .i64 (.lit 0))]), (.int .i64 (.lit 0))]) ⟨0, 0, 0⟩
  (.pcall 136 [(.agg [(.int .i64 (.lit 4194304)), (.int .i64 (.lit 4194304))])] (.tuple [(.agg [(.complex .f64 (.lit 4701758010974797824) (.lit 0)), (.int .i64 (.lit 0))]), (.int .i64 (.lit 0))]) ⟨0, 0, 0⟩
  (.pcall 97 [(.agg [(.complex .f64 (.lit 4706261610602168320) (.lit 0)), (.int .i64 (.lit 0))]), (.agg [(.complex .f64 (.lit 4701758010974797824) (.lit 0)), (.int .i64 (.lit 0))])] (.tuple [(.agg [(.complex .f64 (.lit 4701758010974797824) (.lit 0)), (.int .i64 (.lit 0))]), (.int .i64 (.lit 0))]) ⟨0, 0, 0⟩
  (.pcall 178 [(.agg [(.int .i64 (.lit 4194304)), (.int .i64 (.lit 4194304))])] (.tuple [(.agg [(.complex .f64 (.lit 4697254411347427328) (.lit 0)), (.int .i64 (.lit 0))]), (.int .i64 (.lit 0))]) ⟨0, 0, 0⟩
  (.pcall 171 [(.agg [(.int .i64 (.lit 0)), (.int .i64 (.lit 0))])] (.tuple [(.agg [(.int .i64 (.lit 1048576)), (.int .i64 (.lit 1048576))]), (.int .i64 (.lit 0))]) ⟨0, 0, 0⟩
  (.pcall 153 [(.int .i64 (.lit 1)), (.int .i64 (.lit 2))] (.tuple [(.agg [(.complex .f64 (.lit 4692750811720056832) (.lit 0)), (.int .i64 (.lit 0))]), (.int .i64 (.lit 0))]) ⟨0, 0, 0⟩
  (.pcall 113 [(.agg [(.complex .f64 (.toF .f64 (.lit 1048576)) (.toF .f64 (.lit 0))), (.int .i64 (.lit 0))]), (.agg [(.complex .f64 (.lit 4697254411347427328) (.lit 0)), (.int .i64 (.lit 0))])] (.tuple [(.agg [(.complex .f64 (.lit 4701758010974797824) (.lit 0)), (.int .i64 (.lit 0))]), (.int .i64 (.lit 0))]) ⟨0, 0, 0⟩
  (.pcall 57 [(.agg [(.complex .f64 (.lit 4701758010974797824) (.lit 0)), (.int .i64 (.lit 0))]), (.agg [(.complex .f64 (.lit 4692750811720056832) (.lit 0)), (.int .i64 (.lit 0))])] (.tuple [(.agg [(.complex .f64 (.lit 4697254411347427328) (.lit 0)), (.int .i64 (.lit 0))]), (.int .i64 (.lit 0))]) ⟨0, 0, 0⟩
  (.pcall 99 [(.agg [(.complex .f64 (.toF .f64 (.lit 1048576)) (.toF .f64 (.lit 0))), (.int .i64 (.lit 0))]), (.agg [(.complex .f64 (.lit 4697254411347427328) (.lit 0)), (.int .i64 (.lit 0))])] (.tuple [(.agg [(.complex .f64 (.lit 0) (.lit 0)), (.int .i64 (.lit 0))]), (.int .i64 (.lit 0))]) ⟨0, 0, 0⟩
  (.pcall 57 [(.agg [(.complex .f64 (.lit 0) (.lit 0)), (.int .i64 (.lit 0))]), (.agg [(.complex .f64 (.lit 4692750811720056832) (.lit 0)), (.int .i64 (.lit 0))])] (.tuple [(.agg [(.complex .f64 (.lit 0) (.lit 0)), (.int .i64 (.lit 0))]), (.int .i64 (.lit 0))]) ⟨0, 0, 0⟩
  (.pcall 97 [(.agg [(.complex .f64 (.lit 0) (.lit 0)), (.int .i64 (.lit 0))]), (.agg [(.complex .f64 (.lit 4701758010974797824) (.lit 0)), (.int .i64 (.lit 0))])] (.tuple [(.agg [(.complex .f64 (.lit 0) (.lit 0)), (.int .i64 (.lit 0))]), (.int .i64 (.lit 0))]) ⟨0, 0, 0⟩
  (.pcall 57 [(.agg [(.complex .f64 (.lit 0) (.lit 0)), (.int .i64 (.lit 0))]), (.agg [(.complex .f64 (.lit 4701758010974797824) (.lit 0)), (.int .i64 (.lit 0))])] (.tuple [(.agg [(.complex .f64 (.lit 0) (.lit 0)), (.int .i64 (.lit 0))]), (.int .i64 (.lit 0))]) ⟨0, 0, 0⟩
  (.pcall 57 [(.agg [(.complex .f64 (.toF .f64 (.lit 1048576)) (.toF .f64 (.lit 0))), (.int .i64 (.lit 0))]), (.agg [(.complex .f64 (.lit 4697254411347427328) (.lit 0)), (.int .i64 (.lit 0))])] (.tuple [(.agg [(.complex .f64 (.lit 4697254411347427328) (.lit 0)), (.int .i64 (.lit 0))]), (.int .i64 (.lit 0))]) ⟨0, 0, 0⟩
  (.pcall 113 [(.agg [(.complex .f64 (.lit 4697254411347427328) (.lit 0)), (.int .i64 (.lit 0))]), (.agg [(.complex .f64 (.lit 0) (.lit 0)), (.int .i64 (.lit 0))])] (.tuple [(.agg [(.complex .f64 (.lit 4697254411347427328) (.lit 0)), (.int .i64 (.lit 0))]), (.int .i64 (.lit 0))]) ⟨0, 0, 0⟩
  (.pcall 57 [(.agg [(.complex .f64 (.toF .f64 (.lit 1048576)) (.toF .f64 (.lit 0))), (.int .i64 (.lit 0))]), (.agg [(.complex .f64 (.lit 0) (.lit 0)), (.int .i64 (.lit 0))])] (.tuple [(.agg [(.complex .f64 (.lit 0) (.lit 0)), (.int .i64 (.lit 0))]), (.int .i64 (.lit 0))]) ⟨0, 0, 0⟩
  (.pcall 57 [(.agg [(.complex .f64 (.lit 0) (.lit 0)), (.int .i64 (.lit 0))]), (.agg [(.complex .f64 (.lit 4697254411347427328) (.lit 0)), (.int .i64 (.lit 0))])] (.tuple [(.agg [(.complex .f64 (.lit 0) (.lit 0)), (.int .i64 (.lit 0))]), (.int .i64 (.lit 0))]) ⟨0, 0, 0⟩
  (.pcall 113 [(.agg [(.complex .f64 (.lit 0) (.lit 0)), (.int .i64 (.lit 0))]), (.agg [(.complex .f64 (.lit 0) (.lit 0)), (.int .i64 (.lit 0))])] (.tuple [(.agg [(.complex .f64 (.lit 0) (.lit 0)), (.int .i64 (.lit 0))]), (.int .i64 (.lit 0))]) ⟨0, 0, 0⟩
  (.pcall 113 [(.agg [(.complex .f64 (.lit 0) (.lit 0)), (.int .i64 (.lit 0))]), (.agg [(.complex .f64 (.lit 4697254411347427328) (.lit 0)), (.int .i64 (.lit 0))])] (.tuple [(.agg [(.complex .f64 (.lit 4697254411347427328) (.lit 0)), (.int .i64 (.lit 0))]), (.int .i64 (.lit 0))]) ⟨0, 0, 0⟩
  (.pcall 155 [(.agg [(.int .i64 (.lit 4194304)), (.int .i64 (.lit 4194304))])] (.tuple [(.agg [(.complex .f64 (.lit 4706261610602168320) (.lit 0)), (.int .i64 (.lit 0))]), (.int .i64 (.lit 0))]) ⟨0, 0, 0⟩
  (.pcall 57 [(.agg [(.complex .f64 (.lit 4706261610602168320) (.lit 0)), (.int .i64 (.lit 0))]), (.agg [(.complex .f64 (.lit 4706261610602168320) (.lit 0)), (.int .i64 (.lit 0))])] (.tuple [(.agg [(.complex .f64 (.lit 4715268809856909312) (.lit 0)), (.int .i64 (.lit 0))]), (.int .i64 (.lit 0))]) ⟨0, 0, 0⟩
  (.pcall 99 [(.agg [(.complex .f64 (.lit 4715268809856909312) (.lit 0)), (.int .i64 (.lit 0))]), (.agg [(.complex .f64 (.lit 0) (.lit 0)), (.int .i64 (.lit 0))])] (.tuple [(.agg [(.complex .f64 (.lit 4715268809856909312) (.lit 0)), (.int .i64 (.lit 0))]), (.int .i64 (.lit 0))]) ⟨0, 0, 0⟩
  (.pcall 136 [(.agg [(.int .i64 (.lit 16777216)), (.int .i64 (.lit 16777216))])] (.tuple [(.agg [(.complex .f64 (.lit 4706261610602168320) (.lit 0)), (.int .i64 (.lit 0))]), (.int .i64 (.lit 0))]) ⟨0, 0, 0⟩
  (.pcall 97 [(.agg [(.complex .f64 (.lit 4715268809856909312) (.lit 0)), (.int .i64 (.lit 0))]), (.agg [(.complex .f64 (.lit 4706261610602168320) (.lit 0)), (.int .i64 (.lit 0))])] (.tuple [(.agg [(.complex .f64 (.lit 4706261610602168320) (.lit 0)), (.int .i64 (.lit 0))]), (.int .i64 (.lit 0))]) ⟨0, 0, 0⟩
  (.pcall 57 [(.agg [(.complex .f64 (.lit 0) (.lit 0)), (.int .i64 (.lit 0))]), (.agg [(.complex .f64 (.lit 4706261610602168320) (.lit 0)), (.int .i64 (.lit 0))])] (.tuple [(.agg [(.complex .f64 (.lit 0) (.lit 0)), (.int .i64 (.lit 0))]), (.int .i64 (.lit 0))]) ⟨0, 0, 0⟩
  (.pcall 57 [(.agg [(.complex .f64 (.lit 4697254411347427328) (.lit 0)), (.int .i64 (.lit 0))]), (.agg [(.complex .f64 (.lit 4706261610602168320) (.lit 0)), (.int .i64 (.lit 0))])] (.tuple [(.agg [(.complex .f64 (.lit 4706261610602168320) (.lit 0)), (.int .i64 (.lit 0))]), (.int .i64 (.lit 0))]) ⟨0, 0, 0⟩
  (.pcall 113 [(.agg [(.complex .f64 (.lit 0) (.lit 0)), (.int .i64 (.lit 0))]), (.agg [(.complex .f64 (.lit 4706261610602168320) (.lit 0)), (.int .i64 (.lit 0))])] (.tuple [(.agg [(.complex .f64 (.lit 4706261610602168320) (.lit 0)), (.int .i64 (.lit 0))]), (.int .i64 (.lit 0))]) ⟨0, 0, 0⟩
  (.pcall 113 [(.agg [(.complex .f64 (.lit 4697254411347427328) (.lit 0)), (.int .i64 (.lit 0))]), (.agg [(.complex .f64 (.lit 4706261610602168320) (.lit 0)), (.int .i64 (.lit 0))])] (.tuple [(.agg [(.complex .f64 (.lit 4707387510509010944) (.lit 0)), (.int .i64 (.lit 0))]), (.int .i64 (.lit 0))]) ⟨0, 0, 0⟩
  (.pcall 99 [(.agg [(.complex .f64 (.lit 4697254411347427328) (.lit 0)), (.int .i64 (.lit 0))]), (.agg [(.complex .f64 (.lit 4706261610602168320) (.lit 0)), (.int .i64 (.lit 0))])] (.tuple [(.agg [(.complex .f64 (.lit 13927381847643258880) (.lit 0)), (.int .i64 (.lit 0))]), (.int .i64 (.lit 0))]) ⟨0, 0, 0⟩
  (.pcall 97 [(.agg [(.complex .f64 (.lit 13927381847643258880) (.lit 0)), (.int .i64 (.lit 0))]), (.agg [(.complex .f64 (.lit 4707387510509010944) (.lit 0)), (.int .i64 (.lit 0))])] (.tuple [(.agg [(.complex .f64 (.lit 13917023571936280576) (.lit 0)), (.int .i64 (.lit 1))]), (.int .i64 (.lit 0))]) ⟨0, 0, 0⟩
  (.ret ⟨[], [], []⟩ [])))))))))))))))))))))))))))))))))))))))
theorem aw_K1 {R : Prop}
  (H : (aw_C2 ∧
   (aw_C3 ∧
   (aw_C4 ∧
   (aw_C5 ∧
   (aw_C6 ∧
   (aw_C7 ∧
   (aw_C37 ∧
   (aw_C8 ∧
   (aw_C9 ∧
   (aw_C10 ∧
   (aw_C11 ∧
   (aw_C38 ∧
   (aw_C12 ∧
   (aw_C13 ∧
   (aw_C14 ∧
   (aw_C15 ∧
   (aw_C16 ∧
   (aw_C17 ∧
   (aw_C18 ∧
   (aw_C19 ∧
   (aw_C20 ∧
   (aw_C21 ∧
   (aw_C22 ∧
   (aw_C23 ∧
   (aw_C24 ∧
   (aw_C25 ∧
   (aw_C26 ∧
   (aw_C27 ∧
   (aw_C28 ∧
   (aw_C29 ∧
   (aw_C30 ∧
   (aw_C39 ∧
   (aw_C31 ∧
   (aw_C32 ∧
   (aw_C33 ∧
   (aw_C34 ∧
   (aw_C35 ∧
   (aw_C36 ∧
   R))))))))))))))))))))))))))))))))))))))) :
    R ∧ Spec Tryz.prog aw_S1 ⟨[], [], []⟩ [] [] [] :=
  Eq.mp (by kernel_rfl) (exV_of (K := fun d => app3 aw_S1.out R d ∧ Spec Tryz.prog aw_S1 ⟨[], [], []⟩ d.1 d.2.1 d.2.2) (tree_at mixed names S1_ok (S := S1 Tryz.prog) (lf := 100000) (d := 60) aw_S1 aw_K1_t {} ⟨[], [], []⟩ rfl (by kernel_rfl) (by kernel_rfl) (by kernel_rfl) ⟨fz, fz, fz, fz⟩ (R := fun d => app3 aw_S1.out R d) (Eq.mp (by kernel_rfl) H)))
theorem aw_S1_ok : Spec Tryz.prog aw_S1 ⟨[], [], []⟩ [] [] [] := (aw_K1 (R := True) (have h := trivial; ⟨aw_C2_ok, ⟨aw_C3_ok, ⟨aw_C4_ok, ⟨aw_C5_ok, ⟨aw_C6_ok, ⟨aw_C7_ok, ⟨aw_C37_ok, ⟨aw_C8_ok, ⟨aw_C9_ok, ⟨aw_C10_ok, ⟨aw_C11_ok, ⟨aw_C38_ok, ⟨aw_C12_ok, ⟨aw_C13_ok, ⟨aw_C14_ok, ⟨aw_C15_ok, ⟨aw_C16_ok, ⟨aw_C17_ok, ⟨aw_C18_ok, ⟨aw_C19_ok, ⟨aw_C20_ok, ⟨aw_C21_ok, ⟨aw_C22_ok, ⟨aw_C23_ok, ⟨aw_C24_ok, ⟨aw_C25_ok, ⟨aw_C26_ok, ⟨aw_C27_ok, ⟨aw_C28_ok, ⟨aw_C29_ok, ⟨aw_C30_ok, ⟨aw_C39_ok, ⟨aw_C31_ok, ⟨aw_C32_ok, ⟨aw_C33_ok, ⟨aw_C34_ok, ⟨aw_C35_ok, ⟨aw_C36_ok, h⟩⟩⟩⟩⟩⟩⟩⟩⟩⟩⟩⟩⟩⟩⟩⟩⟩⟩⟩⟩⟩⟩⟩⟩⟩⟩⟩⟩⟩⟩⟩⟩⟩⟩⟩⟩⟩⟩)).2
theorem aw_S1e_ok : aw_S1e.Ok Tryz.prog (envV ⟨[], [], []⟩) := callE_is rfl aw_S1_ok
def aw_K0_t : Tr :=
  (.pcall 155 [(.agg [(.int .i64 (.lit 1048576)), (.int .i64 (.lit 1048576))])] (.tuple [(.agg [(.complex .f64 (.lit 4697254411347427328) (.lit 0)), (.int .i64 (.lit 0))]), (.int .i64 (.lit 0))]) ⟨0, 0, 0⟩
  (.pcall 155 [(.agg [(.int .i64 (.lit 0)), (.int .i64 (.lit 0))])] (.tuple [(.agg [(.complex .f64 (.lit 0) (.lit 0)), (.int .i64 (.lit 0))]), (.int .i64 (.lit 0))]) ⟨0, 0, 0⟩
  (.pcall 57 [(.agg [(.complex .f64 (.lit 4697254411347427328) (.lit 0)), (.int .i64 (.lit 0))]), (.agg [(.complex .f64 (.lit 4697254411347427328) (.lit 0)), (.int .i64 (.lit 0))])] (.tuple [(.agg [(.complex .f64 (.lit 4697254411347427328) (.lit 0)), (.int .i64 (.lit 0))]), (.int .i64 (.lit 0))]) ⟨0, 0, 0⟩
  (.pcall 57 [(.agg [(.complex .f64 (.lit 0) (.lit 0)), (.int .i64 (.lit 0))]), (.agg [(.complex .f64 (.lit 0) (.lit 0)), (.int .i64 (.lit 0))])] (.tuple [(.agg [(.complex .f64 (.lit 0) (.lit 0)), (.int .i64 (.lit 0))]), (.int .i64 (.lit 0))]) ⟨0, 0, 0⟩
  (.pcall 99 [(.agg [(.complex .f64 (.lit 4697254411347427328) (.lit 0)), (.int .i64 (.lit 0))]), (.agg [(.complex .f64 (.lit 0) (.lit 0)), (.int .i64 (.lit 0))])] (.tuple [(.agg [(.complex .f64 (.lit 4697254411347427328) (.lit 0)), (.int .i64 (.lit 0))]), (.int .i64 (.lit 0))]) ⟨0, 0, 0⟩
  (.pcall 136 [(.agg [(.int .i64 (.lit 1048576)), (.int .i64 (.lit 1048576))])] (.tuple [(.agg [(.complex .f64 (.lit 4697254411347427328) (.lit 0)), (.int .i64 (.lit 0))]), (.int .i64 (.lit 0))]) ⟨0, 0, 0⟩
  (.pcall 155 [(.agg [(.int .i64 (.lit 2097152)), (.int .i64 (.lit 2097152))])] (.tuple [(.agg [(.complex .f64 (.lit 4701758010974797824) (.lit 0)), (.int .i64 (.lit 0))]), (.int .i64 (.lit 0))]) ⟨0, 0, 0⟩
  (.pcall 57 [(.agg [(.complex .f64 (.lit 4701758010974797824) (.lit 0)), (.int .i64 (.lit 0))]), (.agg [(.complex .f64 (.lit 4701758010974797824) (.lit 0)), (.int .i64 (.lit 0))])] (.tuple [(.agg [(.complex .f64 (.lit 4706261610602168320) (.lit 0)), (.int .i64 (.lit 0))]), (.int .i64 (.lit 0))]) ⟨0, 0, 0⟩
  (.pcall 99 [(.agg [(.complex .f64 (.lit 4706261610602168320) (.lit 0)), (.int .i64 (.lit 0))]), (.agg [(.complex .f64 (.lit 0) (.lit 0)), (.int .i64 (.lit 0))])] (.tuple [(.agg [(.complex .f64 (.lit 4706261610602168320) (.lit 0)), (.int .i64 (.lit 0))]), (.int .i64 (.lit 0))]) ⟨0, 0, 0⟩
  (.pcall 136 [(.agg [(.int .i64 (.lit 4194304)), (.int .i64 (.lit 4194304))])] (.tuple [(.agg [(.complex .f64 (.lit 4701758010974797824) (.lit 0)), (.int .i64 (.lit 0))]), (.int .i64 (.lit 0))]) ⟨0, 0, 0⟩
  (.pcall 178 [(.agg [(.int .i64 (.lit 4194304)), (.int .i64 (.lit 4194304))])] (.tuple [(.agg [(.complex .f64 (.lit 4697254411347427328) (.lit 0)), (.int .i64 (.lit 0))]), (.int .i64 (.lit 0))]) ⟨0, 0, 0⟩
  (.pcall 171 [(.agg [(.int .i64 (.lit 0)), (.int .i64 (.lit 0))])] (.tuple [(.agg [(.int .i64 (.lit 1048576)), (.int .i64 (.lit 1048576))]), (.int .i64 (.lit 0))]) ⟨0, 0, 0⟩
  (.pcall 153 [(.int .i64 (.lit 1)), (.int .i64 (.lit 2))] (.tuple [(.agg [(.complex .f64 (.lit 4692750811720056832) (.lit 0)), (.int .i64 (.lit 0))]), (.int .i64 (.lit 0))]) ⟨0, 0, 0⟩
  (.pcall 113 [(.agg [(.complex .f64 (.toF .f64 (.lit 1048576)) (.toF .f64 (.lit 0))), (.int .i64 (.lit 0))]), (.agg [(.complex .f64 (.lit 4697254411347427328) (.lit 0)), (.int .i64 (.lit 0))])] (.tuple [(.agg [(.complex .f64 (.lit 4701758010974797824) (.lit 0)), (.int .i64 (.lit 0))]), (.int .i64 (.lit 0))]) ⟨0, 0, 0⟩
  (.pcall 57 [(.agg [(.complex .f64 (.lit 4701758010974797824) (.lit 0)), (.int .i64 (.lit 0))]), (.agg [(.complex .f64 (.lit 4692750811720056832) (.lit 0)), (.int .i64 (.lit 0))])] (.tuple [(.agg [(.complex .f64 (.lit 4697254411347427328) (.lit 0)), (.int .i64 (.lit 0))]), (.int .i64 (.lit 0))]) ⟨0, 0, 0⟩
  (.pcall 99 [(.agg [(.complex .f64 (.toF .f64 (.lit 1048576)) (.toF .f64 (.lit 0))), (.int .i64 (.lit 0))]), (.agg [(.complex .f64 (.lit 4697254411347427328) (.lit 0)), (.int .i64 (.lit 0))])] (.tuple [(.agg [(.complex .f64 (.lit 0) (.lit 0)), (.int .i64 (.lit 0))]), (.int .i64 (.lit 0))]) ⟨0, 0, 0⟩
  (.pcall 57 [(.agg [(.complex .f64 (.lit 0) (.lit 0)), (.int .i64 (.lit 0))]), (.agg [(.complex .f64 (.lit 4692750811720056832) (.lit 0)), (.int .i64 (.lit 0))])] (.tuple [(.agg [(.complex .f64 (.lit 0) (.lit 0)), (.int .i64 (.lit 0))]), (.int .i64 (.lit 0))]) ⟨0, 0, 0⟩
  (.pcall 97 [(.agg [(.complex .f64 (.lit 0) (.lit 0)), (.int .i64 (.lit 0))]), (.agg [(.complex .f64 (.lit 4701758010974797824) (.lit 0)), (.int .i64 (.lit 0))])] (.tuple [(.agg [(.complex .f64 (.lit 0) (.lit 0)), (.int .i64 (.lit 0))]), (.int .i64 (.lit 0))]) ⟨0, 0, 0⟩
  (.pcall 57 [(.agg [(.complex .f64 (.lit 0) (.lit 0)), (.int .i64 (.lit 0))]), (.agg [(.complex .f64 (.lit 4701758010974797824) (.lit 0)), (.int .i64 (.lit 0))])] (.tuple [(.agg [(.complex .f64 (.lit 0) (.lit 0)), (.int .i64 (.lit 0))]), (.int .i64 (.lit 0))]) ⟨0, 0, 0⟩
  (.pcall 57 [(.agg [(.complex .f64 (.toF .f64 (.lit 1048576)) (.toF .f64 (.lit 0))), (.int .i64 (.lit 0))]), (.agg [(.complex .f64 (.lit 4697254411347427328) (.lit 0)), (.int .i64 (.lit 0))])] (.tuple [(.agg [(.complex .f64 (.lit 4697254411347427328) (.lit 0)), (.int .i64 (.lit 0))]), (.int .i64 (.lit 0))]) ⟨0, 0, 0⟩
  (.pcall 113 [(.agg [(.complex .f64 (.lit 4697254411347427328) (.lit 0)), (.int .i64 (.lit 0))]), (.agg [(.complex .f64 (.lit 0) (.lit 0)), (.int .i64 (.lit 0))])] (.tuple [(.agg [(.complex .f64 (.lit 4697254411347427328) (.lit 0)), (.int .i64 (.lit 0))]), (.int .i64 (.lit 0))]) ⟨0, 0, 0⟩
  (.pcall 57 [(.agg [(.complex .f64 (.toF .f64 (.lit 1048576)) (.toF .f64 (.lit 0))), (.int .i64 (.lit 0))]), (.agg [(.complex .f64 (.lit 0) (.lit 0)), (.int .i64 (.lit 0))])] (.tuple [(.agg [(.complex .f64 (.lit 0) (.lit 0)), (.int .i64 (.lit 0))]), (.int .i64 (.lit 0))]) ⟨0, 0, 0⟩
  (.pcall 57 [(.agg [(.complex .f64 (.lit 0) (.lit 0)), (.int .i64 (.lit 0))]), (.agg [(.complex .f64 (.lit 4697254411347427328) (.lit 0)), (.int .i64 (.lit 0))])] (.tuple [(.agg [(.complex .f64 (.lit 0) (.lit 0)), (.int .i64 (.lit 0))]), (.int .i64 (.lit 0))]) ⟨0, 0, 0⟩
  (.pcall 113 [(.agg [(.complex .f64 (.lit 0) (.lit 0)), (.int .i64 (.lit 0))]), (.agg [(.complex .f64 (.lit 0) (.lit 0)), (.int .i64 (.lit 0))])] (.tuple [(.agg [(.complex .f64 (.lit 0) (.lit 0)), (.int .i64 (.lit 0))]), (.int .i64 (.lit 0))]) ⟨0, 0, 0⟩
  (.pcall 113 [(.agg [(.complex .f64 (.lit 0) (.lit 0)), (.int .i64 (.lit 0))]), (.agg [(.complex .f64 (.lit 4697254411347427328) (.lit 0)), (.int .i64 (.lit 0))])] (.tuple [(.agg [(.complex .f64 (.lit 4697254411347427328) (.lit 0)), (.int .i64 (.lit 0))]), (.int .i64 (.lit 0))]) ⟨0, 0, 0⟩
  (.pcall 155 [(.agg [(.int .i64 (.lit 4194304)), (.int .i64 (.lit 4194304))])] (.tuple [(.agg [(.complex .f64 (.lit 4706261610602168320) (.lit 0)), (.int .i64 (.lit 0))]), (.int .i64 (.lit 0))]) ⟨0, 0, 0⟩
  (.pcall 57 [(.agg [(.complex .f64 (.lit 4706261610602168320) (.lit 0)), (.int .i64 (.lit 0))]), (.agg [(.complex .f64 (.lit 4706261610602168320) (.lit 0)), (.int .i64 (.lit 0))])] (.tuple [(.agg [(.complex .f64 (.lit 4715268809856909312) (.lit 0)), (.int .i64 (.lit 0))]), (.int .i64 (.lit 0))]) ⟨0, 0, 0⟩
  (.pcall 99 [(.agg [(.complex .f64 (.lit 4715268809856909312) (.lit 0)), (.int .i64 (.lit 0))]), (.agg [(.complex .f64 (.lit 0) (.lit 0)), (.int .i64 (.lit 0))])] (.tuple [(.agg [(.complex .f64 (.lit 4715268809856909312) (.lit 0)), (.int .i64 (.lit 0))]), (.int .i64 (.lit 0))]) ⟨0, 0, 0⟩
  (.pcall 136 [(.agg [(.int .i64 (.lit 16777216)), (.int .i64 (.lit 16777216))])] (.tuple [(.agg [(.complex .f64 (.lit 4706261610602168320) (.lit 0)), (.int .i64 (.lit 0))]), (.int .i64 (.lit 0))]) ⟨0, 0, 0⟩
  (.pcall 57 [(.agg [(.complex .f64 (.lit 0) (.lit 0)), (.int .i64 (.lit 0))]), (.agg [(.complex .f64 (.lit 4706261610602168320) (.lit 0)), (.int .i64 (.lit 0))])] (.tuple [(.agg [(.complex .f64 (.lit 0) (.lit 0)), (.int .i64 (.lit 0))]), (.int .i64 (.lit 0))]) ⟨0, 0, 0⟩
  (.pcall 57 [(.agg [(.complex .f64 (.lit 4697254411347427328) (.lit 0)), (.int .i64 (.lit 0))]), (.agg [(.complex .f64 (.lit 4706261610602168320) (.lit 0)), (.int .i64 (.lit 0))])] (.tuple [(.agg [(.complex .f64 (.lit 4706261610602168320) (.lit 0)), (.int .i64 (.lit 0))]), (.int .i64 (.lit 0))]) ⟨0, 0, 0⟩
  (.pcall 113 [(.agg [(.complex .f64 (.lit 0) (.lit 0)), (.int .i64 (.lit 0))]), (.agg [(.complex .f64 (.lit 4706261610602168320) (.lit 0)), (.int .i64 (.lit 0))])] (.tuple [(.agg [(.complex .f64 (.lit 4706261610602168320) (.lit 0)), (.int .i64 (.lit 0))]), (.int .i64 (.lit 0))]) ⟨0, 0, 0⟩
  (.pcall 113 [(.agg [(.complex .f64 (.lit 4697254411347427328) (.lit 0)), (.int .i64 (.lit 0))]), (.agg [(.complex .f64 (.lit 4706261610602168320) (.lit 0)), (.int .i64 (.lit 0))])] (.tuple [(.agg [(.complex .f64 (.lit 4707387510509010944) (.lit 0)), (.int .i64 (.lit 0))]), (.int .i64 (.lit 0))]) ⟨0, 0, 0⟩
  (.pcall 99 [(.agg [(.complex .f64 (.lit 4697254411347427328) (.lit 0)), (.int .i64 (.lit 0))]), (.agg [(.complex .f64 (.lit 4706261610602168320) (.lit 0)), (.int .i64 (.lit 0))])] (.tuple [(.agg [(.complex .f64 (.lit 13927381847643258880) (.lit 0)), (.int .i64 (.lit 0))]), (.int .i64 (.lit 0))]) ⟨0, 0, 0⟩
  (.pcall 97 [(.agg [(.complex .f64 (.lit 13927381847643258880) (.lit 0)), (.int .i64 (.lit 0))]), (.agg [(.complex .f64 (.lit 4707387510509010944) (.lit 0)), (.int .i64 (.lit 0))])] (.tuple [(.agg [(.complex .f64 (.lit 13917023571936280576) (.lit 0)), (.int .i64 (.lit 1))]), (.int .i64 (.lit 0))]) ⟨0, 0, 0⟩
  (.ret ⟨[], [], []⟩ []))))))))))))))))))))))))))))))))))))
theorem aw_K0 {R : Prop}
  (H : (aw_C2 ∧
   (aw_C3 ∧
   (aw_C4 ∧
   (aw_C5 ∧
   (aw_C6 ∧
   (aw_C7 ∧
   (aw_C8 ∧
   (aw_C9 ∧
   (aw_C10 ∧
   (aw_C11 ∧
   (aw_C12 ∧
   (aw_C13 ∧
   (aw_C14 ∧
   (aw_C15 ∧
   (aw_C16 ∧
   (aw_C17 ∧
   (aw_C18 ∧
   (aw_C19 ∧
   (aw_C20 ∧
   (aw_C21 ∧
   (aw_C22 ∧
   (aw_C23 ∧
   (aw_C24 ∧
   (aw_C25 ∧
   (aw_C26 ∧
   (aw_C27 ∧
   (aw_C28 ∧
   (aw_C29 ∧
   (aw_C30 ∧
   (aw_C31 ∧
   (aw_C32 ∧
   (aw_C33 ∧
   (aw_C34 ∧
   (aw_C35 ∧
   (aw_C36 ∧
   R)))))))))))))))))))))))))))))))))))) :
    R ∧ Spec Tryz.prog aw_S0 ⟨[], [], []⟩ [] [] [] :=
  Eq.mp (by kernel_rfl) (exV_of (K := fun d => app3 aw_S0.out R d ∧ Spec Tryz.prog aw_S0 ⟨[], [], []⟩ d.1 d.2.1 d.2.2) (tree_at mixed names S1_ok (S := S1 Tryz.prog) (lf := 100000) (d := 60) aw_S0 aw_K0_t {} ⟨[], [], []⟩ rfl (by kernel_rfl) (by kernel_rfl) (by kernel_rfl) ⟨fz, fz, fz, fz⟩ (R := fun d => app3 aw_S0.out R d) (Eq.mp (by kernel_rfl) H)))
theorem aw_S0_ok : Spec Tryz.prog aw_S0 ⟨[], [], []⟩ [] [] [] := (aw_K0 (R := True) (have h := trivial; ⟨aw_C2_ok, ⟨aw_C3_ok, ⟨aw_C4_ok, ⟨aw_C5_ok, ⟨aw_C6_ok, ⟨aw_C7_ok, ⟨aw_C8_ok, ⟨aw_C9_ok, ⟨aw_C10_ok, ⟨aw_C11_ok, ⟨aw_C12_ok, ⟨aw_C13_ok, ⟨aw_C14_ok, ⟨aw_C15_ok, ⟨aw_C16_ok, ⟨aw_C17_ok, ⟨aw_C18_ok, ⟨aw_C19_ok, ⟨aw_C20_ok, ⟨aw_C21_ok, ⟨aw_C22_ok, ⟨aw_C23_ok, ⟨aw_C24_ok, ⟨aw_C25_ok, ⟨aw_C26_ok, ⟨aw_C27_ok, ⟨aw_C28_ok, ⟨aw_C29_ok, ⟨aw_C30_ok, ⟨aw_C31_ok, ⟨aw_C32_ok, ⟨aw_C33_ok, ⟨aw_C34_ok, ⟨aw_C35_ok, ⟨aw_C36_ok, h⟩⟩⟩⟩⟩⟩⟩⟩⟩⟩⟩⟩⟩⟩⟩⟩⟩⟩⟩⟩⟩⟩⟩⟩⟩⟩⟩⟩⟩⟩⟩⟩⟩⟩⟩)).2
theorem aw_S0e_ok : aw_S0e.Ok Tryz.prog (envV ⟨[], [], []⟩) := callE_is rfl aw_S0_ok
def aw_t : Tr :=
  (.tcall aw_S0e
  (.tcall aw_S1e
  (.pcall 57 [(.agg [(.complex .f64 (.lit 13917023571936280576) (.lit 0)), (.int .i64 (.lit 1))]), (.agg [(.complex .f64 (.lit 13917023571936280576) (.lit 0)), (.int .i64 (.lit 1))])] (.tuple [(.agg [(.complex .f64 (.lit 4690228806923845632) (.lit 0)), (.int .i64 (.lit 3))]), (.int .i64 (.lit 0))]) ⟨0, 0, 0⟩
  (.pcall 58 [(.agg [(.complex .f64 (.lit 13917023571936280576) (.lit 0)), (.int .i64 (.lit 1))])] (.tuple [(.agg [(.int .i64 (.lit 377486)), (.int .i64 (.lit 377490))]), (.int .i64 (.lit 0))]) ⟨0, 0, 0⟩
  (.tcall aw_S2e
  (.ret ⟨[], [(.lit true)], []⟩ []))))))
theorem aw {R : Bool → Prop}
  (H : (aw_S0e.Ok Tryz.prog (envV ⟨[], [], []⟩) ∧
   (aw_S1e.Ok Tryz.prog (envV ⟨[], [], []⟩) ∧
   (aw_C0 ∧
   (aw_C1 ∧
   (aw_S2e.Ok Tryz.prog (envV ⟨[], [], []⟩) ∧
   R (true))))))) :
    ∃ u0 : Bool, R u0 ∧ Spec Tryz.prog etalonlaw07_awake_s ⟨[], [], []⟩ [] [u0] [] :=
  Eq.mp (by kernel_rfl) (exV_of (K := fun d => app3 etalonlaw07_awake_s.out R d ∧ Spec Tryz.prog etalonlaw07_awake_s ⟨[], [], []⟩ d.1 d.2.1 d.2.2) (tree_at mixed names S1_ok (S := S1 Tryz.prog) (lf := 100000) (d := 60) etalonlaw07_awake_s aw_t { ivs := [], aivs := [] } ⟨[], [], []⟩ rfl (by kernel_rfl) (by kernel_rfl) (by kernel_rfl) ⟨fz, fz, fz, fz⟩ (R := fun d => app3 etalonlaw07_awake_s.out R d) (Eq.mp (by kernel_rfl) H)))
-- at: aw (have h := sorry; ⟨aw_S0e_ok, ⟨aw_S1e_ok, ⟨aw_C0_ok, ⟨aw_C1_ok, ⟨aw_S2e_ok, h⟩⟩⟩⟩⟩)

theorem awake : ∃ u0 : Bool, u0 = true ∧ Spec Tryz.prog etalonlaw07_awake_s ⟨[], [], []⟩ [] [u0] [] := aw ⟨aw_S0e_ok, ⟨aw_S1e_ok, ⟨aw_C0_ok, ⟨aw_C1_ok, ⟨aw_S2e_ok, rfl⟩⟩⟩⟩⟩

end Go.Proofs.YtmlkejbofnafeaaGreat.Ev
