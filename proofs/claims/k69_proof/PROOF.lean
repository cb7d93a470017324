import PyProof.Rows.All
import Wide.All
import OpenK.AllK
import Wide.FinOn
import HandS.Base
import HandS.Words
import PySem.Challenge.RW_linearmix_k69_bodies_begun
import HandS.HeadHook1
import HandS.HeadHook2
import HandS.HeadHook3
import HandS.HeadHook4
import HandS.ExcField
import HandS.ExcSuper
import KE.KSuper
import KE.KStateDown
import Lean
import HandS.Head0
import HandS.Head1
import HandS.Head2
import PyProof.ReprNest
import HandS.FStrTup
import KE.KExcSuper
import KE.KExcMake
import HandS.ForExc
import HandS.ExcInit
import HandS.ExcValue
import HandS.HeadWalk
import KE.KExcIs
import HandS.IsInst
import HandS.ForMost
import HandS.Rev
import KE.KDictList
import HandS.Wide
import HandS.Evl
import HandS.CallLocal
import HandS.CallRecv
import HandS.DictComp
import HandS.Conv
import HandS.Walk
import HandS.Zip
import HandS.SetBool
import HandS.Strs
import HandS.TryMany
import HandS.Style
import HandS.Deep
import HandS.List
import HandS.Nested
import HandS.ClsMeth
import HandS.HeadEnd
section
set_option Elab.async false
set_option linter.all false
set_option maxRecDepth 100000
set_option maxHeartbeats 4000000
namespace K9
open PySem PySem.Spec PyProof.Rows L2
def topS (i : Nat) : Stmt := PySem.Challenge.pw_linearmix_k69_bodies_begun.main.body.getD i (.Pass ⟨0, 0, 0, 0⟩)
abbrev s_is_integer : Stmt := topS 1
abbrev s_cs_in : Stmt := topS 4
abbrev s_is_number : Stmt := topS 15
abbrev s_is_label : Stmt := topS 16
abbrev s_is_text : Stmt := topS 17
abbrev s_is_row : Stmt := topS 18
abbrev s_are_ascending : Stmt := topS 19
abbrev s_are_labels : Stmt := topS 20
abbrev s_CoreForm_init : Stmt := inClass (topS 21) 0
abbrev s_CoreForm_holds : Stmt := inClass (topS 21) 1
abbrev s_CoreForm_is_frame : Stmt := inClass (topS 21) 2
abbrev s_CoreForm_has_this : Stmt := inClass (topS 21) 3
abbrev s_CoreForm_is_single : Stmt := inClass (topS 21) 4
abbrev s_CoreForm_is_table : Stmt := inClass (topS 21) 5
abbrev s_CoreForm_are_rows : Stmt := inClass (topS 21) 6
abbrev s_BodyForm_init : Stmt := inClass (topS 22) 0
abbrev s_BodyForm_holds : Stmt := inClass (topS 22) 1
abbrev s_BodyForm_is_c : Stmt := inClass (topS 22) 2
abbrev s_BodyForm_add : Stmt := inClass (topS 22) 3
abbrev s_BodyForm_bound_by : Stmt := inClass (topS 22) 4
abbrev s_BodyForm_binds : Stmt := inClass (topS 22) 5
abbrev s_BodyForm_has_many : Stmt := inClass (topS 22) 6
abbrev s_BodyForm_fits : Stmt := inClass (topS 22) 7
abbrev s_is_core_form : Stmt := topS 23
abbrev s_Ended_init : Stmt := inClass (topS 25) 0
abbrev s_sort_of : Stmt := topS 32
abbrev s_are_equal : Stmt := topS 33
abbrev s_bounded : Stmt := topS 34
abbrev s_op_worth : Stmt := topS 35
abbrev s_told_plain : Stmt := topS 36
abbrev s_Teller_init : Stmt := inClass (topS 37) 0
abbrev s_Teller_told : Stmt := inClass (topS 37) 1
abbrev s_Teller_told_object : Stmt := inClass (topS 37) 2
abbrev s_Teller_fields_of : Stmt := inClass (topS 37) 3
abbrev s_Teller_field : Stmt := inClass (topS 37) 4
abbrev s_Teller_told_other : Stmt := inClass (topS 37) 5
abbrev s_Instance_init : Stmt := inClass (topS 40) 0
abbrev s_Frame_init : Stmt := inClass (topS 41) 0
abbrev s_Frame_again : Stmt := inClass (topS 41) 1
abbrev s_Late_init : Stmt := inClass (topS 42) 0
abbrev s_Kept_init : Stmt := inClass (topS 43) 0
abbrev s_CoreFun_init : Stmt := inClass (topS 44) 0
abbrev s_CoreTeller_init : Stmt := inClass (topS 45) 0
abbrev s_CoreTeller_fields_of : Stmt := inClass (topS 45) 1
abbrev s_CoreTeller_field : Stmt := inClass (topS 45) 2
abbrev s_CoreTeller_told_other : Stmt := inClass (topS 45) 3
abbrev s_work_own : Stmt := topS 47
abbrev s_work_unit : Stmt := topS 48
abbrev s_work_local : Stmt := topS 49
abbrev s_work_late : Stmt := topS 50
abbrev s_work_once : Stmt := topS 51
abbrev s_work_fun : Stmt := topS 52
abbrev s_work_single : Stmt := topS 53
abbrev s_read_kept : Stmt := topS 54
abbrev s_work_one : Stmt := topS 55
abbrev s_work_second : Stmt := topS 56
abbrev s_work_two : Stmt := topS 57
abbrev s_work_row : Stmt := topS 58
abbrev s_work_send : Stmt := topS 59
abbrev s_work_apply : Stmt := topS 60
abbrev s_end_slot : Stmt := topS 61
abbrev s_end_fill : Stmt := topS 62
abbrev s_end_send : Stmt := topS 63
abbrev s_end_direct : Stmt := topS 64
abbrev s_end_make : Stmt := topS 65
abbrev s_end_swap : Stmt := topS 66
abbrev s_end_leave : Stmt := topS 67
abbrev s_end_keep : Stmt := topS 68
abbrev s_end_now : Stmt := topS 69
abbrev s_end_first : Stmt := topS 70
abbrev s_end_apply : Stmt := topS 71
abbrev s_end_if : Stmt := topS 72
abbrev s_end_let : Stmt := topS 73
abbrev s_end_among : Stmt := topS 74
abbrev s_end_show : Stmt := topS 75
abbrev s_end_then : Stmt := topS 76
abbrev s_end_op : Stmt := topS 77
abbrev s_op_fits : Stmt := topS 78
abbrev s_end_stop : Stmt := topS 79
abbrev s_Machine_init : Stmt := inClass (topS 84) 0
abbrev s_Machine_outcome : Stmt := inClass (topS 84) 1
abbrev s_Machine_work : Stmt := inClass (topS 84) 2
abbrev s_Machine_add : Stmt := inClass (topS 84) 3
abbrev s_Machine_taken : Stmt := inClass (topS 84) 4
abbrev s_Machine_begin : Stmt := inClass (topS 84) 5
abbrev s_Machine_told : Stmt := inClass (topS 84) 6
abbrev s_Machine_slot_of : Stmt := inClass (topS 84) 7
abbrev s_Machine_instance : Stmt := inClass (topS 84) 8
abbrev s_need_count : Stmt := topS 91
abbrev s_need_core : Stmt := topS 93
abbrev s_run_core : Stmt := topS 94
abbrev s_begun_bodies : Stmt := topS 95
abbrev s__law_feed : Stmt := topS 97
abbrev s__law_draw : Stmt := topS 98
abbrev s__law_one : Stmt := topS 99
abbrev s__law_calls : Stmt := topS 100
abbrev s__law_c : Stmt := topS 101
abbrev s__law_core : Stmt := topS 102
abbrev s__law_step : Stmt := topS 103
abbrev s__law_enter : Stmt := topS 104
abbrev s__law_fresh : Stmt := topS 105
abbrev s__law_walk : Stmt := topS 106
abbrev s__law_right : Stmt := topS 107
abbrev s_law : Stmt := topS 108
end K9
end
section
set_option Elab.async false
set_option linter.all false
set_option maxRecDepth 100000
set_option maxHeartbeats 4000000
namespace K9
open PySem PySem.Spec PyProof.Rows L2
/-! the head's facts, as Bools of what is there -/
def d_is_integer : He.DefD := ⟨("is_integer", none), "is_integer", "is_integer", defArgs s_is_integer, defBody s_is_integer, defScope s_is_integer, [], []⟩
def d_is_number : He.DefD := ⟨("is_number", none), "is_number", "is_number", defArgs s_is_number, defBody s_is_number, defScope s_is_number, [], []⟩
def d_is_row : He.DefD := ⟨("is_row", none), "is_row", "is_row", defArgs s_is_row, defBody s_is_row, defScope s_is_row, [], []⟩
def d_is_text : He.DefD := ⟨("is_text", none), "is_text", "is_text", defArgs s_is_text, defBody s_is_text, defScope s_is_text, [], []⟩
def d_is_label : He.DefD := ⟨("is_label", none), "is_label", "is_label", defArgs s_is_label, defBody s_is_label, defScope s_is_label, [], []⟩
def d_are_ascending : He.DefD := ⟨("are_ascending", none), "are_ascending", "are_ascending", defArgs s_are_ascending, defBody s_are_ascending, defScope s_are_ascending, [], []⟩
def d_are_labels : He.DefD := ⟨("are_labels", none), "are_labels", "are_labels", defArgs s_are_labels, defBody s_are_labels, defScope s_are_labels, [], []⟩
def d_cs_in : He.DefD := ⟨("cs_in", none), "cs_in", "cs_in", defArgs s_cs_in, defBody s_cs_in, defScope s_cs_in, [], []⟩
def d_CoreForm_init : He.DefD := ⟨("CoreForm", some "__init__"), "__init__", "CoreForm.__init__", defArgs s_CoreForm_init, defBody s_CoreForm_init, defScope s_CoreForm_init, [], []⟩
def d_CoreForm_has_this : He.DefD := ⟨("CoreForm", some "has_this"), "has_this", "CoreForm.has_this", defArgs s_CoreForm_has_this, defBody s_CoreForm_has_this, defScope s_CoreForm_has_this, [], []⟩
def d_CoreForm_is_frame : He.DefD := ⟨("CoreForm", some "is_frame"), "is_frame", "CoreForm.is_frame", defArgs s_CoreForm_is_frame, defBody s_CoreForm_is_frame, defScope s_CoreForm_is_frame, [], []⟩
def d_CoreForm_is_single : He.DefD := ⟨("CoreForm", some "is_single"), "is_single", "CoreForm.is_single", defArgs s_CoreForm_is_single, defBody s_CoreForm_is_single, defScope s_CoreForm_is_single, [], []⟩
def d_CoreForm_are_rows : He.DefD := ⟨("CoreForm", some "are_rows"), "are_rows", "CoreForm.are_rows", defArgs s_CoreForm_are_rows, defBody s_CoreForm_are_rows, defScope s_CoreForm_are_rows, [], []⟩
def d_CoreForm_is_table : He.DefD := ⟨("CoreForm", some "is_table"), "is_table", "CoreForm.is_table", defArgs s_CoreForm_is_table, defBody s_CoreForm_is_table, defScope s_CoreForm_is_table, [], []⟩
def d_BodyForm_bound_by : He.DefD := ⟨("BodyForm", some "bound_by"), "bound_by", "BodyForm.bound_by", defArgs s_BodyForm_bound_by, defBody s_BodyForm_bound_by, defScope s_BodyForm_bound_by, [], []⟩
def d_BodyForm_binds : He.DefD := ⟨("BodyForm", some "binds"), "binds", "BodyForm.binds", defArgs s_BodyForm_binds, defBody s_BodyForm_binds, defScope s_BodyForm_binds, [], []⟩
def d_BodyForm_has_many : He.DefD := ⟨("BodyForm", some "has_many"), "has_many", "BodyForm.has_many", defArgs s_BodyForm_has_many, defBody s_BodyForm_has_many, defScope s_BodyForm_has_many, [], []⟩
def d_BodyForm_fits : He.DefD := ⟨("BodyForm", some "fits"), "fits", "BodyForm.fits", defArgs s_BodyForm_fits, defBody s_BodyForm_fits, defScope s_BodyForm_fits, [], []⟩
def d_BodyForm_init : He.DefD := ⟨("BodyForm", some "__init__"), "__init__", "BodyForm.__init__", defArgs s_BodyForm_init, defBody s_BodyForm_init, defScope s_BodyForm_init, [], []⟩
def d_BodyForm_add : He.DefD := ⟨("BodyForm", some "add"), "add", "BodyForm.add", defArgs s_BodyForm_add, defBody s_BodyForm_add, defScope s_BodyForm_add, [], []⟩
def d_BodyForm_is_c : He.DefD := ⟨("BodyForm", some "is_c"), "is_c", "BodyForm.is_c", defArgs s_BodyForm_is_c, defBody s_BodyForm_is_c, defScope s_BodyForm_is_c, [], []⟩
def d_BodyForm_holds : He.DefD := ⟨("BodyForm", some "holds"), "holds", "BodyForm.holds", defArgs s_BodyForm_holds, defBody s_BodyForm_holds, defScope s_BodyForm_holds, [], []⟩
def d_CoreForm_holds : He.DefD := ⟨("CoreForm", some "holds"), "holds", "CoreForm.holds", defArgs s_CoreForm_holds, defBody s_CoreForm_holds, defScope s_CoreForm_holds, [], []⟩
def d_is_core_form : He.DefD := ⟨("is_core_form", none), "is_core_form", "is_core_form", defArgs s_is_core_form, defBody s_is_core_form, defScope s_is_core_form, [], []⟩
def d_need_core : He.DefD := ⟨("need_core", none), "need_core", "need_core", defArgs s_need_core, defBody s_need_core, defScope s_need_core, [], []⟩
def d_need_count : He.DefD := ⟨("need_count", none), "need_count", "need_count", defArgs s_need_count, defBody s_need_count, defScope s_need_count, [], []⟩
def d_Frame_init : He.DefD := ⟨("Frame", some "__init__"), "__init__", "Frame.__init__", defArgs s_Frame_init, defBody s_Frame_init, defScope s_Frame_init, [], []⟩
def d_Kept_init : He.DefD := ⟨("Kept", some "__init__"), "__init__", "Kept.__init__", defArgs s_Kept_init, defBody s_Kept_init, defScope s_Kept_init, [], []⟩
def d_Instance_init : He.DefD := ⟨("Instance", some "__init__"), "__init__", "Instance.__init__", defArgs s_Instance_init, defBody s_Instance_init, defScope s_Instance_init, [], []⟩
def d_Machine_add : He.DefD := ⟨("Machine", some "add"), "add", "Machine.add", defArgs s_Machine_add, defBody s_Machine_add, defScope s_Machine_add, [], []⟩
def d_Machine_taken : He.DefD := ⟨("Machine", some "taken"), "taken", "Machine.taken", defArgs s_Machine_taken, defBody s_Machine_taken, defScope s_Machine_taken, [], []⟩
def d_Machine_instance : He.DefD := ⟨("Machine", some "instance"), "instance", "Machine.instance", defArgs s_Machine_instance, defBody s_Machine_instance, defScope s_Machine_instance, [], []⟩
def d_Machine_begin : He.DefD := ⟨("Machine", some "begin"), "begin", "Machine.begin", defArgs s_Machine_begin, defBody s_Machine_begin, defScope s_Machine_begin, [], []⟩
def d_work_unit : He.DefD := ⟨("work_unit", none), "work_unit", "work_unit", defArgs s_work_unit, defBody s_work_unit, defScope s_work_unit, [], []⟩
def d_work_local : He.DefD := ⟨("work_local", none), "work_local", "work_local", defArgs s_work_local, defBody s_work_local, defScope s_work_local, [], []⟩
def d_work_one : He.DefD := ⟨("work_one", none), "work_one", "work_one", defArgs s_work_one, defBody s_work_one, defScope s_work_one, [], []⟩
def d_work_row : He.DefD := ⟨("work_row", none), "work_row", "work_row", defArgs s_work_row, defBody s_work_row, defScope s_work_row, [], []⟩
def d_work_send : He.DefD := ⟨("work_send", none), "work_send", "work_send", defArgs s_work_send, defBody s_work_send, defScope s_work_send, [], []⟩
def d_end_leave : He.DefD := ⟨("end_leave", none), "end_leave", "end_leave", defArgs s_end_leave, defBody s_end_leave, defScope s_end_leave, [], []⟩
def d_end_swap : He.DefD := ⟨("end_swap", none), "end_swap", "end_swap", defArgs s_end_swap, defBody s_end_swap, defScope s_end_swap, [], []⟩
def d_end_then : He.DefD := ⟨("end_then", none), "end_then", "end_then", defArgs s_end_then, defBody s_end_then, defScope s_end_then, [], []⟩
def d_end_direct : He.DefD := ⟨("end_direct", none), "end_direct", "end_direct", defArgs s_end_direct, defBody s_end_direct, defScope s_end_direct, [], []⟩
def d_end_send : He.DefD := ⟨("end_send", none), "end_send", "end_send", defArgs s_end_send, defBody s_end_send, defScope s_end_send, [], []⟩
def d_read_kept : He.DefD := ⟨("read_kept", none), "read_kept", "read_kept", defArgs s_read_kept, defBody s_read_kept, defScope s_read_kept, [], []⟩
def d_work_single : He.DefD := ⟨("work_single", none), "work_single", "work_single", defArgs s_work_single, defBody s_work_single, defScope s_work_single, [], []⟩
def d_end_keep : He.DefD := ⟨("end_keep", none), "end_keep", "end_keep", defArgs s_end_keep, defBody s_end_keep, defScope s_end_keep, [], []⟩
def d_end_make : He.DefD := ⟨("end_make", none), "end_make", "end_make", defArgs s_end_make, defBody s_end_make, defScope s_end_make, [], []⟩
def d_Machine_work : He.DefD := ⟨("Machine", some "work"), "work", "Machine.work", defArgs s_Machine_work, defBody s_Machine_work, defScope s_Machine_work, [], []⟩
def d_Machine_init : He.DefD := ⟨("Machine", some "__init__"), "__init__", "Machine.__init__", defArgs s_Machine_init, defBody s_Machine_init, defScope s_Machine_init, [], []⟩
def d_Machine_outcome : He.DefD := ⟨("Machine", some "outcome"), "outcome", "Machine.outcome", defArgs s_Machine_outcome, defBody s_Machine_outcome, defScope s_Machine_outcome, [], []⟩
def d_run_core : He.DefD := ⟨("run_core", none), "run_core", "run_core", defArgs s_run_core, defBody s_run_core, defScope s_run_core, [], []⟩
def d_begun_bodies : He.DefD := ⟨("begun_bodies", none), "begun_bodies", "begun_bodies", defArgs s_begun_bodies, defBody s_begun_bodies, defScope s_begun_bodies, [], []⟩
def d_told_plain : He.DefD := ⟨("told_plain", none), "told_plain", "told_plain", defArgs s_told_plain, defBody s_told_plain, defScope s_told_plain, [], []⟩
def d_CoreTeller_told_other : He.DefD := ⟨("CoreTeller", some "told_other"), "told_other", "CoreTeller.told_other", defArgs s_CoreTeller_told_other, defBody s_CoreTeller_told_other, defScope s_CoreTeller_told_other, [], []⟩
def d_CoreTeller_fields_of : He.DefD := ⟨("CoreTeller", some "fields_of"), "fields_of", "CoreTeller.fields_of", defArgs s_CoreTeller_fields_of, defBody s_CoreTeller_fields_of, defScope s_CoreTeller_fields_of, [], []⟩
def d_Teller_told : He.DefD := ⟨("CoreTeller", some "told"), "told", "Teller.told", defArgs s_Teller_told, defBody s_Teller_told, defScope s_Teller_told, [], []⟩
def d_Machine_told : He.DefD := ⟨("Machine", some "told"), "told", "Machine.told", defArgs s_Machine_told, defBody s_Machine_told, defScope s_Machine_told, [], []⟩
def d_Teller_init : He.DefD := ⟨("Teller", some "__init__"), "__init__", "Teller.__init__", defArgs s_Teller_init, defBody s_Teller_init, defScope s_Teller_init, [], []⟩
def d_law_feed : He.DefD := ⟨("_law_feed", none), "_law_feed", "_law_feed", defArgs s__law_feed, defBody s__law_feed, defScope s__law_feed, [], []⟩
def d_law_draw : He.DefD := ⟨("_law_draw", none), "_law_draw", "_law_draw", defArgs s__law_draw, defBody s__law_draw, defScope s__law_draw, [], []⟩
def d_law_one : He.DefD := ⟨("_law_one", none), "_law_one", "_law_one", defArgs s__law_one, defBody s__law_one, defScope s__law_one, [], []⟩
def d_law_calls : He.DefD := ⟨("_law_calls", none), "_law_calls", "_law_calls", defArgs s__law_calls, defBody s__law_calls, defScope s__law_calls, [], []⟩
def d_law_c : He.DefD := ⟨("_law_c", none), "_law_c", "_law_c", defArgs s__law_c, defBody s__law_c, defScope s__law_c, [], []⟩
def d_law_core : He.DefD := ⟨("_law_core", none), "_law_core", "_law_core", defArgs s__law_core, defBody s__law_core, defScope s__law_core, [], []⟩
def d_law_step : He.DefD := ⟨("_law_step", none), "_law_step", "_law_step", defArgs s__law_step, defBody s__law_step, defScope s__law_step, [], []⟩
def d_law_enter : He.DefD := ⟨("_law_enter", none), "_law_enter", "_law_enter", defArgs s__law_enter, defBody s__law_enter, defScope s__law_enter, [], []⟩
def d_law_fresh : He.DefD := ⟨("_law_fresh", none), "_law_fresh", "_law_fresh", defArgs s__law_fresh, defBody s__law_fresh, defScope s__law_fresh, [], []⟩
def d_law_walk : He.DefD := ⟨("_law_walk", none), "_law_walk", "_law_walk", defArgs s__law_walk, defBody s__law_walk, defScope s__law_walk, [], []⟩
def d_law_right : He.DefD := ⟨("_law_right", none), "_law_right", "_law_right", defArgs s__law_right, defBody s__law_right, defScope s__law_right, [], []⟩
def d_law : He.DefD := ⟨("law", none), "law", "law", defArgs s_law, defBody s_law, defScope s_law, [], []⟩
def fn9_0 : List He.DefD := [d_is_integer, d_is_number, d_is_row, d_is_text, d_is_label, d_are_ascending, d_are_labels, d_cs_in, d_CoreForm_init, d_CoreForm_has_this, d_CoreForm_is_frame, d_CoreForm_is_single, d_CoreForm_are_rows, d_CoreForm_is_table, d_BodyForm_bound_by, d_BodyForm_binds]
def fn9_1 : List He.DefD := [d_BodyForm_has_many, d_BodyForm_fits, d_BodyForm_init, d_BodyForm_add, d_BodyForm_is_c, d_BodyForm_holds, d_CoreForm_holds, d_is_core_form, d_need_core, d_need_count, d_Frame_init, d_Kept_init, d_Instance_init, d_Machine_add, d_Machine_taken, d_Machine_instance]
def fn9_2 : List He.DefD := [d_Machine_begin, d_work_unit, d_work_local, d_work_one, d_work_row, d_work_send, d_end_leave, d_end_swap, d_end_then, d_end_direct, d_end_send, d_read_kept, d_work_single, d_end_keep, d_end_make, d_Machine_work]
def fn9_3 : List He.DefD := [d_Machine_init, d_Machine_outcome, d_run_core, d_begun_bodies, d_told_plain, d_CoreTeller_told_other, d_CoreTeller_fields_of, d_Teller_told, d_Machine_told, d_Teller_init, d_law_feed, d_law_draw, d_law_one, d_law_calls, d_law_c, d_law_core]
def fn9_4 : List He.DefD := [d_law_step, d_law_enter, d_law_fresh, d_law_walk, d_law_right, d_law]
def fn9 : List He.DefD := fn9_0 ++ (fn9_1 ++ (fn9_2 ++ (fn9_3 ++ (fn9_4))))
def globs9_0 : List (Str) := ["is_integer", "is_number", "is_row", "is_text", "is_label", "are_ascending", "are_labels", "cs_in", "is_core_form", "need_core", "need_count", "work_unit", "work_local", "work_one", "work_row", "work_send"]
def globs9_1 : List (Str) := ["end_leave", "end_swap", "end_then", "end_direct", "end_send", "read_kept", "work_single", "end_keep", "end_make", "run_core", "begun_bodies", "told_plain", "_law_feed", "_law_draw", "_law_one", "_law_calls"]
def globs9_2 : List (Str) := ["_law_c", "_law_core", "_law_step", "_law_enter", "_law_fresh", "_law_walk", "_law_right", "law", "CoreForm", "BodyForm", "Machine", "Instance", "Frame", "Kept", "CoreTeller", "Ended"]
def globs9_3 : List (Str) := ["Late", "CoreFun", "CFORMS", "BEGINS", "ENDS", "UNIT", "CLOSED", "OP_WORDS", "STOP_WORDS"]
def globs9 : List (Str) := globs9_0 ++ (globs9_1 ++ (globs9_2 ++ (globs9_3)))
def frees9 : List (Str) := ["isinstance", "int", "bool", "str", "tuple", "len", "all", "zip", "list", "reversed", "range", "max", "min", "sum", "super"]
def ints9 : List (Str × Int) := [("TABLES_MOST", 60), ("SINGLES_MOST", 60), ("BODIES_MOST", 600), ("LOCALS_MOST", 400), ("CS_DEEP", 240), ("TEXT_MOST_coreform", 80), ("TOLD_MOST", 200), ("OBJECTS_DEEP", 5), ("UNDER_WAY_MOST", 6000), ("CORE_MOST", 100000)]
def clss9 : List (Str) := ["CoreForm", "BodyForm", "Machine", "Instance", "Frame", "Kept", "CoreTeller"]
def noats9 : List (Str × List Str) := [("CoreForm", ["thing", "params"]), ("BodyForm", ["core", "params", "c", "total", "in_reach", "bound", "closed", "tasks"]), ("Machine", ["tables", "bodies", "singles", "main", "rows", "bound", "steps", "depth", "shown", "begun", "tasks", "worths", "once_worked"]), ("Instance", ["table", "slots"]), ("Frame", ["cells"]), ("Kept", ["label", "c", "frame", "state", "worth"]), ("CoreTeller", ["kept", "machine"])]
def meths9_0 : List (Str × Str) := [("CoreForm", "has_this"), ("CoreForm", "is_frame"), ("CoreForm", "is_single"), ("CoreForm", "are_rows"), ("CoreForm", "is_table"), ("BodyForm", "bound_by"), ("BodyForm", "binds"), ("BodyForm", "has_many"), ("BodyForm", "fits"), ("BodyForm", "add"), ("BodyForm", "is_c"), ("BodyForm", "holds"), ("CoreForm", "holds"), ("Machine", "add"), ("Machine", "taken"), ("Machine", "instance")]
def meths9_1 : List (Str × Str) := [("Machine", "begin"), ("Machine", "work"), ("Machine", "outcome"), ("CoreTeller", "told_other"), ("CoreTeller", "fields_of"), ("Machine", "told"), ("CoreTeller", "told")]
def meths9 : List (Str × Str) := meths9_0 ++ (meths9_1)
def ks_CFORMS_0 : List (Str) := ["int", "text", "truth", "unit", "local", "slot", "fill", "send", "direct", "make", "single", "late", "now", "once", "first", "fun"]
def ks_CFORMS_1 : List (Str) := ["apply", "if", "let", "among", "show", "then", "op", "stop"]
def ks_CFORMS : List (Str) := ks_CFORMS_0 ++ (ks_CFORMS_1)
def ks_BEGINS_0 : List (Str) := ["int", "text", "truth", "unit", "local", "slot", "fill", "send", "direct", "make", "single", "late", "now", "once", "first", "fun"]
def ks_BEGINS_1 : List (Str) := ["apply", "if", "let", "among", "show", "then", "op", "stop"]
def ks_BEGINS : List (Str) := ks_BEGINS_0 ++ (ks_BEGINS_1)
def ks_ENDS_0 : List (Str) := ["slot", "fill", "send", "direct", "make", "swap", "leave", "keep", "now", "first", "apply", "if", "let", "among", "show", "then"]
def ks_ENDS_1 : List (Str) := ["op", "stop"]
def ks_ENDS : List (Str) := ks_ENDS_0 ++ (ks_ENDS_1)
def vs_BEGINS : List (Str × He.Dv) := [("unit", .glo "work_unit"), ("local", .glo "work_local"), ("slot", .glo "work_one"), ("send", .glo "work_send"), ("direct", .glo "work_row"), ("make", .glo "work_row"), ("single", .glo "work_single"), ("now", .glo "work_one"), ("first", .glo "work_one"), ("if", .glo "work_one"), ("among", .glo "work_one"), ("show", .glo "work_one"), ("then", .glo "work_one")]
def vs_ENDS : List (Str × He.Dv) := [("send", .glo "end_send"), ("direct", .glo "end_direct"), ("make", .glo "end_make"), ("swap", .glo "end_swap"), ("leave", .glo "end_leave"), ("keep", .glo "end_keep"), ("then", .glo "end_then")]
def ts9 : List He.Tab := [(fun K => He.ga K "CFORMS", ks_CFORMS), (fun K => He.ga K "BEGINS", ks_BEGINS), (fun K => He.ga K "ENDS", ks_ENDS)]

abbrev P9 : Program := PySem.Challenge.rw_linearmix_k69_bodies_begun.prog
def reps9 : List (Str × List Str) := [("unit", []), ("local", ["local"]), ("then", ["c", "c"]), ("direct", ["body", "cs"]), ("send", ["c", "selector", "cs"]), ("make", ["table", "cs"]), ("single", ["single"])]
def tupAtB (K : PySem.W.Frag) (a : Addr) (vs : List V) : Bool := match K.lookup a with
  | some ⟨.type c, _, .seq its _, _⟩ => decide (c = "tuple") && (decide (its.size ≤ sizeLine) && He.relAll vs its.toList)
  | _ => false
def formB (K : PySem.W.Frag) (d : Addr) (c : Str × List Str) : Bool := match PySem.W.nsIn K d c.1 with
  | some (some (.ref a)) => tupAtB K a (c.2.map V.str)
  | _ => false
/-- an own error over Exception -/
def excEB (K : PySem.W.Frag) (C : Addr) : Bool := match K.lookup C with
  | some ⟨.type "type", _, .cls cd, sl⟩ => (match cd.mro, sl.toList with
    | .ref C' :: bm, [_, _, _, _, some (.builtin n), _] => C' == C && n == "Exception.__new__" && !cd.hasDel && cd.hasDict && decide (bm = PySem.ESX.exTail)
    | _, _ => false)
  | _ => false
/-- a def with the cell of its class -/
def fileB (K : PySem.W.Frag) (cda : Addr) : Bool := match K.lookup cda with
  | some ⟨_, _, .fields vs, _⟩ => (match (vs[2]? : Option Value) with
    | some (.str file _) => (P9.main.file : Str) == file
    | _ => false)
  | _ => false
def clsB (K : PySem.W.Frag) (cc C : Addr) : Bool := match K.lookup cc with
  | some ⟨_, _, .cell (some (.ref C')), _⟩ => decide (C' = C)
  | _ => false
def cellV (K : PySem.W.Frag) (C : Addr) (q : Str) : Value → List (Str × Addr) → Bool
  | .ref cda, [(x, cc)] => decide (x = "__class__") && (PySem.W.codeIn K (.ref cda) q && (fileB K cda && clsB K cc C))
  | _, _ => false
def cellB (K : PySem.W.Frag) (f C : Addr) (q : Str) : Bool := match K.lookup f with
  | some ⟨_, _, .func fd, _⟩ => cellV K C q fd.code fd.closure
  | _ => false
abbrev FcV : Type := Option (Str × Str × Arguments × FuncBody × Scope × Addr × Value × Addr)
def fcOf (K : PySem.W.Frag) (f : Addr) : FcV := match K.lookup f with
  | some ⟨_, _, .func fd, _⟩ => some (fd.name, fd.qualname, fd.params, fd.body, fd.scope, fd.globals, fd.defaults, fd.builtins)
  | _ => none
def fcVal (qual : Str) (st : Stmt) : FcV := some ("__init__", qual, defArgs st, .stmts (defBody st), defScope st, mainGlobals, .none, builtinsNs)
def exE9 (K : PySem.W.Frag) : Bool := let E := He.ga K "Ended"; let fI := He.ma K E "__init__"
  excEB K E && (He.eqO (PySem.W.findIn K (.ref E) "__setattr__") (some (some (.builtin "object.__setattr__"))) && (He.eqO (PySem.W.findIn K (.ref E) "word") (some none) && (He.eqO (PySem.W.findIn K (.ref E) "text") (some none) && (He.eqO (PySem.W.findIn K (.ref E) "__init__") (some (some (.ref fI))) &&
  (decide (PySem.W.typeIn K (.ref fI) = some (.type "function")) && (PySem.W.keepIn K (.ref E) && (cellB K fI E "Ended.__init__" && (decide (PySem.W.ks_superIn K E E "__init__" = some (some (.builtin "Exception.__init__"))) && (decide (PySem.W.subIn K (.ref E) (.type "Exception") = some true) &&
  (decide (PySem.W.mroIn K E (.ref E) = some true) && (decide (PySem.W.nsIn K PySem.cStatics "thirdparty.any" = some none) && (xfB K E && (decide (PySem.W.typeIn K (.ref E) = some (.type "type")) && decide (PySem.W.exmOne K (.ref E) (.ref E) = some true))))))))))))))
def exC9 (K : PySem.W.Frag) : Bool := let C := He.ga K "CoreTeller"; let f := He.ma K C "__init__"; let fT := He.ma K (He.ga K "Teller") "__init__"
  cellB K f C "CoreTeller.__init__" && (decide (PySem.W.ks_superIn K C C "__init__" = some (some (.ref fT))) && (decide (PySem.W.mroIn K C (.ref C) = some true) && (decide (PySem.W.typeIn K (.ref fT) = some (.type "function")) && PySem.W.fnIn K fT)))
def exI9 (K : PySem.W.Frag) : Bool := let I := He.ga K "Instance"
  He.eqO (PySem.W.findIn K (.ref I) "__class__") (some (some (.builtin "object.__class__"))) && (He.eqO (PySem.W.specialIn K (.builtin "object.__class__") "__get__") (some (some (.builtin "getset_descriptor.__get__"))) && (decide (PySem.W.takesIn K (.builtin "object.__class__") = some true) && (decide (PySem.W.mroIn K I (.type "object") = some true) &&
  (decide (PySem.W.kitOne K (.type "tuple") (.ref I) = some false) && (decide (PySem.W.kitAny K (.type "tuple") [.ref (He.ga K "Late"), .ref (He.ga K "Kept")] = some false) && decide (PySem.W.kitOne K (.type "tuple") (.ref (He.ga K "CoreFun")) = some false))))))
def exT9 (K : PySem.W.Frag) : Bool := tupAtB K (He.ga K "UNIT") [] && (tupAtB K (He.ga K "CLOSED") [.str "late", .str "once", .str "fun"] && ((reps9.all fun c => formB K (He.ga K "CFORMS") c) && (He.valsB K (He.ga K "BEGINS") vs_BEGINS && He.valsB K (He.ga K "ENDS") vs_ENDS)))
def exL9 (K : PySem.W.Frag) : Bool := (globs9.all fun x => (He.Fa.glo x).ok K) && ((frees9.all fun x => (He.Fa.free x).ok K) && ((ints9.all fun p => (He.Fa.int p.1 p.2).ok K) && ((clss9.all fun x => (He.Fa.cls x).ok K && (He.Fa.mkr x).ok K) && ((noats9.all fun p => p.2.all fun f => (He.Fa.noat p.1 f).ok K) && (meths9.all fun p => (He.Fa.meth p.1 p.2).ok K)))))
def ex9 (K : PySem.W.Frag) : Bool := exT9 K && (exI9 K && (exC9 K && exE9 K))
/-! the Hook -/
def as9_0 : List Addr := [2, 3, 6, 4, 21, 22, 54, 55, 56, 57, 64, 71, 76, 83, 88, 93, 146, 208, 219, 238, 242, 249, 256, 263, 270, 277, 327, 341, 361, 389, 410, 431, 452, 496, 505, 512, 519, 526, 533, 540]
def as9_1 : List Addr := [547, 554, 561, 568, 575, 580, 585, 590, 597, 604, 611, 618, 625, 632, 639, 646, 653, 660, 667, 674, 681, 688, 695, 702, 707, 714, 721, 722, 724, 796, 810, 823, 835, 844, 851, 858, 865, 872, 879, 886]
def as9_2 : List Addr := [893, 900, 905, 912, 919, 926, 933, 938, 945, 0, 20, 23, 24, 25, 26, 27, 28, 29, 30, 31, 32, 33, 34, 35, 36, 37, 38, 39, 41, 42, 43, 44, 45, 46, 47, 53, 63, 70, 75, 82]
def as9_3 : List Addr := [87, 92, 145, 207, 218, 237, 248, 255, 262, 269, 276, 326, 340, 360, 388, 409, 430, 451, 495, 504, 511, 518, 525, 532, 539, 546, 553, 560, 567, 574, 579, 584, 589, 596, 603, 610, 617, 624, 631, 638]
def as9_4 : List Addr := [645, 652, 659, 666, 673, 680, 687, 694, 701, 706, 713, 720, 795, 809, 822, 834, 843, 850, 857, 864, 871, 878, 885, 892, 899, 904, 911, 918, 925, 932, 937, 944, 15, 16, 17, 18, 19, 48, 49, 50]
def as9_5 : List Addr := [51, 52, 58, 59, 60, 61, 62, 65, 66, 67, 68, 69, 72, 73, 74, 77, 78, 79, 80, 81, 84, 85, 86, 89, 90, 91, 107, 112, 119, 126, 133, 138, 143, 144, 147, 148, 162, 169, 174, 179]
def as9_6 : List Addr := [186, 193, 200, 205, 206, 209, 210, 213, 214, 215, 216, 217, 235, 236, 239, 243, 244, 245, 246, 247, 250, 251, 252, 253, 254, 257, 258, 259, 260, 261, 264, 265, 266, 267, 268, 271, 272, 273, 274, 275]
def as9_7 : List Addr := [291, 298, 303, 310, 317, 324, 325, 328, 329, 339, 342, 358, 359, 362, 363, 379, 386, 387, 390, 391, 407, 408, 411, 412, 428, 429, 432, 433, 449, 450, 453, 454, 472, 479, 486, 493, 494, 499, 500, 501]
def as9_8 : List Addr := [502, 503, 506, 507, 508, 509, 510, 513, 514, 515, 516, 517, 520, 521, 522, 523, 524, 527, 528, 529, 530, 531, 534, 535, 536, 537, 538, 541, 542, 543, 544, 545, 548, 549, 550, 551, 552, 555, 556, 557]
def as9_9 : List Addr := [558, 559, 562, 563, 564, 565, 566, 569, 570, 571, 572, 573, 576, 577, 578, 581, 582, 583, 586, 587, 588, 591, 592, 593, 594, 595, 598, 599, 600, 601, 602, 605, 606, 607, 608, 609, 612, 613, 614, 615]
def as9_10 : List Addr := [616, 619, 620, 621, 622, 623, 626, 627, 628, 629, 630, 633, 634, 635, 636, 637, 640, 641, 642, 643, 644, 647, 648, 649, 650, 651, 654, 655, 656, 657, 658, 661, 662, 663, 664, 665, 668, 669, 670, 671]
def as9_11 : List Addr := [672, 675, 676, 677, 678, 679, 682, 683, 684, 685, 686, 689, 690, 691, 692, 693, 696, 697, 698, 699, 700, 703, 704, 705, 708, 709, 710, 711, 712, 715, 716, 717, 718, 719, 737, 744, 751, 758, 765, 772]
def as9_12 : List Addr := [779, 786, 793, 794, 797, 798, 808, 811, 821, 833, 838, 839, 840, 841, 842, 845, 846, 847, 848, 849, 852, 853, 854, 855, 856, 859, 860, 861, 862, 863, 866, 867, 868, 869, 870, 873, 874, 875, 876, 877]
def as9_13 : List Addr := [880, 881, 882, 883, 884, 887, 888, 889, 890, 891, 894, 895, 896, 897, 898, 901, 902, 903, 906, 907, 908, 909, 910, 913, 914, 915, 916, 917, 920, 921, 922, 923, 924, 927, 928, 929, 930, 931, 934, 935]
def as9_14 : List Addr := [936, 939, 940, 941, 942, 943, 106, 111, 118, 125, 132, 137, 142, 161, 168, 173, 178, 185, 192, 199, 204, 234, 223, 290, 297, 302, 309, 316, 323, 357, 378, 385, 406, 427, 448, 471, 460, 478, 485, 492]
def as9_15 : List Addr := [736, 743, 750, 757, 764, 771, 778, 785, 792, 101, 102, 103, 104, 105, 108, 109, 110, 113, 114, 115, 116, 117, 120, 121, 122, 123, 124, 127, 128, 129, 130, 131, 134, 135, 136, 139, 140, 141, 158, 159]
def as9_16 : List Addr := [160, 163, 164, 165, 166, 167, 170, 171, 172, 175, 176, 177, 180, 181, 182, 183, 184, 187, 188, 189, 190, 191, 194, 195, 196, 197, 198, 201, 202, 203, 229, 230, 231, 232, 233, 285, 286, 287, 288, 289]
def as9_17 : List Addr := [292, 293, 294, 295, 296, 299, 300, 301, 304, 305, 306, 307, 308, 311, 312, 313, 314, 315, 318, 319, 320, 321, 322, 352, 353, 354, 355, 356, 373, 374, 375, 376, 377, 380, 381, 382, 383, 384, 401, 402]
def as9_18 : List Addr := [403, 404, 405, 422, 423, 424, 425, 426, 443, 444, 445, 446, 447, 466, 467, 468, 469, 470, 473, 474, 475, 476, 477, 480, 481, 482, 483, 484, 487, 488, 489, 490, 491, 733, 734, 735, 738, 739, 740, 741]
def as9_19 : List Addr := [742, 745, 746, 747, 748, 749, 752, 753, 754, 755, 756, 759, 760, 761, 762, 763, 766, 767, 768, 769, 770, 773, 774, 775, 776, 777, 780, 781, 782, 783, 784, 787, 788, 789, 790, 791]
def as9 : List Addr := as9_0 ++ (as9_1 ++ (as9_2 ++ (as9_3 ++ (as9_4 ++ (as9_5 ++ (as9_6 ++ (as9_7 ++ (as9_8 ++ (as9_9 ++ (as9_10 ++ (as9_11 ++ (as9_12 ++ (as9_13 ++ (as9_14 ++ (as9_15 ++ (as9_16 ++ (as9_17 ++ (as9_18 ++ (as9_19)))))))))))))))))))
def fr9 (g : Addr → Option Obj) : PySem.W.Frag := He.frT g as9
def fE9 (K : PySem.W.Frag) : Addr := He.ma K (He.ga K "Ended") "__init__"
def fC9 (K : PySem.W.Frag) : Addr := He.ma K (He.ga K "CoreTeller") "__init__"
abbrev AlA : Type := He.AlT × FcV × FcV
abbrev Al9 : Type := AlA × Bool × Bool
def obsA9 (K : PySem.W.Frag) : AlA := (He.obsT [] fn9 ts9 K, fcOf K (fE9 K), fcOf K (fC9 K))
def valA9 (w : World) : AlA := (He.valT fn9 ts9 w, fcVal "Ended.__init__" s_Ended_init, fcVal "CoreTeller.__init__" s_CoreTeller_init)
def obsK9 (K : PySem.W.Frag) : Al9 := (obsA9 K, exL9 K, ex9 K)
def obs9 (g : Addr → Option Obj) : Al9 := obsK9 (fr9 g)
def val9 (w : World) : Al9 := (valA9 w, true, true)
structure Says9 (w : World) (K : PySem.W.Frag) : Prop where
  t : He.SaysT [] fn9 ts9 w K
  exL : exL9 K = true
  ex : ex9 K = true
  fE : fcOf K (fE9 K) = fcVal "Ended.__init__" s_Ended_init
  fC : fcOf K (fC9 K) = fcVal "CoreTeller.__init__" s_CoreTeller_init
theorem says9_of {w : World} {K : PySem.W.Frag} (e : obsK9 K = val9 w) : Says9 w K :=
  ⟨congrArg (fun z : Al9 => z.1.1) e, congrArg (fun z : Al9 => z.2.1) e, congrArg (fun z : Al9 => z.2.2) e, congrArg (fun z : Al9 => z.1.2.1) e, congrArg (fun z : Al9 => z.1.2.2) e⟩
def hook9 : PySem.W.Hook where
  α := Al9
  obs := fun s => obs9 s.heap.get?
  val := fun w => val9 w
  says := fun w h => ∃ K : PySem.W.Frag, K.In h ∧ Says9 w K
  of := fun _ _ e => ⟨_, He.frT_in, says9_of e⟩
  keeps := fun _ _ _ ⟨K, hK, c⟩ k => ⟨K, PySem.W.Frag.In.keeps hK k, c⟩
theorem obs9_eq {g : Addr → Option Obj} {s : Shared} (h : ∀ a, g a = s.heap.get? a) : obs9 g = hook9.obs s := by
  have e : g = s.heap.get? := funext h
  rw [e] <;> rfl
end K9
end
section
set_option Elab.async false
set_option linter.all false
set_option maxRecDepth 100000
set_option maxHeartbeats 0
namespace K9
open PySem PySem.W PySem.Calls PyProof.Rows
abbrev R9 : OpenRow := OpenLaw.row PySem.Challenge.rw_linearmix_k69_bodies_begun
abbrev qv9 : Program := view R9.prog [108]
def nm9_0 : List PySem.Str := ["__name__", "is_integer", "CFORMS", "cs_in", "TABLES_MOST", "SINGLES_MOST", "BODIES_MOST", "LOCALS_MOST", "CS_DEEP", "TEXT_MOST_coreform", "OP_WORDS", "STOP_WORDS", "CLOSED", "is_number", "is_label", "is_text"]
def nm9_1 : List PySem.Str := ["is_row", "are_ascending", "are_labels", "CoreForm", "BodyForm", "is_core_form", "Ended", "UNIT", "TOLD_MOST", "TEXT_MOST_things", "INTEGER_MOST", "OBJECTS_DEEP", "sort_of", "are_equal", "bounded", "op_worth"]
def nm9_2 : List PySem.Str := ["told_plain", "Teller", "Stuck", "Instance", "Frame", "Late", "Kept", "CoreFun", "CoreTeller", "work_own", "work_unit", "work_local", "work_late", "work_once", "work_fun", "work_single"]
def nm9_3 : List PySem.Str := ["read_kept", "work_one", "work_second", "work_two", "work_row", "work_send", "work_apply", "end_slot", "end_fill", "end_send", "end_direct", "end_make", "end_swap", "end_leave", "end_keep", "end_now"]
def nm9_4 : List PySem.Str := ["end_first", "end_apply", "end_if", "end_let", "end_among", "end_show", "end_then", "end_op", "op_fits", "end_stop", "BEGINS", "ENDS", "UNDER_WAY_MOST", "Machine", "MixError", "BadCount"]
def nm9_5 : List PySem.Str := ["BadCore", "CORE_MOST", "need_count", "need_core", "run_core", "begun_bodies", "_law_feed", "_law_draw", "_law_one", "_law_calls", "_law_c", "_law_core", "_law_step", "_law_enter", "_law_fresh", "_law_walk"]
def nm9_6 : List PySem.Str := ["_law_right"]
def names9 : List PySem.Str := nm9_0 ++ nm9_1 ++ nm9_2 ++ nm9_3 ++ nm9_4 ++ nm9_5 ++ nm9_6
def ob9 (s : SharedT) : Al9 := obs9 (HandSHeadRun.getT s)
theorem ob9_eq (s : SharedT) : ob9 s = hook9.obs s.abs := obs9_eq (HandSHeadRun.getT_eq s)
/-- the run's end -/
noncomputable abbrev end9 (w : World) (os : OsState) : Option SharedT := HandSHeadRun.endF (HandSHeadRun.stepQ (HandSHeadRun.denQ HandSHeadRun.tabQ) R9.prog w) 20000 R9.prog w os
theorem runFA9 (w : World) (os : OsState) : (end9 (w.withFollow "special-get-raises" false) os).map (fun s => (HandSHeadRun.looksF R9.prog (boot_heap (w.withFollow "special-get-raises" false).params) s.abs, HandSHeadRun.seenQ qv9 names9 (importedModules R9.prog.main.body) (fun s => xlAt qv9 [] s && recOk R9.toRowW.records s) s.abs)) = some (true, openGood qv9 names9) := by
  kernel_rfl
theorem runFD9 (w : World) (os : OsState) : (end9 (w.withFollow "special-get-raises" false) os).map (fun s => (obsA9 (fr9 (HandSHeadRun.getT s))).1.1.1) = some true := by
  kernel_rfl
theorem runFE9 (w : World) (os : OsState) : (end9 (w.withFollow "special-get-raises" false) os).map (fun s => (obsA9 (fr9 (HandSHeadRun.getT s))).1.1.2) = some (fn9.map He.DefD.val) := by
  kernel_rfl
theorem runFG9 (w : World) (os : OsState) : (end9 (w.withFollow "special-get-raises" false) os).map (fun s => ((obsA9 (fr9 (HandSHeadRun.getT s))).1.2, (obsA9 (fr9 (HandSHeadRun.getT s))).2)) = some ((valA9 (w.withFollow "special-get-raises" false)).1.2, (valA9 (w.withFollow "special-get-raises" false)).2) := by
  kernel_rfl
theorem runFB9 (w : World) (os : OsState) : (end9 (w.withFollow "special-get-raises" false) os).map (fun s => exL9 (fr9 (HandSHeadRun.getT s))) = some true := by
  kernel_rfl
theorem runFC9 (w : World) (os : OsState) : (end9 (w.withFollow "special-get-raises" false) os).map (fun s => ex9 (fr9 (HandSHeadRun.getT s))) = some true := by
  kernel_rfl
theorem runTA9 (w : World) (os : OsState) : (end9 (w.withFollow "special-get-raises" true) os).map (fun s => (HandSHeadRun.looksF R9.prog (boot_heap (w.withFollow "special-get-raises" true).params) s.abs, HandSHeadRun.seenQ qv9 names9 (importedModules R9.prog.main.body) (fun s => xlAt qv9 [] s && recOk R9.toRowW.records s) s.abs)) = some (true, openGood qv9 names9) := by
  kernel_rfl
theorem runTD9 (w : World) (os : OsState) : (end9 (w.withFollow "special-get-raises" true) os).map (fun s => (obsA9 (fr9 (HandSHeadRun.getT s))).1.1.1) = some true := by
  kernel_rfl
theorem runTE9 (w : World) (os : OsState) : (end9 (w.withFollow "special-get-raises" true) os).map (fun s => (obsA9 (fr9 (HandSHeadRun.getT s))).1.1.2) = some (fn9.map He.DefD.val) := by
  kernel_rfl
theorem runTG9 (w : World) (os : OsState) : (end9 (w.withFollow "special-get-raises" true) os).map (fun s => ((obsA9 (fr9 (HandSHeadRun.getT s))).1.2, (obsA9 (fr9 (HandSHeadRun.getT s))).2)) = some ((valA9 (w.withFollow "special-get-raises" true)).1.2, (valA9 (w.withFollow "special-get-raises" true)).2) := by
  kernel_rfl
theorem runTB9 (w : World) (os : OsState) : (end9 (w.withFollow "special-get-raises" true) os).map (fun s => exL9 (fr9 (HandSHeadRun.getT s))) = some true := by
  kernel_rfl
theorem runTC9 (w : World) (os : OsState) : (end9 (w.withFollow "special-get-raises" true) os).map (fun s => ex9 (fr9 (HandSHeadRun.getT s))) = some true := by
  kernel_rfl
theorem run_join {w : World} {os : OsState} (a : (end9 w os).map (fun s => (HandSHeadRun.looksF R9.prog (boot_heap w.params) s.abs, HandSHeadRun.seenQ qv9 names9 (importedModules R9.prog.main.body) (fun s => xlAt qv9 [] s && recOk R9.toRowW.records s) s.abs)) = some (true, openGood qv9 names9))
    (d : (end9 w os).map (fun s => (obsA9 (fr9 (HandSHeadRun.getT s))).1.1.1) = some true) (e : (end9 w os).map (fun s => (obsA9 (fr9 (HandSHeadRun.getT s))).1.1.2) = some (fn9.map He.DefD.val)) (g : (end9 w os).map (fun s => ((obsA9 (fr9 (HandSHeadRun.getT s))).1.2, (obsA9 (fr9 (HandSHeadRun.getT s))).2)) = some ((valA9 w).1.2, (valA9 w).2)) (b : (end9 w os).map (fun s => exL9 (fr9 (HandSHeadRun.getT s))) = some true) (c : (end9 w os).map (fun s => ex9 (fr9 (HandSHeadRun.getT s))) = some true) :
    (end9 w os).map (fun s => (HandSHeadRun.looksF R9.prog (boot_heap w.params) s.abs, HandSHeadRun.seenQ qv9 names9 (importedModules R9.prog.main.body) (fun s => xlAt qv9 [] s && recOk R9.toRowW.records s) s.abs, ob9 s)) = some (true, openGood qv9 names9, hook9.val w) := by
  generalize end9 w os = o at a b c d e g
  cases o with
  | none => cases a
  | some s =>
    have a1 := Option.some.inj a
    have b1 := Option.some.inj b
    have c1 := Option.some.inj c
    have d1 := Option.some.inj d
    have e1 := Option.some.inj e
    have g1 := Option.some.inj g
    refine congrArg some ?_
    refine Prod.ext (congrArg (fun z => z.1) a1) (Prod.ext (congrArg (fun z => z.2) a1) ?_)
    exact Prod.ext (Prod.ext (Prod.ext (Prod.ext d1 e1) (congrArg (fun z => z.1) g1)) (congrArg (fun z => z.2) g1)) (Prod.ext b1 c1)
theorem runF9 (w : World) : HandSHeadRun.RunEq R9 qv9 hook9 ob9 20000 names9 (w.withFollow "special-get-raises" false) := fun os => run_join (runFA9 w os) (runFD9 w os) (runFE9 w os) (runFG9 w os) (runFB9 w os) (runFC9 w os)
theorem runT9 (w : World) : HandSHeadRun.RunEq R9 qv9 hook9 ob9 20000 names9 (w.withFollow "special-get-raises" true) := fun os => run_join (runTA9 w os) (runTD9 w os) (runTE9 w os) (runTG9 w os) (runTB9 w os) (runTC9 w os)
theorem run9 (w : World) : HandSHeadRun.RunEq R9 qv9 hook9 ob9 20000 names9 w := byRow2 "special-get-raises" (P := HandSHeadRun.RunEq R9 qv9 hook9 ob9 20000 names9) runF9 runT9 w
end K9
end
section
set_option Elab.async false
set_option linter.all false
set_option maxRecDepth 100000
set_option maxHeartbeats 2000000
namespace PySem
open PySem.Spec PyProof.Rows
/-- the sign of a value within a tuple: some text of at most n signs, nothing made that lasts -/
def KrB (prog : Program) (w : World) (h : Heap) (d : Nat) (x : Value) (n : Nat) : Prop :=
  ∀ (b : Nat), b + n ≤ sizeLine → ∀ (A : Around) (E : Value → Shared → Prop) (s : Shared) (Q : Str → Shared → Prop), (∀ b o, h.get? b = some o → s.heap.get? b = some o) → A.units + d < cLine →
    (∀ (m : Str) (tk : Tok), m.length ≤ n → Q m { s with toks := tk }) → wpAny (model prog w) A (pyReprUnder b x) Q E s
inductive KrAll (prog : Program) (w : World) (h : Heap) (d : Nat) : List Value → Nat → Prop
  | nil : KrAll prog w h d [] 0
  | cons {x : Value} {n N : Nat} {l : List Value} : KrB prog w h d x n → KrAll prog w h d l N → KrAll prog w h d (x :: l) (n + 2 + N)
section
variable {prog : Program} {w : World} {A : Around} {E : Value → Shared → Prop} {s : Shared} {h : Heap} {d : Nat}
theorem KrB.of_is {x : Value} {t : Str} {n : Nat} (i : ReprIs prog w x t) (hn : t.length ≤ n) : KrB prog w h d x n :=
  fun b hb A E s Q _ _ q => i b (by omega) A E s Q fun tk => q t tk hn
theorem kr_fold : ∀ (l : List Value) (N : Nat) (acc : Array Str) (n : Nat) (A : Around) (s : Shared) (Q : (Array Str × Nat) → Shared → Prop), KrAll prog w h d l N → n + N ≤ sizeLine → (∀ b o, h.get? b = some o → s.heap.get? b = some o) → A.units + d < cLine →
    (∀ (ts : List Str) tk, ts.length = l.length → piled ts ≤ N → Q ⟨acc ++ ts.toArray, n + piled ts⟩ { s with toks := tk }) → wpAny (model prog w) A (forIn l (⟨acc, n⟩ : (Array Str × Nat)) tupBody) Q E s := by
  intro l
  induction l with
  | nil =>
    intro N acc n A s Q hT _ _ _ q
    have h0 := q [] s.toks rfl (Nat.zero_le _)
    simp only [List.forIn_nil]
    exact wpAny_pure (by simpa [piled] using h0)
  | cons x l ih =>
    intro N acc n A s Q hT hn hh hu q
    cases hT with
    | cons hx hl =>
      rename_i n0 N0
      rw [List.forIn_cons]
      refine wpAny_bind (wpAny_bind (hx (n + 1) (by omega) _ _ _ _ hh hu fun t tk ht => wpAny_pure ?_))
      refine ih N0 (acc.push t) (n + (t.length + 2)) A _ Q hl (by omega) hh hu fun ts tk' h1 h2 => ?_
      have h3 := q (t :: ts) tk' (by rw [List.length_cons, List.length_cons, h1]) (by rw [piled_cons]; omega)
      have e : n + piled (t :: ts) = n + (t.length + 2) + piled ts := by rw [piled_cons]; omega
      rw [e] at h3
      simpa using h3
theorem kr_rest {a : Addr} {o : Obj} {items : Array Value} {n b N : Nat} {Q : Fin → Shared → Prop} (hh : ∀ b o, h.get? b = some o → s.heap.get? b = some o) (hu : A.units + d < cLine) (ha : h.get? a = some o) (hd : o.data = .seq items n)
    (hT : KrAll prog w h d items.toList N) (q : ∀ (m : Str) u tk, m.length ≤ N + 2 → Q (.done (.ret (.str m u))) { s with toks := tk }) (hsz : b + N + 2 ≤ sizeLine) :
    wpAny (model prog w) A (tupleReprRest b (.ref a)) Q E s := by
  unfold tupleReprRest Builtin.Tuple.tupleItemsOf
  refine wpAny_bind (wpAny_bind (wpAny_seqItems (hh _ _ ha) hd (wpAny_pure ?_)))
  rw [← Array.forIn_toList]
  refine wpAny_bind (kr_fold _ N _ _ _ _ _ hT (by omega) hh hu fun ts tk hl hp => ?_)
  have hlen : ts.length = items.size := by simpa using hl
  have hx := fmt_text ts
  refine wpAny_bind (wpAny_mkStr (wpAny_pure ?_) ?_)
  · have h1 := q (tupleText ts) tk (tk + 1) (by omega)
    simpa [tupleText, hlen] using h1
  · have h2 : (tupleText ts).length ≤ sizeLine := by omega
    simpa [tupleText, hlen] using h2
theorem KrB.tuple {a : Addr} {o : Obj} {items : Array Value} {n N : Nat} (ha : h.get? a = some o) (hc : o.cls = .type "tuple") (hd : o.data = .seq items n) (hT : KrAll prog w h d items.toList N) :
    KrB prog w h (d + 1) (.ref a) (N + 7) := by
  intro b hb A E s Q hh hu q
  have ht : s.TypeIs (.ref a) "tuple" := ⟨o, hh _ _ ha, hc⟩
  refine wpAny_pyReprUnder_ref (by omega) (wpAny_pyReprObjUnder_twin (twin := "tuple.__repr__.under") ht F.slot_tuple_repr rfl (by omega) ?_)
  refine call_twin_own (F.quiet_tuple_repr_under _) F.entry_tuple_repr_under F.check_tuple_repr_under ht F.slot_tuple_repr (F.args_tuple_repr_1 _) (wpOwn_of_wpAny ?_)
  show wpAny _ _ (Builtin.tupleReprAt b ⟨[.ref a], []⟩) _ _ s
  rw [tuple_repr_tree]
  refine wpAny_bind (fmt_underWay fun u => ?_)
  cases u with
  | true =>
    refine PySem.W.KFB.if_so rfl ?_
    refine wpAny_bind (wpAny_rule ?_)
    refine wpAny_bind (wpAny_mkStr (wpAny_pure ?_) (by decide +kernel))
    exact ⟨⟨_, _, rfl⟩, _, _, rfl, q "(...)" _ (Nat.le_trans fmt_way (Nat.le_add_left _ _))⟩
  | false =>
    refine PySem.W.KFB.if_not rfl ?_
    refine kr_rest (d := d) hh ?_ ha hd hT (fun m u tk hm => ?_) (by omega)
    · rw [units_under_tuple_repr_under]
      omega
    · exact ⟨⟨_, _, rfl⟩, _, _, rfl, q m tk (by omega)⟩
/-- f'{t}', t a tuple: some bounded text -/
theorem kr_format {a : Addr} {o : Obj} {items : Array Value} {n N : Nat} {Q : Value → Shared → Prop} (hk : ∀ b o, h.get? b = some o → s.heap.get? b = some o) (hu : A.units + d + 3 < cLine) (ha : h.get? a = some o) (hc : o.cls = .type "tuple") (hd : o.data = .seq items n) (hT : KrAll prog w h d items.toList N) (hsz : N + 7 ≤ sizeLine)
    (q : ∀ (m : Str) (u tk : Tok), m.length ≤ N + 7 → Q (.str m u) { s with toks := tk }) : wpAny (model prog w) A (formatField (.ref a) Str.empty) Q E s := by
  refine wpAny_formatField_slot (fun _ _ => nofun) (by omega) ⟨o, hk _ _ ha, hc⟩ F.slot_tuple_format F.slot_tuple_str F.slot_tuple_repr ?_
  refine wpAny_call (codeAny_call_builtin_own (Code.quiet_builtin _ (by decide +kernel)) F.entry_tuple_repr (F.slot_tuple_repr.check _ _ _ _ _ _ _ _ ⟨o, hk _ _ ha, hc⟩ (F.args_tuple_repr_1 _) (wpOwn_of_wpAny ?_)))
  show wpAny _ _ (Builtin.tupleReprAt 0 ⟨[.ref a], []⟩) _ _ _
  rw [tuple_repr_tree]
  refine wpAny_bind (fmt_underWay fun u => ?_)
  cases u with
  | true =>
    refine PySem.W.KFB.if_so rfl ?_
    refine wpAny_bind (wpAny_rule ?_)
    refine wpAny_bind (wpAny_mkStr (wpAny_pure ?_) (by decide +kernel))
    exact ⟨_, _, rfl, q "(...)" _ _ (Nat.le_trans fmt_way (Nat.le_add_left _ _))⟩
  | false =>
    refine PySem.W.KFB.if_not rfl ?_
    refine kr_rest (h := h) (d := d) hk ?_ ha hd hT (fun m u tk hm => ?_) (by omega)
    · rw [units_under_tuple_repr]
      show A.units + 1 + 1 + 1 + d < cLine
      omega
    · exact ⟨_, _, rfl, q m u tk (by omega)⟩
end
end PySem
namespace PySem
open PySem.Spec PyProof.Rows
section
variable {prog : Program} {w : World} {A : Around} {E : Value → Shared → Prop} {s : Shared}
theorem kr_join {x y : Str} {n : Nat} (hx : x.length ≤ 200) (hy : y.length ≤ n) (hn : n ≤ 5000) : (x ++ y).length ≤ sizeLine := by
  rw [strLen_append]
  have : sizeLine = 16777216 := rfl
  omega
theorem kr_intLen {n : Int} (h0 : -1 ≤ n) (h1 : n ≤ 20000) : (Str.ofString (toString n)).length ≤ 12 := by
  by_cases h : n = -1
  · subst h
    decide +kernel
  · exact Nat.le_trans (toString_length_le (k := 5) (by omega) (by decide) (by omega)) (by decide)
theorem kr_signs (x : String) : ∀ c ∈ (Str.ofString x).cps.toList, c < 16 ^ 8 := by
  intro c hc
  rw [signs_ofString] at hc
  obtain ⟨a, _, rfl⟩ := List.mem_map.mp hc
  have h := a.valid
  have h2 : a.toNat < 1114112 := by
    rcases h with h | h
    · exact Nat.lt_trans h (by decide)
    · exact h.2
  exact Nat.lt_trans h2 (by decide)
theorem kr_str {h : Heap} {d : Nat} {n : Int} {t : Tok} (h0 : 0 ≤ n) (h1 : n < 10 ^ 9) : KrB prog w h d (.str (Str.ofString (toString n)) t) 102 := by
  have h2 := toString_length_le (k := 9) h0 (by decide) h1
  have h3 := StrLaws.reprText_len (Str.ofString (toString n)) (kr_signs _)
  have h4 : (reprText (Str.ofString (toString n))).length ≤ 102 := by omega
  exact KrB.of_is (ReprIs.str _ t (Nat.le_trans h4 (by decide))) h4
theorem kr_lit {h : Heap} {d : Nat} {x : Str} {t : Tok} (hx : (reprText x).length ≤ 102) : KrB prog w h d (.str x t) 102 := KrB.of_is (ReprIs.str _ t (Nat.le_trans hx (by decide))) hx
theorem kr_log {n : Int} (h0 : -1 ≤ n) (h1 : n ≤ 20000) : n.natAbs.log2 < 1920 := by
  have h : n.natAbs < 2 ^ 20 := by
    have : n.natAbs ≤ 20000 := by omega
    omega
  by_cases hz : n.natAbs = 0
  · rw [hz]
    decide
  · exact Nat.lt_trans ((Nat.log2_lt hz).mpr h) (by decide)
theorem kr_int {h : Heap} {d : Nat} {n : Int} {t : Tok} (h0 : -1 ≤ n) (h1 : n ≤ 20000) : KrB prog w h d (.int n t) 12 :=
  KrB.of_is (ReprIs.int t (kr_log h0 h1)) (kr_intLen h0 h1)
/-- what a value's sign in an f-string is: some text of at most 5,000 signs -/
def Fmt (prog : Program) (w : World) (h : Heap) (v : Value) : Prop :=
  ∀ (A : Around) (E : Value → Shared → Prop) (s : Shared) (Q : Value → Shared → Prop), (∀ b o, h.get? b = some o → s.heap.get? b = some o) → A.units + 8 < cLine →
    (∀ (m : Str) (u tk : Tok), m.length ≤ 5000 → Q (.str m u) { s with toks := tk }) → wpAny (model prog w) A (formatField v Str.empty) Q E s
theorem Fmt.int {h : Heap} {n : Int} {t : Tok} (h0 : -1 ≤ n) (h1 : n ≤ 20000) : Fmt prog w h (.int n t) := fun A E s Q _ _ q =>
  wpAny_formatField_int (kr_log h0 h1) (q _ _ _ (Nat.le_trans (kr_intLen h0 h1) (by decide)))
theorem Fmt.tuple {h : Heap} {a : Addr} {o : Obj} {items : Array Value} {n N : Nat} (ha : h.get? a = some o) (hc : o.cls = .type "tuple") (hd : o.data = .seq items n) (hT : KrAll prog w h 1 items.toList N) (hz : N + 7 ≤ 5000) : Fmt prog w h (.ref a) := fun A E s Q hk hu q =>
  kr_format (d := 1) hk (by omega) ha hc hd hT (Nat.le_trans hz (by decide)) fun m u tk hm => q m u tk (Nat.le_trans hm hz)
end
end PySem
end
section
set_option Elab.async false
set_option linter.all false
set_option maxRecDepth 100000
set_option maxHeartbeats 4000000
namespace PySem
namespace OwnX
open PySem.W PySem.Calls PyProof.Rows PySem.HandSPX
/-! an own error over MixError(ValueError) whose __init__ says super().__init__(f'..{x}') and keeps x -/
def iA (f : Str) (p1 p2 : Pos) : Arguments := { posonlyargs := [], args := [{ arg := "self", annotation := none, pos := p1 }, { arg := f, annotation := none, pos := p2 }], vararg := none, kwonlyargs := [], kw_defaults := [], kwarg := none, defaults := [] }
def iB (f pre : Str) (q0 q1 q2 q3 q4 q5 q6 q7 q8 q9 qa qb qc : Pos) : List Stmt :=
  [.Expr (.Call (.Attribute (.Call (.Name "super" q0) [] [] q1) "__init__" q2) [.JoinedStr [.Constant (.str pre) 0 q3, .FormattedValue (.Name f q4) (-1) none q5] q6] [] q7) q8,
   .Assign [.Attribute (.Name "self" q9) f qa] (.Name f qb) qc]
def iS (f : Str) : Scope := { kind := .function, names := [("self", .local), (f, .local), ("__class__", .free), ("super", .globalImplicit)], isGenerator := false, isCoroutine := false, more := [] }
def IsFd (f pre qual : Str) (fd : FuncData) : Prop := ∃ kV doc pm an cda ct cc p1 p2 q0 q1 q2 q3 q4 q5 q6 q7 q8 q9 qa qb qc, fd = ksFn "__init__" qual (iA f p1 p2) (iB f pre q0 q1 q2 q3 q4 q5 q6 q7 q8 q9 qa qb qc) (iS f) .none kV doc pm an (.ref cda) ct cc
structure OwnT (prog : Program) (K : Frag) (f pre qual : Str) (C fI : Addr) : Prop where
  cls : ∃ nm q N bs bm sn sub ab col dd k0 k1 k2 k3 k5, K.lookup C = some (excClassObj nm q C N bs bm true sn sub ab col dd k0 k1 k2 k3 k5 "ValueError.__new__") ∧ refsVE bm = true
  sa : findIn K (.ref C) "__setattr__" = some (some (.builtin "object.__setattr__"))
  noN : findIn K (.ref C) f = some none
  iC : findIn K (.ref C) "__init__" = some (some (.ref fI))
  tC : typeIn K (.ref fI) = some (.type "function")
  kC : keepIn K (.ref C) = true
  fn : ∃ (oc : Value) (od : Option Addr) (kV doc pm : Value) (an : Option Addr) (cda : Addr) (ct : Value) (cc : Addr) (osl : Array (Option Value)) (p1 p2 q0 q1 q2 q3 q4 q5 q6 q7 q8 q9 qa qb qc : Pos),
    K.lookup fI = some ⟨oc, od, .func (ksFn "__init__" qual (iA f p1 p2) (iB f pre q0 q1 q2 q3 q4 q5 q6 q7 q8 q9 qa qb qc) (iS f) .none kV doc pm an (.ref cda) ct cc), osl⟩ ∧ codeIn K (.ref cda) qual = true ∧ (q2.endLine == q7.line) = true ∧
    (∃ ccl cdd vs ccs file tf, K.lookup cda = some ⟨ccl, cdd, .fields vs, ccs⟩ ∧ vs[2]? = some (.str file tf) ∧ ((prog.main.file : Str) == file) = true) ∧ (∃ cl cld csl, K.lookup cc = some ⟨cl, cld, .cell (some (.ref C)), csl⟩)
  sup : ks_superIn K C C "__init__" = some (some (.builtin "ValueError.__init__"))
  isB : subIn K (.ref C) (.type "ValueError") = some true
  isC : mroIn K C (.ref C) = some true
  any : nsIn K cStatics "thirdparty.any" = some none
  top : (prog.main.scope.names.lookup ("super" : Str)).isSome = false
  fs : ("self" == f) = false
  fd : (f == ("__debug__" : Str)) = false
  ff : (iS f).names.lookup f = some .local
  ks : (iS f).names.lookup ("super" : Str) = some .globalImplicit
  kc : (iS f).names.lookup ("__class__" : Str) = some .free
  ke : (iS f).names.lookup ("self" : Str) = some .local
  pl : pre.length ≤ 200
  bp : ∀ fd, IsFd f pre qual fd → ∀ (s : Shared) (x : Addr) (v : Value), BindsTo s fd ⟨[.ref x, v], []⟩ [("self", .ref x), (f, v)]
  bk : ∀ fd, IsFd f pre qual fd → ∀ (s : Shared) (x : Addr) (v : Value), BindsTo s fd ⟨[.ref x], [(f, v)]⟩ [("self", .ref x), (f, v)]
  exC : subIn K (.ref C) (.type "BaseException") = some true
  ga : findIn K (.ref C) "__getattribute__" = some (some (.builtin "BaseException.__getattribute__"))
  gg : findIn K (.ref C) "__getattr__" = some none
  hdC : hasDictIn K C = true
/-- what __init__ leaves of a fresh error at x -/
structure InitEnd (h h' : Heap) (x C dx t1 : Addr) (f : Str) (v : Value) : Prop where
  keep : ∀ b o, b ≠ x → h.get? b = some o → h'.get? b = some o
  obj : h'.get? x = some { cls := .ref C, dict := some dx, data := .fields #[.ref t1, .none, .none, .none, .bool false, .none] }
  dbig : h.objs.size ≤ dx
  dne : dx ≠ x
  ns : h'.Ns1 dx (fun y => if y = f then some v else none)
theorem mc_eq {o : Expr} {m : Str} {apos pos : Pos} {args : List Expr} {env : Env} (hf : methodCallForm args.length (backTo pos (starEach args env)) (backToKw pos (keywordEach [] env)) = true) (hl : (apos.endLine == pos.line) = true) :
    eval (.Call (.Attribute o m apos) args [] pos) env = (do
      let ov ← attributeBase o m env (eval o env)
      standAt apos.atName
      let (f, first) ← holding [ov] (getMethod ov m (L2.plainOf o env))
      callWith pos f first (backTo pos (starEach args env)) []) := by
  have e : eval (.Call (.Attribute o m apos) args [] pos) env = (do
      let ov ← attributeBase o m env (eval o env)
      standAt apos.atName
      methodCall o m apos pos env ov (args.length + 0) (backTo pos (starEach args env)) (backToKw pos (keywordEach [] env))) := by with_unfolding_all rfl
  rw [e]
  simp only [L2.mcall_line (n := args.length + 0) hf hl]
  rfl
theorem kept_but {K : Frag} {h h' : Heap} {x : Addr} (X : K.In h) (hx : K.lookup x = none) (k : ∀ b o, b ≠ x → h.get? b = some o → h'.get? b = some o) : K.In h' := fun a o e =>
  k a o (fun z => by rw [z, hx] at e; cases e) (X a o e)
section
variable {prog : Program} {w : World} {A : Around} {E : Value → Shared → Prop} {R : Result → Shared → Prop} {s : Shared} {K : Frag} {mg : Str → Option Value} {f pre qual : Str} {C fI : Addr}
theorem own_init (T : OwnT prog K f pre qual C fI) {x t0 : Addr} {v : Value} {args : Args} {base h0 : Heap} (X : K.In base) (kb : ∀ b o, base.get? b = some o → s.heap.get? b = some o) (bx : base.get? x = none)
    (gl : base.Ns mainGlobals mg) (bl : ∃ mb, base.Ns builtinsNs mb ∧ ∀ y : Str, y ≠ "__name__" → mb y = bootBuiltins y) (hlim : base.NoLimit) (hmg : mg "super" = none)
    (hx : s.heap.get? x = some (excO C t0)) (hF : Fmt prog w h0 v) (k0 : ∀ b o, h0.get? b = some o → s.heap.get? b = some o) (h0x : h0.get? x = none)
    (hbind : ∀ fd : FuncData, IsFd f pre qual fd → BindsTo s fd args [("self", .ref x), (f, v)])
    (hroom : A.depth < recursionLimit) (hu : A.units + 12 < cLine)
    (hq : ∀ h' tk dx t1, InitEnd s.heap h' x C dx t1 f v → R (.ok (.ret .none)) { s with heap := h', toks := tk }) :
    codeAny (model prog w) A (.call (.ref fI) args) R s := by
  obtain ⟨oc, od, kV, doc, pm, an, cda, ct, cc, osl, p1, p2, q0, q1, q2, q3, q4, q5, q6, q7, q8, q9, qa, qb, qc, ho, hcd, hqq, ⟨ccl, cdd, vs, ccs, file, tf, hcode, hvs, hfile⟩, ⟨cl, cld, csl, hcell⟩⟩ := T.fn
  obtain ⟨nm, q, N, bs, bm, sn, sub, ab, col, dd, k0', k1, k2, k3, k5, hC, hbm⟩ := T.cls
  have hcl : clsIn K C = some { name := nm, bases := bs, mro := .ref C :: bm, ns := N, qualname := q, hasDict := true, slotNames := sn, subclasses := sub, abstract := ab, collection := col, hasDel := false } := by unfold clsIn; rw [hC] <;> rfl
  have hff := T.ff
  have bn : ∀ b o, base.get? b = some o → b ≠ x := fun b o e z => by rw [z, bx] at e; cases e
  have hn0 : ∀ b o, h0.get? b = some o → b ≠ x := fun b o e z => by rw [z, h0x] at e; cases e
  refine ks_codeAny_call_defAt (fd := ksFn "__init__" qual (iA f p1 p2) (iB f pre q0 q1 q2 q3 q4 q5 q6 q7 q8 q9 qa qb qc) (iS f) .none kV doc pm an (.ref cda) ct cc) (body := iB f pre q0 q1 q2 q3 q4 q5 q6 q7 q8 q9 qa qb qc) (binds := [("self", .ref x), (f, v)]) hroom (kb _ _ (X _ _ ho)) rfl (hlim.keeps kb) (codeRec_of (X.keeps kb) hcd) rfl (hbind _ ⟨kV, doc, pm, an, cda, ct, cc, p1, p2, q0, q1, q2, q3, q4, q5, q6, q7, q8, q9, qa, qb, qc, rfl⟩) ?_ ?_ (fun h₁ hns hk₁ => ?_) rfl rfl rfl
  · intro y hy
    simp only [iS, ksFn, fnX, List.mem_cons, List.not_mem_nil, or_false] at hy
    rcases hy with rfl | rfl | rfl | rfl <;> exact nofun
  · intro y hy
    simp only [List.mem_cons, List.not_mem_nil, or_false] at hy
    rcases hy with rfl | rfl
    · rfl
    · exact hff
  · have hk1 : ∀ b o, base.get? b = some o → h₁.get? b = some o := fun b o e => hk₁ b o (kb b o e)
    have X₁ : K.In h₁ := X.keeps hk1
    have hx₁ := hk₁ _ _ hx
    have hv1 : ([(("self" : Str), Value.ref x), (f, v)].reverse.lookup f) = some v := by simp [List.lookup]
    have hs1 : ([(("self" : Str), Value.ref x), (f, v)].reverse.lookup ("self" : Str)) = some (.ref x) := by
      show ([(f, v), (("self" : Str), Value.ref x)].lookup ("self" : Str)) = some (.ref x)
      rw [List.lookup_cons, T.fs]
      simp [List.lookup]
    obtain ⟨oD, hD1, hD2⟩ : ∃ oD, h₁.get? C = some oD ∧ ∃ cd, oD.data = .cls cd := ⟨_, X₁ _ _ hC, _, rfl⟩
    obtain ⟨cdD, hD2⟩ := hD2
    have I₁ : InstAt h₁ x (excO C t0) C none := ⟨hx₁, rfl, rfl, trivial⟩
    have hpl : (PySem.Str.empty ++ pre).length ≤ 200 := by
      rw [strLen_append]
      exact Nat.le_trans (Nat.le_of_eq (Nat.zero_add _)) T.pl
    have hLx : s.heap.objs.size ≠ x := Nat.ne_of_gt (Heap.lt_size hx)
    show PySem.wpAt (model prog w) (A.deeper (ksEnv qual (iS f) s.heap.objs.size fI (.ref cda) cc)) (.func _ (ksEnv qual (iS f) s.heap.objs.size fI (.ref cda) cc)) (execs _ (ksEnv qual (iS f) s.heap.objs.size fI (.ref cda) cc)) _ _ _
    obtain ⟨mb, hmb, hmb2⟩ := bl
    refine ks_wpAt_execs_cons (ks_wpAt_Expr_any (ks_wpAt_MethodCall ?_ (mc_eq rfl hqq)) (by first | rfl | with_unfolding_all rfl) (by first | rfl | with_unfolding_all rfl))
    refine ks_wpAt_super_base (env := ksEnv qual (iS f) s.heap.objs.size fI (.ref cda) cc) T.ks T.kc (by decide) rfl (X₁ _ _ ho) rfl rfl rfl (X₁ _ _ hcode) rfl hvs hfile T.top ?_
    refine ks_loadName_global rfl T.ks (loadGlobal_builtin (env := ksEnv qual (iS f) s.heap.objs.size fI (.ref cda) cc) (gl.keeps hk1) hmg (hmb.keeps hk1) ((hmb2 _ (by decide)).trans (by decide +kernel)) ⟨rfl, ?_⟩)
    refine wpAny_loadName_free rfl T.kc rfl ⟨_, X₁ _ _ hcell, rfl⟩ ?_
    refine wpAny_loadName_local rfl T.ke hns hs1 ?_
    refine ks_wpAny_isType_cls hD1 hD2 ⟨rfl, ?_⟩
    refine ks_wpAny_call_super hD1 hD2 I₁.at_ I₁.cls (fun c e => by cases e) (looks_mroIn X₁ T.isC) (fun h2 e2 k2 => ?_)
    -- the super object stands at h₁.size; its __init__
    have X₂ : K.In h2 := X₁.keeps k2
    have hcl2 : clsIn K C = some _ := hcl
    have hx2 := k2 _ _ hx₁
    have I₂ : InstAt h2 x (excO C t0) C none := ⟨hx2, rfl, rfl, trivial⟩
    have hI : Looks (model prog w) h2 (isInstance (.ref x) (.type "ValueError")) true := I₂.type.andThen (looks_subIn X₂ T.isB)
    have hsup := T.sup
    unfold ks_superIn at hsup
    rw [hcl] at hsup
    refine kxs_getMethod kxs_ValueError e2 (looks_opaque X₂ T.any) (l₀ := .ref C :: bm) ?_ rfl X₂ hsup hI (ks_ne X₂ I₂ hcl) (by decide) ?_
    · exact fun A Q E s k q => wpAny_bind ((looks_clsIn X₂ hcl) A _ E s k (wpAny_pure q))
    have hu3 : (h2.push (kxs_mw "ValueError.__init__" x)).get? h2.objs.size = some (kxs_mw "ValueError.__init__" x) := Heap.get?_push_size _ rfl
    have k3 : ∀ b o, h2.get? b = some o → (h2.push (kxs_mw "ValueError.__init__" x)).get? b = some o := fun b o e => Heap.get?_push_of_some _ e
    have hns3 := (hns.keeps k2).keeps k3
    have hx3 := k3 _ _ hx2
    refine kxs_callWith (i := "ValueError.__init__") (x := x) rfl ?_
    refine evalArgs_plain ?_
    show wpAny _ _ (spliced ((false, eval (.JoinedStr _ q6) _) :: backTo q7 (starEach [] _))) _ _ _
    refine Calls.spliced_cons (JoinedStr_many (joinParts_cons (Constant_str ⟨?_, joinParts_cons (FormattedValue_plain ?_)⟩)))
    · exact Nat.le_trans hpl (by decide)
    refine wpAny_Name (wpAny_loadName_local rfl hff hns3 hv1 ?_) T.fd
    refine hF _ _ _ _ (fun b o e => k3 _ _ (k2 _ _ (hk₁ _ _ (k0 _ _ e)))) (by show A.units + _ + 8 < cLine; omega) fun m u tk hm => ?_
    refine ⟨kr_join hpl hm (Nat.le_refl _), joinParts_nil ?_ (kr_join hpl hm (Nat.le_refl _))⟩
    refine Calls.spliced_nil ⟨hu3, ?_⟩
    show wpAny _ _ (call (.ref h2.objs.size) [.str _ _]) _ _ _
    refine wpAny_call (codeAny_of_tree ?_)
    show wpAny _ _ (callAny (.ref h2.objs.size) ⟨[.str _ _], []⟩) _ _ _
    simp only [callAny]
    refine wpAny_bind (wpAny_load hu3 ?_)
    simp only [kxs_mw, show (Value.type "method-wrapper" == Value.type "method" || Value.type "method-wrapper" == Value.type "builtin_function_or_method" || Value.type "method-wrapper" == Value.type "method-wrapper") = true by decide, if_true]
    refine KFB.if_so (by decide) ?_
    have hC3 := X₂ _ _ hC
    refine wpAny_bind (check_bound_init F.excBase_ValueError.toExcCallFacts (k3 _ _ hC3) hx3 rfl ?_)
    refine wpAny_bind (wpAny_pure (wpAny_pure ?_))
    refine ⟨plainId_quiet F.excBase_ValueError.init.plain _, codeAny_builtin F.excBase_ValueError.initEntry ?_⟩
    refine exc_init_tree (cls := .ref C) (t0 := t0) (dv := none) (c2 := .none) (c3 := .none) (b4 := .bool false) hx3 (by exact (by decide : 1 ≤ 16777216)) fun h4 k4 hx4 ht4 => ?_
    -- self.f = f
    obtain ⟨oL, esL, epL, hL, rL⟩ := hns3
    have hns4 : h4.Ns s.heap.objs.size (fun y => [(("self" : Str), Value.ref x), (f, v)].reverse.lookup y) := ⟨oL, esL, epL, k4 _ _ hLx hL, rL⟩
    have X₄ : K.In h4 := kept_but (X₂.keeps k3) (by
      cases e : K.lookup x with
      | none => rfl
      | some o =>
        have z := X _ _ e
        rw [bx] at z
        cases z) k4
    show PySem.wpAt (model prog w) (A.deeper (ksEnv qual (iS f) s.heap.objs.size fI (.ref cda) cc)) (.func _ (ksEnv qual (iS f) s.heap.objs.size fI (.ref cda) cc)) (execs _ (ksEnv qual (iS f) s.heap.objs.size fI (.ref cda) cc)) _ _ _
    refine wpAt_of_wpAny (wpAny_execs_cons (plainObj_wpAny_Assign_Attribute ?_ ?_))
    · refine wpAny_Name (wpAny_loadName_local rfl hff hns4 hv1 ?_) T.fd
      refine wpAny_Name (wpAny_loadName_local rfl T.ke hns4 hs1 ?_) (by decide)
      refine set_plain X₄ (ox := excRec (.ref C) _ none .none .none (.bool false)) (od := none) ⟨hx4, rfl, rfl, trivial⟩ T.sa ?_
      refine exc_osa X₄ hx4 hcl (show refsVE (.ref C :: bm) = true from hbm) rfl T.noN (fun h5 tk5 dx k5 dn dne hx5 hn5 => ?_)
      show wpAny _ _ (execs _ _) _ _ _
      refine wpAny_execs_nil (hq h5 tk5 dx _ ⟨fun b o hb e => k5 b o hb (k4 b o hb (k3 _ _ (k2 _ _ (hk₁ _ _ e)))), hx5, ?_, dne, hn5⟩)
      exact Nat.le_of_lt (Nat.lt_of_lt_of_le (Heap.lt_size (k4 _ _ hLx hL)) dn)
    · first | rfl | with_unfolding_all rfl
end
end OwnX
end PySem
end
section
set_option Elab.async false
set_option linter.all false
set_option maxRecDepth 100000
set_option maxHeartbeats 4000000
namespace PySem
namespace OwnX
open PySem.W PySem.Calls PyProof.Rows PySem.HandSPX
section
variable {M : Model} {A : Around} {E : Value → Shared → Prop} {h : Heap} {g : Array GenState} {d : Drawn} {t : Nat} {os : OsState}
variable {nm q : Str} {C N : Addr} {bs bm bmB : List Value} {hdct : Bool} {sn : List Str} {sub : List Value} {ab : Bool} {col : Option Bool} {dd : Option Addr} {k0 k1 k2 k3 k5 : Option Value} {B newId initId : String}
theorem check_new_kw (F : ExcBaseFacts B newId initId bmB) (hT : ∀ X : String, bm.contains (.type X) = bmB.contains (.type X)) {rest : List Value} {kw : List (Str × Value)} {Q : Unit → Shared → Prop}
    (hC : h.get? C = some (excClassObj nm q C N bs bm hdct sn sub ab col dd k0 k1 k2 k3 k5 newId)) (hq : Q () ⟨h, g, d, t, os⟩) : wpAny M A (checkBuiltinCall newId ⟨.ref C :: rest, kw⟩) Q E ⟨h, g, d, t, os⟩ := by
  have hcont : (Value.ref C :: bm).contains (.type B) = true := by rw [List.contains_cons, hT, F.hasB, Bool.or_true]
  have hstar := F.noStar
  simp only [checkBuiltinCall, F.newKind, F.newSplit, F.newRow]
  repeat (first | refine wpAny_loadPart_at hC ?_ | (refine wpAny_isSubtype_exc hC ?_; rw [hcont]) | refine wpAny_staticBase_exc hC ?_ | refine wpAny_madeBy_exc hC ?_ | simp only [bne_self_eq_false, Bool.false_eq_true, if_false] | wp_step)
  exact hq
end
section
variable {prog : Program} {w : World} {A : Around} {E : Value → Shared → Prop} {R : Result → Shared → Prop} {h : Heap} {g : Array GenState} {d : Drawn} {t : Nat} {os : OsState}
variable {nm q : Str} {C N : Addr} {bs bm bmB : List Value} {hdct : Bool} {sn : List Str} {sub : List Value} {ab : Bool} {col : Option Bool} {dd : Option Addr} {k0 k1 k2 k3 k5 : Option Value} {B newId initId : String}

theorem new_kw (F : ExcBaseFacts B newId initId bmB) (hT : ∀ X : String, bm.contains (.type X) = bmB.contains (.type X)) {rest : List Value} {kw : List (Str × Value)}
    (hC : h.get? C = some (excClassObj nm q C N bs bm hdct sn sub ab col dd k0 k1 k2 k3 k5 newId))
    (hq : R (.ok (.ret (.ref (h.objs.size + 1)))) ⟨(h.push { cls := .type "tuple", data := .seq rest.toArray }).push
      { cls := .ref C, data := .fields #[.ref h.objs.size, .none, .none, .none, .bool false, .none] }, g, d, t, os⟩) (hrest : rest.length ≤ sizeLine) :
    codeAny (model prog w) A (.builtin newId ⟨.ref C :: rest, kw⟩) R ⟨h, g, d, t, os⟩ := by
  have hends := F.ends
  have hcB : (Value.ref C :: bm).contains (.type B) = true := by rw [List.contains_cons, hT, F.hasB, Bool.or_true]
  have hcA : (Value.ref C :: bm).contains (.type "AttributeError") = false := by rw [List.contains_cons, hT, F.noAttr]; rfl
  have hcN : (Value.ref C :: bm).contains (.type "NameError") = false := by rw [List.contains_cons, hT, F.noName]; rfl
  refine codeAny_builtinAt F.entry ?_
  unfold Builtin.«BaseException.__new__»
  refine wpAt_bind ?_
  show wpAt _ _ _ (stack >>= _) _ _ _
  refine wpAt_bind (wpAt_stack fun p below => wpAt_of_wpAny ?_)
  wp_walk
  refine wpAt_of_wpAny ?_
  rw [F.owner]
  repeat (first | with_reducible refine wpAny_madeHere_exc F.canon hC ?_ | with_reducible refine wpAny_loadPart_at hC ?_ | (with_reducible refine wpAny_isSubtype_exc hC ?_; first | rw [hcB] | rw [hcA] | rw [hcN]) | wp_step)
  show R _ _
  rw [Heap.size_push]
  exact hq

theorem type_call_kw (F : ExcBaseFacts B newId initId bmB) (hT : ∀ X : String, bm.contains (.type X) = bmB.contains (.type X)) {rest : List Value} {kw : List (Str × Value)} {fI : Addr} {Q : Fin → Shared → Prop}
    (hC : h.get? C = some (excClassObj nm q C N bs bm hdct sn sub ab col dd k0 k1 k2 k3 k5 newId))
    (hi : W.Looks (model prog w) h (typeLookup (.ref C) "__init__") (some (.ref fI))) (hb : ∀ self, W.Looks (model prog w) h (bindSpecial (.ref fI) self) (.ref fI, [self])) (hrest : rest.length ≤ sizeLine)
    (hq : codeAny (model prog w) A (.call (.ref fI) ⟨.ref (h.objs.size + 1) :: rest, kw⟩)
      (fun r s' => match r with | .ok (.ret v) => v = .none ∧ Q (.done (.ret (.ref (h.objs.size + 1)))) s' | .ok _ => False | .error e => E e s')
      ⟨(h.push (W.kdv_tup rest)).push (excO C h.objs.size), g, d, t, os⟩) :
    wpAny (model prog w) A (Builtin.«type.__call__» ⟨.ref C :: rest, kw⟩) Q E ⟨h, g, d, t, os⟩ := by
  repeat (first | with_reducible refine wpAny_loadPart_at hC ?_ | with_reducible refine wpAny_madeBy_exc hC ?_ | wp_step)
  refine codeAny_call_builtin_code (Code.quiet_builtin _ F.quiet) (check_new_kw F hT hC ?_)
  refine new_kw F hT hC ?_ hrest
  show wpAny _ _ _ _ _ _
  have k : ∀ b o, h.get? b = some o → ((h.push (W.kdv_tup rest)).push (excO C h.objs.size)).get? b = some o := fun b o e => Heap.get?_push_of_some _ (Heap.get?_push_of_some _ e)
  have hC₁ := k _ _ hC
  have hget : ((h.push (W.kdv_tup rest)).push (excO C h.objs.size)).get? (h.objs.size + 1) = some (excO C h.objs.size) := by heap_get
  have hcC : (Value.ref C :: bm).contains (.ref C) = true := by simp
  have i1 := hi.keeps k
  have b1 := (hb (.ref (h.objs.size + 1))).keeps k
  unfold isInstance
  repeat (first | with_reducible refine wpAny_loadPart_at hget ?_ | (with_reducible refine wpAny_isSubtype_exc hC₁ ?_; rw [hcC]) | wp_step)
  show wpAny _ _ (typeLookup (.ref C) _) _ _ _
  refine i1.at ?_
  refine wpAny_holding (wpAny_bind (b1.at ?_))
  refine wpAny_bind (wpAny_call (codeAny_mono hq fun r s' z => ?_))
  rcases r with e | (v | _ | _ | _) <;> first | exact z | exact z.elim | skip
  obtain ⟨rfl, z⟩ := z
  first
    | exact wpAny_pure (wpAny_pure z)
    | (wp_walk; exact z)
theorem call_kw (F : ExcBaseFacts B newId initId bmB) (hT : ∀ X : String, bm.contains (.type X) = bmB.contains (.type X)) {rest : List Value} {kw : List (Str × Value)} {fI : Addr}
    (hC : h.get? C = some (excClassObj nm q C N bs bm hdct sn sub ab col dd k0 k1 k2 k3 k5 newId))
    (hi : W.Looks (model prog w) h (typeLookup (.ref C) "__init__") (some (.ref fI))) (hb : ∀ self, W.Looks (model prog w) h (bindSpecial (.ref fI) self) (.ref fI, [self])) (hrest : rest.length ≤ sizeLine)
    (hq : codeAny (model prog w) (A.under (.builtin "type.__call__" ⟨.ref C :: rest, kw⟩)) (.call (.ref fI) ⟨.ref (h.objs.size + 1) :: rest, kw⟩) (W.InitBack (h.objs.size + 1) R)
      ⟨(h.push (W.kdv_tup rest)).push (excO C h.objs.size), g, d, t, os⟩) :
    codeAny (model prog w) A (.call (.ref C) ⟨rest, kw⟩) R ⟨h, g, d, t, os⟩ := by
  have f1 := tc_lookup
  have f2 := tc_bind (.ref C)
  have hTy : (⟨h, g, d, t, os⟩ : Shared).TypeIs (.ref C) "type" := ⟨_, hC, rfl⟩
  refine codeAny_of_tree ?_
  show wpAny _ _ (callAny (.ref C) _) _ _ _
  repeat (any_goals (first | assumption | with_reducible refine wpAny_loadPart_at hC ?_ | wp_step))
  refine ⟨rfl, ?_⟩
  refine codeAny_call_builtin_at (Code.quiet_builtin _ (by decide +kernel)) entry_typeCall (wpAny_check_type_call_sub hC (type_call_kw F hT hC hi hb hrest ?_))
  refine codeAny_mono hq fun r s' z => ?_
  rcases r with e | (v | _ | _ | _) <;> exact z
end
end OwnX
end PySem
end
section
set_option Elab.async false
set_option linter.all false
set_option maxRecDepth 100000
set_option maxHeartbeats 4000000
namespace PySem
namespace OwnX
open PySem.W PySem.Calls PyProof.Rows PySem.HandSPX
/-- a made error -/
structure OwnMade (h h' : Heap) (e C d : Addr) (f : Str) (v : Value) : Prop where
  keep : ∀ b o, h.get? b = some o → h'.get? b = some o
  new : h.objs.size ≤ e
  obj : ∃ t1 : Addr, h'.get? e = some { cls := .ref C, dict := some d, data := .fields #[.ref t1, .none, .none, .none, .bool false, .none] }
  dbig : h.objs.size ≤ d
  dne : d ≠ e
  ns : h'.Ns1 d (fun y => if y = f then some v else none)
section
variable {prog : Program} {w : World} {A : Around} {E : Value → Shared → Prop} {R : Result → Shared → Prop} {s : Shared} {K : Frag} {mg : Str → Option Value} {f pre qual : Str} {C fI : Addr}
theorem own_made (T : OwnT prog K f pre qual C fI) {v : Value} {rest : List Value} {kw : List (Str × Value)} {base : Heap} {k : Nat} (X : K.In base) (kb : ∀ b o, base.get? b = some o → s.heap.get? b = some o)
    (gl : base.Ns mainGlobals mg) (bl : ∃ mb, base.Ns builtinsNs mb ∧ ∀ y : Str, y ≠ "__name__" → mb y = bootBuiltins y) (hlim : base.NoLimit) (hmg : mg "super" = none) (hF : Fmt prog w s.heap v)
    (ha : (rest = [v] ∧ kw = []) ∨ (rest = [] ∧ kw = [(f, v)])) (hr : L2.Room (k + 1) A)
    (hq : ∀ h' tk e d, OwnMade s.heap h' e C d f v → R (.ok (.ret (.ref e))) { s with heap := h', toks := tk }) :
    codeAny (model prog w) A (.call (.ref C) ⟨rest, kw⟩) R s := by
  obtain ⟨nm, q, N, bs, bm, sn, sub, ab, col, dd, k0', k1, k2, k3, k5, hC, hbm⟩ := T.cls
  obtain ⟨hp, g, dr, tk, os⟩ := s
  have hXs : K.In hp := X.keeps kb
  have kp : ∀ b o, hp.get? b = some o → ((hp.push (kdv_tup rest)).push (excO C hp.objs.size)).get? b = some o := fun b o e => Heap.get?_push_of_some _ (Heap.get?_push_of_some _ e)
  have hget : ((hp.push (kdv_tup rest)).push (excO C hp.objs.size)).get? (hp.objs.size + 1) = some (excO C hp.objs.size) := by heap_get
  have none_at : ∀ h : Heap, (∀ b o, h.get? b = some o → hp.get? b = some o) → h.get? (hp.objs.size + 1) = none := fun h kh => by
    cases e : h.get? (hp.objs.size + 1) with
    | none => rfl
    | some o => exact absurd (Nat.lt_of_succ_lt (Heap.lt_size (kh _ _ e))) (Nat.lt_irrefl _)
  have hz : rest.length ≤ sizeLine := by
    rcases ha with ⟨rfl, _⟩ | ⟨rfl, _⟩
    · exact (by decide : 1 ≤ 16777216)
    · exact Nat.zero_le _
  have hr1 := hr.make C rest kw
  refine call_kw F.excBase_ValueError (fun Y => refsVE_contains Y bm hbm) (hXs _ _ hC) (looks_findIn hXs T.iC) (fun self => bind_fn hXs self T.tC) hz ?_
  refine own_init (s := ⟨(hp.push (kdv_tup rest)).push (excO C hp.objs.size), g, dr, tk, os⟩) (base := base) (h0 := hp) T X (fun b o e => kp b o (kb b o e)) (none_at _ kb) gl bl hlim hmg hget hF kp (none_at _ fun _ _ e => e) (fun fd hfd => ?_) hr1.depth (by have := hr1.units; omega) fun h' tk' dx t1 ⟨k', hx, dn, dne, hns⟩ => ?_
  · rcases ha with ⟨rfl, rfl⟩ | ⟨rfl, rfl⟩
    · exact T.bp fd hfd _ _ _
    · exact T.bk fd hfd _ _ _
  · have z : hp.objs.size ≤ dx := by
      have y := dn
      rw [Heap.size_push, Heap.size_push] at y
      omega
    exact ⟨rfl, hq h' tk' (hp.objs.size + 1) dx ⟨fun b o e => k' b o (Nat.ne_of_lt (Nat.lt_succ_of_lt (Heap.lt_size e))) (kp b o e), Nat.le_succ _, ⟨_, hx⟩, z, dne, hns⟩⟩
end
end OwnX
end PySem
namespace L2
open PySem PySem.Spec PyProof.Rows
theorem relO_own {f : Str} {v : V} {v' : Value} (r : RelV v v') (g : Str) : RelO (List.lookup g [(f, v)]) (if g = f then some v' else none) := by
  rw [lookup_put]
  by_cases h : g = f
  · rw [if_pos h, if_pos h]
    exact r
  · rw [if_neg h, if_neg h]
    trivial
theorem xd_exo {e C : Addr} {d : Option Addr} {fs : List (Str × V)} : exo e C d ≠ .xd fs := fun z => by
  have z' : HO.ext _ = HO.xd fs := z
  cases z'
section
variable {X : Cx} {f pre qual : Str} {C fI : Addr}
/-- a value that an f-string tells by some bounded text, whatever its token -/
def FmtV (X : Cx) (v : V) (H : Hp) : Prop := ∀ (pins : List (Addr × Obj)) (σ : St) (s : Shared) (u : Value), Inv X pins σ H s → RelV v u → Fmt X.prog X.w s.heap u
/-- the end of C(..): the error and its dict are tracked -/
theorem own_end {pins : List (Addr × Obj)} {σ : St} {H : Hp} {Q : VK} {hp h' : Heap} {g : Array GenState} {d0 : Drawn} {tk tk' : Nat} {os : OsState} {e d : Addr} {v : V} {v' : Value} (I : Inv X pins σ H ⟨hp, g, d0, tk, os⟩) (rv : RelV v v')
    (M : PySem.OwnX.OwnMade hp h' e C d f v') (q : ∀ a d, H a = none → H d = none → d ≠ a → Q (.ref a) (upd (upd H d (.xd [(f, v)])) a (exo a C (some d)))) :
    EP X pins σ Q (.ref e) ⟨h', g, d0, tk', os⟩ := by
  obtain ⟨t1, hx⟩ := M.obj
  have he : H e = none := I.hok.fresh M.new
  have hd : H d = none := I.hok.fresh M.dbig
  have ne : e ≠ d := Ne.symm M.dne
  -- the dict alone first: the heap without e
  obtain ⟨G, g1, g2⟩ := restrict h' fun b => decide (b ≠ e)
  have gk : ∀ b, b ≠ e → G.get? b = h'.get? b := fun b hb => g1 b (decide_eq_true hb)
  have ge : G.get? e = none := g2 e (by simp)
  have nE : ∀ {b : Addr} {o : Obj}, hp.get? b = some o → b ≠ e := fun {b o} z => Nat.ne_of_lt (Nat.lt_of_lt_of_le (Heap.lt_size z) M.new)
  have I1 : Inv X pins σ (upd H d (.xd [(f, v)])) ⟨G, g, d0, tk, os⟩ := I.laid (t' := tk) (a := d) (o := .xd [(f, v)]) (h' := G) (fun b u z => (gk b (nE z)).trans (M.keep b u z)) M.dbig
    ⟨_, M.ns.at fun o y => (gk d M.dne).trans y, fun g => relO_own rv g⟩
  have I2 : Inv X pins σ (upd (upd H d (.xd [(f, v)])) e (exo e C (some d))) ⟨h', g, d0, tk', os⟩ := I1.laidN (t' := tk') (a := e) (o := exo e C (some d)) (h' := h') (fun b u z => by
      by_cases hb : b = e
      · rw [hb, ge] at z
        cases z
      · exact (gk b hb).symm.trans z) ge (by rw [upd_ne ne]; exact he) (exo_ok hx)
  exact ⟨.ref e, _, I2, rfl, q e d he hd M.dne⟩
/-- C(e): a new error -/
def tOwn (X : Cx) (C : Addr) (f : Str) (te : TE) : TE := fun σ H Q => te σ H fun v H1 => FmtV X v H1 ∧ ∀ a d, H1 a = none → H1 d = none → d ≠ a → Q (.ref a) (upd (upd H1 d (.xd [(f, v)])) a (exo a C (some d)))
theorem pe_own {x : Str} {e : Expr} {te : TE} {p pos : Pos} {k : Nat} (T : PySem.OwnX.OwnT X.prog X.K f pre qual C fI) (hr : Room (k + 1) X.A) (hs : X.mg "super" = none) (gC : X.mg x = some (.ref C)) (hg : Gl X x) (he : PE X e te)
    (hst : starEach [e] X.env = (false, eval e X.env) :: starEach [] X.env := by rfl) (hdb : (x == ("__debug__" : Str)) = false := by decide) (hpl : (backTo pos (starEach [] X.env)).any (·.1) = false := by rfl) :
    PE X (.Call (.Name x p) [e] [] pos) (tOwn X C f te) := by
  refine ⟨fun pins s σ H Q I h => ?_⟩
  refine wpAny_Call_Name_kw (ld_glob I hg gC ?_ hdb)
  refine PySem.W.callWith_K (h₀ := X.base) I.ok.mod.kin T.kC ?_ hst hpl
  rw [hst]
  show wpAny _ _ (spliced ((false, eval e X.env) :: backTo pos (starEach [] X.env))) _ _ s
  refine Calls.spliced_cons (thn (he.run pins s σ H _ I h) fun u s1 ⟨v, H1, I1, r1, hf, q1⟩ => ?_)
  refine Calls.spliced_nil ⟨I1.kIn, ?_⟩
  show wpAny _ _ (call (.ref C) [u]) _ _ _
  have hF := hf pins σ s1 u I1 r1
  obtain ⟨hp, g, d0, tk, os⟩ := s1
  exact wpAny_call (PySem.OwnX.own_made T I1.ok.mod.kin I1.bk I1.ok.mod.glob I1.ok.mod.blt I1.ok.mod.nolimit hs hF (.inl ⟨rfl, rfl⟩) hr fun h' tk' e d M => own_end I1 r1 M q1)
/-- C(f = e): a new error -/
def tOwnK (X : Cx) (C : Addr) (f : Str) (te : TE) : TE := fun σ H Q => tCons te tNil σ H fun vs H1 => ∃ v, vs = [v] ∧ FmtV X v H1 ∧ ∀ a d, H1 a = none → H1 d = none → d ≠ a → Q (.ref a) (upd (upd H1 d (.xd [(f, v)])) a (exo a C (some d)))
theorem pe_ownK {x : Str} {e : Expr} {te : TE} {p pos kp : Pos} {k : Nat} (T : PySem.OwnX.OwnT X.prog X.K f pre qual C fI) (hr : Room (k + 1) X.A) (hs : X.mg "super" = none) (gC : X.mg x = some (.ref C)) (hg : Gl X x) (he : PE X e te)
    (hall : (backToKw pos (keywordEach [⟨some f, e, kp⟩] X.env)).all (·.1.isSome) = true := by rfl) (hks : (backToKw pos (keywordEach [⟨some f, e, kp⟩] X.env)).filterMap (·.1) = [f] := by rfl) (hdb : (x == ("__debug__" : Str)) = false := by decide)
    (hpl : ((backTo pos (starEach [] X.env)).any (·.1) || (backToKw pos (keywordEach [⟨some f, e, kp⟩] X.env)).any (·.1.isNone)) = false := by rfl) :
    PE X (.Call (.Name x p) [] [⟨some f, e, kp⟩] pos) (tOwnK X C f te) := by
  refine ⟨fun pins s σ H Q I h => ?_⟩
  refine wpAny_Call_Name_kw (ld_glob I hg gC ?_ hdb)
  refine PySem.W.callWith_KW0 (h₀ := X.base) I.ok.mod.kin T.kC hall ?_ hpl
  refine thn ((pk_cons he pk_nil).run pos pins s σ H _ I h) fun ws s2 ⟨zs, H2, I2, rz, v, ez, hf, q2⟩ => ⟨I2.kIn, ?_⟩
  rw [hks]
  subst ez
  obtain ⟨u, rfl, rv⟩ : ∃ u, ws = [u] ∧ RelV v u := by
    cases rz with
    | cons r n =>
      cases n
      exact ⟨_, rfl, r⟩
  have hF := hf pins σ s2 u I2 rv
  obtain ⟨hp, g, d0, tk, os⟩ := s2
  exact wpAny_call (PySem.OwnX.own_made T I2.ok.mod.kin I2.bk I2.ok.mod.glob I2.ok.mod.blt I2.ok.mod.nolimit hs hF (.inr ⟨rfl, rfl⟩) hr fun h' tk' e d M => own_end I2 rv M q2)
/-! ### what such an error is asked -/
/-- an error object of the class at C: with no dict, or with its dict -/
def ExI (H : Hp) (a C : Addr) : Prop := H a = some (ExO (.ref C) a) ∨ ∃ d fs, H a = some (exo a C (some d)) ∧ H d = some (.xd fs)
theorem ExI.same {H H' : Hp} {a C : Addr} (h : ExI H a C) (k : ∀ b o, H b = some o → H' b = some o) : ExI H' a C := by
  rcases h with h | ⟨d, fs, h1, h2⟩
  · exact .inl (k _ _ h)
  · exact .inr ⟨d, fs, k _ _ h1, k _ _ h2⟩
/-- what isinstance looks up of the class at C -/
structure XisT (K : PySem.W.Frag) (C : Addr) : Prop where
  cl : (PySem.W.clsIn K C).isSome = true
  ga : PySem.W.findIn K (.ref C) "__getattribute__" = some (some (.builtin "BaseException.__getattribute__"))
  gg : PySem.W.findIn K (.ref C) "__getattr__" = some none
  ex : PySem.W.subIn K (.ref C) (.type "BaseException") = some true
  cc : PySem.W.findIn K (.ref C) "__class__" = some (some (.builtin "object.__class__"))
  ob : PySem.W.mroIn K C (.type "object") = some true
structure XisO (K : PySem.W.Frag) : Prop where
  gt : PySem.W.specialIn K (.builtin "object.__class__") "__get__" = some (some (.builtin "getset_descriptor.__get__"))
  tk : PySem.W.takesIn K (.builtin "object.__class__") = some true
theorem exi_inst {pins : List (Addr × Obj)} {σ : St} {H : Hp} {s : Shared} {a C : Addr} (I : Inv X pins σ H s) (h : ExI H a C) : ∃ ox od, PySem.W.InstAt s.heap a ox C od := by
  rcases h with h | ⟨d, fs, h1, h2⟩
  · obtain ⟨⟨oe, vs, ho, hz, hd, _⟩, _, _⟩ := I.hok a _ h
    refine ⟨oe, none, ho, hz.1, by unfold PySem.W.notCls; rw [hd] <;> rfl, ?_⟩
    rw [hz.2]
    trivial
  · obtain ⟨t1, ho⟩ := exo_at I.hok h1
    have hx : ObjOk X.prog X.w H s.heap d (.xd fs) := I.hok d _ h2
    obtain ⟨mA, ⟨od, _, _, hod, _⟩, _⟩ := hx
    exact ⟨_, some od, ho, rfl, rfl, hod⟩
/-- isinstance(e, T) -/
def rIsx (K : PySem.W.Frag) : List V → Hp → VK → Prop := fun xs H Q => ∃ (a C : Addr) (c : V) (u : Value) (b : Bool), xs = [.ref a, c] ∧ ClsV c u ∧ ExI H a C ∧ XisT K C ∧ PySem.W.kitOne K (.ref C) u = some b ∧ Q (.bl b) H
theorem call_isx (O : XisO X.K) : CallR X (.builtin "isinstance") (rIsx X.K) := by
  intro pins s σ H xs us Q I r h
  obtain ⟨a, C, c, u, b, rfl, k, hx, T, e, q⟩ := h
  obtain ⟨u1, u2, rfl, r1, r2⟩ := vals2 r
  have e2 := k.eq r2
  subst e2
  obtain rfl : u1 = Value.ref a := r1
  obtain ⟨ox, od, J⟩ := exi_inst I hx
  exact PySem.W.kia_one (PySem.W.kitx_exc T.cl T.ga T.gg T.ex T.cc O.gt O.tk T.ob) I.kIn J e (fun z => nomatch z) fun tk => ⟨.bl b, H, I.tok tk, rfl, q⟩
/-- e.f -/
def tFldx (K : PySem.W.Frag) (f : Str) (te : TE) : TE := fun σ H Q => te σ H fun x H1 => ∃ (a C d : Addr) (fs : List (Str × V)) (v : V), x = .ref a ∧ H1 a = some (exo a C (some d)) ∧ H1 d = some (.xd fs) ∧ XfC K C ∧ PySem.W.findIn K (.ref C) f = some none ∧ fs.lookup f = some v ∧ Q v H1
theorem pe_fldx {e : Expr} {te : TE} {pos : Pos} (he : PE X e te) (hb : attributeBase e f X.env (eval e X.env) = eval e X.env := by rfl) : PE X (.Attribute e f pos) (tFldx X.K f te) := by
  refine ⟨fun pins s σ H Q I h => ?_⟩
  refine attr_of hb (thn (he.run pins s σ H _ I h) fun u s1 hh => ?_)
  obtain ⟨x, H1, I1, rx, a, C, d, fs, v, ex, ea, ed, T, hno, l, q⟩ := hh
  subst ex
  obtain rfl : u = Value.ref a := rx
  obtain ⟨t1, ho⟩ := exo_at I1.hok ea
  have hx : ObjOk X.prog X.w H1 s1.heap d (.xd fs) := I1.hok d _ ed
  obtain ⟨mA, hns, hr⟩ := hx
  obtain ⟨od, hod, hl⟩ := lookIn_ns hns
  obtain ⟨u, hu, ru⟩ := RelO.some_of (v := v) (o := mA f) (by rw [← l]; exact hr f)
  have J : PySem.W.InstAt s1.heap a _ C (some od) := ⟨ho, rfl, rfl, hod⟩
  exact HandSPX.exc_get I1.kIn J T.ga T.gg T.exC (PySem.W.findObj_own T.hdC hno rfl (by rw [hl, hu])) (handed_of ru) ⟨v, H1, I1.tok _, ru, q⟩
end
end L2
end
section
set_option Elab.async false
set_option linter.all false
set_option maxRecDepth 100000
set_option maxHeartbeats 4000000
namespace L2
open PySem PySem.Spec PyProof.Rows
/-- o.f as a target of an unpacking -/
def gFld (K : PySem.W.Frag) (ta : TE) (f : Str) : TG := fun y σ H Q => ta σ H fun x H1 => ∃ a C dx fs, x = .ref a ∧ H1 a = some (.ins C dx fs) ∧ Cls K C ∧ NoAttr K C f ∧ fs.length < 1000 ∧ Q σ (upd H1 a (.ins C dx (putF f y fs)))
theorem pg_fld {X : Cx} {o : Expr} {f : Str} {pos : Pos} {ta : TE} (ho : PE X o ta)
    (ha : ∀ v, assign (.Attribute o f pos) X.env v = (do
      let ov ← holding [v] (eval o X.env)
      standAt pos.atName
      holding [v, ov] (setAttr ov f v)
      release [v, ov] []) := by intro _; rfl) : PG X (.Attribute o f pos) (gFld X.K ta f) := by
  refine ⟨fun pins s σ H v u Q I r h => ?_⟩
  rw [ha]
  refine wpAny_bind (wpAny_holding (thn (ho.run pins s σ H _ I h) fun ov s1 ⟨x, H1, I1, r1, a, C, dx, fs, ex, ea, c, n, l, q⟩ => ?_))
  subst ex
  obtain rfl : ov = Value.ref a := r1
  refine wpAny_bind (wpAny_standAt (wpAny_bind (wpAny_holding (setattr_ok I1 ea c n l r fun s3 I3 => ?_))))
  exact wpAny_release ⟨σ, _, I3, q⟩
end L2
end
section
set_option Elab.async false
set_option linter.all false
set_option maxRecDepth 100000
set_option maxHeartbeats 4000000
namespace RT
open PySem PySem.Spec PyProof.Rows L2
section
variable {prog : Program} {w : World} {A : Around} {E : Value → Shared → Prop} {s : Shared}
theorem extend_rev {R : Result → Shared → Prop} {it l : Addr} {items : Array Value} (hh : A.handled = none) (hit : s.heap.IsRevIter it l ((items.size : Int) - 1)) (hl : s.heap.IsList l items) (hne : l ≠ it) (hn : items.size ≤ sizeLine)
    (S : Addr) (hSi : S ≠ it) (hSl : S ≠ l) (res : Value) (c₀ : Nat) (hS : s.heap.get? S = some { cls := .type "list", data := .seq #[] c₀ })
    (hR : ∀ h' tk acc' c', (∀ b o, b ≠ S → b ≠ it → s.heap.get? b = some o → h'.get? b = some o) → h'.get? S = some { cls := .type "list", dict := none, data := .seq acc' c', slots := #[] } → ItemsOf (fun i v => items[items.size - 1 - i]? = some v) acc' items.size → R (.ok (.ret res)) { s with heap := h', toks := tk }) :
    wpAny (model prog w) A.in1 (Builtin.List.listExtendWith (.ref S) (.ref it) res)
      (fun fin s' => match fin with | .done f => R (.ok f) s' | .again c' => c'.quiet = true ∧ codeAny (model prog w) A c' R s') (fun e s' => R (.error e) s') s := by
  have W := (Walks.listRev (prog := prog) (w := w) (A := A.in1) hh it l hne items).toS
  have hSf : S ∉ [it, l] := by simp only [List.mem_cons, List.not_mem_nil, or_false, not_or]; exact ⟨hSi, hSl⟩
  have h1 : Builtin.List.listSameRef (.ref S) (.ref it) = false := by simp [Builtin.List.listSameRef, hSi]
  have hT : s.TypeIs (.ref it) "list_reverseiterator" := hit.typeIs
  unfold Builtin.List.listExtendWith
  refine wpAny_bind (wpAny_typeOf hT ?_)
  rw [if_neg (by rw [h1]; decide)]
  refine wpAny_bind (wpAny_pyIter_revIter hit ?_)
  refine wpAny_bind (wpAny_holding ?_)
  unfold Builtin.List.listLengthHint
  refine wpAny_bind (wpAny_specialOf hT nolen_lri ?_)
  show wpAny _ A.in1 (specialOf (Value.ref it) (Str.ofString "__length_hint__") >>= _) _ _ _
  refine wpAny_bind (wpAny_specialOf hT hint_lri ?_)
  generalize hid : ("list_reverseiterator.__length_hint__" : String) = id0
  wp_delta
  rw [show splitId id0 = some ("list_reverseiterator", "__length_hint__") from by subst hid; decide +kernel]
  subst hid
  refine wpAny_bind (wpAny_isInstance (b := true) hT (by rw [isSubtype_type]; kernel_rfl) ?_)
  refine wpAny_pure ?_
  rw [if_neg (by decide)]
  have e0 : ((items.size : Nat) : Int) - 1 - ((0 : Nat) : Int) = (items.size : Int) - 1 := by omega
  refine wpAny_pure ⟨plainId_quiet F.plain_extend_loop _, codeAny_extend_loopS W hn _ hSf _ items.size 0 _ _ _ rfl (Nat.zero_le _) ⟨Nat.zero_le _, by rw [e0]; exact hit, hl⟩ hS (ItemsOf.nil _) fun s' acc' c' hm hS' hacc => ?_⟩
  rw [Moved.eq_with hm]
  refine hR s'.heap s'.toks acc' c' (fun b o hb hb2 e => hm.heap b o (fun hmem => ?_) e) hS' hacc
  rcases List.mem_cons.mp hmem with e' | hmem
  · exact hb e'
  · exact hb2 (List.mem_singleton.mp hmem)
theorem call_list_rev {it l : Addr} {items : Array Value} {Q : Value → Shared → Prop} (hh : A.handled = none) (hit : s.heap.IsRevIter it l ((items.size : Int) - 1)) (hl : s.heap.IsList l items) (hne : l ≠ it) (hn : items.size ≤ sizeLine)
    (hQ : ∀ h' tk acc' c', (∀ b o, b ≠ it → s.heap.get? b = some o → h'.get? b = some o) → h'.get? s.heap.objs.size = some { cls := .type "list", dict := none, data := .seq acc' c', slots := #[] } → ItemsOf (fun i v => items[items.size - 1 - i]? = some v) acc' items.size → Q (.ref s.heap.objs.size) { s with heap := h', toks := tk }) :
    wpAny (model prog w) A (call (.type "list") [.ref it]) Q E s := by
  refine callType_codes (Q₁ := fun obj s₁ => obj = .ref s.heap.objs.size ∧ s₁ = { s with heap := s.heap.push { cls := .type "list", data := .seq #[] } }) PySem.F.called_list (PySem.F.typeCall_list_1 _) PySem.F.entry_list_init
    (code_list_new _ ⟨rfl, rfl⟩) fun obj s₁ h₁ => ?_
  obtain ⟨rfl, rfl⟩ := h₁
  have hS : (s.heap.push { cls := .type "list", data := .seq #[] }).get? s.heap.objs.size = some { cls := .type "list", data := .seq #[] } := Heap.get?_push_size _ rfl
  obtain ⟨oi, hoi, _⟩ := id hit
  obtain ⟨ol, hol, _⟩ := id hl
  have hSi : s.heap.objs.size ≠ it := Nat.ne_of_gt (Heap.lt_size hoi)
  have hSl : s.heap.objs.size ≠ l := Nat.ne_of_gt (Heap.lt_size hol)
  refine ⟨⟨_, hS, rfl⟩, PySem.F.args_list_init_2 _ _, ?_⟩
  show wpAny _ _ (do let old ← Builtin.List.listItems (.ref s.heap.objs.size); Builtin.List.listUpdate (.ref s.heap.objs.size) (fun _ => #[]); letGo old.toList.reverse; Builtin.List.listExtendWith (.ref s.heap.objs.size) (.ref it) .none) _ _ _
  refine wpAny_bind ?_
  unfold Builtin.List.listItems
  refine wpAny_bind (wpAny_seqItems hS rfl (wpAny_pure ?_))
  show wpAny _ _ (updateSeq s.heap.objs.size (fun _ => #[]) >>= fun _ => letGo (#[] : Array Value).toList.reverse >>= fun _ => Builtin.List.listExtendWith (.ref s.heap.objs.size) (.ref it) .none) _ _ _
  refine wpAny_bind (wpAny_updateSeq hS rfl ?_)
  have hS₂ := Heap.get?_update_self (Obj.mapSeq (fun _ => (#[] : Array Value))) hS rfl
  have oth : ∀ b o, s.heap.get? b = some o → ((s.heap.push { cls := .type "list", data := .seq #[] }).update s.heap.objs.size (Obj.mapSeq (fun _ => (#[] : Array Value)))).get? b = some o :=
    fun b o e => (Heap.get?_update_other _ _ (Nat.ne_of_gt (Heap.lt_size e))).trans (Heap.get?_push_of_some _ e)
  refine wpAny_bind (wpAny_letGo ?_)
  refine extend_rev (A := A.in1) (l := l) (items := items) hh (hit.at fun o e => oth it o e) ?_ hne hn _ hSi hSl .none _ hS₂ (fun h' tk acc' c' hk hS' hacc => ?_)
  · obtain ⟨o, ho, hr⟩ := hl
    exact ⟨o, oth l o ho, hr⟩
  · exact ⟨rfl, hQ h' tk acc' c' (fun b o hb e => hk b o (Nat.ne_of_lt (Heap.lt_size e)) hb (oth b o e)) hS' hacc⟩
end
/-- list(reversed(x)), x a list: a new list -/
def tListRev (K : PySem.W.Frag) (te : TE) : TE := fun σ H Q => te σ H fun v H1 => ∃ (a : Addr) (xs : List V), v = .ref a ∧ SqL K H1 a xs ∧ ∀ q, H1 q = none → Q (.ref q) (upd H1 q (.lst xs.reverse))
section
variable {X : Cx}
theorem pe_listRev {e : Expr} {te : TE} {p p2 pos pos2 : Pos} (hc : X.calm = true) (hg : Gl X "list") (hm : X.mg "list" = none) (hg2 : Gl X "reversed") (hm2 : X.mg "reversed" = none) (he : PE X e te)
    (hs : starEach [e] X.env = (false, eval e X.env) :: starEach [] X.env := by rfl)
    (hs2 : starEach [.Call (.Name "reversed" p2) [e] [] pos2] X.env = (false, eval (.Call (.Name "reversed" p2) [e] [] pos2) X.env) :: starEach [] X.env := by rfl) :
    PE X (.Call (.Name "list" p) [.Call (.Name "reversed" p2) [e] [] pos2] [] pos) (tListRev X.K te) := by
  refine ⟨fun pins s σ H Q I h => ?_⟩
  refine Call_ (ld_blt I hg hm boot_list (PyProof.Rows.callWith_type1 (args_cons (Call_ (ld_blt I hg2 hm2 PyProof.Rows.boot_reversed (PyProof.Rows.callWith_type1 (args_cons (thn (he.run pins s σ H _ I h) fun u s1 ⟨v, H1, I1, r1, q1⟩ => args_nil ?_) hs) hs rfl))) hs2) hs2 rfl))
  obtain ⟨a, xs, ev, hq, q⟩ := q1
  subst ev
  obtain rfl : u = Value.ref a := r1
  obtain ⟨its, rv, p', hz⟩ := I1.list hq
  refine call_reversed_list p'.isList (args_nil ?_)
  have k0 : ∀ b o, s1.heap.get? b = some o → (s1.heap.push (revObj a ((its.toArray.size : Int) - 1))).get? b = some o := fun b o e => Heap.get?_push_of_some _ e
  have I2 : Inv X pins σ H1 { s1 with heap := s1.heap.push (revObj a ((its.toArray.size : Int) - 1)) } := I1.kept (t' := s1.toks) k0
  obtain ⟨f0, f1, f2, f3, f4, f5⟩ := I1.fpOk (H' := H1) (b := s1.heap.objs.size) (Nat.le_refl _) (I1.hok.fresh (Nat.le_refl _))
  have hl := p'.isList
  obtain ⟨ol, hol, _⟩ := id hl
  have hne : a ≠ s1.heap.objs.size := Nat.ne_of_lt (Heap.lt_size hol)
  have hn : its.toArray.size ≤ sizeLine := by rw [List.size_toArray, ← rv.length]; exact hz
  refine call_list_rev (s := { s1 with heap := s1.heap.push (revObj a ((its.toArray.size : Int) - 1)) }) (I1.ok.hd hc) ⟨_, Heap.get?_push_size _ rfl, rfl, rfl⟩ (hl.push _) hne hn fun h' tk acc c' hk hS hi => ?_
  have hSz : (s1.heap.push (revObj a ((its.toArray.size : Int) - 1))).objs.size = s1.heap.objs.size + 1 := Heap.size_push _ _
  obtain ⟨G, g1, g2⟩ := restrict h' fun b => decide (b ≠ (s1.heap.push (revObj a ((its.toArray.size : Int) - 1))).objs.size)
  have gk : ∀ b, b ≠ (s1.heap.push (revObj a ((its.toArray.size : Int) - 1))).objs.size → G.get? b = h'.get? b := fun b hb => g1 b (decide_eq_true hb)
  have ge : G.get? (s1.heap.push (revObj a ((its.toArray.size : Int) - 1))).objs.size = none := g2 _ (by simp)
  have I3 : Inv X pins σ H1 { s1 with heap := G, toks := tk } := I2.turned (t' := tk) (fun b o hb e => (gk b (Nat.ne_of_lt (Heap.lt_size e))).trans (hk b o hb e)) f0 f1 f3 f4 f5
  have hfr : H1 (s1.heap.push (revObj a ((its.toArray.size : Int) - 1))).objs.size = none := I1.hok.fresh (by rw [hSz]; exact Nat.le_succ _)
  have ob : ObjOk X.prog X.w (upd H1 (s1.heap.push (revObj a ((its.toArray.size : Int) - 1))).objs.size (.lst xs.reverse)) h' (s1.heap.push (revObj a ((its.toArray.size : Int) - 1))).objs.size (.lst xs.reverse) :=
    ⟨by rw [List.length_reverse]; exact hz, acc.toList, c', vals_rev rv hi, by rw [Array.toArray_toList]; exact hS⟩
  have J := L2.Inv.laidN (s := { s1 with heap := G, toks := tk }) (h' := h') (t' := tk) I3 (fun b o e => by
    have nb : b ≠ (s1.heap.push (revObj a ((its.toArray.size : Int) - 1))).objs.size := fun z => by
      have e' : G.get? b = some o := e
      rw [z, ge] at e'
      cases e'
    exact (gk b nb).symm.trans e) ge hfr ob
  exact ⟨.ref _, _, J, rfl, q _ hfr⟩
end
end RT
end
section
set_option Elab.async false
set_option linter.all false
set_option maxRecDepth 100000
set_option maxHeartbeats 4000000
namespace DelS
open PySem PySem.Spec PyProof.Rows L2
def sel (start stop step : Int) (i : Nat) : Bool :=
  if step > 0 then start ≤ i && i < stop && (i - start) % step == 0
  else stop < i && i ≤ start && (start - i) % (-step) == 0
theorem sel_one {a n i : Nat} (h : i < n) : sel (a : Int) (n : Int) 1 i = decide (a ≤ i) := by
  unfold sel
  rw [if_pos (by decide)]
  have e1 : ((i : Int) - (a : Int)) % 1 = 0 := Int.emod_one _
  rw [e1]
  have e2 : decide ((i : Int) < (n : Int)) = true := decide_eq_true (by omega)
  rw [e2]
  have e3 : decide ((a : Int) ≤ (i : Int)) = decide (a ≤ i) := by
    rw [decide_eq_decide]
    omega
  rw [e3]
  simp
theorem rest_of {α : Type} (a n : Nat) : ∀ (l : List α) (k : Nat), k + l.length = n → (l.zipIdx k).filterMap (fun p => if sel (a : Int) (n : Int) 1 p.2 then none else some p.1) = l.take (a - k)
  | [], k, _ => by simp
  | x :: r, k, h => by
    have hk : k < n := by rw [List.length_cons] at h; omega
    rw [List.zipIdx_cons, List.filterMap_cons]
    have ih := rest_of a n r (k + 1) (by rw [List.length_cons] at h; omega)
    show (match (if sel (a : Int) (n : Int) 1 k = true then none else some x) with | none => _ | some b => b :: _) = _
    rw [sel_one hk, ih]
    by_cases c : a ≤ k
    · rw [decide_eq_true c, if_pos rfl]
      have e1 : a - k = 0 := by omega
      have e2 : a - (k + 1) = 0 := by omega
      rw [e1, e2]
      simp
    · rw [decide_eq_false c, if_neg Bool.false_ne_true]
      have e1 : a - k = (a - (k + 1)) + 1 := by omega
      rw [e1, List.take_succ_cons]
section
variable {prog : Program} {w : World} {A : Around} {E : Value → Shared → Prop} {s : Shared}
theorem bounds_from {a n : Nat} (h : a ≤ n) : sliceBounds (some (a : Int)) none none n = ((a : Int), (n : Int), 1) := by
  simp only [sliceBounds, Option.getD_none]
  have h1 : ¬ ((a : Int) < 0) := by omega
  simp only [h1, if_false, show (1 : Int) > 0 by decide, if_true]
  congr 1
  omega
/-- list.__delitem__ with a slice from a place to the end -/
theorem delItem_from {l sl : Addr} {items : Array Value} {n : Nat} {vl : Value} {a : Nat} {Q : Unit → Shared → Prop}
    (e : s.heap.get? l = some { cls := .type "list", data := .seq items n }) (hs : s.heap.IsSliceOf sl vl .none .none) (pl : IsPart vl (some (a : Int))) (ha : a ≤ items.size)
    (hsz : items.size ≤ sizeLine) (h : ∀ f : Array Value → Array Value, f items = (items.toList.take a).toArray → Q () { s with heap := s.heap.update l (Obj.mapSeq f) }) :
    wpAny (model prog w) A (delItem (.ref l) (.ref sl)) Q E s := by
  have hl : s.heap.IsList l items := PySem.IsL.isList e
  obtain ⟨os, hos, hcs, hds⟩ := id hs
  have hTs : s.TypeIs (.ref sl) "slice" := ⟨os, hos, hcs⟩
  have hstep : ¬ ((rawPart none == rawInt 0) = true) := Bool.false_ne_true
  unfold delItem
  try with_reducible refine wpAny_holding ?_
  refine wpAny_bind (wpAny_sequenceKey hl.typeIs (by decide) ?_)
  refine wpAny_bind (wpAny_callSpecial?_slot (name := Str.ofString "__delitem__") hl.typeIs PySem.F.slot_list_delitem
    (wpAny_call_entry PySem.F.slot_list_delitem hl.typeIs PySem.F.entry_list_delitem ?_ (PySem.F.args_list_delitem_2 _ _)))
  show wpAny _ _ (Builtin.List.listSubscript? (.ref sl) >>= _) _ _ s
  refine wpAny_bind ?_
  unfold Builtin.List.listSubscript?
  refine wpAny_bind (wpAny_specialOf hTs slice_no_index ?_)
  simp only [Option.isNone_none, if_true]
  refine wpAny_pure ?_
  show wpAny _ _ (typeOf (.ref sl) >>= _) _ _ s
  refine wpAny_bind (wpAny_typeOf hTs ?_)
  rw [if_neg (by decide)]
  rw [listSliceParts_eq]
  refine wpAny_bind (wpAny_bind (wpAny_field hos hds (x := .none) rfl (wpAny_bind (wpAny_listPart .none ?_))))
  rw [if_neg hstep]
  refine wpAny_bind (wpAny_field hos hds (x := vl) rfl (wpAny_bind (wpAny_listPart pl ?_)))
  refine wpAny_bind (wpAny_field hos hds (x := .none) rfl (wpAny_bind (wpAny_listPart .none (wpAny_pure ?_))))
  unfold Builtin.List.listItems
  refine wpAny_bind (wpAny_bind (wpAny_seqItems e rfl (wpAny_pure ?_)))
  refine wpAny_bind (wpAny_of_eq ((sliceIndices_raw (some (a : Int)) none none items.size (by simp)).trans (congrArg (pure : Int × Int × Int → Sem (Int × Int × Int)) (bounds_from ha))) ?_)
  refine wpAny_bind (wpAny_rule ?_)
  unfold Builtin.List.listUpdate
  dsimp only
  have hf : ∀ f : Array Value → Array Value, (∀ xs, f xs = (xs.toList.zipIdx.filterMap fun p => if sel (a : Int) (items.size : Int) 1 p.2 then none else some p.1).toArray) → f items = (items.toList.take a).toArray := fun f q => by
    rw [q]
    exact congrArg List.toArray (rest_of a items.size items.toList 0 (by simp))
  have hz' : ∀ f : Array Value → Array Value, f items = (items.toList.take a).toArray → (f items).size ≤ sizeLine + 1 := fun f q => by
    rw [q, List.size_toArray, List.length_take, Array.length_toList]
    omega
  have fin : ∀ f : Array Value → Array Value, f items = (items.toList.take a).toArray → ∀ (gone : List Value), wpAny (model prog w) A.in1 (updateSeq l f >>= fun _ => letGo gone >>= fun _ => ret Value.none)
      (fun fin s' => ∃ v, fin = Fin.done (Flow.ret v) ∧ wpAny (model prog w) A (pure ()) Q E s') E s := fun f q gone => by
    refine wpAny_bind (wpAny_updateSeq (hz := hsz) (_hz' := hz' f q) e rfl ?_)
    refine wpAny_bind (wpAny_letGo ?_)
    exact wpAny_pure ⟨.none, rfl, wpAny_pure (h f q)⟩
  refine fin _ (hf _ fun xs => ?_) _
  exact congrArg (fun g => (List.filterMap g xs.toList.zipIdx).toArray) (funext fun x => rfl)
end
end DelS
namespace L2
open PySem PySem.Spec PyProof.Rows
/-- del xs[a:] of a list -/
def tDelFrom (to ti : TE) : TS := fun D σ H => to σ H fun x H1 => ti σ H1 fun y H2 => ∃ (l : Addr) (xs : List V) (a : Nat), x = .ref l ∧ y = .int (a : Int) ∧ H2 l = some (.lst xs) ∧ a ≤ xs.length ∧ D.nx σ (upd H2 l (.lst (xs.take a)))
theorem ps_delFrom {X : Cx} {o i : Expr} {to ti : TE} {p2 tpos pos : Pos} (ho : PE X o to) (hi : PE X i ti) : PS X (.Delete [.Subscript o (.Slice (some i) none none p2) tpos] pos) (tDelFrom to ti) := by
  refine ⟨fun pins s σ H D I h => ?_⟩
  refine wpAny_Delete (wpAny_deleteEach_cons (wpAny_delete_Subscript (thn (ho.run pins s σ H _ I h) fun u s1 ⟨x, H1, I1, rx, q1⟩ => ?_)))
  refine wpAny_Slice (thn (hi.run pins s1 σ H1 _ I1 q1) fun vl s2 ⟨y, H2, I2, ry, q2⟩ => ?_)
  obtain ⟨l, xs, a, ex, ey, hH, ha, q3⟩ := q2
  subst ex
  subst ey
  cases (show u = Value.ref l from rx)
  obtain ⟨t, rfl⟩ := (show ∃ t, vl = Value.int (a : Int) t from ry)
  rw [evalPart_none]
  refine wpAny_pure (wpAny_pure ?_)
  have I3 : Inv X pins σ H2 { s2 with heap := s2.heap.push { cls := .type "slice", data := .fields #[.int (a : Int) t, .none, .none] } } := I2.kept (t' := s2.toks) fun b ob q => Heap.get?_push_of_some _ q
  obtain ⟨z, its, n, r, hl, e⟩ := I3.lstM hH
  refine DelS.delItem_from e (Heap.IsSliceOf.new ..) (.int _ _) (by rw [List.size_toArray, ← hl]; exact ha) (by rw [List.size_toArray, ← hl]; exact z) fun f hf => ?_
  refine wpAny_deleteEach_nil ⟨σ, _, I3.lset (its' := its.take a) (f := f) (t' := s2.toks) hH e ?_ (r.take a) ?_, q3⟩
  · exact hf
  · rw [List.length_take]
    omega
end L2
end
section
set_option Elab.async false
set_option linter.all false
set_option maxRecDepth 100000
set_option maxHeartbeats 4000000
namespace L2
open PySem PySem.Spec PyProof.Rows
/-! defs, methods and makings in bundles: a name, its level, its promise -/
section
variable (P : Program) (w : World) (K : PySem.W.Frag) (mg : Str → Option Value) (base : Heap)
/-- the module's name x is a def of this promise -/
def Dn (CX : CXT) (x : Str) (k n : Nat) (sp : Sp) : Prop := ∃ (f : Addr) (fd : FuncData) (ps : List Str), ps.length = n ∧ mg x = some (.ref f) ∧ PySem.W.keepIn K (.ref f) = true ∧ Binds K fd ps [] ∧ FnOk P w K mg base CX k f fd ps sp
/-- the class at C has the method m of this promise -/
def Mn (CX : CXT) (C : Addr) (m : Str) (k n : Nat) (sp : Sp) : Prop := ∃ (f : Addr) (fd : FuncData) (ps : List Str), ps.length = n ∧ Meth K C m f ∧ Binds K fd ps [] ∧ FnOk P w K mg base CX k f fd ps sp
/-- the class named x, at C, is made with an __init__ of this promise -/
def Kn (CX : CXT) (x : Str) (C : Addr) (k n : Nat) (sp : Sp) : Prop := ∃ (f : Addr) (fd : FuncData) (ps : List Str), ps.length = n ∧ mg x = some (.ref C) ∧ Mk K C f ∧ Binds K fd ps [] ∧ FnOk P w K mg base CX k f fd ps sp
end
section
variable {X : Cx} {CX : CXT} {k n : Nat} {C : Addr} {sp : Sp} {E : XK} {x m : Str} {p pos apos : Pos} {e o : Expr} {es : List Expr} {ta : TE} {t : TA}
theorem pe_dn (D : Dn X.prog X.w X.K X.mg X.base CX x k n sp) (hr : Room k X.A) (hx : Passes CX X E) (ha : PA X (e :: es) t) (hg : Gl X x := by rfl) (hdb : (x == ("__debug__" : Str)) = false := by decide)
    (he : starEach (e :: es) X.env = (false, eval e X.env) :: starEach es X.env := by rfl) (hpl : (backTo pos (starEach es X.env)).any (·.1) = false := by rfl) : PE X (.Call (.Name x p) (e :: es) [] pos) (tCall sp [] E t) := by
  obtain ⟨f, fd, ps, _, hm, hk, hb, F⟩ := D
  exact pe_call F hr hg hm hk hb .nil hx ha hdb he hpl
theorem pe_mn {pl : Sem Bool} (c : Cls X.K C) (D : Mn X.prog X.w X.K X.mg X.base CX C m k n sp) (hr : Room k X.A) (hx : Passes CX X E) (ho : PE X o ta) (ha : PA X (e :: es) t)
    (hst : starEach (e :: es) X.env = (false, eval e X.env) :: starEach es X.env := by rfl) (hpl : (backTo pos (starEach es X.env)).any (·.1) = false := by rfl)
    (ht : eval (.Call (.Attribute o m apos) (e :: es) [] pos) X.env = (do
      let ov ← eval o X.env
      standAt apos.atName
      let (f, first) ← holding [ov] (getMethod ov m pl)
      callWith pos f first (backTo pos (starEach (e :: es) X.env)) (backToKw pos (keywordEach [] X.env))) := by rfl) : PE X (.Call (.Attribute o m apos) (e :: es) [] pos) (tMeth C m sp [] E ta t) := by
  obtain ⟨f, fd, ps, _, hm, hb, F⟩ := D
  exact pe_meth ho c hm F hr hb .nil hx ha hst hpl ht
theorem pe_mn0 {pl : Sem Bool} (c : Cls X.K C) (D : Mn X.prog X.w X.K X.mg X.base CX C m k n sp) (hr : Room k X.A) (hx : Passes CX X E) (ho : PE X o ta)
    (ht : eval (.Call (.Attribute o m apos) [] [] pos) X.env = (do
      let ov ← eval o X.env
      standAt apos.atName
      let (f, first) ← holding [ov] (getMethod ov m pl)
      callWith pos f first (backTo pos (starEach [] X.env)) (backToKw pos (keywordEach [] X.env))) := by rfl) : PE X (.Call (.Attribute o m apos) [] [] pos) (tMeth C m sp [] E ta tNil) := by
  obtain ⟨f, fd, ps, _, hm, hb, F⟩ := D
  exact pe_meth0 ho c hm F hr hb .nil hx ht
theorem pe_kn (D : Kn X.prog X.w X.K X.mg X.base CX x C k n sp) (hr : Room (k + 1) X.A) (hx : Passes CX X E) (ha : PA X (e :: es) t) (hg : Gl X x := by rfl) (hdb : (x == ("__debug__" : Str)) = false := by decide)
    (he : starEach (e :: es) X.env = (false, eval e X.env) :: starEach es X.env := by rfl) (hpl : (backTo pos (starEach es X.env)).any (·.1) = false := by rfl) : PE X (.Call (.Name x p) (e :: es) [] pos) (tMake C sp [] E t) := by
  obtain ⟨f, fd, ps, _, hm, M, hb, F⟩ := D
  exact pe_make M F hr hg hm hb .nil hx ha hdb he hpl
end
theorem Dn.mono {P : Program} {w : World} {K : PySem.W.Frag} {mg : Str → Option Value} {base : Heap} {CX : CXT} {x : Str} {j k n : Nat} {sp : Sp} (D : Dn P w K mg base CX x j n sp) (h : j ≤ k) : Dn P w K mg base CX x k n sp :=
  let ⟨f, fd, ps, e, a, b, c, F⟩ := D
  ⟨f, fd, ps, e, a, b, c, F.mono h⟩
theorem Mn.mono {P : Program} {w : World} {K : PySem.W.Frag} {mg : Str → Option Value} {base : Heap} {CX : CXT} {C : Addr} {m : Str} {j k n : Nat} {sp : Sp} (D : Mn P w K mg base CX C m j n sp) (h : j ≤ k) : Mn P w K mg base CX C m k n sp :=
  let ⟨f, fd, ps, e, a, c, F⟩ := D
  ⟨f, fd, ps, e, a, c, F.mono h⟩
/-! heaps that grow -/
theorem same_new {H : Hp} {p : Addr} {o : HO} (h : H p = none) : Same H (upd H p o) := fun b u e => by
  rw [upd_ne (ne_of_none e h)]
  exact e
end L2
end
section
set_option Elab.async false
set_option linter.all false
set_option maxRecDepth 100000
set_option maxHeartbeats 4000000
namespace L2
open PySem PySem.Spec PyProof.Rows
/-- a constant of the module that is an int -/
theorem pe_gi {X : Cx} {x : Str} {pos : Pos} {i : Int} (h : ∃ t, X.mg x = some (.int i t)) (hg : Gl X x := by rfl) (hd : (x == ("__debug__" : Str)) = false := by decide) : PE X (.Name x pos) (tC (.int i)) := by
  obtain ⟨t, e⟩ := h
  exact pe_glob hg e ⟨t, rfl⟩ hd
theorem Same.seqT {K : PySem.W.Frag} {H H' : Hp} {a : Addr} {xs : List V} (e : Same H H') (h : SqT K H a xs) : SqT K H' a xs := by
  rcases h with (h | ⟨o, h⟩) | h
  · exact .inl (.inl (e _ _ h))
  · exact .inl (.inr ⟨o, e _ _ h⟩)
  · exact .inr h
theorem range_succ_map {α : Type} (f : Nat → α) (i : Nat) : (List.range (i + 1)).map f = (List.range i).map f ++ [f i] := by
  rw [List.range_succ, List.map_append]
  rfl
/-- a comprehension without a test whose i-th element is f i, the heap growing alone -/
theorem lc_map {J : It} {n : Nat} {G : Hp → Prop} {Y : Nat → Hp → V → Hp → Prop} (w : Walk J n G Y) {g : TG} {te : TE} {vs : List Nat} {σ : St} {H1 : Hp} {D : Addr} {Qd : Hp → Prop} (f : Nat → V) (hn : n ≤ sizeLine) (hD : H1 D = none)
    (hG : ∀ H, Same H1 H → G H) (hY : ∀ i H x H', i < n → Y i H x H' → Same H H')
    (hs : ∀ (i : Nat) (x : V) (H H' : Hp) (Kt : V → Hp → Prop), i < n → Same H1 H → Same H1 H' → Y i H x H' → (∀ H4, Same H' H4 → Kt (f i) H4) → g x (wipe σ vs) H' fun σ2 H2 => wipe σ2 vs = wipe σ vs ∧ te σ2 H2 Kt)
    (hd : ∀ H, Same H1 H → H D = some (.lst ((List.range n).map f)) → Qd H) :
    ∃ W : Nat → Nat → Hp → Prop, (∃ m, W 0 m (upd H1 D (.lst []))) ∧ ∀ i m H, W i m H →
      (J.stop i H ∧ Qd H) ∨ (J.go i H ∧ ∃ Nx : Hp → Prop, (∀ H', Nx H' → ∃ m', m' < m ∧ W (i + 1) m' H') ∧ ∀ x H', J.yld i H x H' → g x (wipe σ vs) H' fun σ2 H2 => wipe σ2 vs = wipe σ vs ∧ tYes σ2 H2 fun b H3 =>
        if b = true then te σ2 H3 fun y H4 => ∃ acc, H4 D = some (.lst acc) ∧ acc.length < sizeLine ∧ Nx (upd H4 D (.lst (acc ++ [y]))) else Nx H3) := by
  have fromD : ∀ {H : Hp} {o : HO}, Same H1 H → Same H1 (upd H D o) := fun {H o} s b u e => by
    rw [upd_ne (ne_of_none e hD)]
    exact s _ _ e
  refine lc_it w (fun i H => Same H1 H ∧ H D = some (.lst ((List.range i).map f))) ⟨fun b o e => by rw [upd_ne (ne_of_none e hD)]; exact e, upd_same⟩ (fun i H _ p => hG H p.1) (fun i x H H' hi p y => ?_) (fun H p => hd H p.1 p.2)
  have s1 := hY i H x H' hi y
  refine hs i x H H' _ hi p.1 (p.1.trans s1) y fun H4 s4 => ?_
  refine ⟨_, s4 _ _ (s1 _ _ p.2), ?_, fromD ((p.1.trans s1).trans s4), ?_⟩
  · rw [List.length_map, List.length_range]
    omega
  · rw [upd_same, range_succ_map]
theorem walk_zipL {K : PySem.W.Frag} {a b : Addr} {xs ys : List V} {n : Nat} (hn : n = min xs.length ys.length) : Walk (Itz K a b) n (fun H => SqL K H a xs ∧ SqL K H b ys) (YPair (fun i => xs[i]?) (fun i => ys[i]?)) := walk_zip hn
theorem walk_zipT {K : PySem.W.Frag} {a b : Addr} {xs ys : List V} {n : Nat} (hn : n = min xs.length ys.length) : Walk (RZ.ItzT K a b) n (fun H => SqT K H a xs ∧ SqT K H b ys) (YPair (fun i => xs[i]?) (fun i => ys[i]?)) where
  goes := fun i H hi h => ⟨xs, ys, xs[i]'(by omega), ys[i]'(by omega), h.1, h.2, List.getElem?_eq_getElem _, List.getElem?_eq_getElem _⟩
  stops := fun H h => ⟨xs, ys, h.1, h.2, by omega⟩
  yields := fun i H x H' hi h y => by
    obtain ⟨T, u, v, e, n, e2, h1, h2⟩ := y
    exact ⟨T, u, v, e, n, e2, h1 xs h.1, h2 ys h.2⟩
theorem yat_same {xs : List V} (i : Nat) (H : Hp) (x : V) (H' : Hp) (h : YAt xs i H x H') : Same H H' := by
  obtain ⟨rfl, _⟩ := h
  exact Same.refl _
theorem ypair_same {xs ys : Nat → Option V} (i : Nat) (H : Hp) (x : V) (H' : Hp) (h : YPair xs ys i H x H') : Same H H' := by
  obtain ⟨T, u, v, _, n, rfl, _⟩ := h
  exact same_new n
theorem map_const_range {α : Type} (x : α) (n : Nat) : (List.range n).map (fun _ => x) = List.replicate n x := by
  rw [List.map_const', List.length_range]
/-- all of a list of truths -/
theorem all_range9 {f : Nat → Bool} {n : Nat} (h : ∀ i, i < n → f i = true) : ((List.range n).map f).all id = true := by
  rw [List.all_eq_true]
  intro b hb
  obtain ⟨i, hi, rfl⟩ := List.mem_map.mp hb
  exact h i (List.mem_range.mp hi)
theorem dec_vi (a b : Int) : decide (V.int a = V.int b) = decide (a = b) := decide_eq_decide.mpr ⟨fun h => V.int.inj h, fun h => by rw [h]⟩
theorem dec_vs (a b : Str) : decide (V.str a = V.str b) = decide (a = b) := decide_eq_decide.mpr ⟨fun h => V.str.inj h, fun h => by rw [h]⟩
theorem one_lt (a c : Nat) : ([c] < [a]) ↔ c < a := by
  rw [List.cons_lt_cons_iff]
  simp
theorem cut1 (xs : List V) : cutV xs (some 1) none = xs.drop 1 := by
  unfold cutV
  have e1 : HT.sIx xs.length 0 (some 1) = min 1 xs.length := by
    unfold HT.sIx
    simp
    try omega
  have e2 : HT.sIx xs.length xs.length none = xs.length := by
    unfold HT.sIx
    simp
  rw [e1, e2]
  cases xs with
  | nil => rfl
  | cons x r =>
    have e3 : min 1 (x :: r).length = 1 := by rw [List.length_cons]; omega
    rw [e3]
    apply List.take_of_length_le
    rw [List.length_drop]
    omega
theorem ift {c : Bool} {A B : Prop} (h : c = true) (a : A) : if c = true then A else B := by
  rw [if_pos h]
  exact a
theorem iff_ {c : Bool} {A B : Prop} (h : c = false) (b : B) : if c = true then A else B := by
  rw [if_neg (by rw [h]; exact Bool.false_ne_true)]
  exact b
theorem call_lenSB {X : Cx} : CallR X (.builtin "len") (fun xs H Q => ∃ (a : Addr) (S : Bool → Bool) (n : Nat), xs = [.ref a] ∧ H a = some (PpSet.SetBO X.w a S n) ∧ Q (.int n) H) := by
  intro pins s σ H vs us Q I r h
  obtain ⟨a, S, n, rfl, ha, q⟩ := h
  cases r with
  | cons r1 r2 =>
    cases r2
    cases r1
    obtain ⟨o, es, ep, t, ho, hex, hd, _, _, _, hb, hf, hn, _⟩ := (show ObjOk X.prog X.w H s.heap a (PpSet.SetBO X.w a S n) from I.hok a _ ha).1
    refine call_len_set ho hex hd hf ?_ ⟨.int n, H, I.tok _, ⟨_, by rw [hn]⟩, q⟩
    have h1 : scanBound ≤ 2 ^ 62 := by decide
    omega
end L2
end
section
set_option Elab.async false
set_option linter.all false
set_option maxRecDepth 100000
set_option maxHeartbeats 4000000
namespace L2
open PySem PySem.Spec PyProof.Rows
/-! xs.extend(t), t a tuple -/
theorem list_extend_tup (l : Addr) (items : Array Value) (n : Nat) (b : Addr) (o : Obj) (items2 : Array Value) (n2 : Nat) (hc : o.cls = .type "tuple") (hd : o.data = .seq items2 n2) (hs : items.size + items2.size ≤ sizeLine) :
    Meets (Builtin.«list.extend» ⟨[.ref l, .ref b], []⟩) (fun _ R s => s.heap.get? l = some { cls := .type "list", dict := none, data := .seq items n, slots := #[] } ∧ s.heap.get? b = some o ∧ R (.ok (.ret Value.none)) { s with heap := s.heap.update l (Obj.mapSeq fun x => x ++ items2), toks := s.toks }) :=
  .of_wp fun prog w A R s h => by
    obtain ⟨hp, g, d, tk, os⟩ := s
    obtain ⟨hl, hb, h⟩ := h
    have hz : items.size ≤ sizeLine := by omega
    have hz' : (items ++ items2).size ≤ sizeLine + 1 := by rw [Array.size_append]; omega
    have hlong : (!items.isEmpty && Builtin.List.listTooLong (items.size + items2.size)) = false := by
      rw [show Builtin.List.listTooLong (items.size + items2.size) = false from by unfold Builtin.List.listTooLong; exact decide_eq_false (by omega), Bool.and_false]
    show wpAny _ A.in1 (Builtin.List.listExtendWith (.ref l) (.ref b) .none) _ _ _
    unfold Builtin.List.listExtendWith
    refine wpAny_bind (wpAny_typeOf ⟨o, hb, hc⟩ ?_)
    have h1 : (Builtin.List.listSameRef (.ref l) (.ref b) || Value.type "tuple" == Value.type "list" || Value.type "tuple" == Value.type "tuple") = true := by simp
    simp only [h1, if_true]
    refine wpAny_bind ?_
    unfold Builtin.List.listItems
    refine wpAny_bind (wpAny_seqItems hb hd (wpAny_pure ?_))
    refine wpAny_bind ?_
    refine wpAny_bind (wpAny_seqItems hl rfl (wpAny_pure ?_))
    simp only [hlong, if_false, Bool.false_eq_true]
    refine wpAny_bind (wpAny_updateSeq hl rfl (hz := hz) (_hz' := hz') ?_)
    exact wpAny_pure ⟨_, rfl, h⟩
/-- a module's name of an object -/
theorem pe_gr {X : Cx} {x : Str} {pos : Pos} {d : Addr} (h : X.mg x = some (.ref d)) (hg : Gl X x := by rfl) (hd : (x == ("__debug__" : Str)) = false := by decide) : PE X (.Name x pos) (tC (.ref d)) := pe_glob hg h rfl hd
theorem range_map_getD {α β : Type} (xs : List α) (f : α → β) (d : α) {n : Nat} (hn : n = xs.length) : (List.range n).map (fun i => f (xs[i]?.getD d)) = xs.map f := by
  subst hn
  refine List.ext_getElem? fun i => ?_
  rw [List.getElem?_map, List.getElem?_map]
  by_cases h : i < xs.length
  · rw [List.getElem?_range h, List.getElem?_eq_getElem h]
    show some (f (xs[i]?.getD d)) = _
    rw [List.getElem?_eq_getElem h]
    rfl
  · rw [List.getElem?_eq_none (by rw [List.length_range]; omega), List.getElem?_eq_none (by omega)]
    rfl
/-- a dict comprehension over any walk -/
theorem dc_it {J : It} {n : Nat} {G : Hp → Prop} {Y : Nat → Hp → V → Hp → Prop} (w : Walk J n G Y) {g : TG} {tt : TT} {tk tv : TE} {vs : List Nat} {σ : St} {H1 : Hp} {D : Addr} {Qd : Hp → Prop} (Pv : Nat → Hp → Prop) (h0 : Pv 0 (upd H1 D (.dK []))) (hG : ∀ i H, i ≤ n → Pv i H → G H)
    (hs : ∀ i x H H', i < n → Pv i H → Y i H x H' → g x (wipe σ vs) H' fun σ2 H2 => wipe σ2 vs = wipe σ vs ∧ tt σ2 H2 fun b H3 =>
      if b = true then tk σ2 H3 fun y H4 => tv σ2 H4 fun z H5 => ∃ kvs k, y = kV k ∧ H5 D = some (.dK kvs) ∧ kvs.length < sizeLine ∧ Pv (i + 1) (upd H5 D (.dK (putK kvs k z))) else Pv (i + 1) H3) (hd : ∀ H, Pv n H → Qd H) :
    ∃ W : Nat → Nat → Hp → Prop, (∃ m, W 0 m (upd H1 D (.dK []))) ∧ ∀ i m H, W i m H →
      (J.stop i H ∧ Qd H) ∨ (J.go i H ∧ ∃ Nx : Hp → Prop, (∀ H', Nx H' → ∃ m', m' < m ∧ W (i + 1) m' H') ∧ ∀ x H', J.yld i H x H' → g x (wipe σ vs) H' fun σ2 H2 => wipe σ2 vs = wipe σ vs ∧ tt σ2 H2 fun b H3 =>
        if b = true then tk σ2 H3 fun y H4 => tv σ2 H4 fun z H5 => ∃ kvs k, y = kV k ∧ H5 D = some (.dK kvs) ∧ kvs.length < sizeLine ∧ Nx (upd H5 D (.dK (putK kvs k z))) else Nx H3) := by
  refine ⟨fun i m H => m = n - i ∧ i ≤ n ∧ Pv i H, ⟨n, by simp, Nat.zero_le _, h0⟩, ?_⟩
  rintro i m H ⟨rfl, hi, p⟩
  have q := hG i H hi p
  by_cases hlt : i < n
  · refine .inr ⟨w.goes i H hlt q, Pv (i + 1), fun H' p' => ⟨n - (i + 1), by omega, rfl, hlt, p'⟩, fun x H' y => hs i x H H' hlt p (w.yields i H x H' hlt q y)⟩
  · have e : i = n := by omega
    subst e
    exact .inl ⟨w.stops H q, hd H p⟩
/-- a comprehension without a test whose elements are told by R, which tuples keep -/
theorem lc_rel {J : It} {n : Nat} {G : Hp → Prop} {Y : Nat → Hp → V → Hp → Prop} (w : Walk J n G Y) {g : TG} {te : TE} {vs : List Nat} {σ : St} {H1 : Hp} {D : Addr} {Qd : Hp → Prop} (R : Nat → Hp → V → Prop) (hR : ∀ i H H' v, (∀ p xs, H p = some (.tup xs) → H' p = some (.tup xs)) → R i H v → R i H' v) (hn : n ≤ sizeLine) (hD : H1 D = none)
    (hG : ∀ H, Same H1 H → G H) (hY : ∀ i H x H', i < n → Y i H x H' → Same H H')
    (hs : ∀ (i : Nat) (x : V) (H H' : Hp) (Kt : V → Hp → Prop), i < n → Same H1 H → Same H1 H' → Y i H x H' → (∀ v H4, Same H' H4 → R i H4 v → Kt v H4) → g x (wipe σ vs) H' fun σ2 H2 => wipe σ2 vs = wipe σ vs ∧ te σ2 H2 Kt)
    (hd : ∀ H acc, Same H1 H → H D = some (.lst acc) → acc.length = n → (∀ i v, acc[i]? = some v → R i H v) → Qd H) :
    ∃ W : Nat → Nat → Hp → Prop, (∃ m, W 0 m (upd H1 D (.lst []))) ∧ ∀ i m H, W i m H →
      (J.stop i H ∧ Qd H) ∨ (J.go i H ∧ ∃ Nx : Hp → Prop, (∀ H', Nx H' → ∃ m', m' < m ∧ W (i + 1) m' H') ∧ ∀ x H', J.yld i H x H' → g x (wipe σ vs) H' fun σ2 H2 => wipe σ2 vs = wipe σ vs ∧ tYes σ2 H2 fun b H3 =>
        if b = true then te σ2 H3 fun y H4 => ∃ acc, H4 D = some (.lst acc) ∧ acc.length < sizeLine ∧ Nx (upd H4 D (.lst (acc ++ [y]))) else Nx H3) := by
  have fromD : ∀ {H : Hp} {o : HO}, Same H1 H → Same H1 (upd H D o) := fun {H o} s b u e => by
    rw [upd_ne (ne_of_none e hD)]
    exact s _ _ e
  refine lc_it w (fun i H => Same H1 H ∧ ∃ acc, H D = some (.lst acc) ∧ acc.length = i ∧ ∀ j v, acc[j]? = some v → R j H v) ⟨fun b o e => by rw [upd_ne (ne_of_none e hD)]; exact e, [], upd_same, rfl, fun j v h => by simp at h⟩ (fun i H _ p => hG H p.1) (fun i x H H' hi p y => ?_) (fun H p => ?_)
  · obtain ⟨p1, acc, p2, p3, p4⟩ := p
    have s1 := hY i H x H' hi y
    refine hs i x H H' _ hi p1 (p1.trans s1) y fun v H4 s4 r4 => ?_
    have hD4 := s4 _ _ (s1 _ _ p2)
    have tuD : ∀ {o : HO} (p : Addr) (xs : List V), H4 p = some (.tup xs) → upd H4 D o p = some (.tup xs) := fun p xs e => by
      rw [upd_ne (fun z => by rw [z, hD4] at e; cases e)]
      exact e
    refine ⟨acc, hD4, by omega, fromD ((p1.trans s1).trans s4), acc ++ [v], upd_same, by rw [List.length_append, p3]; rfl, fun j u h => ?_⟩
    by_cases c : j < acc.length
    · rw [List.getElem?_append_left c] at h
      exact hR j H _ u (fun p xs e => tuD p xs (s4 _ _ (s1 _ _ e))) (p4 j u h)
    · rw [List.getElem?_append_right (by omega)] at h
      have hj : j = acc.length := by
        have := (List.getElem?_eq_some_iff.mp h).1
        simp at this
        omega
      rw [hj, Nat.sub_self] at h
      have hv : v = u := by simpa using h
      rw [← hv, hj, p3]
      exact hR i H4 _ v tuD r4
  · obtain ⟨p1, acc, p2, p3, p4⟩ := p
    exact hd H acc p1 p2 p3 p4
theorem ix_tupK {X : Cx} (K : PySem.W.Frag) (h : X.K = K := by rfl) : IxR X (rIxT K) := h ▸ ix_tup
theorem ix_listK {X : Cx} (K : PySem.W.Frag) (h : X.K = K := by rfl) : IxR X (rIxL K) := h ▸ ix_list
theorem call_len_seqK {X : Cx} (K : PySem.W.Frag) (h : X.K = K := by rfl) : CallR X (.builtin "len") (fun xs H Q => ∃ p ys, xs = [.ref p] ∧ (SqL K H p ys ∨ SqT K H p ys) ∧ Q (.int ys.length) H) := h ▸ call_len_seq
theorem pe_fldK {X : Cx} {e : Expr} {f : Str} {pos : Pos} {ta : TE} (K : PySem.W.Frag) (he : PE X e ta) (hb : attributeBase e f X.env (eval e X.env) = eval e X.env) (h : X.K = K := by rfl) : PE X (.Attribute e f pos) (tFld K ta f) := h ▸ pe_fld he hb
theorem cutNot (x : V) (r : List V) : ¬ (HT.sIx (x :: r).length 0 (some 1) = 0 ∧ HT.sIx (x :: r).length (x :: r).length none = (x :: r).length) := by
  rintro ⟨h, _⟩
  have e1 : HT.sIx (x :: r).length 0 (some 1) = min 1 (x :: r).length := by
    unfold HT.sIx
    simp
    try omega
  rw [e1, List.length_cons] at h
  omega
def rExtendT : V → List V → Hp → VK → Prop := fun x vs H Q => ∃ l b xs zs, x = .ref l ∧ vs = [.ref b] ∧ H l = some (.lst xs) ∧ H b = some (.tup zs) ∧ xs.length + zs.length ≤ sizeLine ∧ Q .non (upd H l (.lst (xs ++ zs)))
theorem mt_extendT {X : Cx} : MtM X "list.extend" rExtendT := by
  intro pins s σ H x vs v us Q I rx rv h
  obtain ⟨l, b, xs, zs, rfl, rfl, hH, hB, hz, q⟩ := h
  cases rx
  obtain ⟨u, rfl, ru⟩ := rv.one
  cases ru
  obtain ⟨z, its, n, r, hl, e⟩ := I.lstM hH
  obtain ⟨its2, r2, ⟨o, e2, hc, n2, hd⟩, z2⟩ := I.tuple (xs := zs) (.inl (.inl hB))
  have hl2 := r2.length
  refine call_meets F.slot_list_extend ⟨_, e, rfl⟩ F.entry_list_extend (F.args_list_extend_2 _ _)
    (list_extend_tup l its.toArray n b o its2.toArray n2 hc hd (by rw [List.size_toArray, List.size_toArray]; omega)) ⟨e, e2, ?_⟩
  refine ⟨.non, _, I.lset (its' := its ++ its2) hH e (by simp) (r.append r2) ?_, rfl, q⟩
  rw [List.length_append]
  omega
end L2
end
section
set_option Elab.async false
set_option linter.all false
set_option maxRecDepth 100000
set_option maxHeartbeats 4000000
namespace L2
open PySem PySem.Spec PyProof.Rows
/-! a call of a local name that holds some def: its promise is chosen behind the arguments -/
def tCallX (P : Program) (w : World) (K : PySem.W.Frag) (mg : Str → Option Value) (base : Heap) (CX : CXT) (k i : Nat) (E : XK) (t : TA) : TE := fun σ H Q => ∃ f, σ[i]? = some (some (.ref f)) ∧ PySem.W.keepIn K (.ref f) = true ∧
  t σ H fun vs H1 => ∃ (fd : FuncData) (ps : List Str) (sp : Sp), FnOk P w K mg base CX k f fd ps sp ∧ Binds K fd ps [] ∧ sp vs H1 Q E
section
variable {X : Cx} {CX : CXT} {k i : Nat} {E : XK} {x : Str} {p pos : Pos} {e : Expr} {es : List Expr} {t : TA}
theorem pe_callX (CX : CXT) (hr : Room k X.A) (hN : X.N[i]? = some x) (hv : Vis X.env.scope x) (hx : Passes CX X E) (ha : PA X (e :: es) t)
    (hdb : (x == ("__debug__" : Str)) = false := by decide) (hcd : (x == ("__classdict__" : Str)) = false := by decide)
    (he : starEach (e :: es) X.env = (false, eval e X.env) :: starEach es X.env := by rfl) (hpl : (backTo pos (starEach es X.env)).any (·.1) = false := by rfl) : PE X (.Call (.Name x p) (e :: es) [] pos) (tCallX X.prog X.w X.K X.mg X.base CX k i E t) := by
  refine ⟨fun pins s σ H Q I h => ?_⟩
  obtain ⟨f, hs, hk, ht⟩ := h
  refine wpAny_Call_Name_kw (thn ((pe_var (pos := p) hN hv hdb hcd).run pins s σ H (fun v H1 => v = .ref f ∧ H1 = H) I ⟨.ref f, hs, rfl, rfl⟩) fun u s1 ⟨v, H1, I1, r1, q1⟩ => ?_)
  obtain ⟨rfl, rfl⟩ := q1
  cases r1
  refine PySem.W.callWith_K (h₀ := X.base) I.ok.mod.kin hk (thn (ha.run pos pins s1 σ _ _ I1 ht) fun us s2 ⟨vs, H2, I2, r, fd, ps, sp, F, hb, q⟩ => ⟨I2.kIn, ?_⟩) he hpl
  exact run_fn (dvs := []) F hr hb .nil hx I2 r (by rw [List.append_nil]; exact q)
end
theorem pi_tupK {X : Cx} {tg e : Expr} {te : TE} (K : PySem.W.Frag) (he : PE X e te) (h : X.K = K := by rfl) : PI X tg e (iTup K te) := h ▸ pi_tup he
/-- a comprehension without a test whose elements are told by R, which all but lists keep -/
theorem lc_rel2 {J : It} {n : Nat} {G : Hp → Prop} {Y : Nat → Hp → V → Hp → Prop} (w : Walk J n G Y) {g : TG} {te : TE} {vs : List Nat} {σ : St} {H1 : Hp} {D : Addr} {Qd : Hp → Prop} (R : Nat → Hp → V → Prop) (hR : ∀ i H H' v, (∀ p o, (∀ xs, o ≠ .lst xs) → H p = some o → H' p = some o) → R i H v → R i H' v) (hn : n ≤ sizeLine) (hD : H1 D = none)
    (hG : ∀ H, Same H1 H → G H) (hY : ∀ i H x H', i < n → Y i H x H' → Same H H')
    (hs : ∀ (i : Nat) (x : V) (H H' : Hp) (Kt : V → Hp → Prop), i < n → Same H1 H → Same H1 H' → Y i H x H' → (∀ v H4, Same H' H4 → R i H4 v → Kt v H4) → g x (wipe σ vs) H' fun σ2 H2 => wipe σ2 vs = wipe σ vs ∧ te σ2 H2 Kt)
    (hd : ∀ H acc, Same H1 H → H D = some (.lst acc) → acc.length = n → (∀ i v, acc[i]? = some v → R i H v) → Qd H) :
    ∃ W : Nat → Nat → Hp → Prop, (∃ m, W 0 m (upd H1 D (.lst []))) ∧ ∀ i m H, W i m H →
      (J.stop i H ∧ Qd H) ∨ (J.go i H ∧ ∃ Nx : Hp → Prop, (∀ H', Nx H' → ∃ m', m' < m ∧ W (i + 1) m' H') ∧ ∀ x H', J.yld i H x H' → g x (wipe σ vs) H' fun σ2 H2 => wipe σ2 vs = wipe σ vs ∧ tYes σ2 H2 fun b H3 =>
        if b = true then te σ2 H3 fun y H4 => ∃ acc, H4 D = some (.lst acc) ∧ acc.length < sizeLine ∧ Nx (upd H4 D (.lst (acc ++ [y]))) else Nx H3) := by
  have fromD : ∀ {H : Hp} {o : HO}, Same H1 H → Same H1 (upd H D o) := fun {H o} s b u e => by
    rw [upd_ne (ne_of_none e hD)]
    exact s _ _ e
  refine lc_it w (fun i H => Same H1 H ∧ ∃ acc, H D = some (.lst acc) ∧ acc.length = i ∧ ∀ j v, acc[j]? = some v → R j H v) ⟨fun b o e => by rw [upd_ne (ne_of_none e hD)]; exact e, [], upd_same, rfl, fun j v h => by simp at h⟩ (fun i H _ p => hG H p.1) (fun i x H H' hi p y => ?_) (fun H p => ?_)
  · obtain ⟨p1, acc, p2, p3, p4⟩ := p
    have s1 := hY i H x H' hi y
    refine hs i x H H' _ hi p1 (p1.trans s1) y fun v H4 s4 r4 => ?_
    have hD4 := s4 _ _ (s1 _ _ p2)
    have tuD : ∀ {o : HO} (p : Addr) (u : HO), (∀ xs, u ≠ .lst xs) → H4 p = some u → upd H4 D o p = some u := fun p u hu e => by
      rw [upd_ne (fun z => by rw [z, hD4] at e; exact hu _ (Option.some.inj e).symm)]
      exact e
    refine ⟨acc, hD4, by omega, fromD ((p1.trans s1).trans s4), acc ++ [v], upd_same, by rw [List.length_append, p3]; rfl, fun j u h => ?_⟩
    by_cases c : j < acc.length
    · rw [List.getElem?_append_left c] at h
      exact hR j H _ u (fun p u hu e => tuD p u hu (s4 _ _ (s1 _ _ e))) (p4 j u h)
    · rw [List.getElem?_append_right (by omega)] at h
      have hj : j = acc.length := by
        have := (List.getElem?_eq_some_iff.mp h).1
        simp at this
        omega
      rw [hj, Nat.sub_self] at h
      have hv : v = u := by simpa using h
      rw [← hv, hj, p3]
      exact hR i H4 _ v tuD r4
  · obtain ⟨p1, acc, p2, p3, p4⟩ := p
    exact hd H acc p1 p2 p3 p4
/-- all but m stays -/
def Fk (m : Addr) (G G' : Hp) : Prop := ∀ q o, q ≠ m → G q = some o → G' q = some o
theorem Fk.trans {m : Addr} {G G' G'' : Hp} (a : Fk m G G') (b : Fk m G' G'') : Fk m G G'' := fun q o n e => b q o n (a q o n e)
theorem Fk.same {m : Addr} {G G' : Hp} (a : Same G G') : Fk m G G' := fun q o _ e => a q o e
theorem Fk.put {m : Addr} {G : Hp} {o : HO} : Fk m G (upd G m o) := fun q u n e => (upd_ne n).trans e
end L2
end
section
set_option Elab.async false
set_option linter.all false
set_option maxRecDepth 100000
set_option maxHeartbeats 4000000
namespace PySem
theorem Fmt.str {prog : Program} {w : World} {h : Heap} {x : Str} {t : Tok} (hx : x.length ≤ 5000) : Fmt prog w h (.str x t) := fun A E s Q _ _ q =>
  wpAny_formatField_str (q x t s.toks hx) (q x s.toks (s.toks + 1) hx) (Nat.le_trans hx (by decide))
namespace OwnY
open PySem.W PySem.Calls PyProof.Rows PySem.HandSPX PySem.OwnX PySem.ESX
/-! an own error over Exception whose __init__(self, word, text) says super().__init__(f'{word} {text}') and keeps both -/
def iA (p1 p2 p3 : Pos) : Arguments := { posonlyargs := [], args := [{ arg := "self", annotation := none, pos := p1 }, { arg := "word", annotation := none, pos := p2 }, { arg := "text", annotation := none, pos := p3 }], vararg := none, kwonlyargs := [], kw_defaults := [], kwarg := none, defaults := [] }
structure PosB where
  (q0 q1 q2 q3 q4 q5 q6 q7 q8 q9 qa qb qc qd qe qf qg qh qi : Pos)
def iB (z : PosB) : List Stmt :=
  [.Expr (.Call (.Attribute (.Call (.Name "super" z.q0) [] [] z.q1) "__init__" z.q2) [.JoinedStr [.FormattedValue (.Name "word" z.q3) (-1) none z.q4, .Constant (.str " ") 0 z.q5, .FormattedValue (.Name "text" z.qd) (-1) none z.qe] z.q6] [] z.q7) z.q8,
   .Assign [.Attribute (.Name "self" z.q9) "word" z.qa] (.Name "word" z.qb) z.qc,
   .Assign [.Attribute (.Name "self" z.qf) "text" z.qg] (.Name "text" z.qh) z.qi]
def iS : Scope := { kind := .function, names := [("self", .local), ("word", .local), ("text", .local), ("__class__", .free), ("super", .globalImplicit)], isGenerator := false, isCoroutine := false, more := [] }
def IsFd (qual : Str) (fd : FuncData) : Prop := ∃ kV doc pm an cda ct cc p1 p2 p3 z, fd = ksFn "__init__" qual (iA p1 p2 p3) (iB z) iS .none kV doc pm an (.ref cda) ct cc
structure OwnT (prog : Program) (K : Frag) (qual : Str) (C fI : Addr) : Prop where
  cls : ∃ nm q N bs sn sub ab col dd k0 k1 k2 k3 k5, K.lookup C = some (excClassObj nm q C N bs exTail true sn sub ab col dd k0 k1 k2 k3 k5 "Exception.__new__")
  sa : findIn K (.ref C) "__setattr__" = some (some (.builtin "object.__setattr__"))
  noW : findIn K (.ref C) "word" = some none
  noT : findIn K (.ref C) "text" = some none
  iC : findIn K (.ref C) "__init__" = some (some (.ref fI))
  tC : typeIn K (.ref fI) = some (.type "function")
  kC : keepIn K (.ref C) = true
  fn : ∃ (oc : Value) (od : Option Addr) (kV doc pm : Value) (an : Option Addr) (cda : Addr) (ct : Value) (cc : Addr) (osl : Array (Option Value)) (p1 p2 p3 : Pos) (z : PosB),
    K.lookup fI = some ⟨oc, od, .func (ksFn "__init__" qual (iA p1 p2 p3) (iB z) iS .none kV doc pm an (.ref cda) ct cc), osl⟩ ∧ codeIn K (.ref cda) qual = true ∧ (z.q2.endLine == z.q7.line) = true ∧
    (∃ ccl cdd vs ccs file tf, K.lookup cda = some ⟨ccl, cdd, .fields vs, ccs⟩ ∧ vs[2]? = some (.str file tf) ∧ ((prog.main.file : Str) == file) = true) ∧ (∃ cl cld csl, K.lookup cc = some ⟨cl, cld, .cell (some (.ref C)), csl⟩)
  sup : ks_superIn K C C "__init__" = some (some (.builtin "Exception.__init__"))
  isB : subIn K (.ref C) (.type "Exception") = some true
  isC : mroIn K C (.ref C) = some true
  any : nsIn K cStatics "thirdparty.any" = some none
  top : (prog.main.scope.names.lookup ("super" : Str)).isSome = false
  bp : ∀ fd, IsFd qual fd → ∀ (s : Shared) (x : Addr) (v u : Value), BindsTo s fd ⟨[.ref x, v, u], []⟩ [("self", .ref x), ("word", v), ("text", u)]
  exC : subIn K (.ref C) (.type "BaseException") = some true
  ga : findIn K (.ref C) "__getattribute__" = some (some (.builtin "BaseException.__getattribute__"))
  gg : findIn K (.ref C) "__getattr__" = some none
  hdC : hasDictIn K C = true
/-- what __init__ leaves of a fresh error at x -/
structure InitEnd (h h' : Heap) (x C dx t1 : Addr) (v u : Value) : Prop where
  keep : ∀ b o, b ≠ x → h.get? b = some o → h'.get? b = some o
  obj : h'.get? x = some { cls := .ref C, dict := some dx, data := .fields #[.ref t1, .none, .none, .none, .bool false, .none] }
  dbig : h.objs.size ≤ dx
  dne : dx ≠ x
  ns : h'.Ns1 dx (fun y => if y = "text" then some u else if y = "word" then some v else none)
section
variable {prog : Program} {w : World} {A : Around} {E : Value → Shared → Prop} {R : Result → Shared → Prop} {s : Shared} {K : Frag} {mg : Str → Option Value} {qual : Str} {C fI : Addr}
theorem lenj {a b : Str} {n m : Nat} (ha : a.length ≤ n) (hb : b.length ≤ m) : (a ++ b).length ≤ n + m := by
  rw [strLen_append]
  omega
theorem own_init (T : OwnT prog K qual C fI) {x t0 : Addr} {v u : Value} {args : Args} {base h0 : Heap} (X : K.In base) (kb : ∀ b o, base.get? b = some o → s.heap.get? b = some o) (bx : base.get? x = none)
    (gl : base.Ns mainGlobals mg) (bl : ∃ mb, base.Ns builtinsNs mb ∧ ∀ y : Str, y ≠ "__name__" → mb y = bootBuiltins y) (hlim : base.NoLimit) (hmg : mg "super" = none)
    (hx : s.heap.get? x = some (excO C t0)) (hF : Fmt prog w h0 v) (hG : Fmt prog w h0 u) (k0 : ∀ b o, h0.get? b = some o → s.heap.get? b = some o)
    (hbind : ∀ fd : FuncData, IsFd qual fd → BindsTo s fd args [("self", .ref x), ("word", v), ("text", u)])
    (hroom : A.depth < recursionLimit) (hu : A.units + 12 < cLine)
    (hq : ∀ h' tk dx t1, InitEnd s.heap h' x C dx t1 v u → R (.ok (.ret .none)) { s with heap := h', toks := tk }) :
    codeAny (model prog w) A (.call (.ref fI) args) R s := by
  obtain ⟨oc, od, kV, doc, pm, an, cda, ct, cc, osl, p1, p2, p3, z, ho, hcd, hqq, ⟨ccl, cdd, vs, ccs, file, tf, hcode, hvs, hfile⟩, ⟨cl, cld, csl, hcell⟩⟩ := T.fn
  obtain ⟨nm, q, N, bs, sn, sub, ab, col, dd, k0', k1, k2, k3, k5, hC⟩ := T.cls
  have hcl : clsIn K C = some { name := nm, bases := bs, mro := .ref C :: exTail, ns := N, qualname := q, hasDict := true, slotNames := sn, subclasses := sub, abstract := ab, collection := col, hasDel := false } := by unfold clsIn; rw [hC] <;> rfl
  have hff : iS.names.lookup ("word" : Str) = some .local := rfl
  have hfg : iS.names.lookup ("text" : Str) = some .local := rfl
  have hfs : iS.names.lookup ("self" : Str) = some .local := rfl
  have hks : iS.names.lookup ("super" : Str) = some .globalImplicit := rfl
  have hkc : iS.names.lookup ("__class__" : Str) = some .free := rfl
  have bn : ∀ b o, base.get? b = some o → b ≠ x := fun b o e z => by rw [z, bx] at e; cases e
  refine ks_codeAny_call_defAt (fd := ksFn "__init__" qual (iA p1 p2 p3) (iB z) iS .none kV doc pm an (.ref cda) ct cc) (body := iB z) (binds := [("self", .ref x), ("word", v), ("text", u)]) hroom (kb _ _ (X _ _ ho)) rfl (hlim.keeps kb) (codeRec_of (X.keeps kb) hcd) rfl (hbind _ ⟨kV, doc, pm, an, cda, ct, cc, p1, p2, p3, z, rfl⟩) ?_ ?_ (fun h₁ hns hk₁ => ?_) rfl rfl rfl
  · intro y hy
    simp only [iS, ksFn, fnX, List.mem_cons, List.not_mem_nil, or_false] at hy
    rcases hy with rfl | rfl | rfl | rfl | rfl <;> exact nofun
  · intro y hy
    simp only [List.mem_cons, List.not_mem_nil, or_false] at hy
    rcases hy with rfl | rfl | rfl <;> rfl
  · have hk1 : ∀ b o, base.get? b = some o → h₁.get? b = some o := fun b o e => hk₁ b o (kb b o e)
    have X₁ : K.In h₁ := X.keeps hk1
    have hx₁ := hk₁ _ _ hx
    have hv1 : ([(("self" : Str), Value.ref x), ("word", v), ("text", u)].reverse.lookup ("word" : Str)) = some v := rfl
    have hv2 : ([(("self" : Str), Value.ref x), ("word", v), ("text", u)].reverse.lookup ("text" : Str)) = some u := rfl
    have hs1 : ([(("self" : Str), Value.ref x), ("word", v), ("text", u)].reverse.lookup ("self" : Str)) = some (.ref x) := rfl
    obtain ⟨oD, hD1, hD2⟩ : ∃ oD, h₁.get? C = some oD ∧ ∃ cd, oD.data = .cls cd := ⟨_, X₁ _ _ hC, _, rfl⟩
    obtain ⟨cdD, hD2⟩ := hD2
    have I₁ : InstAt h₁ x (excO C t0) C none := ⟨hx₁, rfl, rfl, trivial⟩
    have hLx : s.heap.objs.size ≠ x := Nat.ne_of_gt (Heap.lt_size hx)
    show PySem.wpAt (model prog w) (A.deeper (ksEnv qual iS s.heap.objs.size fI (.ref cda) cc)) (.func _ (ksEnv qual iS s.heap.objs.size fI (.ref cda) cc)) (execs _ (ksEnv qual iS s.heap.objs.size fI (.ref cda) cc)) _ _ _
    obtain ⟨mb, hmb, hmb2⟩ := bl
    refine ks_wpAt_execs_cons (ks_wpAt_Expr_any (ks_wpAt_MethodCall ?_ (mc_eq rfl hqq)) (by first | rfl | with_unfolding_all rfl) (by first | rfl | with_unfolding_all rfl))
    refine ks_wpAt_super_base (env := ksEnv qual iS s.heap.objs.size fI (.ref cda) cc) hks hkc (by decide) rfl (X₁ _ _ ho) rfl rfl rfl (X₁ _ _ hcode) rfl hvs hfile T.top ?_
    refine ks_loadName_global rfl hks (loadGlobal_builtin (env := ksEnv qual iS s.heap.objs.size fI (.ref cda) cc) (gl.keeps hk1) hmg (hmb.keeps hk1) ((hmb2 _ (by decide)).trans (by decide +kernel)) ⟨rfl, ?_⟩)
    refine wpAny_loadName_free rfl hkc rfl ⟨_, X₁ _ _ hcell, rfl⟩ ?_
    refine wpAny_loadName_local rfl hfs hns hs1 ?_
    refine ks_wpAny_isType_cls hD1 hD2 ⟨rfl, ?_⟩
    refine ks_wpAny_call_super hD1 hD2 I₁.at_ I₁.cls (fun c e => by cases e) (looks_mroIn X₁ T.isC) (fun h2 e2 k2 => ?_)
    have X₂ : K.In h2 := X₁.keeps k2
    have hx2 := k2 _ _ hx₁
    have I₂ : InstAt h2 x (excO C t0) C none := ⟨hx2, rfl, rfl, trivial⟩
    have hI : Looks (model prog w) h2 (isInstance (.ref x) (.type "Exception")) true := I₂.type.andThen (looks_subIn X₂ T.isB)
    have hsup := T.sup
    unfold ks_superIn at hsup
    rw [hcl] at hsup
    refine kxs_getMethod kxs_Exception e2 (looks_opaque X₂ T.any) (l₀ := .ref C :: exTail) ?_ rfl X₂ hsup hI (ks_ne X₂ I₂ hcl) (by decide) ?_
    · exact fun A Q E s k q => wpAny_bind ((looks_clsIn X₂ hcl) A _ E s k (wpAny_pure q))
    have hu3 : (h2.push (kxs_mw "Exception.__init__" x)).get? h2.objs.size = some (kxs_mw "Exception.__init__" x) := Heap.get?_push_size _ rfl
    have k3 : ∀ b o, h2.get? b = some o → (h2.push (kxs_mw "Exception.__init__" x)).get? b = some o := fun b o e => Heap.get?_push_of_some _ e
    have hns3 := (hns.keeps k2).keeps k3
    have hx3 := k3 _ _ hx2
    refine kxs_callWith (i := "Exception.__init__") (x := x) rfl ?_
    refine evalArgs_plain ?_
    show wpAny _ _ (spliced ((false, eval (.JoinedStr _ z.q6) _) :: backTo z.q7 (starEach [] _))) _ _ _
    refine Calls.spliced_cons (JoinedStr_many (joinParts_cons (FormattedValue_plain ?_)))
    refine wpAny_Name (wpAny_loadName_local rfl hff hns3 hv1 ?_) (by decide)
    refine hF _ _ _ _ (fun b o e => k3 _ _ (k2 _ _ (hk₁ _ _ (k0 _ _ e)))) (by show A.units + _ + 8 < cLine; omega) fun m1 u1 tk1 hm1 => ?_
    have l0 : (PySem.Str.empty ++ m1).length ≤ 5000 := by
      rw [strLen_append]
      exact Nat.le_trans (Nat.le_of_eq (Nat.zero_add _)) hm1
    refine ⟨Nat.le_trans l0 (by decide), joinParts_cons (Constant_str ⟨?_, joinParts_cons (FormattedValue_plain ?_)⟩)⟩
    · exact Nat.le_trans (lenj l0 (show (" " : Str).length ≤ 1 by decide)) (by decide)
    have l1 := lenj l0 (show (" " : Str).length ≤ 1 by decide)
    refine wpAny_Name (wpAny_loadName_local rfl hfg hns3 hv2 ?_) (by decide)
    refine hG _ _ _ _ (fun b o e => k3 _ _ (k2 _ _ (hk₁ _ _ (k0 _ _ e)))) (by show A.units + _ + 8 < cLine; omega) fun m2 u2 tk2 hm2 => ?_
    have l2 := Nat.le_trans (lenj l1 hm2) (show 5001 + 5000 ≤ sizeLine by decide)
    refine ⟨l2, joinParts_nil ?_ l2⟩
    refine Calls.spliced_nil ⟨hu3, ?_⟩
    show wpAny _ _ (call (.ref h2.objs.size) [.str _ _]) _ _ _
    refine wpAny_call (codeAny_of_tree ?_)
    show wpAny _ _ (callAny (.ref h2.objs.size) ⟨[.str _ _], []⟩) _ _ _
    simp only [callAny]
    refine wpAny_bind (wpAny_load hu3 ?_)
    simp only [kxs_mw, show (Value.type "method-wrapper" == Value.type "method" || Value.type "method-wrapper" == Value.type "builtin_function_or_method" || Value.type "method-wrapper" == Value.type "method-wrapper") = true by decide, if_true]
    refine KFB.if_so (by decide) ?_
    have hC3 := X₂ _ _ hC
    refine wpAny_bind (check_bound_init F.excBase_Exception.toExcCallFacts (k3 _ _ hC3) hx3 rfl ?_)
    refine wpAny_bind (wpAny_pure (wpAny_pure ?_))
    refine ⟨plainId_quiet F.excBase_Exception.init.plain _, codeAny_builtin F.excBase_Exception.initEntry ?_⟩
    refine exc_init_tree (cls := .ref C) (t0 := t0) (dv := none) (c2 := .none) (c3 := .none) (b4 := .bool false) hx3 (by exact (by decide : 1 ≤ 16777216)) fun h4 k4 hx4 ht4 => ?_
    obtain ⟨oL, esL, epL, hL, rL⟩ := hns3
    have hns4 : h4.Ns s.heap.objs.size (fun y => [(("self" : Str), Value.ref x), ("word", v), ("text", u)].reverse.lookup y) := ⟨oL, esL, epL, k4 _ _ hLx hL, rL⟩
    have hKx : K.lookup x = none := by
      cases e : K.lookup x with
      | none => rfl
      | some o =>
        have z := X _ _ e
        rw [bx] at z
        cases z
    have X₄ : K.In h4 := kept_but (X₂.keeps k3) hKx k4
    show PySem.wpAt (model prog w) (A.deeper (ksEnv qual iS s.heap.objs.size fI (.ref cda) cc)) (.func _ (ksEnv qual iS s.heap.objs.size fI (.ref cda) cc)) (execs _ (ksEnv qual iS s.heap.objs.size fI (.ref cda) cc)) _ _ _
    refine wpAt_of_wpAny (wpAny_execs_cons (plainObj_wpAny_Assign_Attribute ?_ ?_))
    · refine wpAny_Name (wpAny_loadName_local rfl hff hns4 hv1 ?_) (by decide)
      refine wpAny_Name (wpAny_loadName_local rfl hfs hns4 hs1 ?_) (by decide)
      refine set_plain X₄ (ox := excRec (.ref C) _ none .none .none (.bool false)) (od := none) ⟨hx4, rfl, rfl, trivial⟩ T.sa ?_
      refine osa_new X₄ hx4 hcl rfl rfl T.noW (fun h5 tk5 dx k5 dn dne hx5 hn5 => ?_)
      have X₅ : K.In h5 := kept_but X₄ hKx k5
      have hns5 : h5.Ns s.heap.objs.size (fun y => [(("self" : Str), Value.ref x), ("word", v), ("text", u)].reverse.lookup y) := ⟨oL, esL, epL, k5 _ _ hLx (k4 _ _ hLx hL), rL⟩
      refine wpAny_execs_cons (plainObj_wpAny_Assign_Attribute ?_ ?_)
      · refine wpAny_Name (wpAny_loadName_local rfl hfg hns5 hv2 ?_) (by decide)
        refine wpAny_Name (wpAny_loadName_local rfl hfs hns5 hs1 ?_) (by decide)
        obtain ⟨oD5, esD5, epD5, hoD5, _⟩ := id hn5
        refine set_plain X₅ (ox := excRec (.ref C) _ (some dx) .none .none (.bool false)) (od := some oD5) ⟨hx5, rfl, rfl, hoD5⟩ T.sa ?_
        refine osa_old X₅ hx5 hn5 (nl := ["word"]) (fun y hy => ?_) (by decide) hcl rfl rfl T.noT (fun h6 tk6 k6 hn6 => ?_)
        · by_cases e : y = "word"
          · rw [e]
            exact List.mem_singleton.mpr rfl
          · exact (hy (if_neg e)).elim
        · show wpAny _ _ (execs _ _) _ _ _
          have hdx : dx ≠ s.heap.objs.size := Nat.ne_of_gt (Nat.lt_of_lt_of_le (Heap.lt_size (k4 _ _ hLx hL)) dn)
          have big : ∀ b o, s.heap.get? b = some o → b ≠ dx := fun b o e => Nat.ne_of_lt (Nat.lt_of_lt_of_le (Nat.lt_of_lt_of_le (Heap.lt_size e) (Nat.le_of_lt (Heap.lt_size (k4 _ _ hLx hL)))) dn)
          refine wpAny_execs_nil (hq h6 tk6 dx _ ⟨fun b o hb e => k6 b o (big b o e) (k5 b o hb (k4 b o hb (k3 _ _ (k2 _ _ (hk₁ _ _ e))))), k6 _ _ dne.symm hx5, ?_, dne, hn6⟩)
          exact Nat.le_of_lt (Nat.lt_of_lt_of_le (Heap.lt_size (k4 _ _ hLx hL)) dn)
      · first | rfl | with_unfolding_all rfl
    · first | rfl | with_unfolding_all rfl
end
end OwnY
end PySem
end
section
set_option Elab.async false
set_option linter.all false
set_option maxRecDepth 100000
set_option maxHeartbeats 4000000
namespace PySem
namespace OwnY
open PySem.W PySem.Calls PyProof.Rows PySem.HandSPX PySem.OwnX PySem.ESX
/-- a made error -/
structure OwnMade (h h' : Heap) (e C d : Addr) (v u : Value) : Prop where
  keep : ∀ b o, h.get? b = some o → h'.get? b = some o
  new : h.objs.size ≤ e
  obj : ∃ t1 : Addr, h'.get? e = some { cls := .ref C, dict := some d, data := .fields #[.ref t1, .none, .none, .none, .bool false, .none] }
  dbig : h.objs.size ≤ d
  dne : d ≠ e
  ns : h'.Ns1 d (fun y => if y = "text" then some u else if y = "word" then some v else none)
section
variable {prog : Program} {w : World} {A : Around} {E : Value → Shared → Prop} {R : Result → Shared → Prop} {s : Shared} {K : Frag} {mg : Str → Option Value} {qual : Str} {C fI : Addr}
theorem own_made (T : OwnT prog K qual C fI) {v u : Value} {base : Heap} {k : Nat} (X : K.In base) (kb : ∀ b o, base.get? b = some o → s.heap.get? b = some o)
    (gl : base.Ns mainGlobals mg) (bl : ∃ mb, base.Ns builtinsNs mb ∧ ∀ y : Str, y ≠ "__name__" → mb y = bootBuiltins y) (hlim : base.NoLimit) (hmg : mg "super" = none) (hF : Fmt prog w s.heap v) (hG : Fmt prog w s.heap u)
    (hr : L2.Room (k + 1) A) (hq : ∀ h' tk e d, OwnMade s.heap h' e C d v u → R (.ok (.ret (.ref e))) { s with heap := h', toks := tk }) :
    codeAny (model prog w) A (.call (.ref C) ⟨[v, u], []⟩) R s := by
  obtain ⟨nm, q, N, bs, sn, sub, ab, col, dd, k0', k1, k2, k3, k5, hC⟩ := T.cls
  obtain ⟨hp, g, dr, tk, os⟩ := s
  have hXs : K.In hp := X.keeps kb
  have kp : ∀ b o, hp.get? b = some o → ((hp.push (kdv_tup [v, u])).push (excO C hp.objs.size)).get? b = some o := fun b o e => Heap.get?_push_of_some _ (Heap.get?_push_of_some _ e)
  have hget : ((hp.push (kdv_tup [v, u])).push (excO C hp.objs.size)).get? (hp.objs.size + 1) = some (excO C hp.objs.size) := by heap_get
  have none_at : ∀ h : Heap, (∀ b o, h.get? b = some o → hp.get? b = some o) → h.get? (hp.objs.size + 1) = none := fun h kh => by
    cases e : h.get? (hp.objs.size + 1) with
    | none => rfl
    | some o => exact absurd (Nat.lt_of_succ_lt (Heap.lt_size (kh _ _ e))) (Nat.lt_irrefl _)
  have hr1 := hr.make C [v, u] []
  refine call_own F.excBase_Exception (fun Y => rfl) (hXs _ _ hC) (looks_findIn hXs T.iC) (fun self => bind_fn hXs self T.tC) (show 2 ≤ sizeLine by decide) ?_
  refine own_init (s := ⟨(hp.push (kdv_tup [v, u])).push (excO C hp.objs.size), g, dr, tk, os⟩) (base := base) (h0 := hp) T X (fun b o e => kp b o (kb b o e)) (none_at _ kb) gl bl hlim hmg hget hF hG kp (fun fd hfd => T.bp fd hfd _ _ _ _) hr1.depth (by have := hr1.units; omega) fun h' tk' dx t1 ⟨k', hx, dn, dne, hns⟩ => ?_
  have z : hp.objs.size ≤ dx := by
    have y := dn
    rw [Heap.size_push, Heap.size_push] at y
    omega
  exact ⟨rfl, hq h' tk' (hp.objs.size + 1) dx ⟨fun b o e => k' b o (Nat.ne_of_lt (Nat.lt_succ_of_lt (Heap.lt_size e))) (kp b o e), Nat.le_succ _, ⟨_, hx⟩, z, dne, hns⟩⟩
end
end OwnY
end PySem
namespace L2
open PySem PySem.Spec PyProof.Rows
theorem relO_own2 {v u : V} {v' u' : Value} (r : RelV v v') (r2 : RelV u u') (g : Str) : RelO (List.lookup g [(("text" : Str), u), ("word", v)]) (if g = "text" then some u' else if g = "word" then some v' else none) := by
  rw [lookup_put]
  by_cases h : g = "text"
  · rw [if_pos h, if_pos h]
    exact r2
  · rw [if_neg h, if_neg h]
    exact relO_own r g
section
variable {X : Cx} {qual : Str} {C fI : Addr}
/-- raise C(word, text) -/
def tMkY (X : Cx) (C : Addr) (t : TA) : St → Hp → XK → Prop := fun σ H Q => t σ H fun vs H1 => ∃ v u, vs = [v, u] ∧ FmtV X v H1 ∧ FmtV X u H1 ∧ ∀ d, H1 d = none → Q (.ref C) (some d) (upd H1 d (.xd [("text", u), ("word", v)]))
theorem pmk_Y {x : Str} {e e2 : Expr} {t : TA} {p pos : Pos} {k : Nat} (T : PySem.OwnY.OwnT X.prog X.K qual C fI) (hr : Room (k + 1) X.A) (hs : X.mg "super" = none) (gC : X.mg x = some (.ref C)) (tyC : PySem.W.typeIn X.K (.ref C) = some (.type "type")) (ha : PA X [e, e2] t) (hg : Gl X x := by rfl)
    (hdb : (x == ("__debug__" : Str)) = false := by decide) (he : starEach [e, e2] X.env = (false, eval e X.env) :: starEach [e2] X.env := by rfl) (hpl : (backTo pos (starEach [e2] X.env)).any (·.1) = false := by rfl) :
    PMk X (.Call (.Name x p) [e, e2] [] pos) (tMkY X C t) := by
  intro pins s σ H Q I h
  refine wpAny_Call_Name_kw (ld_glob I hg gC ?_ hdb)
  refine PySem.W.callWith_K (h₀ := X.base) I.ok.mod.kin T.kC (thn (ha.run pos pins s σ H _ I h) fun us s1 ⟨vs, H1, I1, r1, v, u, ev, hf, hf2, q1⟩ => ⟨I1.kIn, ?_⟩) he hpl
  subst ev
  obtain ⟨v', u', rfl, rv, ru⟩ : ∃ v' u', us = [v', u'] ∧ RelV v v' ∧ RelV u u' := by
    cases r1 with
    | cons r rr =>
      cases rr with
      | cons r' rr =>
        cases rr
        exact ⟨_, _, rfl, r, r'⟩
  show wpAny _ _ (call (.ref C) [v', u']) _ _ _
  have hF := hf pins σ s1 v' I1 rv
  have hG := hf2 pins σ s1 u' I1 ru
  obtain ⟨hp, g, d0, tk, os⟩ := s1
  refine wpAny_call (PySem.OwnY.own_made T I1.ok.mod.kin I1.bk I1.ok.mod.glob I1.ok.mod.blt I1.ok.mod.nolimit hs hF hG hr fun h' tk' e d M => ?_)
  obtain ⟨t1, hx⟩ := M.obj
  have he : H1 e = none := I1.hok.fresh M.new
  have hd : H1 d = none := I1.hok.fresh M.dbig
  have ne : e ≠ d := Ne.symm M.dne
  obtain ⟨G, g1, g2⟩ := restrict h' fun b => decide (b ≠ e)
  have gk : ∀ b, b ≠ e → G.get? b = h'.get? b := fun b hb => g1 b (decide_eq_true hb)
  have ge : G.get? e = none := g2 e (by simp)
  have nE : ∀ {b : Addr} {o : Obj}, hp.get? b = some o → b ≠ e := fun {b o} z => Nat.ne_of_lt (Nat.lt_of_lt_of_le (Heap.lt_size z) M.new)
  have J1 : Inv X pins σ (upd H1 d (.xd [("text", u), ("word", v)])) ⟨G, g, d0, tk', os⟩ := I1.laid (t' := tk') (a := d) (o := .xd [("text", u), ("word", v)]) (h' := G) (fun b u z => (gk b (nE z)).trans (M.keep b u z)) M.dbig
    ⟨_, M.ns.at fun o y => (gk d M.dne).trans y, fun g => relO_own2 rv ru g⟩
  refine ⟨e, _, _, ⟨G, g, d0, tk', os⟩, _, .ref C, some d, rfl, J1, fun b o z => ?_, ge, hx, ⟨rfl, rfl⟩, rfl, rfl, (upd_ne ne).trans he, rfl, I1.bare, raises_own T.exC tyC, q1 d hd⟩
  by_cases c : b = e
  · rw [c, ge] at z
    cases z
  · exact (gk b c).symm.trans z
end
end L2
end
section
set_option Elab.async false
set_option linter.all false
set_option maxRecDepth 100000
set_option maxHeartbeats 4000000
namespace L2
open PySem PySem.Spec PyProof.Rows
/-! try, the first of whose clauses is for all that the body may raise: except x as n; the further clauses are not asked -/
/-- behind the suite the name is gone -/
def endsN (i : Nat) (D : Ends) : Ends := { nx := fun u G => D.nx (u.set i none) G, rt := D.rt, bk := fun u G => D.bk (u.set i none) G, ct := fun u G => D.ct (u.set i none) G }
def wFst (K : PySem.W.Frag) (c : Value) (i : Nat) (ts : Addr → Value → Option Addr → TS) (D : Ends) : WX := fun cls d u G =>
  PySem.W.exmOne K cls c = some true ∧ ∀ a, G a = none → ts a cls d (endsN i D) (u.set i (some (.ref a))) G
section
variable {X : Cx} {i : Nat} {x n : Str} {c : Value} {body suite : List Stmt} {b1 : Stmt} {more : List ExceptHandler} {np hp tp : Pos} {tb : WX → TS} {ts : Addr → Value → Option Addr → TS}
theorem ps_try_fst (hst : X.stack = X.env :: X.outer) (hfr0 : X.env.frame = some X.env.locals) (hN : X.N.Nodup) (hi : X.N[i]? = some n) (hln : X.env.kindOf n = some .local) (hc : Names X x c)
    (hb : ∀ (W : WX) (pn : List (Addr × Obj)) (xe : Value → Shared → Prop), Takes (X.tr pn xe) W → PassesOwn (model X.prog X.w) X.A X.env xe → PSs (X.tr pn xe) body (tb W))
    (hsu : ∀ (a : Addr) (oe : Obj) (cls : Value) (d : Option Addr) (pn : List (Addr × Obj)), Zc cls d oe → (∃ vs, oe.data = .fields vs) → PSs (X.suite a ((a, oe) :: pn)) (b1 :: suite) (ts a cls d)) :
    PS X (.Try body (.ExceptHandler (some (.Name x np)) (some n) (b1 :: suite) hp :: more) [] [] tp) (fun D u G => tb (wFst X.K c i ts D) D u G) := by
  refine ⟨fun pins s u G D I hyp => ?_⟩
  have okx := I.ok
  have frames : X.A.frames = some (X.env :: X.outer) := by rw [okx.frames, hst]
  have locn : Loc X.env.scope n := .inl hln
  refine wpAny_Try_except ?_
  let catchE : Value → Shared → Prop := fun e q1 => wpAny (model X.prog X.w) X.A (noteFrame e X.env) (fun _ q2 => wpAny (model X.prog X.w) X.A (setFlight e none) (fun _ q3 => wpAny (model X.prog X.w) X.A (handleBy e X.env (.ExceptHandler (some (.Name x np)) (some n) (b1 :: suite) hp :: more)) (SP X pins D) X.xe q3) X.xe q2) X.xe q1
  refine wpAny_mono ((hb (wFst X.K c i ts D) (X.pn ++ pins) catchE (fun v q hq => ?_) PassesOwn.looking).run [] s u G D (I.toTry _) hyp) (fun fl q hq => ?_) (fun _ _ z => z)
  · obtain ⟨a, B, qI, pins', u', G', cls, d, rfl, J0, nb, up, sky, na, os, ag, hone, hyes⟩ := hq
    have J : Inv X pins u' G' qI := J0.ofTry okx
    have sky1 : Sky B (X.env :: X.outer) a (Zc cls d) X.env.locals q.heap := by
      rw [← hst]
      exact sky
    show wpAny (model X.prog X.w) X.A (noteFrame (.ref a) X.env) _ _ _
    refine Sky.land Zc.steady frames hfr0 sky1 fun k3 fl3 up3 => ?_
    have J3 : Inv X pins u' G' { q with heap := k3 } := J.landed nb fl3.1 (up.trans up3) os ag
    obtain ⟨o3, vs3, ho3, hz3, hd3⟩ := fl3.there
    have notIn : ∀ {k : Heap} {o : Obj} {vs : Array Value}, k.FunFrames B (X.env :: X.outer) → k.get? a = some o → o.data = .fields vs → a ∉ frs (X.env :: X.outer) := fun {k o vs} ff e1 e2 hm => by
      obtain ⟨_, o', e', no⟩ := ff.mem hm
      rw [e1] at e'
      cases e'
      exact no _ e2
    have no3 := notIn fl3.2.2.1 ho3 hd3
    have noL : a ≠ X.env.locals := fun z => no3 (List.mem_filterMap.mpr ⟨X.env, List.mem_cons_self, by rw [hfr0, z]⟩)
    have noF : a ∉ X.fs := fun hm => by
      obtain ⟨e, he, z⟩ := List.mem_filterMap.mp hm
      exact no3 (List.mem_filterMap.mpr ⟨e, List.mem_cons_of_mem _ he, z⟩)
    have S3 := J3.suite ho3 hd3 na noL noF
    refine wpAny_handleBy_cons (codeAny_handlers_test ?_) (by intro z; cases z)
    have tyA : PySem.W.Looks (model X.prog X.w) k3 (typeOf (.ref a)) cls := fun A Q E r k z => wpAny_typeOf_ref (k _ _ ho3) (by rw [hz3.1]; exact z)
    have match_ := PySem.W.exm_one (M := model X.prog X.w) (J3.kIn) tyA hone
    have test : ∀ {Q : Value → Shared → Prop} {E : Value → Shared → Prop}, Q c { q with heap := k3 } → wpAny (model X.prog X.w) (X.A.mark (some (.ref a))) (eval (.Name x np) X.env) Q E { q with heap := k3 } := fun {Q E} z => by
      obtain ⟨hg, hdb, hm | ⟨hm, hv, hnn⟩⟩ := hc
      · exact ld_glob (X := X.suite a ((a, o3) :: (X.pn ++ pins))) S3 hg hm z hdb
      · exact ld_blt (X := X.suite a ((a, o3) :: (X.pn ++ pins))) S3 hg hm hv z hnn hdb
    refine test (match_.here ?_)
    refine codeAny_handlers_suite_as ?_
    refine HandSPX.lands_againZ fl3 fun k4 fl4 up4 => ?_
    have J4 : Inv X pins u' G' { q with heap := k4 } := J.landed nb fl4.1 ((up.trans up3).trans up4) os ag
    obtain ⟨o4, vs4, ho4, hz4, hd4⟩ := fl4.there
    have S4 := J4.suite ho4 hd4 na noL noF
    refine store_ok (X := X.suite a ((a, o4) :: (X.pn ++ pins))) (v := .ref a) S4 hN hi locn rfl (fun q5 S5 => ?_) (.inr hln)
    refine wpAny_mono ((hsu a o4 cls d (X.pn ++ pins) hz4 ⟨_, hd4⟩).run [] q5 _ G' _ S5 (hyes a na)) (fun fl q6 hq6 => ?_) (fun _ _ z => False.elim z)
    have gone : ∀ {u6 : St} {G6 : Hp} {Q : Shared → Prop}, Inv (X.suite a ((a, o4) :: (X.pn ++ pins))) [] u6 G6 q6 → (∀ q7, Inv X pins (u6.set i none) G6 q7 → Q q7) →
        wpAny (model X.prog X.w) X.A (do bindName X.env n .none; unbindBehindTheSuite X.env n hp) (fun _ q7 => Q q7) X.xe q6 := fun {u6 G6 Q} S6 z => gone_ok (S6.unsuite okx) hN hi hln z
    rcases fl with v0 | _ | _ | _ <;> first
      | (obtain ⟨v6, u6, G6, S6, r6, z⟩ := hq6
         exact gone S6 fun q7 J7 => ⟨_, _, _, J7, r6, z⟩)
      | (obtain ⟨u6, G6, S6, z⟩ := hq6
         exact gone S6 fun q7 J7 => ⟨_, _, J7, z⟩)
  · rcases fl with v0 | _ | _ | _ <;> first
      | (obtain ⟨v6, u6, G6, S6, r6, z⟩ := hq
         exact ⟨_, _, _, S6.ofTry okx, r6, z⟩)
      | (obtain ⟨u6, G6, S6, z⟩ := hq
         exact ⟨_, _, S6.ofTry okx, z⟩)
      | (obtain ⟨u6, G6, S6, z⟩ := hq
         exact wpAny_execs_nil ⟨_, _, S6.ofTry okx, z⟩)
end
end L2
end
section
set_option Elab.async false
set_option linter.all false
set_option maxRecDepth 100000
set_option maxHeartbeats 4000000
namespace L2
open PySem PySem.Spec PyProof.Rows
/-! o.m() in a try, where m may raise -/
def tMeth0S (C : Addr) (m : Str) (sp : Sp) (E : St → XK) (ta : TE) : TE := fun u G Q => ta u G fun x G1 => ∃ a dx fs, x = .ref a ∧ G1 a = some (.ins C dx fs) ∧ fs.lookup m = none ∧ sp [x] G1 Q (E u)
theorem pe_mn0S {X : Cx} {CX : CXT} {k n : Nat} {C : Addr} {sp : Sp} {E : St → XK} {m : Str} {pos apos : Pos} {o : Expr} {ta : TE} {pl : Sem Bool} (c : Cls X.K C) (D : Mn X.prog X.w X.K X.mg X.base CX C m k n sp) (hr : Room k X.A) (hx : ∀ σ, PassesAt CX X σ (E σ)) (ho : PE X o ta)
    (ht : eval (.Call (.Attribute o m apos) [] [] pos) X.env = (do
      let ov ← eval o X.env
      standAt apos.atName
      let (f, first) ← holding [ov] (getMethod ov m pl)
      callWith pos f first (backTo pos (starEach [] X.env)) (backToKw pos (keywordEach [] X.env))) := by rfl) : PE X (.Call (.Attribute o m apos) [] [] pos) (tMeth0S C m sp E ta) := by
  obtain ⟨f, fd, ps, _, hm, hb, F⟩ := D
  refine ⟨fun pins s u G Q I h => ?_⟩
  refine PySem.W.methodCall_KW (pl := pl) (thn (ho.run pins s u G _ I h) fun ov s1 ⟨x, G1, I1, rx, a, dx, fs, ex, ea, lk, z⟩ => ?_) ht
  subst ex
  cases (show ov = Value.ref a from rx)
  refine getmeth_ok I1 ea c hm lk ?_
  exact PySem.W.callWith_K0 (first := [.ref a]) I1.kIn hm.kp (run_fnS (us := [.ref a]) (vs := [.ref a]) F hr hb (hx u) I1 (.cons rfl .nil) z)
/-! the same where the context hangs on what is being tried or handled -/
section
variable {X : Cx} (K : PySem.W.Frag)
theorem ps_fldKK {o value : Expr} {f : Str} {pos pos' : Pos} {ta tv : TE} (ha : PE X o ta) (hv : PE X value tv) (hs : swapsWith value (some (.Attribute o f pos')) pos.line X.env = pure false) (h : X.K = K := by rfl) : PS X (.Assign [.Attribute o f pos'] value pos) (sFld K ta tv f) := h ▸ ps_fld ha hv hs
theorem call_listKK (h : X.K = K := by rfl) : CallR X (.type "list") (fun xs H Q => ∃ p ys, xs = [.ref p] ∧ (SqL K H p ys ∨ SqT K H p ys) ∧ ∀ l, H l = none → Q (.ref l) (upd H l (.lst ys))) := h ▸ call_list_of
theorem pe_popKK {o : Expr} {to : TE} {apos cpos : Pos} (ho : PE X o to) (hbase : attributeBase o "pop" X.env (eval o X.env) = eval o X.env := by rfl) (hline : (apos.endLine == cpos.line) = true := by rfl) (h : X.K = K := by rfl) : PE X (.Call (.Attribute o "pop" apos) [] [] cpos) (tBM0 K "list" rPop to) :=
  h ▸ pe_bm0 PySem.F.plainAttrs_list PySem.F.slot_list_pop PySem.F.type_list_pop mt_pop ho hbase hline
end
end L2
end
section
set_option Elab.async false
set_option linter.all false
set_option maxRecDepth 100000
set_option maxHeartbeats 4000000
namespace K9
open PySem PySem.Spec PyProof.Rows L2
/-- the built-in names are free -/
structure Blt (mg : Str → Option Value) : Prop where
  isinstance : mg "isinstance" = none
  int : mg "int" = none
  bool : mg "bool" = none
  str : mg "str" = none
  tuple : mg "tuple" = none
  len : mg "len" = none
  all : mg "all" = none
  zip : mg "zip" = none
  list : mg "list" = none
  reversed : mg "reversed" = none
  range : mg "range" = none
  max : mg "max" = none
  min : mg "min" = none
  sum : mg "sum" = none
  super : mg "super" = none
/-- the numbers that the module keeps by names -/
structure Glo (mg : Str → Option Value) : Prop where
  TABLES_MOST : ∃ t, mg "TABLES_MOST" = some (.int 60 t)
  SINGLES_MOST : ∃ t, mg "SINGLES_MOST" = some (.int 60 t)
  BODIES_MOST : ∃ t, mg "BODIES_MOST" = some (.int 600 t)
  LOCALS_MOST : ∃ t, mg "LOCALS_MOST" = some (.int 400 t)
  CS_DEEP : ∃ t, mg "CS_DEEP" = some (.int 240 t)
  TEXT_MOST_coreform : ∃ t, mg "TEXT_MOST_coreform" = some (.int 80 t)
  TOLD_MOST : ∃ t, mg "TOLD_MOST" = some (.int 200 t)
  OBJECTS_DEEP : ∃ t, mg "OBJECTS_DEEP" = some (.int 5 t)
  UNDER_WAY_MOST : ∃ t, mg "UNDER_WAY_MOST" = some (.int 6000 t)
  CORE_MOST : ∃ t, mg "CORE_MOST" = some (.int 100000 t)

theorem sc_is_integer : FnScope ["thing"] ["thing"] (defScope s_is_integer) := ⟨rfl, rfl, rfl, by decide +kernel, rfl, by decide +kernel, by decide +kernel⟩
theorem sc_is_number : FnScope ["thing", "bound"] ["thing", "bound"] (defScope s_is_number) := ⟨rfl, rfl, rfl, by decide +kernel, rfl, by decide +kernel, by decide +kernel⟩
theorem sc_is_row : FnScope ["thing", "many"] ["thing", "many"] (defScope s_is_row) := ⟨rfl, rfl, rfl, by decide +kernel, rfl, by decide +kernel, by decide +kernel⟩
theorem sc_is_text : FnScope ["thing", "c"] ["thing"] (defScope s_is_text) := ⟨rfl, rfl, rfl, by decide +kernel, rfl, by decide +kernel, by decide +kernel⟩
theorem sc_is_label : FnScope ["thing"] ["thing"] (defScope s_is_label) := ⟨rfl, rfl, rfl, by decide +kernel, rfl, by decide +kernel, by decide +kernel⟩
theorem sc_are_ascending : FnScope ["things", "one", "other"] ["things"] (defScope s_are_ascending) := ⟨rfl, rfl, rfl, by decide +kernel, rfl, by decide +kernel, by decide +kernel⟩
theorem sc_are_labels : FnScope ["thing", "one"] ["thing"] (defScope s_are_labels) := ⟨rfl, rfl, rfl, by decide +kernel, rfl, by decide +kernel, by decide +kernel⟩
/-- a text of a core -/
def OkText (z : Str) : Prop := z.length ≤ 80 ∧ ∀ c ∈ z.cps.toList, 32 ≤ c ∧ c ≤ 126
def spIsInt : Sp := fun vs H Q _ => ∃ i : Int, vs = [.int i] ∧ Q (.bl true) H
def spIsNum : Sp := fun vs H Q _ => ∃ i b : Int, vs = [.int i, .int b] ∧ Q (.bl (decide (0 ≤ i) && decide (i < b))) H
def spIsRow (K : PySem.W.Frag) : Sp := fun vs H Q _ => ∃ (a : Addr) (xs : List V) (n : Int), vs = [.ref a, .int n] ∧ SqT K H a xs ∧ Q (.bl (decide ((xs.length : Int) = n))) H
def spIsText : Sp := fun vs H Q _ => ∃ z : Str, vs = [.str z] ∧ OkText z ∧ ∀ H', Same H H' → Q (.bl true) H'
def spIsLabel : Sp := fun vs H Q _ => ∃ z : Str, vs = [.str z] ∧ OkText z ∧ z ≠ "" ∧ ∀ H', Same H H' → Q (.bl true) H'
/-- a label of a core -/
def OkLabel (z : Str) : Prop := OkText z ∧ z ≠ ""
def spLabels (K : PySem.W.Frag) : Sp := fun vs H Q _ => ∃ (a : Addr) (zs : List Str), vs = [.ref a] ∧ SqT K H a (zs.map V.str) ∧ zs.length ≤ 600 ∧ (∀ z ∈ zs, OkLabel z) ∧ ∀ H', Same H H' → Q (.bl true) H'
def spAsc (K : PySem.W.Frag) : Sp := fun vs H Q _ => ∃ (a : Addr) (zs : List Str), vs = [.ref a] ∧ SqL K H a (zs.map V.str) ∧ zs.length ≤ 600 ∧ (∀ (i : Nat) (x y : Str), zs[i]? = some x → zs[i + 1]? = some y → x.cps.toList < y.cps.toList) ∧ ∀ H', Same H H' → Q (.bl true) H'
section
variable {P : Program} {w : World} {K : PySem.W.Frag} {mg : Str → Option Value} {base : Heap} {f : Addr} {fd : FuncData}
theorem tyT {H : Hp} {a : Addr} {xs : List V} (h : SqT K H a xs) : TyX K H (.ref a) (.type "tuple") := by
  rcases h with (h | ⟨o, h⟩) | ⟨o, its, n, h1, h2, _⟩
  · exact .base (.tup h)
  · exact .fTuple h
  · exact .kTuple h1 h2
theorem ok_is_integer (F : Fun K "is_integer" "is_integer" s_is_integer f fd) (B : Blt mg) : FnOk P w K mg base CX0 1 f fd ["thing"] spIsInt := by
  refine F.ok sc_is_integer (fun vs H Q E h => ?_) (fun cdv A outer s H vs Q E hr h => ?_)
  · obtain ⟨i, rfl, _⟩ := h
    rfl
  · obtain ⟨i, rfl, q⟩ := h
    refine ⟨_, (pss_one (ps_ret (pe_and (pe_callB call_isi (by rfl) B.isinstance (by decide +kernel) (pa_cons (pv 0) (pa_cons (pe_bltn (v := .ty "int") (u := .type "int") rfl B.int (by decide +kernel) rfl) pa_nil))) (pe_one (pe_not (pe_callB call_isi (by rfl) B.isinstance (by decide +kernel) (pa_cons (pv 0) (pa_cons (pe_bltn (v := .ty "bool") (u := .type "bool") rfl B.bool (by decide +kernel) rfl) pa_nil)))))))), ?_⟩
    refine ⟨_, rfl, _, _, _, _, true, rfl, .ty _, .base (.int i), kit_ty (by decide +kernel), true, rfl, iteT ?_⟩
    exact ⟨_, rfl, _, _, _, _, false, rfl, .ty _, .base (.int i), kit_ty (by decide +kernel), false, rfl, q⟩
structure Ds1 (P : Program) (w : World) (K : PySem.W.Frag) (mg : Str → Option Value) (base : Heap) : Prop where
  is_integer : Dn P w K mg base CX0 "is_integer" 1 1 spIsInt
theorem ok_is_number (F : Fun K "is_number" "is_number" s_is_number f fd) (D : Ds1 P w K mg base) : FnOk P w K mg base CX0 2 f fd ["thing", "bound"] spIsNum := by
  refine F.ok sc_is_number (fun vs H Q E h => ?_) (fun cdv A outer s H vs Q E hr h => ?_)
  · obtain ⟨i, b, rfl, _⟩ := h
    rfl
  · obtain ⟨i, b, rfl, q⟩ := h
    refine ⟨_, (pss_one (ps_ret (pe_and (pe_dn D.is_integer (hr.mono (by decide)) pass0 (pa_cons (pv 0) pa_nil)) (pe_one (pe_chain op_le op_lt pe_int (pv 0) (pv 1)))))), ?_⟩
    refine ⟨_, rfl, i, rfl, true, rfl, iteT ?_⟩
    refine ⟨_, rfl, _, _, rfl, rfl, _, rfl, ?_⟩
    cases c : decide (0 ≤ i) with
    | true =>
      refine iteT ⟨_, rfl, _, _, rfl, rfl, ?_⟩
      rw [c] at q
      exact q
    | false =>
      rw [c] at q
      exact iteF q
theorem ok_is_row (F : Fun K "is_row" "is_row" s_is_row f fd) (B : Blt mg) : FnOk P w K mg base CX0 1 f fd ["thing", "many"] (spIsRow K) := by
  refine F.ok sc_is_row (fun vs H Q E h => ?_) (fun cdv A outer s H vs Q E hr h => ?_)
  · obtain ⟨a, xs, n, rfl, _⟩ := h
    rfl
  · obtain ⟨a, xs, n, rfl, hS, q⟩ := h
    refine ⟨_, (pss_one (ps_ret (pe_and (pe_callB call_isi (by rfl) B.isinstance (by decide +kernel) (pa_cons (pv 0) (pa_cons (pe_bltn (v := .ty "tuple") (u := .type "tuple") rfl B.tuple (by decide +kernel) rfl) pa_nil))) (pe_one (pe_cmpR op_eq (pe_callB call_len_seq (by rfl) B.len PySem.boot_len (pa_cons (pv 0) pa_nil)) (pv 1) (nomark _)))))), ?_⟩
    refine ⟨_, rfl, _, _, _, _, true, rfl, .ty _, tyT hS, kit_ty (by decide +kernel), true, rfl, iteT ?_⟩
    refine ⟨_, rfl, a, xs, rfl, .inr hS, _, rfl, rfl, ?_⟩
    rw [← dec_vi] at q
    exact q
theorem ok_is_text (F : Fun K "is_text" "is_text" s_is_text f fd) (B : Blt mg) (G : Glo mg) : FnOk P w K mg base CX0 1 f fd ["thing"] spIsText := by
  refine F.ok sc_is_text (fun vs H Q E h => ?_) (fun cdv A outer s H vs Q E hr h => ?_)
  · obtain ⟨z, rfl, _⟩ := h
    rfl
  · obtain ⟨z, rfl, ok, q⟩ := h
    refine ⟨_, (pss_one (ps_ret (pe_and (pe_callB call_isi (by rfl) B.isinstance (by decide +kernel) (pa_cons (pv 0) (pa_cons (pe_bltn (v := .ty "str") (u := .type "str") rfl B.str (by decide +kernel) rfl) pa_nil))) (pe_and (pe_cmpR op_le (pe_callB call_len_str (by rfl) B.len PySem.boot_len (pa_cons (pv 0) pa_nil)) (pe_gi G.TEXT_MOST_coreform) (nomark _)) (pe_one (pe_callB (cr_all rfl) (by rfl) B.all (by decide +kernel) (pa_cons (pe_lc (own := [("c", 1)]) (g := (gName 1)) (tt := tYes) rfl sc_is_text.nd (pi_str (pv 0)) (blkOk_by (N := ["thing", "c"]) (sc := defScope s_is_text) (by decide +kernel)) (fun _ _ _ _ _ => (pg_name (i := 1) sc_is_text.nd rfl (.inl rfl))) (fun _ _ _ _ _ => pts_nil) (fun _ _ _ _ _ => (pe_chain op_le_str op_le_str pe_str (pv 1) pe_str))) pa_nil))))))), ?_⟩
    refine ⟨_, rfl, _, _, _, _, true, rfl, .ty _, .base (.str z), kit_ty (by decide +kernel), true, rfl, iteT ?_⟩
    refine ⟨_, rfl, z, rfl, Nat.le_trans ok.1 (by decide), _, _, rfl, rfl, _, rfl, ift (decide_eq_true (by have := ok.1; omega)) ?_⟩
    have hsz : z.cps.size ≤ 80 := ok.1
    refine ⟨_, rfl, z, rfl, fun Dn hD => lc_map walk_str (fun _ => V.bl true) (Nat.le_trans hsz (by decide)) hD (fun _ _ => trivial) (fun i H x H' _ y => by rw [y.1]; exact Same.refl _) (fun i x H1 H2 Kt hi s1 s2 y k => ?_) (fun H1 s1 h1 => ?_)⟩
    · obtain ⟨rfl, c, hc, rfl⟩ := y
      have hm : c ∈ z.cps.toList := by
        have e : z.cps.toList[i]? = some c := by rw [Array.getElem?_toList]; exact hc
        exact List.mem_of_getElem? e
      obtain ⟨c1, c2⟩ := ok.2 c hm
      refine ⟨rfl, ⟨_, rfl, _, _, rfl, rfl, _, rfl, ?_⟩⟩
      have e1 : decide ([c] < (" " : Str).cps.toList) = false := decide_eq_false fun h => by
        have h' : [c] < [32] := h
        rw [one_lt] at h'
        omega
      have e2 : decide (("~" : Str).cps.toList < [c]) = false := decide_eq_false fun h => by
        have h' : [126] < [c] := h
        rw [one_lt] at h'
        omega
      refine ift (by rw [e1]; rfl) ⟨_, _, rfl, rfl, ?_⟩
      rw [e2]
      exact k _ (Same.refl _)
    · refine ⟨Dn, List.replicate z.cps.size true, rfl, ?_, ?_⟩
      · rw [List.map_replicate, ← map_const_range]
        exact SqL.of h1
      · refine Eq.mpr (congrArg (fun b => Q (V.bl b) H1) (show (List.replicate z.cps.size true).all id = true from ?_)) (q _ s1)
        rw [List.all_replicate]
        simp
theorem ok_is_label (F : Fun K "is_label" "is_label" s_is_label f fd) (B : Blt mg) (D : Dn P w K mg base CX0 "is_text" 1 1 spIsText) : FnOk P w K mg base CX0 2 f fd ["thing"] spIsLabel := by
  refine F.ok sc_is_label (fun vs H Q E h => ?_) (fun cdv A outer s H vs Q E hr h => ?_)
  · obtain ⟨z, rfl, _⟩ := h
    rfl
  · obtain ⟨z, rfl, ok, hne, q⟩ := h
    refine ⟨_, (pss_one (ps_ret (pe_and (pe_callB call_isi (by rfl) B.isinstance (by decide +kernel) (pa_cons (pv 0) (pa_cons (pe_bltn (v := .ty "str") (u := .type "str") rfl B.str (by decide +kernel) rfl) pa_nil))) (pe_and (pe_cmpR op_ne (pv 0) pe_str (nomark _)) (pe_one (pe_dn D (hr.mono (by decide)) pass0 (pa_cons (pv 0) pa_nil))))))), ?_⟩
    refine ⟨_, rfl, _, _, _, _, true, rfl, .ty _, .base (.str z), kit_ty (by decide +kernel), true, rfl, iteT ?_⟩
    refine ⟨_, rfl, rfl, _, rfl, ift ?_ ?_⟩
    · rw [dec_vs, decide_eq_false hne]
      rfl
    · exact ⟨_, rfl, z, rfl, ok, q⟩
theorem ok_are_labels (F : Fun K "are_labels" "are_labels" s_are_labels f fd) (B : Blt mg) (D : Dn P w K mg base CX0 "is_label" 2 1 spIsLabel) : FnOk P w K mg base CX0 3 f fd ["thing"] (spLabels K) := by
  refine F.ok sc_are_labels (fun vs H Q E h => ?_) (fun cdv A outer s H vs Q E hr h => ?_)
  · obtain ⟨a, zs, rfl, _⟩ := h
    rfl
  · obtain ⟨a, zs, rfl, hS, hz, ok, q⟩ := h
    refine ⟨_, (pss_one (ps_ret (pe_and (pe_callB call_isi (by rfl) B.isinstance (by decide +kernel) (pa_cons (pv 0) (pa_cons (pe_bltn (v := .ty "tuple") (u := .type "tuple") rfl B.tuple (by decide +kernel) rfl) pa_nil))) (pe_one (pe_callB (cr_all rfl) (by rfl) B.all (by decide +kernel) (pa_cons (pe_lc (own := [("one", 1)]) (g := (gName 1)) (tt := tYes) rfl sc_are_labels.nd (pi_tup (pv 0)) (blkOk_by (N := ["thing", "one"]) (sc := defScope s_are_labels) (by decide +kernel)) (fun _ _ _ _ _ => (pg_name (i := 1) sc_are_labels.nd rfl (.inl rfl))) (fun _ _ _ _ _ => pts_nil) (fun _ _ _ _ _ => (pe_dn D (hr.mono (by decide)) pass0 (pa_cons (pv 1) pa_nil)))) pa_nil)))))), ?_⟩
    refine ⟨_, rfl, _, _, _, _, true, rfl, .ty _, tyT hS, kit_ty (by decide +kernel), true, rfl, iteT ?_⟩
    refine ⟨_, rfl, a, rfl, ⟨_, hS⟩, fun Dn hD => lc_map (walk_tup (xs := zs.map V.str)) (fun _ => V.bl true) (by rw [List.length_map]; exact Nat.le_trans hz (by decide)) hD (fun H1 s1 => s1.seqT hS) (fun i H x H' _ y => yat_same i H x H' y) (fun i x H1 H2 Kt hi s1 s2 y k => ?_) (fun H1 s1 h1 => ?_)⟩
    · obtain ⟨rfl, hx⟩ := y
      obtain ⟨z, hz', rfl⟩ : ∃ z, z ∈ zs ∧ x = V.str z := by
        rw [List.getElem?_map] at hx
        cases e : zs[i]? with
        | none => rw [e] at hx; cases hx
        | some z => rw [e] at hx; exact ⟨z, List.mem_of_getElem? e, (Option.some.inj hx).symm⟩
      exact ⟨rfl, _, rfl, z, rfl, (ok z hz').1, (ok z hz').2, k⟩
    · refine ⟨Dn, List.replicate (zs.map V.str).length true, rfl, ?_, ?_⟩
      · rw [List.map_replicate, ← map_const_range]
        exact SqL.of h1
      · refine Eq.mpr (congrArg (fun b => Q (V.bl b) H1) (show (List.replicate (zs.map V.str).length true).all id = true from ?_)) (q _ s1)
        rw [List.all_replicate]
        simp
theorem ok_are_ascending (F : Fun K "are_ascending" "are_ascending" s_are_ascending f fd) (B : Blt mg) : FnOk P w K mg base CX0 1 f fd ["things"] (spAsc K) := by
  refine F.ok sc_are_ascending (fun vs H Q E h => ?_) (fun cdv A outer s H vs Q E hr h => ?_)
  · obtain ⟨a, zs, rfl, _⟩ := h
    rfl
  · obtain ⟨a, zs, rfl, hS, hz, ok, q⟩ := h
    refine ⟨_, (pss_one (ps_ret (pe_callB (cr_all rfl) (by rfl) B.all (by decide +kernel) (pa_cons (pe_lc (own := [("one", 1), ("other", 2)]) (g := (gTup K 2 (gCons (gName 1) (gCons (gName 2) gNil)))) (tt := tYes) rfl sc_are_ascending.nd (RZ.pi_zipA rfl B.zip (pa_cons (pv 0) (pa_cons (pe_slice sl_list (pv 0) (po_some pe_int) po_none) pa_nil))) (blkOk_by (N := ["things", "one", "other"]) (sc := defScope s_are_ascending) (by decide +kernel)) (fun _ _ _ _ _ => (pg_tup rfl (pgs_cons (pg_name (i := 1) sc_are_ascending.nd rfl (.inl rfl)) (pgs_cons (pg_name (i := 2) sc_are_ascending.nd rfl (.inl rfl)) pgs_nil)))) (fun _ _ _ _ _ => pts_nil) (fun _ _ _ _ _ => (pe_cmpR op_lt_str (pv 1) (pv 2) (nomark _)))) pa_nil)))), ?_⟩
    have hl : (zs.map V.str).length = zs.length := List.length_map _
    refine ⟨_, rfl, _, rfl, 1, rfl, a, _, rfl, hS, fun p hp => ?_⟩
    have s0 : Same H (upd H p (.lst (cutV (zs.map V.str) (some 1) none))) := same_new hp
    refine ⟨a, p, zs.map V.str, (zs.map V.str).drop 1, rfl, .inl ⟨s0.seq hS, by rw [← cut1]; exact SqL.of upd_same, fun Dn hD => lc_map (walk_zipL (xs := zs.map V.str) (ys := (zs.map V.str).drop 1) rfl) (fun _ => V.bl true) (Nat.le_trans (Nat.min_le_left _ _) (by rw [hl]; exact Nat.le_trans hz (by decide))) hD (fun H1 s1 => ⟨(s0.trans s1).seq hS, s1.seq (by rw [← cut1]; exact SqL.of upd_same)⟩) (fun i H x H' _ y => ypair_same i H x H' y) (fun i x H1 H2 Kt hi s1 s2 y k => ?_) (fun H1 s1 h1 => ?_)⟩⟩
    · obtain ⟨T, u, v, rfl, hT, rfl, hu, hv⟩ := y
      have hu' : (zs.map V.str)[i]? = some u := hu
      have hv' : ((zs.map V.str).drop 1)[i]? = some v := hv
      rw [List.getElem?_map] at hu'
      rw [List.getElem?_drop, List.getElem?_map] at hv'
      cases e1 : zs[i]? with
      | none => rw [e1] at hu'; cases hu'
      | some z1 =>
        rw [e1] at hu'
        cases e2 : zs[1 + i]? with
        | none => rw [e2] at hv'; cases hv'
        | some z2 =>
          rw [e2] at hv'
          obtain rfl := Option.some.inj hu'
          obtain rfl := Option.some.inj hv'
          have hlt := ok i z1 z2 e1 (by rw [Nat.add_comm]; exact e2)
          refine ⟨T, _, rfl, SqT.of upd_same, rfl, _, _, rfl, _, _, rfl, rfl, rfl, ?_⟩
          refine ⟨_, rfl, _, rfl, _, _, rfl, rfl, ?_⟩
          rw [decide_eq_true hlt]
          exact k _ (Same.refl _)
    · refine ⟨Dn, List.replicate (min (zs.map V.str).length ((zs.map V.str).drop 1).length) true, rfl, ?_, ?_⟩
      · rw [List.map_replicate, ← map_const_range]
        exact SqL.of h1
      · refine Eq.mpr (congrArg (fun b => Q (V.bl b) H1) (show (List.replicate (min (zs.map V.str).length ((zs.map V.str).drop 1).length) true).all id = true from ?_)) (q _ (s0.trans s1))
        rw [List.all_replicate]
        simp
end
end K9
end
section
set_option Elab.async false
set_option linter.all false
set_option maxRecDepth 100000
set_option maxHeartbeats 4000000
namespace K9
open PySem PySem.Spec PyProof.Rows L2
/-- the cs of the law's cores -/
inductive C9 where
  | unit | loc | thn (a b : C9) | dir (n : Nat) (a : C9) | snd (a : C9) (s : Str) | mak (n : Nat) | sgl (n : Nat)
def C9.word : C9 → Str
  | .unit => "unit" | .loc => "local" | .thn _ _ => "then" | .dir _ _ => "direct" | .snd _ _ => "send" | .mak _ => "make" | .sgl _ => "single"
def C9.sorts : C9 → List Str
  | .unit => [] | .loc => ["local"] | .thn _ _ => ["c", "c"] | .dir _ _ => ["body", "cs"] | .snd _ _ => ["c", "selector", "cs"] | .mak _ => ["table", "cs"] | .sgl _ => ["single"]
def C9.kids : C9 → List C9
  | .unit => [] | .loc => [] | .thn a b => [a, b] | .dir _ a => [a] | .snd a _ => [a] | .mak _ => [] | .sgl _ => []
def C9.size : C9 → Nat
  | .unit => 1 | .loc => 1 | .thn a b => 1 + a.size + b.size | .dir _ a => 1 + a.size | .snd a _ => 1 + a.size | .mak _ => 1 | .sgl _ => 1
/-- tuples stay -/
def Tu (H H' : Hp) : Prop := ∀ p xs, H p = some (.tup xs) → H' p = some (.tup xs)
theorem Tu.refl (H : Hp) : Tu H H := fun _ _ e => e
theorem Tu.trans {H H' H'' : Hp} (a : Tu H H') (b : Tu H' H'') : Tu H H'' := fun p xs e => b p xs (a p xs e)
theorem Tu.same {H H' : Hp} (a : Same H H') : Tu H H' := fun p xs e => a p _ e
theorem Tu.upd {H : Hp} {p : Addr} {o : HO} (h : ∀ xs, H p ≠ some (.tup xs)) : Tu H (upd H p o) := fun q xs e => by
  by_cases c : q = p
  · subst c
    exact (h _ e).elim
  · rw [upd_ne c]
    exact e
theorem Tu.new {H : Hp} {p : Addr} {o : HO} (h : H p = none) : Tu H (L2.upd H p o) := Tu.upd fun xs e => by rw [h] at e; cases e
theorem Tu.at {H : Hp} {p : Addr} {o u : HO} (h : H p = some u) (hu : ∀ xs, u ≠ .tup xs := by intro _ e; cases e) : Tu H (L2.upd H p o) := Tu.upd fun xs e => by
  rw [h] at e
  exact hu xs (Option.some.inj e)
/-- v is c -/
def IsC (H : Hp) : C9 → V → Prop
  | .unit, v => ∃ a, v = .ref a ∧ H a = some (.tup [.str "unit"])
  | .loc, v => ∃ a, v = .ref a ∧ H a = some (.tup [.str "local", .int 0])
  | .thn c d, v => ∃ a x y, v = .ref a ∧ H a = some (.tup [.str "then", x, y]) ∧ IsC H c x ∧ IsC H d y
  | .dir n c, v => ∃ a t x, v = .ref a ∧ H a = some (.tup [.str "direct", .int n, .ref t]) ∧ H t = some (.tup [x]) ∧ IsC H c x
  | .snd c s, v => ∃ a x t, v = .ref a ∧ H a = some (.tup [.str "send", x, .str s, .ref t]) ∧ H t = some (.tup []) ∧ IsC H c x
  | .mak n, v => ∃ a t, v = .ref a ∧ H a = some (.tup [.str "make", .int n, .ref t]) ∧ H t = some (.tup [])
  | .sgl n, v => ∃ a, v = .ref a ∧ H a = some (.tup [.str "single", .int n])
theorem IsC.mono {H H' : Hp} (s : Tu H H') : ∀ {c : C9} {v : V}, IsC H c v → IsC H' c v
  | .unit, _, ⟨a, e, h⟩ => ⟨a, e, s _ _ h⟩
  | .loc, _, ⟨a, e, h⟩ => ⟨a, e, s _ _ h⟩
  | .thn _ _, _, ⟨a, x, y, e, h, h1, h2⟩ => ⟨a, x, y, e, s _ _ h, h1.mono s, h2.mono s⟩
  | .dir _ _, _, ⟨a, t, x, e, h, h1, h2⟩ => ⟨a, t, x, e, s _ _ h, s _ _ h1, h2.mono s⟩
  | .snd _ _, _, ⟨a, x, t, e, h, h1, h2⟩ => ⟨a, x, t, e, s _ _ h, s _ _ h1, h2.mono s⟩
  | .mak _, _, ⟨a, t, e, h, h1⟩ => ⟨a, t, e, s _ _ h, s _ _ h1⟩
  | .sgl _, _, ⟨a, e, h⟩ => ⟨a, e, s _ _ h⟩
def Kids (H : Hp) : List C9 → List V → Prop
  | [], [] => True
  | c :: cs, v :: vs => IsC H c v ∧ Kids H cs vs
  | _, _ => False
theorem Kids.mono {H H' : Hp} (s : Tu H H') : ∀ {cs : List C9} {vs : List V}, Kids H cs vs → Kids H' cs vs
  | [], [], _ => trivial
  | _ :: _, _ :: _, h => ⟨h.1.mono s, h.2.mono s⟩
theorem Kids.len {H : Hp} : ∀ {cs : List C9} {vs : List V}, Kids H cs vs → vs.length = cs.length
  | [], [], _ => rfl
  | _ :: _, _ :: _, h => by rw [List.length_cons, List.length_cons, Kids.len h.2]
theorem Kids.at {H : Hp} : ∀ {cs : List C9} {vs : List V} {i : Nat} {v : V}, Kids H cs vs → vs[i]? = some v → ∃ c, cs[i]? = some c ∧ IsC H c v
  | [], [], _, _, _, e => by simp at e
  | c :: _, _ :: _, 0, v, h, e => ⟨c, rfl, by simp at e; rw [← e]; exact h.1⟩
  | _ :: cs, _ :: vs, i + 1, v, h, e => by
    obtain ⟨c, a, b⟩ := Kids.at (i := i) (v := v) h.2 (by simpa using e)
    exact ⟨c, by simpa using a, b⟩
/-- the parts of a c by their sorts, and the cs among them -/
inductive Parts (H : Hp) : List Str → List V → List V → Prop where
  | nil : Parts H [] [] []
  | c {ss ps ks x} (r : Parts H ss ps ks) : Parts H ("c" :: ss) (x :: ps) (x :: ks)
  | cs {ss ps ks t xs} (h : H t = some (.tup xs)) (hl : xs.length ≤ 4) (r : Parts H ss ps ks) : Parts H ("cs" :: ss) (.ref t :: ps) (xs ++ ks)
  | other {s : Str} {ss ps ks x} (h1 : s ≠ "c") (h2 : s ≠ "cs") (r : Parts H ss ps ks) : Parts H (s :: ss) (x :: ps) ks
theorem Parts.mono {H H' : Hp} (s : Tu H H') {ss : List Str} {ps ks : List V} (h : Parts H ss ps ks) : Parts H' ss ps ks := by
  induction h with
  | nil => exact .nil
  | c _ ih => exact .c ih
  | cs h hl _ ih => exact .cs (s _ _ h) hl ih
  | other h1 h2 _ ih => exact .other h1 h2 ih
theorem Parts.len {H : Hp} {ss : List Str} {ps ks : List V} (h : Parts H ss ps ks) : ps.length = ss.length := by
  induction h with
  | nil => rfl
  | c _ ih => rw [List.length_cons, List.length_cons, ih]
  | cs _ _ _ ih => rw [List.length_cons, List.length_cons, ih]
  | other _ _ _ ih => rw [List.length_cons, List.length_cons, ih]
theorem IsC.view {H : Hp} : ∀ {c : C9} {v : V}, IsC H c v → ∃ a ps ks, v = .ref a ∧ H a = some (.tup (.str c.word :: ps)) ∧ Parts H c.sorts ps ks ∧ Kids H c.kids ks ∧ ks.length ≤ 4
  | .unit, _, ⟨a, e, h⟩ => ⟨a, [], [], e, h, .nil, trivial, by decide⟩
  | .loc, _, ⟨a, e, h⟩ => ⟨a, _, [], e, h, .other (by decide) (by decide) .nil, trivial, by decide⟩
  | .thn _ _, _, ⟨a, x, y, e, h, h1, h2⟩ => ⟨a, _, [x, y], e, h, .c (.c .nil), ⟨h1, h2, trivial⟩, by simp⟩
  | .dir _ _, _, ⟨a, t, x, e, h, h1, h2⟩ => ⟨a, _, [x], e, h, .other (by decide) (by decide) (.cs h1 (by simp) .nil), ⟨h2, trivial⟩, by simp⟩
  | .snd _ _, _, ⟨a, x, t, e, h, h1, h2⟩ => ⟨a, _, [x], e, h, .c (.other (by decide) (by decide) (.cs h1 (by simp) .nil)), ⟨h2, trivial⟩, by simp⟩
  | .mak _, _, ⟨a, t, e, h, h1⟩ => ⟨a, _, [], e, h, .other (by decide) (by decide) (.cs h1 (by decide) .nil), trivial, by decide⟩
  | .sgl _, _, ⟨a, e, h⟩ => ⟨a, _, [], e, h, .other (by decide) (by decide) .nil, trivial, by decide⟩
/-- a tuple that the module has written -/
def KTup (K : PySem.W.Frag) (a : Addr) (xs : List V) : Prop := ∃ (o : Obj) (its : Array Value) (n : Nat), K.lookup a = some o ∧ o.cls = .type "tuple" ∧ o.data = .seq its n ∧ its.size ≤ sizeLine ∧ Vals xs its.toList
/-- the table of the forms, at d -/
structure Forms (K : PySem.W.Frag) (w : World) (d : Addr) : Prop where
  dic : ∃ es n, KDict K w d es n
  row : ∀ c : C9, ∃ a, KTup K a (c.sorts.map V.str) ∧ PySem.W.nsIn K d c.word = some (some (.ref a))
theorem Forms.at {K : PySem.W.Frag} {w : World} {d : Addr} (F : Forms K w d) (c : C9) : ∃ a, KTup K a (c.sorts.map V.str) ∧ KDct K w d c.word (.ref a) := by
  obtain ⟨es, n, D⟩ := F.dic
  obtain ⟨a, h1, h2⟩ := F.row c
  exact ⟨a, h1, es, n, _, D.at_, D.lit, h2, rfl⟩
theorem sc_cs_in : FnScope ["c", "found", "sort", "part"] ["c"] (defScope s_cs_in) := ⟨rfl, rfl, rfl, by decide +kernel, rfl, by decide +kernel, by decide +kernel⟩
def spCsIn : Sp := fun vs H Q _ => ∃ (H0 : Hp) (c : C9) (v : V), vs = [v] ∧ Tu H0 H ∧ IsC H0 c v ∧ ∀ H' p ks, Same H H' → H p = none → H' p = some (.lst ks) → Kids H0 c.kids ks → ks.length ≤ 4 → Q (.ref p) H'
section
variable {P : Program} {w : World} {K : PySem.W.Frag} {mg : Str → Option Value} {base : Heap} {f : Addr} {fd : FuncData}
theorem fro {H1 H : Hp} {D : Addr} {o : HO} (hD : H1 D = none) (s : Same H1 H) : Same H1 (upd H D o) := fun b u e => by
  rw [upd_ne (ne_of_none e hD)]
  exact s _ _ e
theorem ok_cs_in {d : Addr} (F : Fun K "cs_in" "cs_in" s_cs_in f fd) (B : Blt mg) (hc : mg "CFORMS" = some (.ref d)) (hf : Forms K w d) : FnOk P w K mg base CX0 1 f fd ["c"] spCsIn := by
  refine F.ok sc_cs_in (fun vs H Q E h => ?_) (fun cdv A outer s H vs Q E hr h => ?_)
  · obtain ⟨H0, c, v, rfl, _⟩ := h
    rfl
  · obtain ⟨H0, c, v, rfl, tu, hC, q⟩ := h
    refine ⟨_, (pss_cons (ps_set (i := 1) sc_cs_in.nd rfl (.inl rfl) (pe_lst pa_nil))
      (pss_cons (ps_for PassesOwn.never rfl (RZ.pi_zipA rfl B.zip (pa_cons (pe_ix ix_kdict (pe_gr hc) (pe_ix ix_tup (pv 0) pe_int (fun _ _ => rfl)) (fun _ _ => rfl)) (pa_cons (pe_slice sl_tup (pv 0) (po_some pe_int) po_none) pa_nil))) (pg_tup rfl (pgs_cons (pg_name (i := 2) sc_cs_in.nd rfl (.inl rfl)) (pgs_cons (pg_name (i := 3) sc_cs_in.nd rfl (.inl rfl)) pgs_nil))) (pss_one (ps_if (pt_cmpR op_eq (pv 2) pe_str (nomark _)) (pss_one (ps_expr (pe_bm PySem.F.plainAttrs_list PySem.F.slot_list_append PySem.F.type_list_append mt_append (pv 1) (pa_cons (pv 3) pa_nil)))) (pss_one (ps_if (pt_cmpR op_eq (pv 2) pe_str (nomark _)) (pss_one (ps_expr (pe_bm PySem.F.plainAttrs_list PySem.F.slot_list_extend PySem.F.type_list_extend mt_extendT (pv 1) (pa_cons (pv 3) pa_nil)))) pss_nil)))))
      (pss_one (ps_ret (pv 1))))), ?_⟩
    obtain ⟨a, ps, ks, rfl, ha0, hP, hK, hk4⟩ := hC.view
    have ha := tu _ _ ha0
    obtain ⟨ft, hft, hkd⟩ := hf.at c
    refine ⟨Nat.zero_le _, fun p ht0 => ?_⟩
    have s0 : Same H (upd H p (.lst [])) := same_new ht0
    refine ⟨_, rfl, a, _, _, _, rfl, rfl, SqT.of (s0 _ _ ha), atI_nat (j := 0) rfl, d, c.word, .ref ft, rfl, rfl, hkd, _, rfl, 1, rfl, a, _, rfl, SqT.of (s0 _ _ ha), cutNot _ _, fun t ht => ?_⟩
    have s1 := s0.trans (same_new (o := .tup (cutV (V.str c.word :: ps) (some 1) none)) ht)
    rw [cut1] at s1 ⊢
    have hl := hP.len
    refine ⟨ft, t, c.sorts.map V.str, ps, rfl, .inr ⟨.inr hft, SqT.of upd_same, for_it (walk_zipT (xs := c.sorts.map V.str) (ys := ps) (n := ps.length) (by rw [List.length_map, hl, Nat.min_self])) (fun i σ H1 => ∃ u2 u3 fr ks', σ = [some (.ref a), some (.ref p), u2, u3] ∧ Same H H1 ∧ H1 t = some (.tup ps) ∧ H1 p = some (.lst fr) ∧ fr ++ ks' = ks ∧ Parts H0 (c.sorts.drop i) (ps.drop i) ks') ⟨_, _, [], ks, rfl, s1, upd_same, ?_, rfl, hP⟩ (fun i σ H1 _ h1 => ?_) (fun i x σ H1 H2 hi h1 y => ?_) (fun σ H1 h1 => ?_)⟩⟩
    · rw [upd_ne (ne_of_none (upd_same (H := H) (a := p) (o := .lst [])) ht)]
      exact upd_same
    · obtain ⟨_, _, fr, ks', _, h1, h2, _⟩ := h1
      exact ⟨.inr hft, SqT.of h2⟩
    · obtain ⟨u2, u3, fr, ks', rfl, s2, h2, h3, e2, hp⟩ := h1
      obtain ⟨T, u, v, rfl, hT, rfl, hu, hv⟩ := y
      have hu' : (c.sorts.map V.str)[i]? = some u := hu
      have hv' : ps[i]? = some v := hv
      have hdp : ps.drop i = v :: ps.drop (i + 1) := by
        rw [List.drop_eq_getElem_cons hi, (List.getElem?_eq_some_iff.mp hv').2]
      obtain ⟨so, hso, rfl⟩ : ∃ so, c.sorts[i]? = some so ∧ u = V.str so := by
        rw [List.getElem?_map] at hu'
        cases e : c.sorts[i]? with
        | none => rw [e] at hu'; cases hu'
        | some z => rw [e] at hu'; exact ⟨z, rfl, (Option.some.inj hu').symm⟩
      have hds : c.sorts.drop i = so :: c.sorts.drop (i + 1) := by
        rw [List.drop_eq_getElem_cons (by rw [← hl]; exact hi), (List.getElem?_eq_some_iff.mp hso).2]
      rw [hdp, hds] at hp
      refine ⟨T, _, rfl, SqT.of upd_same, rfl, _, _, rfl, _, _, rfl, rfl, ?_⟩
      have s3 := s2.trans (same_new (o := .tup [V.str so, v]) hT)
      have h2' : upd H1 T (.tup [V.str so, v]) t = some (.tup ps) := same_new hT _ _ h2
      have h3' : upd H1 T (.tup [V.str so, v]) p = some (.lst fr) := same_new hT _ _ h3
      have hlen : fr.length + ks'.length ≤ 4 := by rw [← List.length_append, e2]; exact hk4
      have hpD : ∀ {o : HO}, Same H (upd (upd H1 T (.tup [V.str so, v])) p o) := fun {o} => fro ht0 s3
      have htp : t ≠ p := fun e => by rw [e, h3] at h2; cases h2
      refine ⟨_, rfl, rfl, _, rfl, ?_⟩
      rw [dec_vs]
      cases hp with
      | c r =>
        refine iteT ⟨_, rfl, .inl ⟨rfl, _, SqL.of h3'⟩, _, rfl, p, _, _, rfl, rfl, h3', Nat.lt_of_le_of_lt (Nat.le_trans (Nat.le_add_right _ _) hlen) (by decide), ?_⟩
        exact ⟨_, _, _, _, rfl, hpD, by rw [upd_ne htp]; exact h2', upd_same, by rw [List.append_assoc]; exact e2, r⟩
      | cs hx hxl r =>
        rename_i ks0 t0 xs0
        have hz : fr.length + xs0.length ≤ 4 := by
          rw [List.length_append] at hlen
          omega
        refine iteF ⟨_, rfl, rfl, _, rfl, ?_⟩
        rw [dec_vs]
        refine iteT ⟨_, rfl, .inl ⟨rfl, _, SqL.of h3'⟩, _, rfl, p, t0, _, _, rfl, rfl, h3', s3 _ _ (tu _ _ hx), Nat.le_trans hz (by decide), ?_⟩
        exact ⟨_, _, _, _, rfl, hpD, by rw [upd_ne htp]; exact h2', upd_same, by rw [List.append_assoc]; exact e2, r⟩
      | other n1 n2 r =>
        rw [decide_eq_false n1]
        refine iteF ⟨_, rfl, rfl, _, rfl, ?_⟩
        rw [dec_vs, decide_eq_false n2]
        refine iteF ?_
        exact ⟨_, _, _, _, rfl, s3, h2', h3', e2, r⟩
    · obtain ⟨u2, u3, fr, ks', rfl, s2, h2, h3, e2, hp⟩ := h1
      rw [List.drop_length, hl, List.drop_length] at hp
      cases hp
      rw [List.append_nil] at e2
      subst e2
      exact ⟨_, rfl, q _ _ _ s2 (ht0) h3 hK hk4⟩
end
end K9
end
section
set_option Elab.async false
set_option linter.all false
set_option maxRecDepth 100000
set_option maxHeartbeats 4000000
namespace K9
open PySem PySem.Spec PyProof.Rows L2
structure Tab9 where
  name : Str
  told : Bool
  rows : List (Str × Nat)
  begin : Nat
structure Core9 where
  tabs : List Tab9
  bods : List (Nat × C9)
  sgls : List (Nat × Str)
  main : Nat
/-- the i-th of vs is the i-th of xs -/
def At {α : Type} (R : Hp → α → V → Prop) (H : Hp) (xs : List α) (vs : List V) : Prop := vs.length = xs.length ∧ ∀ (i : Nat) (v : V), vs[i]? = some v → ∃ x : α, xs[i]? = some x ∧ R H x v
theorem At.get {α : Type} {R : Hp → α → V → Prop} {H : Hp} {xs : List α} {vs : List V} (h : At R H xs vs) {i : Nat} {x : α} (e : xs[i]? = some x) : ∃ v, vs[i]? = some v ∧ R H x v := by
  have hi : i < vs.length := by rw [h.1]; exact (List.getElem?_eq_some_iff.mp e).1
  obtain ⟨y, e2, r⟩ := h.2 i vs[i] (List.getElem?_eq_getElem hi)
  rw [e] at e2
  cases e2
  exact ⟨_, List.getElem?_eq_getElem hi, r⟩
theorem At.mono {α : Type} {R : Hp → α → V → Prop} {H H' : Hp} {xs : List α} {vs : List V} (h : At R H xs vs) (m : ∀ x v, R H x v → R H' x v) : At R H' xs vs :=
  ⟨h.1, fun i v e => let ⟨x, e2, r⟩ := h.2 i v e; ⟨x, e2, m _ _ r⟩⟩
def IsRow (H : Hp) (r : Str × Nat) (v : V) : Prop := ∃ a, v = .ref a ∧ H a = some (.tup [.str r.1, .int r.2])
def IsSgl (H : Hp) (r : Nat × Str) (v : V) : Prop := ∃ a, v = .ref a ∧ H a = some (.tup [.int r.1, .str r.2])
def IsBod (H : Hp) (b : Nat × C9) (v : V) : Prop := ∃ a x, v = .ref a ∧ H a = some (.tup [.int b.1, .int 0, x]) ∧ IsC H b.2 x
def IsTold (H : Hp) (b : Bool) (y : V) : Prop := (b = false ∧ y = .non) ∨ (b = true ∧ ∃ e, y = .ref e ∧ H e = some (.tup []))
def IsTab (H : Hp) (t : Tab9) (v : V) : Prop := ∃ a y e1 e2 r rs, v = .ref a ∧ H a = some (.tup [.str t.name, y, .ref e1, .ref e2, .ref r, .int t.begin]) ∧ IsTold H t.told y ∧ H e1 = some (.tup []) ∧ H e2 = some (.tup []) ∧ H r = some (.tup rs) ∧ At IsRow H t.rows rs
def IsCore (H : Hp) (c : Core9) (v : V) : Prop := ∃ a ta ba sa ts bs ss, v = .ref a ∧ H a = some (.tup [.ref ta, .ref ba, .ref sa, .int c.main]) ∧ H ta = some (.tup ts) ∧ At IsTab H c.tabs ts ∧ H ba = some (.tup bs) ∧ At IsBod H c.bods bs ∧ H sa = some (.tup ss) ∧ At IsSgl H c.sgls ss
theorem IsRow.mono {H H' : Hp} (s : Tu H H') {r : Str × Nat} {v : V} (h : IsRow H r v) : IsRow H' r v := let ⟨a, e, h⟩ := h; ⟨a, e, s _ _ h⟩
theorem IsSgl.mono {H H' : Hp} (s : Tu H H') {r : Nat × Str} {v : V} (h : IsSgl H r v) : IsSgl H' r v := let ⟨a, e, h⟩ := h; ⟨a, e, s _ _ h⟩
theorem IsBod.mono {H H' : Hp} (s : Tu H H') {r : Nat × C9} {v : V} (h : IsBod H r v) : IsBod H' r v := let ⟨a, x, e, h, c⟩ := h; ⟨a, x, e, s _ _ h, c.mono s⟩
theorem IsTold.mono {H H' : Hp} (s : Tu H H') {b : Bool} {v : V} (h : IsTold H b v) : IsTold H' b v := h.elim .inl fun ⟨e, a, b, c⟩ => .inr ⟨e, a, b, s _ _ c⟩
theorem IsTab.mono {H H' : Hp} (s : Tu H H') {r : Tab9} {v : V} (h : IsTab H r v) : IsTab H' r v :=
  let ⟨a, y, e1, e2, r, rs, e, h, c, h1, h2, h3, h4⟩ := h
  ⟨a, y, e1, e2, r, rs, e, s _ _ h, c.mono s, s _ _ h1, s _ _ h2, s _ _ h3, h4.mono fun _ _ => IsRow.mono s⟩
theorem IsCore.mono {H H' : Hp} (s : Tu H H') {c : Core9} {v : V} (h : IsCore H c v) : IsCore H' c v :=
  let ⟨a, ta, ba, sa, ts, bs, ss, e, h, h1, h2, h3, h4, h5, h6⟩ := h
  ⟨a, ta, ba, sa, ts, bs, ss, e, s _ _ h, s _ _ h1, h2.mono fun _ _ => IsTab.mono s, s _ _ h3, h4.mono fun _ _ => IsBod.mono s, s _ _ h5, h6.mono fun _ _ => IsSgl.mono s⟩
/-- the number of a body of p parameters -/
def HasP (c : Core9) (p n : Nat) : Prop := ∃ b, c.bods[n]? = some b ∧ b.1 = p
def OkC (c : Core9) (p : Nat) : C9 → Prop
  | .unit => True
  | .loc => p = 1
  | .thn a b => OkC c p a ∧ OkC c p b
  | .dir n a => HasP c 1 n ∧ OkC c p a
  | .snd a s => OkLabel s ∧ OkC c p a
  | .mak n => n < c.tabs.length
  | .sgl n => n < c.sgls.length
def C9.deep : C9 → Nat
  | .unit => 1 | .loc => 1 | .thn a b => 1 + max a.deep b.deep | .dir _ a => 1 + a.deep | .snd a _ => 1 + a.deep | .mak _ => 1 | .sgl _ => 1
/-- in ascending order -/
def Asc (zs : List Str) : Prop := ∀ (i : Nat) (x y : Str), zs[i]? = some x → zs[i + 1]? = some y → x.cps.toList < y.cps.toList
structure TabOk (c : Core9) (t : Tab9) : Prop where
  name : OkLabel t.name
  few : t.rows.length ≤ 60
  row : ∀ r ∈ t.rows, OkLabel r.1 ∧ HasP c 1 r.2
  asc : Asc (t.rows.map (·.1))
  nd : (t.rows.map (·.1)).Nodup
  begin : HasP c 1 t.begin
structure WF (c : Core9) : Prop where
  nt : c.tabs.length ≤ 60
  nb : c.bods.length ≤ 600
  ns : c.sgls.length ≤ 60
  bod : ∀ b ∈ c.bods, b.1 ≤ 1 ∧ OkC c b.1 b.2 ∧ b.2.deep ≤ 200 ∧ b.2.size ≤ 10000
  main : HasP c 0 c.main
  tab : ∀ t ∈ c.tabs, TabOk c t
  sgl : ∀ s ∈ c.sgls, OkLabel s.2 ∧ HasP c 0 s.1
/-- a CoreForm at m, of the thing v, with the params ps -/
def CfAt (H : Hp) (C m : Addr) (v : V) (ps : List Nat) : Prop := ∃ dx lp, H m = some (.ins C dx [("thing", v), ("params", .ref lp)]) ∧ H lp = some (.lst (ps.map fun n : Nat => V.int (n : Int)))
theorem CfAt.mono {H H' : Hp} (s : Same H H') {C m : Addr} {v : V} {ps : List Nat} (h : CfAt H C m v ps) : CfAt H' C m v ps := let ⟨dx, lp, h1, h2⟩ := h; ⟨dx, lp, s _ _ h1, s _ _ h2⟩
theorem sc_CoreForm_init : FnScope ["self", "thing"] ["self", "thing"] (defScope s_CoreForm_init) := ⟨rfl, rfl, rfl, by decide +kernel, rfl, by decide +kernel, by decide +kernel⟩
theorem sc_CoreForm_is_frame : FnScope ["self", "body"] ["self", "body"] (defScope s_CoreForm_is_frame) := ⟨rfl, rfl, rfl, by decide +kernel, rfl, by decide +kernel, by decide +kernel⟩
theorem sc_CoreForm_has_this : FnScope ["self", "number"] ["self", "number"] (defScope s_CoreForm_has_this) := ⟨rfl, rfl, rfl, by decide +kernel, rfl, by decide +kernel, by decide +kernel⟩
theorem sc_CoreForm_is_single : FnScope ["self", "single"] ["self", "single"] (defScope s_CoreForm_is_single) := ⟨rfl, rfl, rfl, by decide +kernel, rfl, by decide +kernel, by decide +kernel⟩
theorem sc_CoreForm_is_table : FnScope ["self", "table", "name", "told", "further", "slots", "rows", "begin", "slot", "one"] ["self", "table"] (defScope s_CoreForm_is_table) := ⟨rfl, rfl, rfl, by decide +kernel, rfl, by decide +kernel, by decide +kernel⟩
theorem sc_CoreForm_are_rows : FnScope ["self", "rows", "row"] ["self", "rows"] (defScope s_CoreForm_are_rows) := ⟨rfl, rfl, rfl, by decide +kernel, rfl, by decide +kernel, by decide +kernel⟩
/-- what of the text the class has -/
structure ClsF (K : PySem.W.Frag) (C : Addr) (fs : List Str) : Prop where
  cls : Cls K C
  no : ∀ f ∈ fs, NoAttr K C f
def cfF : List Str := ["thing", "params"]
structure Ds2 (P : Program) (w : World) (K : PySem.W.Frag) (mg : Str → Option Value) (base : Heap) (C : Addr) : Prop where
  is_row : Dn P w K mg base CX0 "is_row" 1 2 (spIsRow K)
  is_number : Dn P w K mg base CX0 "is_number" 2 2 spIsNum
  is_label : Dn P w K mg base CX0 "is_label" 2 1 spIsLabel
  are_labels : Dn P w K mg base CX0 "are_labels" 3 1 (spLabels K)
  are_ascending : Dn P w K mg base CX0 "are_ascending" 1 1 (spAsc K)
  CoreForm : ClsF K C cfF
  cCoreForm : Cls K C
theorem Ds2.thing {P : Program} {w : World} {K : PySem.W.Frag} {mg : Str → Option Value} {base : Heap} {C : Addr} (D : Ds2 P w K mg base C) : NoAttr K C "thing" := D.CoreForm.no _ (by decide)
theorem Ds2.params {P : Program} {w : World} {K : PySem.W.Frag} {mg : Str → Option Value} {base : Heap} {C : Addr} (D : Ds2 P w K mg base C) : NoAttr K C "params" := D.CoreForm.no _ (by decide)
def spCfInit (C : Addr) : Sp := fun vs H Q _ => ∃ m dx v, vs = [.ref m, v] ∧ H m = some (.ins C dx []) ∧ ∀ lp, H lp = none → Q .non (upd (upd (upd H m (.ins C dx [("thing", v)])) lp (.lst [])) m (.ins C dx [("thing", v), ("params", .ref lp)]))
def spHasThis (C : Addr) : Sp := fun vs H Q _ => ∃ (m : Addr) (n k : Nat) (v : V) (ps : List Nat), vs = [.ref m, .int n] ∧ CfAt H C m v ps ∧ ps[n]? = some k ∧ Q (.bl (decide (0 < k))) H
def spIsFrame : Sp := fun vs H Q _ => ∃ m b v, vs = [.ref m, v] ∧ IsBod H b v ∧ b.1 ≤ 1 ∧ Q (.bl true) H
def spIsSingle (C : Addr) : Sp := fun vs H Q _ => ∃ m b v x ps, vs = [.ref m, v] ∧ CfAt H C m x ps ∧ IsSgl H b v ∧ OkLabel b.2 ∧ ps[b.1]? = some 0 ∧ ∀ H', Same H H' → Q (.bl true) H'
def spAreRows (C : Addr) : Sp := fun vs H Q _ => ∃ (m r : Addr) (rs : List V) (rows : List (Str × Nat)) (x : V) (ps : List Nat), vs = [.ref m, .ref r] ∧ CfAt H C m x ps ∧ H r = some (.tup rs) ∧ At IsRow H rows rs ∧ rows.length ≤ 60 ∧ (∀ z ∈ rows, OkLabel z.1 ∧ ps[z.2]? = some 1) ∧ Asc (rows.map (·.1)) ∧ ∀ H', Same H H' → Q (.bl true) H'
def spIsTable (C : Addr) : Sp := fun vs H Q _ => ∃ (m : Addr) (t : Tab9) (v x : V) (ps : List Nat), vs = [.ref m, v] ∧ CfAt H C m x ps ∧ IsTab H t v ∧ OkLabel t.name ∧ t.rows.length ≤ 60 ∧ (∀ z ∈ t.rows, OkLabel z.1 ∧ ps[z.2]? = some 1) ∧ Asc (t.rows.map (·.1)) ∧ ps[t.begin]? = some 1 ∧ ∀ H', Same H H' → Q (.bl true) H'
section
variable {P : Program} {w : World} {K : PySem.W.Frag} {mg : Str → Option Value} {base : Heap} {f C : Addr} {fd : FuncData}
theorem ok_cf_init (F : Fun K "__init__" "CoreForm.__init__" s_CoreForm_init f fd) (D : Ds2 P w K mg base C) : FnOk P w K mg base CX0 1 f fd ["self", "thing"] (spCfInit C) := by
  refine F.ok sc_CoreForm_init (fun vs H Q E h => ?_) (fun cdv A outer s H vs Q E hr h => ?_)
  · obtain ⟨m, dx, v, rfl, _⟩ := h
    rfl
  · obtain ⟨m, dx, v, rfl, hm, q⟩ := h
    refine ⟨_, (pss_cons (ps_fld (pv 0) (pv 1) rfl)
      (pss_one (ps_fld (pv 0) (pe_lst pa_nil) rfl))), ?_⟩
    refine ⟨_, rfl, _, rfl, _, C, dx, _, rfl, hm, D.cCoreForm, D.thing, by decide, ?_⟩
    refine ⟨Nat.zero_le _, fun lp hlp => ⟨_, rfl, m, C, dx, [("thing", v)], rfl, ?_, D.cCoreForm, D.params, ?_, ?_⟩⟩
    · rw [upd_ne (ne_of_none upd_same hlp)]
      exact upd_same
    · show 1 < 1000
      decide
    · refine q lp ?_
      by_cases e : lp = m
      · subst e
        rw [upd_same] at hlp
        cases hlp
      · rw [upd_ne e] at hlp
        exact hlp
theorem ok_has_this (F : Fun K "has_this" "CoreForm.has_this" s_CoreForm_has_this f fd) (B : Blt mg) (D : Ds2 P w K mg base C) : FnOk P w K mg base CX0 3 f fd ["self", "number"] (spHasThis C) := by
  refine F.ok sc_CoreForm_has_this (fun vs H Q E h => ?_) (fun cdv A outer s H vs Q E hr h => ?_)
  · obtain ⟨m, n, k, v, ps, rfl, _⟩ := h
    rfl
  · obtain ⟨m, n, k, v, ps, rfl, ⟨dx, lp, hm, hlp⟩, hk, q⟩ := h
    refine ⟨_, (pss_one (ps_ret (pe_and (pe_dn D.is_number (hr.mono (by decide)) pass0 (pa_cons (pv 1) (pa_cons (pe_callB call_len_seq (by rfl) B.len PySem.boot_len (pa_cons (pe_fld (pv 0) rfl) pa_nil)) pa_nil))) (pe_one (pe_cmpR op_gt (pe_ix ix_list (pe_fld (pv 0) rfl) (pv 1) (fun _ _ => rfl)) pe_int (nomark _)))))), ?_⟩
    have hn : n < ps.length := (List.getElem?_eq_some_iff.mp hk).1
    have hl : (ps.map fun n : Nat => V.int (n : Int)).length = ps.length := List.length_map _
    have hat : (ps.map fun n : Nat => V.int (n : Int))[n]? = some (V.int (k : Int)) := by rw [List.getElem?_map, hk]; rfl
    refine ⟨_, rfl, _, rfl, _, C, dx, _, _, rfl, hm, D.cCoreForm, D.params, rfl, lp, _, rfl, .inl (SqL.of hlp), _, _, rfl, _, rfl, ?_⟩
    refine ift ?_ ⟨_, rfl, _, C, dx, _, _, rfl, hm, D.cCoreForm, D.params, rfl, _, rfl, lp, _, _, _, rfl, rfl, SqL.of hlp, atI_nat hat, _, _, rfl, rfl, ?_⟩
    · rw [hl, decide_eq_true (by omega), decide_eq_true (by omega)]
      rfl
    · refine Eq.mp (congrArg (fun b => Q (V.bl b) H) ?_) q
      exact decide_eq_decide.mpr (by omega)
theorem ok_is_frame (F : Fun K "is_frame" "CoreForm.is_frame" s_CoreForm_is_frame f fd) (B : Blt mg) (G : Glo mg) (D : Ds2 P w K mg base C) : FnOk P w K mg base CX0 3 f fd ["self", "body"] spIsFrame := by
  refine F.ok sc_CoreForm_is_frame (fun vs H Q E h => ?_) (fun cdv A outer s H vs Q E hr h => ?_)
  · obtain ⟨m, b, v, rfl, _⟩ := h
    rfl
  · obtain ⟨m, b, v, rfl, ⟨a, x, rfl, ha, _⟩, hb, q⟩ := h
    refine ⟨_, (pss_cons (ps_if (PW.pt (pw_or (pt_not (pt_val (pe_dn D.is_row (hr.mono (by decide)) pass0 (pa_cons (pv 1) (pa_cons pe_int pa_nil))))) (pw_or1 (pt_not (pt_val (pe_dn D.is_number (hr.mono (by decide)) pass0 (pa_cons (pe_ix ix_tup (pv 1) pe_int (fun _ _ => rfl)) (pa_cons (pe_op op_add (pe_gi G.LOCALS_MOST) pe_int) pa_nil)))))))) (pss_one (ps_ret pe_bl)) pss_nil)
      (pss_one (ps_ret (pe_and (pe_dn D.is_number (hr.mono (by decide)) pass0 (pa_cons (pe_ix ix_tup (pv 1) pe_int (fun _ _ => rfl)) (pa_cons (pe_op op_add (pe_gi G.LOCALS_MOST) pe_int) pa_nil))) (pe_one (pe_cmpR op_le (pe_op op_add (pe_ix ix_tup (pv 1) pe_int (fun _ _ => rfl)) (pe_ix ix_tup (pv 1) pe_int (fun _ _ => rfl))) (pe_gi G.LOCALS_MOST) (nomark _))))))), ?_⟩
    have hS : SqT K H a [.int b.1, .int 0, x] := SqT.of ha
    refine ⟨_, rfl, a, _, _, rfl, hS, _, rfl, iteF ?_⟩
    refine ⟨_, rfl, a, _, _, _, rfl, rfl, hS, rfl, _, _, rfl, rfl, _, _, rfl, _, rfl, iff_ ?_ ?_⟩
    · rw [decide_eq_true (by omega), decide_eq_true (by omega)]
      rfl
    refine ⟨_, rfl, a, _, _, _, rfl, rfl, hS, rfl, _, _, rfl, rfl, _, _, rfl, _, rfl, iteT ?_⟩
    refine ⟨_, rfl, a, _, _, _, rfl, rfl, hS, rfl, _, rfl, a, _, _, _, rfl, rfl, hS, rfl, _, _, rfl, rfl, _, _, rfl, rfl, ?_⟩
    refine Eq.mp (congrArg (fun b => Q (V.bl b) H) ?_) q
    exact (decide_eq_true (by omega)).symm
theorem ok_is_single (F : Fun K "is_single" "CoreForm.is_single" s_CoreForm_is_single f fd) (B : Blt mg) (D : Ds2 P w K mg base C) : FnOk P w K mg base CX0 3 f fd ["self", "single"] (spIsSingle C) := by
  refine F.ok sc_CoreForm_is_single (fun vs H Q E h => ?_) (fun cdv A outer s H vs Q E hr h => ?_)
  · obtain ⟨m, b, v, x, ps, rfl, _⟩ := h
    rfl
  · obtain ⟨m, b, v, x, ps, rfl, ⟨dx, lp, hm, hlp⟩, ⟨a, rfl, ha⟩, ok, hk, q⟩ := h
    refine ⟨_, (pss_cons (ps_if (PW.pt (pw_or (pt_not (pt_val (pe_dn D.is_row (hr.mono (by decide)) pass0 (pa_cons (pv 1) (pa_cons pe_int pa_nil))))) (pw_or1 (pt_not (pt_val (pe_dn D.is_label (hr.mono (by decide)) pass0 (pa_cons (pe_ix ix_tup (pv 1) pe_int (fun _ _ => rfl)) pa_nil))))))) (pss_one (ps_ret pe_bl)) pss_nil)
      (pss_one (ps_ret (pe_and (pe_dn D.is_number (hr.mono (by decide)) pass0 (pa_cons (pe_ix ix_tup (pv 1) pe_int (fun _ _ => rfl)) (pa_cons (pe_callB call_len_seq (by rfl) B.len PySem.boot_len (pa_cons (pe_fld (pv 0) rfl) pa_nil)) pa_nil))) (pe_one (pe_cmpR op_eq (pe_ix ix_list (pe_fld (pv 0) rfl) (pe_ix ix_tup (pv 1) pe_int (fun _ _ => rfl)) (fun _ _ => rfl)) pe_int (nomark _))))))), ?_⟩
    have hS : SqT K H a [.int b.1, .str b.2] := SqT.of ha
    refine ⟨_, rfl, a, _, _, rfl, hS, _, rfl, iteF ?_⟩
    refine ⟨_, rfl, a, _, _, _, rfl, rfl, hS, rfl, _, rfl, ok.1, ok.2, fun H1 s1 => ⟨_, rfl, iteF ?_⟩⟩
    have hl : (ps.map fun n : Nat => V.int (n : Int)).length = ps.length := List.length_map _
    have hat : (ps.map fun n : Nat => V.int (n : Int))[b.1]? = some (V.int ((0 : Nat) : Int)) := by rw [List.getElem?_map, hk]; rfl
    have hS1 : SqT K H1 a [.int b.1, .str b.2] := SqT.of (s1 _ _ ha)
    have hn : b.1 < ps.length := (List.getElem?_eq_some_iff.mp hk).1
    refine ⟨_, rfl, a, _, _, _, rfl, rfl, hS1, rfl, _, rfl, _, C, dx, _, _, rfl, s1 _ _ hm, D.cCoreForm, D.params, rfl, lp, _, rfl, .inl (SqL.of (s1 _ _ hlp)), _, _, rfl, _, rfl, ?_⟩
    refine ift ?_ ⟨_, rfl, _, C, dx, _, _, rfl, s1 _ _ hm, D.cCoreForm, D.params, rfl, _, rfl, a, _, _, _, rfl, rfl, hS1, rfl, lp, _, _, _, rfl, rfl, SqL.of (s1 _ _ hlp), atI_nat hat, rfl, q _ s1⟩
    · rw [hl, decide_eq_true (by omega), decide_eq_true (by omega)]
      rfl
theorem ok_are_rows (F : Fun K "are_rows" "CoreForm.are_rows" s_CoreForm_are_rows f fd) (B : Blt mg) (D : Ds2 P w K mg base C) (M : Mn P w K mg base CX0 C "has_this" 3 2 (spHasThis C)) : FnOk P w K mg base CX0 4 f fd ["self", "rows"] (spAreRows C) := by
  refine F.ok sc_CoreForm_are_rows (fun vs H Q E h => ?_) (fun cdv A outer s H vs Q E hr h => ?_)
  · obtain ⟨m, r, rs, rows, x, ps, rfl, _⟩ := h
    rfl
  · obtain ⟨m, r, rs, rows, x, ps, rfl, hC, hR, hA, hz, ok, asc, q⟩ := h
    refine ⟨_, (pss_cons (ps_if (pt_not (pt_val (pe_callB call_isi (by rfl) B.isinstance (by decide +kernel) (pa_cons (pv 1) (pa_cons (pe_bltn (v := .ty "tuple") (u := .type "tuple") rfl B.tuple (by decide +kernel) rfl) pa_nil))))) (pss_one (ps_ret pe_bl)) pss_nil)
      (pss_cons (ps_for PassesOwn.never rfl (pi_tup (pv 1)) (pg_name (i := 2) sc_CoreForm_are_rows.nd rfl (.inl rfl)) (pss_one (ps_if (PW.pt (pw_or (pt_not (pt_val (pe_dn D.is_row (hr.mono (by decide)) pass0 (pa_cons (pv 2) (pa_cons pe_int pa_nil))))) (pw_or (pt_not (pt_val (pe_dn D.is_label (hr.mono (by decide)) pass0 (pa_cons (pe_ix ix_tup (pv 2) pe_int (fun _ _ => rfl)) pa_nil)))) (pw_or1 (pt_not (pt_val (pe_mn D.cCoreForm M (hr.mono (by decide)) pass0 (pv 0) (pa_cons (pe_ix ix_tup (pv 2) pe_int (fun _ _ => rfl)) pa_nil)))))))) (pss_one (ps_ret pe_bl)) pss_nil)))
      (pss_one (ps_ret (pe_dn D.are_ascending (hr.mono (by decide)) pass0 (pa_cons (pe_lc (own := [("row", 2)]) (g := (gName 2)) (tt := tYes) rfl sc_CoreForm_are_rows.nd (pi_tup (pv 1)) (blkOk_by (N := ["self", "rows", "row"]) (sc := defScope s_CoreForm_are_rows) (by decide +kernel)) (fun _ _ _ _ _ => (pg_name (i := 2) sc_CoreForm_are_rows.nd rfl (.inl rfl))) (fun _ _ _ _ _ => pts_nil) (fun _ _ _ _ _ => (pe_ix (ix_tupK K) (pv 2) pe_int (fun _ _ => rfl)))) pa_nil)))))), ?_⟩
    have hS : SqT K H r rs := SqT.of hR
    refine ⟨_, rfl, _, _, _, _, true, rfl, .ty _, tyT hS, kit_ty (by decide +kernel), _, rfl, iteF ?_⟩
    refine ⟨_, rfl, r, rfl, ⟨_, hS⟩, for_it (walk_tup (xs := rs)) (fun i σ H1 => (∃ u, σ = [some (.ref m), some (.ref r), u]) ∧ Same H H1) ⟨⟨_, rfl⟩, Same.refl _⟩ (fun i σ H1 _ h1 => h1.2.seqT hS) (fun i y σ H1 H2 hi h1 hy => ?_) (fun σ H1 h1 => ?_)⟩
    · obtain ⟨⟨u, rfl⟩, s1⟩ := h1
      obtain ⟨rfl, hy⟩ := hy
      obtain ⟨z, hz1, b, rfl, hb⟩ := hA.2 i y hy
      have hm := List.mem_of_getElem? hz1
      have hS1 : SqT K H2 b [.str z.1, .int z.2] := SqT.of (s1 _ _ hb)
      refine ⟨_, rfl, b, _, _, rfl, hS1, _, rfl, iteF ?_⟩
      refine ⟨_, rfl, b, _, _, _, rfl, rfl, hS1, rfl, _, rfl, (ok z hm).1.1, (ok z hm).1.2, fun H3 s2 => ⟨_, rfl, iteF ?_⟩⟩
      obtain ⟨dx, lp, hm1, hm2⟩ := (hC.mono s1).mono s2
      refine ⟨_, rfl, m, dx, _, rfl, hm1, rfl, _, rfl, b, _, _, _, rfl, rfl, s2.seqT hS1, rfl, m, z.2, 1, x, ps, rfl, ⟨dx, lp, hm1, hm2⟩, (ok z hm).2, _, rfl, iteF ?_⟩
      exact ⟨⟨_, rfl⟩, s1.trans s2⟩
    · obtain ⟨⟨u, rfl⟩, s1⟩ := h1
      have hl : rs.length = rows.length := hA.1
      refine ⟨_, rfl, r, rfl, ⟨_, s1.seqT hS⟩, fun Dn hD => lc_map (walk_tup (xs := rs)) (fun i => (fun z : Str × Nat => V.str z.1) (rows[i]?.getD ("", 0))) (by rw [hl]; exact Nat.le_trans hz (by decide)) hD (fun H1 s2 => (s1.trans s2).seqT hS) (fun i H x H' _ y => yat_same i H x H' y) (fun i y H2 H3 Kt hi s2 s3 hy k => ?_) (fun H2 s2 h2 => ?_)⟩
      · obtain ⟨rfl, hy⟩ := hy
        obtain ⟨z, hz1, b, rfl, hb⟩ := hA.2 i y hy
        have e1 : rows[i]?.getD ("", 0) = z := by rw [hz1]; rfl
        refine ⟨rfl, _, rfl, b, _, _, _, rfl, rfl, SqT.of ((s1.trans s3) _ _ hb), rfl, ?_⟩
        have k1 := k H3 (Same.refl _)
        rw [e1] at k1
        exact k1
      · refine ⟨Dn, rows.map Prod.fst, rfl, ?_, ?_, asc, fun H3 s3 => q H3 ((s1.trans s2).trans s3)⟩
        · rw [range_map_getD rows (fun z : Str × Nat => V.str z.1) ("", 0) hl] at h2
          rw [List.map_map]
          exact SqL.of h2
        · rw [List.length_map]
          omega
theorem ok_is_table (F : Fun K "is_table" "CoreForm.is_table" s_CoreForm_is_table f fd) (B : Blt mg) (D : Ds2 P w K mg base C) (M : Mn P w K mg base CX0 C "has_this" 3 2 (spHasThis C)) (M2 : Mn P w K mg base CX0 C "are_rows" 4 2 (spAreRows C)) : FnOk P w K mg base CX0 5 f fd ["self", "table"] (spIsTable C) := by
  refine F.ok sc_CoreForm_is_table (fun vs H Q E h => ?_) (fun cdv A outer s H vs Q E hr h => ?_)
  · obtain ⟨m, t, v, x, ps, rfl, _⟩ := h
    rfl
  · obtain ⟨m, t, v, x, ps, rfl, hC, ⟨a, y, e1, e2, r, rs, rfl, ha, hT, he1, he2, hR, hA⟩, hn, hz, hok, asc, hb, q⟩ := h
    refine ⟨_, (pss_cons (ps_if (pt_not (pt_val (pe_dn D.is_row (hr.mono (by decide)) pass0 (pa_cons (pv 1) (pa_cons pe_int pa_nil))))) (pss_one (ps_ret pe_bl)) pss_nil)
      (pss_cons (ps_asg (pv 1) (pg_tup rfl (pgs_cons (pg_name (i := 2) sc_CoreForm_is_table.nd rfl (.inl rfl)) (pgs_cons (pg_name (i := 3) sc_CoreForm_is_table.nd rfl (.inl rfl)) (pgs_cons (pg_name (i := 4) sc_CoreForm_is_table.nd rfl (.inl rfl)) (pgs_cons (pg_name (i := 5) sc_CoreForm_is_table.nd rfl (.inr rfl)) (pgs_cons (pg_name (i := 6) sc_CoreForm_is_table.nd rfl (.inl rfl)) (pgs_cons (pg_name (i := 7) sc_CoreForm_is_table.nd rfl (.inl rfl)) pgs_nil))))))))
      (pss_cons (ps_if (PW.pt (pw_or (pt_not (pt_val (pe_dn D.is_label (hr.mono (by decide)) pass0 (pa_cons (pv 2) pa_nil)))) (pw_or (pt_not (pt_val (pe_dn D.are_labels (hr.mono (by decide)) pass0 (pa_cons (pv 4) pa_nil)))) (pw_or1 (pt_not (pt_val (pe_dn D.are_labels (hr.mono (by decide)) pass0 (pa_cons (pv 5) pa_nil)))))))) (pss_one (ps_ret pe_bl)) pss_nil)
      (pss_cons (ps_if (pt_cmpR op_ne (pe_callB call_lenSB (by rfl) B.len PySem.boot_len (pa_cons (PpSet.pe_sc (own := [("slot", 8)]) (g := (gName 8)) (tt := tYes) rfl sc_CoreForm_is_table.nd (pi_tup (pv 5)) (blkOk_by (N := ["self", "table", "name", "told", "further", "slots", "rows", "begin", "slot", "one"]) (sc := defScope s_CoreForm_is_table) (by decide +kernel)) (fun _ _ _ _ _ => (pg_name (i := 8) sc_CoreForm_is_table.nd rfl (.inl rfl))) (fun _ _ _ _ _ => pts_nil) (fun _ _ _ _ _ => (pv 8))) pa_nil)) (pe_callB call_len_seq (by rfl) B.len PySem.boot_len (pa_cons (pv 5) pa_nil)) (nomark _)) (pss_one (ps_ret pe_bl)) pss_nil)
      (pss_cons (ps_if (pt_cmpR op_notN (pv 3) pe_non (nomark _)) (pss_one (ps_if (PW.pt (pw_or (pt_not (pt_val (pe_callB call_isi (by rfl) B.isinstance (by decide +kernel) (pa_cons (pv 3) (pa_cons (pe_bltn (v := .ty "tuple") (u := .type "tuple") rfl B.tuple (by decide +kernel) rfl) pa_nil))))) (pw_or1 (pt_not (pt_val (pe_callB (cr_all rfl) (by rfl) B.all (by decide +kernel) (pa_cons (pe_lc (own := [("one", 9)]) (g := (gName 9)) (tt := tYes) rfl sc_CoreForm_is_table.nd (pi_tup (pv 3)) (blkOk_by (N := ["self", "table", "name", "told", "further", "slots", "rows", "begin", "slot", "one"]) (sc := defScope s_CoreForm_is_table) (by decide +kernel)) (fun _ _ _ _ _ => (pg_name (i := 9) sc_CoreForm_is_table.nd rfl (.inl rfl))) (fun _ _ _ _ _ => pts_nil) (fun _ _ _ _ _ => (pe_dn D.is_number (hr.mono (by decide)) pass0 (pa_cons (pv 9) (pa_cons (pe_callB (call_len_seqK K) (by rfl) B.len PySem.boot_len (pa_cons (pv 5) pa_nil)) pa_nil))))) pa_nil))))))) (pss_one (ps_ret pe_bl)) pss_nil)) pss_nil)
      (pss_one (ps_ret (pe_and (pe_mn D.cCoreForm M2 (hr.mono (by decide)) pass0 (pv 0) (pa_cons (pv 6) pa_nil)) (pe_one (pe_mn D.cCoreForm M (hr.mono (by decide)) pass0 (pv 0) (pa_cons (pv 7) pa_nil))))))))))), ?_⟩
    have hS : SqT K H a [.str t.name, y, .ref e1, .ref e2, .ref r, .int t.begin] := SqT.of ha
    refine ⟨_, rfl, a, _, _, rfl, hS, _, rfl, iteF ?_⟩
    refine ⟨_, rfl, a, _, rfl, hS, rfl, _, _, rfl, _, _, rfl, _, _, rfl, _, _, rfl, _, _, rfl, _, _, rfl, rfl, ?_⟩
    refine ⟨_, rfl, _, rfl, hn.1, hn.2, fun H1 s1 => ⟨_, rfl, iteF ?_⟩⟩
    refine ⟨_, rfl, e1, [], rfl, SqT.of (s1 _ _ he1), Nat.zero_le _, (fun z hz => by cases hz), fun H2 s2 => ⟨_, rfl, iteF ?_⟩⟩
    have s12 := s1.trans s2
    refine ⟨_, rfl, e2, [], rfl, SqT.of (s12 _ _ he2), Nat.zero_le _, (fun z hz => by cases hz), fun H3 s3 => ⟨_, rfl, iteF ?_⟩⟩
    have s13 := s12.trans s3
    refine ⟨_, rfl, e2, rfl, ⟨[], SqT.of (s13 _ _ he2)⟩, fun Dn hD => PpSet.sc_tup (xs := []) (fun i H => Same H3 H ∧ H Dn = some (PpSet.SetBO w Dn (fun _ => false) 0)) ⟨same_new hD, upd_same⟩ (fun i H _ h1 => SqT.of (h1.1 _ _ (s13 _ _ he2))) (fun i x H hi _ => by cases hi) (fun H4 h4 => ?_)⟩
    obtain ⟨s4, hD4⟩ := h4
    have s14 := s13.trans s4
    refine ⟨Dn, _, 0, rfl, hD4, _, rfl, e2, [], rfl, .inr (SqT.of (s14 _ _ he2)), rfl, _, rfl, iteF ?_⟩
    rcases hT with ⟨ht, rfl⟩ | ⟨ht, e, rfl, he⟩
    · refine ⟨_, rfl, rfl, _, rfl, iteF ?_⟩
      have S := s14
      obtain ⟨dx, lp, hm1, hm2⟩ := hC.mono S
      refine ⟨_, rfl, m, dx, _, rfl, hm1, rfl, _, rfl, m, r, rs, t.rows, x, ps, rfl, ⟨dx, lp, hm1, hm2⟩, S _ _ hR, hA.mono (fun _ _ => IsRow.mono (Tu.same S)), hz, hok, asc, fun H6 s6 => ?_⟩
      exact ⟨_, rfl, iteT ⟨_, rfl, m, dx, _, rfl, s6 _ _ hm1, rfl, _, rfl, m, t.begin, 1, x, ps, rfl, ⟨dx, lp, s6 _ _ hm1, s6 _ _ hm2⟩, hb, q _ (S.trans s6)⟩⟩
    · refine ⟨_, rfl, rfl, _, rfl, iteT ?_⟩
      have hSe : SqT K H4 e [] := SqT.of (s14 _ _ he)
      refine ⟨_, rfl, _, _, _, _, true, rfl, .ty _, tyT hSe, kit_ty (by decide +kernel), _, rfl, iteF ?_⟩
      refine ⟨_, rfl, e, rfl, ⟨_, hSe⟩, fun D5 hD5 => lc_map (walk_tup (xs := [])) (fun _ => V.bl true) (Nat.zero_le _) hD5 (fun H1 s1 => s1.seqT hSe) (fun i H x H' _ y => yat_same i H x H' y) (fun i x H1 H2 Kt hi => by cases hi) (fun H5 s5 h5 => ?_)⟩
      refine ⟨D5, [], rfl, SqL.of h5, _, rfl, iteF ?_⟩
      have S := s14.trans s5
      obtain ⟨dx, lp, hm1, hm2⟩ := hC.mono S
      refine ⟨_, rfl, m, dx, _, rfl, hm1, rfl, _, rfl, m, r, rs, t.rows, x, ps, rfl, ⟨dx, lp, hm1, hm2⟩, S _ _ hR, hA.mono (fun _ _ => IsRow.mono (Tu.same S)), hz, hok, asc, fun H6 s6 => ?_⟩
      exact ⟨_, rfl, iteT ⟨_, rfl, m, dx, _, rfl, s6 _ _ hm1, rfl, _, rfl, m, t.begin, 1, x, ps, rfl, ⟨dx, lp, s6 _ _ hm1, s6 _ _ hm2⟩, hb, q _ (S.trans s6)⟩⟩
end
end K9
end
section
set_option Elab.async false
set_option linter.all false
set_option maxRecDepth 100000
set_option maxHeartbeats 4000000
namespace K9
open PySem PySem.Spec PyProof.Rows L2
/-! the class BodyForm -/
structure Bf where
  m : Addr
  dx : Addr
  ri : Addr
  bo : Addr
  lt : Addr
  core : V
  cv : V
  p : Nat
def Bf.fs (b : Bf) : List (Str × V) := [("core", b.core), ("params", .int b.p), ("c", b.cv), ("total", .int b.p), ("in_reach", .ref b.ri), ("bound", .ref b.bo), ("closed", .int 0), ("tasks", .ref b.lt)]
def reach9 (p : Nat) : List (Key × V) := if p = 0 then [] else [(.inl 0, .bl true)]
structure BfOk (H0 H : Hp) (C : Addr) (b : Bf) (tvs : List V) : Prop where
  s : Same H0 H
  m0 : H0 b.m = none
  lt0 : H0 b.lt = none
  m : H b.m = some (.ins C b.dx b.fs)
  ri : H b.ri = some (.dK (reach9 b.p))
  bo : H b.bo = some (.dK [])
  lt : H b.lt = some (.lst tvs)
theorem BfOk.mono {H0 H H' : Hp} {C : Addr} {b : Bf} {tvs : List V} (h : BfOk H0 H C b tvs) (s : Same H H') : BfOk H0 H' C b tvs := ⟨h.s.trans s, h.m0, h.lt0, s _ _ h.m, s _ _ h.ri, s _ _ h.bo, s _ _ h.lt⟩
theorem BfOk.put {H0 H : Hp} {C : Addr} {b : Bf} {tvs tvs' : List V} (h : BfOk H0 H C b tvs) : BfOk H0 (upd H b.lt (.lst tvs')) C b tvs' where
  s := fro h.lt0 h.s
  m0 := h.m0
  lt0 := h.lt0
  m := by rw [upd_ne (ne_of h.m h.lt (by intro z; cases z))]; exact h.m
  ri := by rw [upd_ne (ne_of h.ri h.lt (by intro z; cases z))]; exact h.ri
  bo := by rw [upd_ne (ne_of h.bo h.lt (by intro z; cases z))]; exact h.bo
  lt := upd_same
def IsTask (H0 H : Hp) (t : C9 × Nat) (v : V) : Prop := ∃ a x, v = .ref a ∧ H a = some (.tup [.str "c", x, .int t.2]) ∧ IsC H0 t.1 x
theorem IsTask.mono {H0 H H' : Hp} (s : Tu H H') {t : C9 × Nat} {v : V} (h : IsTask H0 H t v) : IsTask H0 H' t v := let ⟨a, x, e, h, c⟩ := h; ⟨a, x, e, s _ _ h, c⟩
/-- a part of a c is of its sort -/
inductive Fits (H0 : Hp) (c : Core9) (p : Nat) : Str → V → Prop where
  | c {a xs} (h : H0 a = some (.tup xs)) : Fits H0 c p "c" (.ref a)
  | cs {a xs} (h : H0 a = some (.tup xs)) : Fits H0 c p "cs" (.ref a)
  | loc (h : p = 1) : Fits H0 c p "local" (.int 0)
  | sel {z} (h : OkLabel z) : Fits H0 c p "selector" (.str z)
  | bod {n : Nat} (h : n < c.bods.length) : Fits H0 c p "body" (.int n)
  | tab {n : Nat} (h : n < c.tabs.length) : Fits H0 c p "table" (.int n)
  | sgl {n : Nat} (h : n < c.sgls.length) : Fits H0 c p "single" (.int n)
theorem IsC.tup {H : Hp} {c : C9} {v : V} (h : IsC H c v) : ∃ a xs, v = .ref a ∧ H a = some (.tup xs) := by
  obtain ⟨a, ps, ks, e, h, _⟩ := h.view
  exact ⟨a, _, e, h⟩
def AllFit (H0 : Hp) (core : Core9) (p : Nat) (ss : List Str) (ps : List V) : Prop := ∀ (i : Nat) (s : Str) (x : V), ss[i]? = some s → ps[i]? = some x → Fits H0 core p s x
theorem AllFit.nil {H0 : Hp} {core : Core9} {p : Nat} {ps : List V} : AllFit H0 core p [] ps := fun i s x h _ => by simp at h
theorem AllFit.cons {H0 : Hp} {core : Core9} {p : Nat} {s : Str} {ss : List Str} {x : V} {ps : List V} (h : Fits H0 core p s x) (r : AllFit H0 core p ss ps) : AllFit H0 core p (s :: ss) (x :: ps) := fun i s' x' h1 h2 => by
  cases i with
  | zero => simp at h1 h2; subst h1; subst h2; exact h
  | succ i => exact r i s' x' (by simpa using h1) (by simpa using h2)
theorem HasP.lt {c : Core9} {p n : Nat} (h : HasP c p n) : n < c.bods.length := let ⟨_, e, _⟩ := h; (List.getElem?_eq_some_iff.mp e).1
theorem IsC.fits {H0 : Hp} {core : Core9} {p : Nat} : ∀ {c : C9} {v : V}, IsC H0 c v → OkC core p c → ∀ {a : Addr} {ps : List V}, v = .ref a → H0 a = some (.tup (.str c.word :: ps)) → AllFit H0 core p c.sorts ps
  | .unit, _, ⟨a, e, h⟩, ok, a', ps, e', h' => .nil
  | .loc, _, ⟨a, e, h⟩, ok, a', ps, e', h' => by
    subst e; cases e'; rw [h] at h'; cases h'
    exact .cons (.loc ok) .nil
  | .thn _ _, _, ⟨a, x, y, e, h, h1, h2⟩, ok, a', ps, e', h' => by
    subst e; cases e'; rw [h] at h'; cases h'
    obtain ⟨b1, xs1, rfl, g1⟩ := h1.tup
    obtain ⟨b2, xs2, rfl, g2⟩ := h2.tup
    exact .cons (.c g1) (.cons (.c g2) .nil)
  | .dir _ _, _, ⟨a, t, x, e, h, h1, h2⟩, ok, a', ps, e', h' => by
    subst e; cases e'; rw [h] at h'; cases h'
    exact .cons (.bod ok.1.lt) (.cons (.cs h1) .nil)
  | .snd _ _, _, ⟨a, x, t, e, h, h1, h2⟩, ok, a', ps, e', h' => by
    subst e; cases e'; rw [h] at h'; cases h'
    obtain ⟨b2, xs2, rfl, g2⟩ := h2.tup
    exact .cons (.c g2) (.cons (.sel ok.1) (.cons (.cs h1) .nil))
  | .mak _, _, ⟨a, t, e, h, h1⟩, ok, a', ps, e', h' => by
    subst e; cases e'; rw [h] at h'; cases h'
    exact .cons (.tab ok) (.cons (.cs h1) .nil)
  | .sgl _, _, ⟨a, e, h⟩, ok, a', ps, e', h' => by
    subst e; cases e'; rw [h] at h'; cases h'
    exact .cons (.sgl ok) .nil
def cWords : List Str := ["unit", "local", "then", "direct", "send", "make", "single"]
theorem C9.word_mem : ∀ c : C9, c.word ∈ cWords
  | .unit => (by decide : ("unit" : Str) ∈ cWords)
  | .loc => (by decide : ("local" : Str) ∈ cWords)
  | .thn _ _ => (by decide : ("then" : Str) ∈ cWords)
  | .dir _ _ => (by decide : ("direct" : Str) ∈ cWords)
  | .snd _ _ => (by decide : ("send" : Str) ∈ cWords)
  | .mak _ => (by decide : ("make" : Str) ∈ cWords)
  | .sgl _ => (by decide : ("single" : Str) ∈ cWords)
theorem C9.ne (c : C9) (z : Str) (h : ∀ x ∈ cWords, x ≠ z := by decide) : ¬ c.word = z := h _ c.word_mem
theorem C9.is_dir : ∀ {c : C9}, c.word = "direct" → ∃ n k, c = .dir n k
  | .dir n k, _ => ⟨n, k, rfl⟩
  | .unit, h => absurd h (by decide : ("unit" : Str) ≠ "direct")
  | .loc, h => absurd h (by decide : ("local" : Str) ≠ "direct")
  | .thn _ _, h => absurd h (by decide : ("then" : Str) ≠ "direct")
  | .snd _ _, h => absurd h (by decide : ("send" : Str) ≠ "direct")
  | .mak _, h => absurd h (by decide : ("make" : Str) ≠ "direct")
  | .sgl _, h => absurd h (by decide : ("single" : Str) ≠ "direct")
theorem C9.is_mak : ∀ {c : C9}, c.word = "make" → ∃ n, c = .mak n
  | .mak n, _ => ⟨n, rfl⟩
  | .unit, h => absurd h (by decide : ("unit" : Str) ≠ "make")
  | .loc, h => absurd h (by decide : ("local" : Str) ≠ "make")
  | .thn _ _, h => absurd h (by decide : ("then" : Str) ≠ "make")
  | .snd _ _, h => absurd h (by decide : ("send" : Str) ≠ "make")
  | .dir _ _, h => absurd h (by decide : ("direct" : Str) ≠ "make")
  | .sgl _, h => absurd h (by decide : ("single" : Str) ≠ "make")
def bfF : List Str := ["core", "params", "c", "total", "in_reach", "bound", "closed", "tasks"]
theorem sc_BodyForm_init : FnScope ["self", "core", "body", "further", "number"] ["self", "core", "body"] (defScope s_BodyForm_init) := ⟨rfl, rfl, rfl, by decide +kernel, rfl, by decide +kernel, by decide +kernel⟩
theorem sc_BodyForm_holds : FnScope ["self", "word", "thing", "deep"] ["self"] (defScope s_BodyForm_holds) := ⟨rfl, rfl, rfl, by decide +kernel, rfl, by decide +kernel, by decide +kernel⟩
theorem sc_BodyForm_is_c : FnScope ["self", "c", "deep", "form", "sort", "part"] ["self", "c", "deep"] (defScope s_BodyForm_is_c) := ⟨rfl, rfl, rfl, by decide +kernel, rfl, by decide +kernel, by decide +kernel⟩
theorem sc_BodyForm_add : FnScope ["self", "c", "deep", "names", "inner", "one", "name"] ["self", "c", "deep"] (defScope s_BodyForm_add) := ⟨rfl, rfl, rfl, by decide +kernel, rfl, by decide +kernel, by decide +kernel⟩
theorem sc_BodyForm_bound_by : FnScope ["self", "c"] ["self", "c"] (defScope s_BodyForm_bound_by) := ⟨rfl, rfl, rfl, by decide +kernel, rfl, by decide +kernel, by decide +kernel⟩
theorem sc_BodyForm_binds : FnScope ["self", "names", "name"] ["self", "names"] (defScope s_BodyForm_binds) := ⟨rfl, rfl, rfl, by decide +kernel, rfl, by decide +kernel, by decide +kernel⟩
theorem sc_BodyForm_has_many : FnScope ["self", "c", "bodies"] ["self", "c"] (defScope s_BodyForm_has_many) := ⟨rfl, rfl, rfl, by decide +kernel, rfl, by decide +kernel, by decide +kernel⟩
theorem sc_BodyForm_fits : FnScope ["self", "sort", "part", "tables", "bodies", "singles", "_", "one"] ["self", "sort", "part"] (defScope s_BodyForm_fits) := ⟨rfl, rfl, rfl, by decide +kernel, rfl, by decide +kernel, by decide +kernel⟩
structure Ds3 (P : Program) (w : World) (K : PySem.W.Frag) (mg : Str → Option Value) (base : Heap) (C d : Addr) : Prop where
  is_integer : Dn P w K mg base CX0 "is_integer" 1 1 spIsInt
  is_number : Dn P w K mg base CX0 "is_number" 2 2 spIsNum
  is_label : Dn P w K mg base CX0 "is_label" 2 1 spIsLabel
  are_ascending : Dn P w K mg base CX0 "are_ascending" 1 1 (spAsc K)
  is_text : Dn P w K mg base CX0 "is_text" 1 1 spIsText
  cs_in : Dn P w K mg base CX0 "cs_in" 1 1 spCsIn
  BodyForm : ClsF K C bfF
  CFORMS : mg "CFORMS" = some (.ref d)
  forms : Forms K w d
theorem Ds3.cBodyForm {P : Program} {w : World} {K : PySem.W.Frag} {mg : Str → Option Value} {base : Heap} {C d : Addr} (D : Ds3 P w K mg base C d) : Cls K C := D.BodyForm.cls
theorem Ds3.no {P : Program} {w : World} {K : PySem.W.Frag} {mg : Str → Option Value} {base : Heap} {C d : Addr} (D : Ds3 P w K mg base C d) (x : Str) (h : x ∈ bfF := by decide) : NoAttr K C x := D.BodyForm.no _ h
def spBfInit (C : Addr) : Sp := fun vs H Q _ => ∃ (m dx : Addr) (core cv : V) (p : Nat) (a : Addr), vs = [.ref m, core, .ref a] ∧ H m = some (.ins C dx []) ∧ H a = some (.tup [.int p, .int 0, cv]) ∧ p ≤ 1 ∧ ∀ (b : Bf) (H' : Hp), b.m = m → b.core = core → b.cv = cv → b.p = p → H b.lt = none → (∀ q, q ≠ m → ∀ o, H q = some o → H' q = some o) → H' m = some (.ins C b.dx b.fs) → H' b.ri = some (.dK (reach9 p)) → H' b.bo = some (.dK []) → H' b.lt = some (.lst []) → Q .non H'
def spBoundBy : Sp := fun vs H Q _ => ∃ (m : Addr) (H0 : Hp) (c : C9) (v : V), vs = [.ref m, v] ∧ Tu H0 H ∧ IsC H0 c v ∧ ∀ p, H p = none → Q (.ref p) (upd H p (.lst []))
def spBinds : Sp := fun vs H Q _ => ∃ (m : Addr) (l : Addr), vs = [.ref m, .ref l] ∧ H l = some (.lst []) ∧ Q (.bl true) H
def spHasMany (C : Addr) : Sp := fun vs H Q _ => ∃ (H0 : Hp) (b : Bf) (tvs : List V) (core : Core9) (c : C9) (v : V) (p : Nat), vs = [.ref b.m, v] ∧ BfOk H0 H C b tvs ∧ IsCore H0 core b.core ∧ IsC H0 c v ∧ OkC core p c ∧ (∀ t ∈ core.tabs, HasP core 1 t.begin) ∧ Q (.bl true) H
def spFits (C : Addr) : Sp := fun vs H Q _ => ∃ (H0 : Hp) (b : Bf) (tvs : List V) (core : Core9) (s : Str) (v : V), vs = [.ref b.m, .str s, v] ∧ BfOk H0 H C b tvs ∧ IsCore H0 core b.core ∧ Fits H0 core b.p s v ∧ ∀ H', Same H H' → Q (.bl true) H'
section
variable {P : Program} {w : World} {K : PySem.W.Frag} {mg : Str → Option Value} {base : Heap} {f C d : Addr} {fd : FuncData}
theorem ok_bound_by (F : Fun K "bound_by" "BodyForm.bound_by" s_BodyForm_bound_by f fd) (B : Blt mg) : FnOk P w K mg base CX0 1 f fd ["self", "c"] spBoundBy := by
  refine F.ok sc_BodyForm_bound_by (fun vs H Q E h => ?_) (fun cdv A outer s H vs Q E hr h => ?_)
  · obtain ⟨m, H0, c, v, rfl, _⟩ := h
    rfl
  · obtain ⟨m, H0, c, v, rfl, tu, hC, q⟩ := h
    refine ⟨_, (pss_cons (ps_if (pt_cmpR op_eq (pe_ix ix_tup (pv 1) pe_int (fun _ _ => rfl)) pe_str (nomark _)) (pss_one (ps_ret (pe_lst (pa_cons (pe_ix ix_tup (pv 1) pe_int (fun _ _ => rfl)) pa_nil)))) pss_nil)
      (pss_one (ps_ret (pe_ifExp (pt_cmpR op_eq (pe_ix ix_tup (pv 1) pe_int (fun _ _ => rfl)) pe_str (nomark _)) (pe_callTy call_list_of (by rfl) B.list boot_list (pa_cons (pe_ix ix_tup (pv 1) pe_int (fun _ _ => rfl)) pa_nil)) (pe_lst pa_nil))))), ?_⟩
    obtain ⟨a, ps, ks, rfl, ha0, hP, hK, hk4⟩ := hC.view
    have hS : SqT K H a (.str c.word :: ps) := SqT.of (tu _ _ ha0)
    refine ⟨_, rfl, a, _, _, _, rfl, rfl, hS, atI_nat (j := 0) rfl, rfl, _, rfl, ?_⟩
    rw [dec_vs, decide_eq_false (c.ne "let")]
    refine iteF ⟨_, rfl, a, _, _, _, rfl, rfl, hS, atI_nat (j := 0) rfl, rfl, _, rfl, ?_⟩
    rw [dec_vs, decide_eq_false (c.ne "fun")]
    exact iteF ⟨Nat.zero_le _, q⟩
theorem ok_binds (F : Fun K "binds" "BodyForm.binds" s_BodyForm_binds f fd) (B : Blt mg) (D : Ds3 P w K mg base C d) : FnOk P w K mg base CX0 3 f fd ["self", "names"] spBinds := by
  refine F.ok sc_BodyForm_binds (fun vs H Q E h => ?_) (fun cdv A outer s H vs Q E hr h => ?_)
  · obtain ⟨m, l, rfl, _⟩ := h
    rfl
  · obtain ⟨m, l, rfl, hl, q⟩ := h
    refine ⟨_, (pss_cons (ps_for PassesOwn.never rfl (pi_list (pv 1)) (pg_name (i := 2) sc_BodyForm_binds.nd rfl (.inl rfl)) (pss_cons (ps_if (PW.pt (pw_or (pt_not (pt_val (pe_dn D.is_number (hr.mono (by decide)) pass0 (pa_cons (pv 2) (pa_cons (pe_fld (pv 0) rfl) pa_nil))))) (pw_or (pt_cmpR op_lt (pv 2) (pe_fld (pv 0) rfl) (nomark _)) (pw_or1 (pt_cmp (pc_din (hu_of hr) (pv 2) (pe_fld (pv 0) rfl))))))) (pss_one (ps_ret pe_bl)) pss_nil)
      (pss_one (ps_dput (hu_of hr) (pe_fld (pv 0) rfl) (pv 2) pe_bl rfl))))
      (pss_one (ps_ret pe_bl))), ?_⟩
    refine ⟨_, rfl, l, rfl, ⟨[], SqL.of hl⟩, for_it (walk_list (xs := [])) (fun i σ H1 => H1 = H) rfl (fun i σ H1 _ e => by rw [e]; exact SqL.of hl) (fun i x σ H1 H2 hi => by cases hi) (fun σ H1 e => ?_)⟩
    rw [e]
    exact q
theorem ok_has_many (F : Fun K "has_many" "BodyForm.has_many" s_BodyForm_has_many f fd) (B : Blt mg) (D : Ds3 P w K mg base C d) : FnOk P w K mg base CX0 1 f fd ["self", "c"] (spHasMany C) := by
  refine F.ok sc_BodyForm_has_many (fun vs H Q E h => ?_) (fun cdv A outer s H vs Q E hr h => ?_)
  · obtain ⟨H0, b, tvs, core, c, v, p, rfl, _⟩ := h
    rfl
  · obtain ⟨H0, b, tvs, core, c, v, p, rfl, bf, hCore, hC, ok, hb, q⟩ := h
    refine ⟨_, (pss_cons (ps_set (i := 2) sc_BodyForm_has_many.nd rfl (.inl rfl) (pe_ix ix_tup (pe_fld (pv 0) rfl) pe_int (fun _ _ => rfl)))
      (pss_cons (ps_if (pt_cmpR op_eq (pe_ix ix_tup (pv 1) pe_int (fun _ _ => rfl)) pe_str (nomark _)) (pss_one (ps_ret (pe_cmpR op_eq (pe_callB call_len_seq (by rfl) B.len PySem.boot_len (pa_cons (pe_ix ix_tup (pv 1) pe_int (fun _ _ => rfl)) pa_nil)) (pe_ix ix_tup (pe_ix ix_tup (pv 2) (pe_ix ix_tup (pv 1) pe_int (fun _ _ => rfl)) (fun _ _ => rfl)) pe_int (fun _ _ => rfl)) (nomark _)))) pss_nil)
      (pss_cons (ps_if (pt_cmpR op_eq (pe_ix ix_tup (pv 1) pe_int (fun _ _ => rfl)) pe_str (nomark _)) (pss_one (ps_ret (pe_cmpR op_eq (pe_op op_add (pe_callB call_len_seq (by rfl) B.len PySem.boot_len (pa_cons (pe_ix ix_tup (pv 1) pe_int (fun _ _ => rfl)) pa_nil)) pe_int) (pe_ix ix_tup (pe_ix ix_tup (pv 2) (pe_ix ix_tup (pe_ix ix_tup (pe_ix ix_tup (pe_fld (pv 0) rfl) pe_int (fun _ _ => rfl)) (pe_ix ix_tup (pv 1) pe_int (fun _ _ => rfl)) (fun _ _ => rfl)) pe_int (fun _ _ => rfl)) (fun _ _ => rfl)) pe_int (fun _ _ => rfl)) (nomark _)))) pss_nil)
      (pss_one (ps_ret pe_bl))))), ?_⟩
    obtain ⟨ca, ta, ba, sa, ts, bs, ss, hcv, hca, hta, hT, hba, hB, hsa, hS⟩ := hCore
    have up : ∀ {a : Addr} {xs : List V}, H0 a = some (.tup xs) → SqT K H a xs := fun h => SqT.of (bf.s _ _ h)
    refine ⟨_, rfl, _, C, b.dx, _, _, rfl, bf.m, D.cBodyForm, D.no "core", rfl, ca, _, _, _, hcv, rfl, up hca, rfl, ?_⟩
    have hC' := hC
    obtain ⟨a, ps, ks, rfl, ha0, hP, hK, hk4⟩ := hC'.view
    refine ⟨_, rfl, a, _, _, _, rfl, rfl, up ha0, atI_nat (j := 0) rfl, rfl, _, rfl, ?_⟩
    rw [dec_vs]
    by_cases c1 : c.word = "direct"
    · rw [decide_eq_true c1]
      obtain ⟨n, k, rfl⟩ := C9.is_dir c1
      obtain ⟨a', t, x, e, ha, ht, _⟩ := hC
      cases e
      obtain ⟨bb, hbb, hb1⟩ := ok.1
      obtain ⟨bv, hbv, ab, xb, rfl, hab, _⟩ := hB.get hbb
      refine iteT ⟨_, rfl, a, _, _, _, rfl, rfl, up ha, rfl, t, _, rfl, .inr (up ht), _, rfl, _, rfl, a, _, _, _, rfl, rfl, up ha, rfl, ba, _, _, _, rfl, rfl, up hba, atI_nat hbv, ab, _, _, _, rfl, rfl, up hab, rfl, rfl, ?_⟩
      rw [hb1]
      exact q
    · rw [decide_eq_false c1]
      refine iteF ⟨_, rfl, a, _, _, _, rfl, rfl, up ha0, atI_nat (j := 0) rfl, rfl, _, rfl, ?_⟩
      rw [dec_vs]
      by_cases c2 : c.word = "make"
      · rw [decide_eq_true c2]
        obtain ⟨n, rfl⟩ := C9.is_mak c2
        obtain ⟨a', t, e, ha, ht⟩ := hC
        cases e
        obtain ⟨tv, htv, at', y, e1, e2, r, rs, rfl, hat, _⟩ := hT.get (List.getElem?_eq_getElem (show n < core.tabs.length from ok))
        obtain ⟨bb, hbb, hb1⟩ := hb _ (List.getElem_mem (show n < core.tabs.length from ok))
        obtain ⟨bv, hbv, ab, xb, rfl, hab, _⟩ := hB.get hbb
        refine iteT ⟨_, rfl, a, _, _, _, rfl, rfl, up ha, rfl, t, _, rfl, .inr (up ht), _, _, rfl, rfl, _, rfl, _, rfl, _, C, b.dx, _, _, rfl, bf.m, D.cBodyForm, D.no "core", rfl, ca, _, _, _, hcv, rfl, up hca, rfl, _, rfl, a, _, _, _, rfl, rfl, up ha, rfl, ta, _, _, _, rfl, rfl, up hta, atI_nat htv, at', _, _, _, rfl, rfl, up hat, rfl, ba, _, _, _, rfl, rfl, up hba, atI_nat hbv, ab, _, _, _, rfl, rfl, up hab, rfl, rfl, ?_⟩
        rw [hb1]
        exact q
      · rw [decide_eq_false c2]
        exact iteF q
theorem ok_fits (F : Fun K "fits" "BodyForm.fits" s_BodyForm_fits f fd) (B : Blt mg) (D : Ds3 P w K mg base C d) (hop : ∃ a, mg "OP_WORDS" = some (.ref a)) (hsw : ∃ a, mg "STOP_WORDS" = some (.ref a)) : FnOk P w K mg base CX0 3 f fd ["self", "sort", "part"] (spFits C) := by
  obtain ⟨ow, how⟩ := hop
  obtain ⟨sw, hsw⟩ := hsw
  refine F.ok sc_BodyForm_fits (fun vs H Q E h => ?_) (fun cdv A outer s H vs Q E hr h => ?_)
  · obtain ⟨H0, b, tvs, core, s, v, rfl, _⟩ := h
    rfl
  · obtain ⟨H0, b, tvs, core, z, v, rfl, bf, hCore, hF, q⟩ := h
    refine ⟨_, (pss_cons (ps_asg (pe_fld (pv 0) rfl) (pg_tup rfl (pgs_cons (pg_name (i := 3) sc_BodyForm_fits.nd rfl (.inr rfl)) (pgs_cons (pg_name (i := 4) sc_BodyForm_fits.nd rfl (.inl rfl)) (pgs_cons (pg_name (i := 5) sc_BodyForm_fits.nd rfl (.inl rfl)) (pgs_cons (pg_name (i := 6) sc_BodyForm_fits.nd rfl (.inl rfl)) pgs_nil))))))
      (pss_cons (ps_if (pt_cmpR op_in_seq (pv 1) (pe_tup (pa_cons pe_str (pa_cons pe_str (pa_cons pe_str pa_nil)))) (by with_unfolding_all rfl)) (pss_one (ps_ret (pe_callB call_isi (by rfl) B.isinstance (by decide +kernel) (pa_cons (pv 2) (pa_cons (pe_bltn (v := .ty "tuple") (u := .type "tuple") rfl B.tuple (by decide +kernel) rfl) pa_nil))))) pss_nil)
      (pss_cons (ps_if (pt_cmpR op_in_seq (pv 1) (pe_tup (pa_cons pe_str (pa_cons pe_str (pa_cons pe_str pa_nil)))) (by with_unfolding_all rfl)) (pss_one (ps_ret (pe_and (pe_dn D.is_integer (hr.mono (by decide)) pass0 (pa_cons (pv 2) pa_nil)) (pe_one (pe_or (pe_cmpR op_eq (pv 1) pe_str (nomark _)) (pe_one (pe_cmpR op_ge (pv 2) pe_int (nomark _)))))))) pss_nil)
      (pss_cons (ps_if (pt_cmpR op_eq (pv 1) pe_str (nomark _)) (pss_one (ps_ret (pe_and (pe_dn D.is_integer (hr.mono (by decide)) pass0 (pa_cons (pv 2) pa_nil)) (pe_one (pe_cmp (pc_din (hu_of hr) (pv 2) (pe_fld (pv 0) rfl))))))) pss_nil)
      (pss_cons (ps_if (pt_cmpR op_eq (pv 1) pe_str (nomark _)) (pss_one (ps_ret (pe_dn D.is_text (hr.mono (by decide)) pass0 (pa_cons (pv 2) pa_nil)))) pss_nil)
      (pss_cons (ps_if (pt_cmpR op_eq (pv 1) pe_str (nomark _)) (pss_one (ps_ret (pe_callB call_isi (by rfl) B.isinstance (by decide +kernel) (pa_cons (pv 2) (pa_cons (pe_bltn (v := .ty "bool") (u := .type "bool") rfl B.bool (by decide +kernel) rfl) pa_nil))))) pss_nil)
      (pss_cons (ps_if (pt_cmpR op_in_seq (pv 1) (pe_tup (pa_cons pe_str (pa_cons pe_str pa_nil))) (by with_unfolding_all rfl)) (pss_one (ps_ret (pe_dn D.is_label (hr.mono (by decide)) pass0 (pa_cons (pv 2) pa_nil)))) pss_nil)
      (pss_cons (ps_if (pt_cmpR op_in_seq (pv 1) (pe_tup (pa_cons pe_str (pa_cons pe_str pa_nil))) (by with_unfolding_all rfl)) (pss_one (ps_ret (pe_and (pe_callB call_isi (by rfl) B.isinstance (by decide +kernel) (pa_cons (pv 2) (pa_cons (pe_bltn (v := .ty "str") (u := .type "str") rfl B.str (by decide +kernel) rfl) pa_nil))) (pe_one (pe_cmpR op_in_seq (pv 2) (pe_ifExp (pt_cmpR op_eq (pv 1) pe_str (nomark _)) (pe_gr how) (pe_gr hsw)) (by with_unfolding_all rfl)))))) pss_nil)
      (pss_cons (ps_if (pt_cmpR op_eq (pv 1) pe_str (nomark _)) (pss_one (ps_ret (pe_and (pe_callB call_isi (by rfl) B.isinstance (by decide +kernel) (pa_cons (pv 2) (pa_cons (pe_bltn (v := .ty "tuple") (u := .type "tuple") rfl B.tuple (by decide +kernel) rfl) pa_nil))) (pe_and (pe_callB (cr_all rfl) (by rfl) B.all (by decide +kernel) (pa_cons (pe_lc (own := [("one", 7)]) (g := (gName 7)) (tt := tYes) rfl sc_BodyForm_fits.nd (pi_tup (pv 2)) (blkOk_by (N := ["self", "sort", "part", "tables", "bodies", "singles", "_", "one"]) (sc := defScope s_BodyForm_fits) (by decide +kernel)) (fun _ _ _ _ _ => (pg_name (i := 7) sc_BodyForm_fits.nd rfl (.inl rfl))) (fun _ _ _ _ _ => pts_nil) (fun _ _ _ _ _ => (pe_dn D.is_number (hr.mono (by decide)) pass0 (pa_cons (pv 7) (pa_cons (pe_callB (call_len_seqK K) (by rfl) B.len PySem.boot_len (pa_cons (pv 3) pa_nil)) pa_nil))))) pa_nil)) (pe_one (pe_dn D.are_ascending (hr.mono (by decide)) pass0 (pa_cons (pv 2) pa_nil))))))) pss_nil)
      (pss_cons (ps_if (pt_cmpR op_eq (pv 1) pe_str (nomark _)) (pss_one (ps_ret (pe_dn D.is_number (hr.mono (by decide)) pass0 (pa_cons (pv 2) (pa_cons (pe_callB call_len_seq (by rfl) B.len PySem.boot_len (pa_cons (pv 4) pa_nil)) pa_nil))))) pss_nil)
      (pss_one (ps_ret (pe_dn D.is_number (hr.mono (by decide)) pass0 (pa_cons (pv 2) (pa_cons (pe_callB call_len_seq (by rfl) B.len PySem.boot_len (pa_cons (pe_ifExp (pt_cmpR op_eq (pv 1) pe_str (nomark _)) (pv 3) (pv 5)) pa_nil)) pa_nil))))))))))))))), ?_⟩
    obtain ⟨ca, ta, ba, sa, ts, bs, ss, hcv, hca, hta, hT, hba, hB, hsa, hS⟩ := hCore
    have up : ∀ {a : Addr} {xs : List V} {H' : Hp}, H0 a = some (.tup xs) → Same H H' → SqT K H' a xs := fun h s => SqT.of (s _ _ (bf.s _ _ h))
    refine ⟨_, rfl, _, C, b.dx, _, _, rfl, bf.m, D.cBodyForm, D.no "core", rfl, ca, _, hcv, up hca (Same.refl _), rfl, _, _, rfl, _, _, rfl, _, _, rfl, _, _, rfl, rfl, ?_⟩
    refine ⟨_, rfl, (by show 3 ≤ sizeLine; decide), fun t1 n1 => ⟨t1, _, rfl, .inr (SqT.of upd_same), rfl, rfl, _, rfl, ?_⟩⟩
    have s1 := same_new (o := .tup [V.str "c", V.str "cs", V.str "local numbers"]) n1
    cases hF with
    | c h => exact iteT ⟨_, rfl, _, _, _, _, true, rfl, .ty _, tyT (up h s1), kit_ty (by decide +kernel), q _ s1⟩
    | cs h => exact iteT ⟨_, rfl, _, _, _, _, true, rfl, .ty _, tyT (up h s1), kit_ty (by decide +kernel), q _ s1⟩
    | loc h =>
      refine iteF ⟨_, rfl, (by show 3 ≤ sizeLine; decide), fun t2 n2 => ⟨t2, _, rfl, .inr (SqT.of upd_same), rfl, rfl, _, rfl, ?_⟩⟩
      have s2 := s1.trans (same_new (o := .tup [V.str "integer", V.str "number", V.str "new local"]) n2)
      refine iteF ⟨_, rfl, rfl, _, rfl, iteT ⟨_, rfl, 0, rfl, true, rfl, iteT ?_⟩⟩
      refine ⟨_, rfl, _, rfl, _, C, b.dx, _, _, rfl, s2 _ _ bf.m, D.cBodyForm, D.no "in_reach", rfl, b.ri, _, rfl, DGet.k (k := Sum.inl 0) (s2 _ _ bf.ri), ?_⟩
      have e : (valV (reach9 b.p) (Sum.inl 0)).isSome = true := by rw [h]; rfl
      rw [e]
      exact q _ s2
    | sel h =>
      refine iteF ⟨_, rfl, (by show 3 ≤ sizeLine; decide), fun t2 n2 => ⟨t2, _, rfl, .inr (SqT.of upd_same), rfl, rfl, _, rfl, ?_⟩⟩
      have s2 := s1.trans (same_new (o := .tup [V.str "integer", V.str "number", V.str "new local"]) n2)
      refine iteF ⟨_, rfl, rfl, _, rfl, iteF ⟨_, rfl, rfl, _, rfl, iteF ⟨_, rfl, rfl, _, rfl, iteF ⟨_, rfl, (by show 2 ≤ sizeLine; decide), fun t3 n3 => ⟨t3, _, rfl, .inr (SqT.of upd_same), rfl, rfl, _, rfl, ?_⟩⟩⟩⟩⟩
      have s3 := s2.trans (same_new (o := .tup [V.str "label", V.str "selector"]) n3)
      exact iteT ⟨_, rfl, _, rfl, h.1, h.2, fun H' s' => q _ (s3.trans s')⟩
    | bod h =>
      refine iteF ⟨_, rfl, (by show 3 ≤ sizeLine; decide), fun t2 n2 => ⟨t2, _, rfl, .inr (SqT.of upd_same), rfl, rfl, _, rfl, ?_⟩⟩
      have s2 := s1.trans (same_new (o := .tup [V.str "integer", V.str "number", V.str "new local"]) n2)
      refine iteF ⟨_, rfl, rfl, _, rfl, iteF ⟨_, rfl, rfl, _, rfl, iteF ⟨_, rfl, rfl, _, rfl, iteF ⟨_, rfl, (by show 2 ≤ sizeLine; decide), fun t3 n3 => ⟨t3, _, rfl, .inr (SqT.of upd_same), rfl, rfl, _, rfl, ?_⟩⟩⟩⟩⟩
      have s3 := s2.trans (same_new (o := .tup [V.str "label", V.str "selector"]) n3)
      refine iteF ⟨_, rfl, (by show 2 ≤ sizeLine; decide), fun t4 n4 => ⟨t4, _, rfl, .inr (SqT.of upd_same), rfl, rfl, _, rfl, ?_⟩⟩
      have s4 := s3.trans (same_new (o := .tup [V.str "op word", V.str "stop word"]) n4)
      refine iteF ⟨_, rfl, rfl, _, rfl, iteF ⟨_, rfl, rfl, _, rfl, ?_⟩⟩
      refine iteT ⟨_, rfl, _, rfl, ba, _, rfl, .inr (up hba s4), _, _, rfl, ?_⟩
      rw [decide_eq_true (by omega), decide_eq_true (by rw [hB.1]; omega)]
      exact q _ s4
    | tab h =>
      refine iteF ⟨_, rfl, (by show 3 ≤ sizeLine; decide), fun t2 n2 => ⟨t2, _, rfl, .inr (SqT.of upd_same), rfl, rfl, _, rfl, ?_⟩⟩
      have s2 := s1.trans (same_new (o := .tup [V.str "integer", V.str "number", V.str "new local"]) n2)
      refine iteF ⟨_, rfl, rfl, _, rfl, iteF ⟨_, rfl, rfl, _, rfl, iteF ⟨_, rfl, rfl, _, rfl, iteF ⟨_, rfl, (by show 2 ≤ sizeLine; decide), fun t3 n3 => ⟨t3, _, rfl, .inr (SqT.of upd_same), rfl, rfl, _, rfl, ?_⟩⟩⟩⟩⟩
      have s3 := s2.trans (same_new (o := .tup [V.str "label", V.str "selector"]) n3)
      refine iteF ⟨_, rfl, (by show 2 ≤ sizeLine; decide), fun t4 n4 => ⟨t4, _, rfl, .inr (SqT.of upd_same), rfl, rfl, _, rfl, ?_⟩⟩
      have s4 := s3.trans (same_new (o := .tup [V.str "op word", V.str "stop word"]) n4)
      refine iteF ⟨_, rfl, rfl, _, rfl, iteF ⟨_, rfl, rfl, _, rfl, ?_⟩⟩
      refine iteF ⟨_, rfl, _, rfl, rfl, _, rfl, iteT ⟨_, rfl, ta, _, rfl, .inr (up hta s4), _, _, rfl, ?_⟩⟩
      rw [decide_eq_true (by omega), decide_eq_true (by rw [hT.1]; omega)]
      exact q _ s4
    | sgl h =>
      refine iteF ⟨_, rfl, (by show 3 ≤ sizeLine; decide), fun t2 n2 => ⟨t2, _, rfl, .inr (SqT.of upd_same), rfl, rfl, _, rfl, ?_⟩⟩
      have s2 := s1.trans (same_new (o := .tup [V.str "integer", V.str "number", V.str "new local"]) n2)
      refine iteF ⟨_, rfl, rfl, _, rfl, iteF ⟨_, rfl, rfl, _, rfl, iteF ⟨_, rfl, rfl, _, rfl, iteF ⟨_, rfl, (by show 2 ≤ sizeLine; decide), fun t3 n3 => ⟨t3, _, rfl, .inr (SqT.of upd_same), rfl, rfl, _, rfl, ?_⟩⟩⟩⟩⟩
      have s3 := s2.trans (same_new (o := .tup [V.str "label", V.str "selector"]) n3)
      refine iteF ⟨_, rfl, (by show 2 ≤ sizeLine; decide), fun t4 n4 => ⟨t4, _, rfl, .inr (SqT.of upd_same), rfl, rfl, _, rfl, ?_⟩⟩
      have s4 := s3.trans (same_new (o := .tup [V.str "op word", V.str "stop word"]) n4)
      refine iteF ⟨_, rfl, rfl, _, rfl, iteF ⟨_, rfl, rfl, _, rfl, ?_⟩⟩
      refine iteF ⟨_, rfl, _, rfl, rfl, _, rfl, iteF ⟨_, rfl, sa, _, rfl, .inr (up hsa s4), _, _, rfl, ?_⟩⟩
      rw [decide_eq_true (by omega), decide_eq_true (by rw [hS.1]; omega)]
      exact q _ s4
end
end K9
end
section
set_option Elab.async false
set_option linter.all false
set_option maxRecDepth 100000
set_option maxHeartbeats 4000000
namespace K9
open PySem PySem.Spec PyProof.Rows L2
section
variable {P : Program} {w : World} {K : PySem.W.Frag} {mg : Str → Option Value} {base : Heap} {f C d : Addr} {fd : FuncData}
theorem up2 {H : Hp} {p : Addr} {o o' : HO} : upd (upd H p o) p o' = upd H p o' := by
  funext b
  unfold upd
  by_cases e : b = p
  · rw [if_pos e, if_pos e]
  · rw [if_neg e, if_neg e, if_neg e]
/-- an instance at m that is being filled, all else as in H at least -/
structure Fil (H : Hp) (C m dx : Addr) (G : Hp) (fs : List (Str × V)) : Prop where
  o : ∀ q, q ≠ m → ∀ o, H q = some o → G q = some o
  m : G m = some (.ins C dx fs)
theorem Fil.put {H G : Hp} {C m dx : Addr} {fs fs' : List (Str × V)} (j : Fil H C m dx G fs) : Fil H C m dx (upd G m (.ins C dx fs')) fs' :=
  ⟨fun q n o e => by rw [upd_ne n]; exact j.o q n o e, upd_same⟩
theorem Fil.new {H G : Hp} {C m dx p : Addr} {o : HO} {fs : List (Str × V)} (j : Fil H C m dx G fs) (h : G p = none) : Fil H C m dx (upd G p o) fs :=
  ⟨fun q n o e => same_new h _ _ (j.o q n o e), same_new h _ _ j.m⟩
theorem Fil.none {H G : Hp} {C m dx p : Addr} {u : HO} {fs : List (Str × V)} (j : Fil H C m dx G fs) (hm : H m = some u) (h : G p = .none) : H p = .none := by
  cases e : H p with
  | none => rfl
  | some o =>
    by_cases c : p = m
    · rw [c, j.m] at h
      cases h
    · rw [j.o p c o e] at h
      cases h
theorem ok_bf_init (F : Fun K "__init__" "BodyForm.__init__" s_BodyForm_init f fd) (B : Blt mg) (D : Ds3 P w K mg base C d) : FnOk P w K mg base CX0 1 f fd ["self", "core", "body"] (spBfInit C) := by
  refine F.ok sc_BodyForm_init (fun vs H Q E h => ?_) (fun cdv A outer s H vs Q E hr h => ?_)
  · obtain ⟨m, dx, core, cv, p, a, rfl, _⟩ := h
    rfl
  · obtain ⟨m, dx, core, cv, p, a, rfl, hm, ha, hp, q⟩ := h
    refine ⟨_, (pss_cons (ps_fld (pv 0) (pv 1) rfl)
      (pss_cons (ps_asg (pv 2) (pg_tup rfl (pgs_cons (pg_fld (pv 0)) (pgs_cons (pg_name (i := 3) sc_BodyForm_init.nd rfl (.inl rfl)) (pgs_cons (pg_fld (pv 0)) pgs_nil)))))
      (pss_cons (ps_fld (pv 0) (pe_op op_add (pe_fld (pv 0) rfl) (pv 3)) rfl)
      (pss_cons (ps_fld (pv 0) (pe_dc (own := [("number", 4)]) (g := (gName 4)) (tt := tYes) rfl sc_BodyForm_init.nd (pi_range1 rfl B.range (pa_cons (pe_fld (pv 0) rfl) pa_nil)) (blkOk_by (N := ["self", "core", "body", "further", "number"]) (sc := defScope s_BodyForm_init) (by decide +kernel)) (fun _ _ _ _ _ => (pg_name (i := 4) sc_BodyForm_init.nd rfl (.inl rfl))) (fun _ _ _ _ _ => pts_nil) (fun _ _ _ _ _ => (pv 4)) (fun _ _ _ _ _ => pe_bl)) rfl)
      (pss_cons (ps_fld (pv 0) pe_dnewK rfl)
      (pss_cons (ps_fld (pv 0) pe_int rfl)
      (pss_one (ps_fld (pv 0) (pe_lst pa_nil) rfl)))))))), ?_⟩
    have ham : a ≠ m := fun e => by rw [e, hm] at ha; cases ha
    refine ⟨_, rfl, _, rfl, m, C, dx, [], rfl, hm, D.cBodyForm, D.no "core", by decide, ?_⟩
    have j0 : Fil H C m dx H [] := ⟨fun _ _ _ e => e, hm⟩
    have j1 := j0.put (fs' := putF "core" core [])
    generalize upd H m (.ins C dx (putF "core" core [])) = G1 at j1 ⊢
    refine ⟨_, rfl, a, _, rfl, SqT.of (j1.o a ham _ ha), rfl, _, _, rfl, ?_⟩
    refine ⟨_, rfl, m, C, dx, _, rfl, j1.m, D.cBodyForm, D.no "params", by show 1 < 1000; decide, ?_⟩
    have j2 := j1.put (fs' := putF "params" (.int p) (putF "core" core []))
    generalize upd G1 m (.ins C dx (putF "params" (.int p) (putF "core" core []))) = G2 at j2 ⊢
    refine ⟨_, _, rfl, _, _, rfl, _, rfl, m, C, dx, _, rfl, j2.m, D.cBodyForm, D.no "c", by show 2 < 1000; decide, ?_⟩
    have j3 := j2.put (fs' := putF "c" cv (putF "params" (.int p) (putF "core" core [])))
    generalize upd G2 m (.ins C dx (putF "c" cv (putF "params" (.int p) (putF "core" core [])))) = G3 at j3 ⊢
    refine ⟨rfl, ?_⟩
    refine ⟨_, rfl, m, C, dx, _, _, rfl, j3.m, D.cBodyForm, D.no "params", rfl, _, rfl, _, _, rfl, rfl, _, rfl, m, C, dx, _, rfl, j3.m, D.cBodyForm, D.no "total", by show 3 < 1000; decide, ?_⟩
    have j4 := j3.put (fs' := putF "total" (.int ((p : Int) + 0)) (putF "c" cv (putF "params" (.int p) (putF "core" core []))))
    generalize upd G3 m (.ins C dx (putF "total" (.int ((p : Int) + 0)) (putF "c" cv (putF "params" (.int p) (putF "core" core []))))) = G4 at j4 ⊢
    refine ⟨_, rfl, m, C, dx, _, _, rfl, j4.m, D.cBodyForm, D.no "params", rfl, p, rfl, by omega, by omega, fun ri hri => dc_it (walk_range (lo := 0) (n := (p : Int).toNat)) (fun i H' => H' = upd G4 ri (.dK (reach9 i))) rfl (fun _ _ _ _ => trivial) (fun i x H1 H2 hi h1 y => ?_) (fun H1 h1 => ?_)⟩
    · obtain ⟨rfl, rfl⟩ := y
      subst h1
      obtain rfl : i = 0 := by omega
      refine ⟨rfl, _, rfl, [], .inl 0, rfl, upd_same, by decide, ?_⟩
      exact up2
    · subst h1
      rw [Int.toNat_natCast]
      have hmr : m ≠ ri := fun e => by rw [← e, j4.m] at hri; cases hri
      have j5 := j4.new (o := .dK (reach9 p)) hri
      have hri5 : upd G4 ri (.dK (reach9 p)) ri = some (.dK (reach9 p)) := upd_same
      generalize upd G4 ri (.dK (reach9 p)) = G5 at j5 hri5 ⊢
      refine ⟨_, rfl, m, C, dx, _, rfl, j5.m, D.cBodyForm, D.no "in_reach", by show 4 < 1000; decide, ?_⟩
      have j6 := j5.put (fs' := putF "in_reach" (.ref ri) (putF "total" (.int ((p : Int) + 0)) (putF "c" cv (putF "params" (.int p) (putF "core" core [])))))
      have hri6 := (upd_ne (H := G5) (o := .ins C dx (putF "in_reach" (.ref ri) (putF "total" (.int ((p : Int) + 0)) (putF "c" cv (putF "params" (.int p) (putF "core" core [])))))) (fun e => hmr e.symm)).trans hri5
      generalize upd G5 m (.ins C dx (putF "in_reach" (.ref ri) (putF "total" (.int ((p : Int) + 0)) (putF "c" cv (putF "params" (.int p) (putF "core" core [])))))) = G6 at j6 hri6 ⊢
      intro bo hbo
      have hmb : bo ≠ m := fun e => by rw [e, j6.m] at hbo; cases hbo
      have j7 := j6.new (o := .dK []) hbo
      have hri7 := same_new (o := .dK []) hbo _ _ hri6
      have hbo7 : upd G6 bo (.dK []) bo = some (.dK []) := upd_same
      generalize upd G6 bo (.dK []) = G7 at j7 hri7 hbo7 ⊢
      refine ⟨_, rfl, m, C, dx, _, rfl, j7.m, D.cBodyForm, D.no "bound", by show 5 < 1000; decide, ?_⟩
      refine ⟨_, rfl, m, C, dx, _, rfl, upd_same, D.cBodyForm, D.no "closed", by show 6 < 1000; decide, ?_⟩
      rw [up2]
      have j8 := j7.put (fs' := putF "closed" (.int 0) (putF "bound" (.ref bo) (putF "in_reach" (.ref ri) (putF "total" (.int ((p : Int) + 0)) (putF "c" cv (putF "params" (.int p) (putF "core" core [])))))))
      have hri8 := (upd_ne (H := G7) (o := .ins C dx (putF "closed" (.int 0) (putF "bound" (.ref bo) (putF "in_reach" (.ref ri) (putF "total" (.int ((p : Int) + 0)) (putF "c" cv (putF "params" (.int p) (putF "core" core [])))))))) (fun e => hmr e.symm)).trans hri7
      have hbo8 := (upd_ne (H := G7) (o := .ins C dx (putF "closed" (.int 0) (putF "bound" (.ref bo) (putF "in_reach" (.ref ri) (putF "total" (.int ((p : Int) + 0)) (putF "c" cv (putF "params" (.int p) (putF "core" core [])))))))) hmb).trans hbo7
      generalize upd G7 m (.ins C dx (putF "closed" (.int 0) (putF "bound" (.ref bo) (putF "in_reach" (.ref ri) (putF "total" (.int ((p : Int) + 0)) (putF "c" cv (putF "params" (.int p) (putF "core" core [])))))))) = G8 at j8 hri8 hbo8 ⊢
      refine ⟨Nat.zero_le _, fun lt hlt => ?_⟩
      have hml : lt ≠ m := fun e => by rw [e, j8.m] at hlt; cases hlt
      have j9 := j8.new (o := .lst []) hlt
      refine ⟨_, rfl, m, C, dx, _, rfl, j9.m, D.cBodyForm, D.no "tasks", by show 7 < 1000; decide, ?_⟩
      refine q ⟨m, dx, ri, bo, lt, core, cv, p⟩ _ rfl rfl rfl rfl (j8.none hm hlt) (fun x n o e => (j9.put).o x n o e) upd_same ?_ ?_ ?_
      · exact (upd_ne (fun e => hmr e.symm)).trans (same_new hlt _ _ hri8)
      · exact (upd_ne hmb).trans (same_new hlt _ _ hbo8)
      · exact (upd_ne hml).trans upd_same
/-- the c tasks of cs, the last one first -/
def tasksOf (cs : List C9) (deep : Nat) : List (C9 × Nat) := (cs.map fun c => (c, deep)).reverse
def spAdd (C : Addr) : Sp := fun vs H Q _ => ∃ (H0 : Hp) (b : Bf) (tvs : List V) (c : C9) (v : V) (deep : Nat), vs = [.ref b.m, v, .int deep] ∧ BfOk H0 H C b tvs ∧ IsC H0 c v ∧ tvs.length + 4 ≤ sizeLine ∧ ∀ H' nv, BfOk H0 H' C b (tvs ++ nv) → Tu H H' → At (IsTask H0) H' (tasksOf c.kids deep) nv → Q .non H'
theorem ok_add (F : Fun K "add" "BodyForm.add" s_BodyForm_add f fd) (B : Blt mg) (D : Ds3 P w K mg base C d) (M : Mn P w K mg base CX0 C "bound_by" 1 2 spBoundBy) {cl : Addr} (hcl : mg "CLOSED" = some (.ref cl)) (hcl2 : KTup K cl [.str "late", .str "once", .str "fun"]) : FnOk P w K mg base CX0 2 f fd ["self", "c", "deep"] (spAdd C) := by
  refine F.ok sc_BodyForm_add (fun vs H Q E h => ?_) (fun cdv A outer s H vs Q E hr h => ?_)
  · obtain ⟨H0, b, tvs, c, v, deep, rfl, _⟩ := h
    rfl
  · obtain ⟨H0, b, tvs, c, v, deep, rfl, bf, hC, hz, q⟩ := h
    refine ⟨_, (pss_cons (ps_set (i := 3) sc_BodyForm_add.nd rfl (.inl rfl) (pe_mn D.cBodyForm M (hr.mono (by decide)) pass0 (pv 0) (pa_cons (pv 1) pa_nil)))
      (pss_cons (ps_setLc (i := 4) (own := [("one", 5)]) (g := (gName 5)) (tt := tYes) rfl sc_BodyForm_add.nd rfl rfl (sw_true rfl rfl rfl (by decide +kernel)) (pi_list (pe_dn D.cs_in (hr.mono (by decide)) pass0 (pa_cons (pv 1) pa_nil))) (blkOk_by (N := ["self", "c", "deep", "names", "inner", "one", "name"]) (sc := defScope s_BodyForm_add) (by decide +kernel)) (fun _ _ _ _ _ => (pg_name (i := 5) sc_BodyForm_add.nd rfl (.inl rfl))) (fun _ _ _ _ _ => pts_nil) (fun _ _ _ _ _ => (pe_tup (pa_cons pe_str (pa_cons (pv 5) (pa_cons (pv 2) pa_nil))))))
      (pss_cons (ps_if (pt_truth (pv 3) (fun _ => rfl)) (pss_one (ps_set (i := 4) sc_BodyForm_add.nd rfl (.inl rfl) (pe_op op_cat (pe_op op_cat (pe_op op_cat (pe_slice sl_list (pv 4) po_none (po_some (pe_un un_neg pe_int))) (pe_lc (own := [("name", 6)]) (g := (gName 6)) (tt := tYes) rfl sc_BodyForm_add.nd (pi_list (pv 3)) (blkOk_by (N := ["self", "c", "deep", "names", "inner", "one", "name"]) (sc := defScope s_BodyForm_add) (by decide +kernel)) (fun _ _ _ _ _ => (pg_name (i := 6) sc_BodyForm_add.nd rfl (.inl rfl))) (fun _ _ _ _ _ => pts_nil) (fun _ _ _ _ _ => (pe_tup (pa_cons pe_str (pa_cons (pv 6) (pa_cons pe_int pa_nil))))))) (pe_slice sl_list (pv 4) (po_some (pe_un un_neg pe_int)) po_none)) (pe_lc (own := [("name", 6)]) (g := (gName 6)) (tt := tYes) rfl sc_BodyForm_add.nd (pi_list (pv 3)) (blkOk_by (N := ["self", "c", "deep", "names", "inner", "one", "name"]) (sc := defScope s_BodyForm_add) (by decide +kernel)) (fun _ _ _ _ _ => (pg_name (i := 6) sc_BodyForm_add.nd rfl (.inl rfl))) (fun _ _ _ _ _ => pts_nil) (fun _ _ _ _ _ => (pe_tup (pa_cons pe_str (pa_cons (pv 6) (pa_cons pe_int pa_nil))))))))) pss_nil)
      (pss_cons (ps_if (pt_cmpR op_in_seq (pe_ix ix_tup (pv 1) pe_int (fun _ _ => rfl)) (pe_gr hcl) (by with_unfolding_all rfl)) (pss_one (ps_set (i := 4) sc_BodyForm_add.nd rfl (.inl rfl) (pe_op op_cat (pe_op op_cat (pe_lst (pa_cons (pe_tup (pa_cons pe_str (pa_cons pe_int (pa_cons pe_int pa_nil)))) pa_nil)) (pv 4)) (pe_lst (pa_cons (pe_tup (pa_cons pe_str (pa_cons (pe_un un_neg pe_int) (pa_cons pe_int pa_nil)))) pa_nil))))) pss_nil)
      (pss_one (ps_expr (pe_bm PySem.F.plainAttrs_list PySem.F.slot_list_extend PySem.F.type_list_extend mt_extend (pe_fld (pv 0) rfl) (pa_cons (RT.pe_listRev rfl rfl B.list rfl B.reversed (pe_callTy call_list_of (by rfl) B.list boot_list (pa_cons (pv 4) pa_nil))) pa_nil)))))))), ?_⟩
    refine ⟨_, rfl, b.m, b.dx, _, rfl, bf.m, rfl, _, rfl, b.m, H0, c, v, rfl, Tu.same bf.s, hC, fun p hp => ?_⟩
    have s1 := same_new (o := .lst []) hp
    refine ⟨_, rfl, H0, c, v, rfl, (Tu.same bf.s).trans (Tu.same s1), hC, fun H2 l ks s2 hl hks kk k4 => ?_⟩
    have s12 := s1.trans s2
    refine ⟨l, rfl, ⟨ks, SqL.of hks⟩, fun Dn hD => lc_rel (walk_list (xs := ks)) (fun i H' x => ∃ k, c.kids[i]? = some k ∧ IsTask H0 H' (k, deep) x) (fun i H1 H2 v t h => let ⟨k, e, h⟩ := h; ⟨k, e, h.mono t⟩) (Nat.le_trans k4 (by decide)) hD (fun H3 s3 => SqL.of (s3 _ _ hks)) (fun i H x H' _ y => yat_same i H x H' y) (fun i x H3 H4 Kt hi s3 s4 y k => ?_) (fun H3 acc s3 hacc hlen hr' => ?_)⟩
    · obtain ⟨rfl, hx⟩ := y
      obtain ⟨kc, hkc, hk2⟩ := kk.at hx
      refine ⟨rfl, _, rfl, _, rfl, (by show 3 ≤ sizeLine; decide), fun t ht => k _ _ (same_new ht) ⟨kc, hkc, t, x, rfl, upd_same, hk2⟩⟩
    · have s13 := s12.trans s3
      have hS : ∀ {H'}, Same H H' → ∃ a ps, v = .ref a ∧ SqT K H' a (.str c.word :: ps) := fun {H'} s => by
        obtain ⟨a, ps, _, e, h, _⟩ := hC.view
        exact ⟨a, ps, e, SqT.of (s _ _ (bf.s _ _ h))⟩
      obtain ⟨a, ps, rfl, ha⟩ := hS s13
      refine ⟨_, rfl, false, .inl ⟨[], SqL.of (s3 _ _ (s2 _ _ upd_same)), rfl⟩, iteF ?_⟩
      have e : inV (.str c.word) [.str "late", .str "once", .str "fun"] = false := by cases c <;> rfl
      refine ⟨_, rfl, a, _, _, _, rfl, rfl, ha, atI_nat (j := 0) rfl, cl, _, rfl, .inr (.inr hcl2), rfl, rfl, _, rfl, iff_ e ?_⟩
      have bf3 := bf.mono s13
      refine ⟨_, rfl, _, C, b.dx, _, _, rfl, bf3.m, D.cBodyForm, D.no "tasks", rfl, .inl ⟨rfl, _, SqL.of bf3.lt⟩, _, rfl, Dn, acc, rfl, .inl (SqL.of hacc), fun l1 hl1 => ⟨l1, acc, rfl, SqL.of upd_same, fun l2 hl2 => ?_⟩⟩
      have bf4 := (bf3.mono (same_new (o := .lst acc) hl1)).mono (same_new (o := .lst acc.reverse) hl2)
      refine ⟨b.lt, l2, tvs, acc.reverse, rfl, rfl, bf4.lt, upd_same, ?_, ?_⟩
      · rw [List.length_reverse, hlen]
        omega
      · have t4 : Tu H3 (upd (upd (upd H3 l1 (.lst acc)) l2 (.lst acc.reverse)) b.lt (.lst (tvs ++ acc.reverse))) := ((Tu.new hl1).trans (Tu.new hl2)).trans (Tu.at bf4.lt)
        refine q _ acc.reverse bf4.put ((Tu.same s13).trans t4) ⟨?_, fun i x hx => ?_⟩
        · rw [List.length_reverse, hlen, kk.len]
          unfold tasksOf
          rw [List.length_reverse, List.length_map]
        · have hi : i < acc.reverse.length := (List.getElem?_eq_some_iff.mp hx).1
          rw [List.length_reverse] at hi
          rw [List.getElem?_reverse hi] at hx
          obtain ⟨k, e1, h1⟩ := hr' _ _ hx
          refine ⟨(k, deep), ?_, h1.mono t4⟩
          unfold tasksOf
          have hkl : acc.length = c.kids.length := by rw [hlen, kk.len]
          rw [List.getElem?_reverse (by rw [List.length_map]; omega), List.getElem?_map, List.length_map, ← hkl, e1]
          rfl
end
end K9
end
section
set_option Elab.async false
set_option linter.all false
set_option maxRecDepth 100000
set_option maxHeartbeats 4000000
namespace K9
open PySem PySem.Spec PyProof.Rows L2
section
variable {P : Program} {w : World} {K : PySem.W.Frag} {mg : Str → Option Value} {base : Heap} {f C d : Addr} {fd : FuncData}
def spIsC (C : Addr) : Sp := fun vs H Q _ => ∃ (H0 : Hp) (b : Bf) (tvs : List V) (core : Core9) (c : C9) (v : V) (deep : Nat), vs = [.ref b.m, v, .int deep] ∧ BfOk H0 H C b tvs ∧ IsCore H0 core b.core ∧ IsC H0 c v ∧ OkC core b.p c ∧ (∀ t ∈ core.tabs, HasP core 1 t.begin) ∧ tvs.length + 4 ≤ sizeLine ∧ ∀ H' nv, BfOk H0 H' C b (tvs ++ nv) → Tu H H' → At (IsTask H0) H' (tasksOf c.kids (deep + 1)) nv → Q (.bl true) H'
theorem c9len (c : C9) : c.sorts.length ≤ 4 := by cases c <;> (unfold C9.sorts; simp)
theorem ok_is_c (F : Fun K "is_c" "BodyForm.is_c" s_BodyForm_is_c f fd) (B : Blt mg) (D : Ds3 P w K mg base C d) (M1 : Mn P w K mg base CX0 C "bound_by" 1 2 spBoundBy) (M2 : Mn P w K mg base CX0 C "binds" 3 2 spBinds) (M3 : Mn P w K mg base CX0 C "has_many" 1 2 (spHasMany C)) (M4 : Mn P w K mg base CX0 C "fits" 3 3 (spFits C)) (M5 : Mn P w K mg base CX0 C "add" 2 3 (spAdd C)) : FnOk P w K mg base CX0 4 f fd ["self", "c", "deep"] (spIsC C) := by
  obtain ⟨es, en, hcf⟩ := D.forms.dic
  refine F.ok sc_BodyForm_is_c (fun vs H Q E h => ?_) (fun cdv A outer s H vs Q E hr h => ?_)
  · obtain ⟨H0, b, tvs, core, c, v, deep, rfl, _⟩ := h
    rfl
  · obtain ⟨H0, b, tvs, core, c, v, deep, rfl, bf, hCore, hC, ok, hb, hz, q⟩ := h
    refine ⟨_, (pss_cons (ps_if (PW.pt (pw_or (pt_not (pt_val (pe_callB call_isi (by rfl) B.isinstance (by decide +kernel) (pa_cons (pv 1) (pa_cons (pe_bltn (v := .ty "tuple") (u := .type "tuple") rfl B.tuple (by decide +kernel) rfl) pa_nil))))) (pw_or (pt_not (pt_truth (pv 1) (fun _ => rfl))) (pw_or (pt_not (pt_val (pe_callB call_isi (by rfl) B.isinstance (by decide +kernel) (pa_cons (pe_ix ix_tup (pv 1) pe_int (fun _ _ => rfl)) (pa_cons (pe_bltn (v := .ty "str") (u := .type "str") rfl B.str (by decide +kernel) rfl) pa_nil))))) (pw_or1 (pt_cmpR (op_notIn_kd hcf) (pe_ix ix_tup (pv 1) pe_int (fun _ _ => rfl)) (pe_gr D.CFORMS) (by with_unfolding_all rfl))))))) (pss_one (ps_ret pe_bl)) pss_nil)
      (pss_cons (ps_set (i := 3) sc_BodyForm_is_c.nd rfl (.inl rfl) (pe_ix ix_kdict (pe_gr D.CFORMS) (pe_ix ix_tup (pv 1) pe_int (fun _ _ => rfl)) (fun _ _ => rfl)))
      (pss_cons (ps_if (pt_cmpR op_ne (pe_callB call_len_seq (by rfl) B.len PySem.boot_len (pa_cons (pv 1) pa_nil)) (pe_op op_add pe_int (pe_callB call_len_seq (by rfl) B.len PySem.boot_len (pa_cons (pv 3) pa_nil))) (nomark _)) (pss_one (ps_ret pe_bl)) pss_nil)
      (pss_cons (ps_if (pt_not (pt_val (pe_callB (cr_all rfl) (by rfl) B.all (by decide +kernel) (pa_cons (pe_lc (own := [("sort", 4), ("part", 5)]) (g := (gTup K 2 (gCons (gName 4) (gCons (gName 5) gNil)))) (tt := tYes) rfl sc_BodyForm_is_c.nd (RZ.pi_zipA rfl B.zip (pa_cons (pv 3) (pa_cons (pe_slice sl_tup (pv 1) (po_some pe_int) po_none) pa_nil))) (blkOk_by (N := ["self", "c", "deep", "form", "sort", "part"]) (sc := defScope s_BodyForm_is_c) (by decide +kernel)) (fun _ _ _ _ _ => (pg_tup rfl (pgs_cons (pg_name (i := 4) sc_BodyForm_is_c.nd rfl (.inl rfl)) (pgs_cons (pg_name (i := 5) sc_BodyForm_is_c.nd rfl (.inl rfl)) pgs_nil)))) (fun _ _ _ _ _ => pts_nil) (fun _ _ _ _ _ => (pe_mn D.cBodyForm M4 (hr.mono (by decide)) pass0 (pv 0) (pa_cons (pv 4) (pa_cons (pv 5) pa_nil))))) pa_nil)))) (pss_one (ps_ret pe_bl)) pss_nil)
      (pss_cons (ps_if (PW.pt (pw_and (pt_cmpR op_eq (pe_ix ix_tup (pv 1) pe_int (fun _ _ => rfl)) pe_str (nomark _)) (pw_and1 (PW.pt (pw_or (pt_cmpR op_gt (pe_fld (pv 0) rfl) pe_int (nomark _)) (pw_or1 (pt_cmpR op_eq (pe_fld (pv 0) rfl) pe_int (nomark _)))))))) (pss_one (ps_ret pe_bl)) pss_nil)
      (pss_cons (ps_if (PW.pt (pw_or (pt_not (pt_val (pe_mn D.cBodyForm M3 (hr.mono (by decide)) pass0 (pv 0) (pa_cons (pv 1) pa_nil)))) (pw_or1 (pt_not (pt_val (pe_mn D.cBodyForm M2 (hr.mono (by decide)) pass0 (pv 0) (pa_cons (pe_mn D.cBodyForm M1 (hr.mono (by decide)) pass0 (pv 0) (pa_cons (pv 1) pa_nil)) pa_nil))))))) (pss_one (ps_ret pe_bl)) pss_nil)
      (pss_cons (ps_expr (pe_mn D.cBodyForm M5 (hr.mono (by decide)) pass0 (pv 0) (pa_cons (pv 1) (pa_cons (pe_op op_add (pv 2) pe_int) pa_nil))))
      (pss_one (ps_ret pe_bl))))))))), ?_⟩
    have hCv := hC
    obtain ⟨a, ps, ks, rfl, ha0, hP, hK, hk4⟩ := hC.view
    obtain ⟨ft, hft, hns⟩ := D.forms.row c
    obtain ⟨ft', hft', hkd⟩ := D.forms.at c
    have fit := hCv.fits ok rfl ha0
    have hl := hP.len
    have hSt : ∀ {H'}, Same H H' → SqT K H' a (.str c.word :: ps) := fun {H'} s => SqT.of (s _ _ (bf.s _ _ ha0))
    have hS := hSt (Same.refl H)
    refine ⟨_, rfl, _, _, _, _, true, rfl, .ty _, tyT hS, kit_ty (by decide +kernel), _, rfl, iteF ?_⟩
    refine ⟨_, rfl, true, .inr (.inl ⟨_, hS, rfl⟩), iteF ?_⟩
    refine ⟨_, rfl, a, _, _, _, rfl, rfl, hS, atI_nat (j := 0) rfl, _, _, _, _, true, rfl, .ty _, .base (.str _), kit_ty (by decide +kernel), _, rfl, iteF ?_⟩
    refine ⟨_, rfl, a, _, _, _, rfl, rfl, hS, atI_nat (j := 0) rfl, c.word, some (.ref ft), rfl, rfl, hns, _, rfl, iteF ?_⟩
    refine ⟨_, rfl, a, _, _, _, rfl, rfl, hS, atI_nat (j := 0) rfl, d, c.word, .ref ft', rfl, rfl, hkd, ?_⟩
    refine ⟨_, rfl, a, _, rfl, .inr hS, _, rfl, ft', _, rfl, .inr (.inr hft'), _, _, rfl, rfl, rfl, _, rfl, iff_ ?_ ?_⟩
    · rw [dec_vi, List.length_cons, List.length_map, hl, decide_eq_true (by omega)]
      rfl
    refine ⟨_, rfl, _, rfl, 1, rfl, a, _, rfl, hS, cutNot _ _, fun t ht => ?_⟩
    have s1 := same_new (o := .tup (cutV (V.str c.word :: ps) (some 1) none)) ht
    rw [cut1] at s1 ⊢
    refine ⟨ft', t, c.sorts.map V.str, ps, rfl, .inr ⟨.inr hft', SqT.of upd_same, fun Dn hD => lc_map (walk_zipT (xs := c.sorts.map V.str) (ys := ps) (n := ps.length) (by rw [List.length_map, hl, Nat.min_self])) (fun _ => V.bl true) (by rw [hl]; exact Nat.le_trans (c9len c) (by decide)) hD (fun H1 s1' => ⟨.inr hft', SqT.of (s1' _ _ upd_same)⟩) (fun i H x H' _ y => ypair_same i H x H' y) (fun i x H1 H2 Kt hi s2 s3 y k => ?_) (fun H2 s2 h2 => ?_)⟩⟩
    · obtain ⟨T, u, v, rfl, hT, rfl, hu, hv⟩ := y
      have hu' : (c.sorts.map V.str)[i]? = some u := hu
      have hv' : ps[i]? = some v := hv
      obtain ⟨so, hso, rfl⟩ : ∃ so, c.sorts[i]? = some so ∧ u = V.str so := by
        rw [List.getElem?_map] at hu'
        cases e : c.sorts[i]? with
        | none => rw [e] at hu'; cases hu'
        | some z => rw [e] at hu'; exact ⟨z, rfl, (Option.some.inj hu').symm⟩
      have bf2 := bf.mono (s1.trans s3)
      refine ⟨T, _, rfl, SqT.of upd_same, rfl, _, _, rfl, _, _, rfl, rfl, rfl, ?_⟩
      exact ⟨_, rfl, b.m, b.dx, _, rfl, bf2.m, rfl, _, rfl, _, rfl, H0, b, tvs, core, so, v, rfl, bf2, hCore, fit i so v hso hv', k⟩
    · have s12 := s1.trans s2
      refine ⟨Dn, List.replicate ps.length true, rfl, ?_, _, rfl, iff_ ?_ ?_⟩
      · rw [List.map_replicate, ← map_const_range]
        exact SqL.of h2
      · have e : (List.replicate ps.length true).all id = true := by
          rw [List.all_replicate]
          simp
        rw [e]
        rfl
      · have hS2 := hSt s12
        have bf2 := bf.mono s12
        refine ⟨_, rfl, a, _, _, _, rfl, rfl, hS2, atI_nat (j := 0) rfl, rfl, _, rfl, ?_⟩
        rw [dec_vs, decide_eq_false (c.ne "fill")]
        refine iteF ?_
        refine ⟨_, rfl, b.m, b.dx, _, rfl, bf2.m, rfl, _, rfl, H0, b, tvs, core, c, .ref a, b.p, rfl, bf2, hCore, hCv, ok, hb, _, rfl, iteF ?_⟩
        refine ⟨_, rfl, b.m, b.dx, _, rfl, bf2.m, rfl, _, rfl, b.m, b.dx, _, rfl, bf2.m, rfl, _, rfl, b.m, H0, c, .ref a, rfl, Tu.same bf2.s, hCv, fun p hp => ?_⟩
        have s3 := s12.trans (same_new (o := .lst []) hp)
        have bf3 := bf.mono s3
        refine ⟨b.m, p, rfl, upd_same, _, rfl, iteF ?_⟩
        refine ⟨_, rfl, b.m, b.dx, _, rfl, bf3.m, rfl, _, rfl, _, rfl, _, _, rfl, rfl, H0, b, tvs, c, .ref a, deep + 1, rfl, bf3, hCv, hz, fun H4 nv bf4 t4 a4 => ?_⟩
        exact q H4 nv bf4 ((Tu.same s3).trans t4) a4
end
end K9
end
section
set_option Elab.async false
set_option linter.all false
set_option maxRecDepth 100000
set_option maxHeartbeats 4000000
namespace K9
open PySem PySem.Spec PyProof.Rows L2
def sizes : List (C9 × Nat) → Nat
  | [] => 0
  | t :: r => t.1.size + sizes r
theorem sizes_app : ∀ (a b : List (C9 × Nat)), sizes (a ++ b) = sizes a + sizes b
  | [], b => by simp [sizes]
  | t :: r, b => by
    show t.1.size + sizes (r ++ b) = t.1.size + sizes r + sizes b
    rw [sizes_app r b, Nat.add_assoc]
theorem C9.size_pos (c : C9) : 1 ≤ c.size := by cases c <;> (unfold C9.size; omega)
theorem sizes_len : ∀ (a : List (C9 × Nat)), a.length ≤ sizes a
  | [] => Nat.zero_le _
  | t :: r => by
    have h1 := sizes_len r
    have h2 := t.1.size_pos
    show r.length + 1 ≤ t.1.size + sizes r
    omega
theorem sizes_kids (c : C9) (d : Nat) : sizes (tasksOf c.kids d) + 1 = c.size := by
  cases c <;> (unfold tasksOf C9.kids C9.size; simp [sizes]) <;> omega
theorem At.app {α : Type} {R : Hp → α → V → Prop} {H : Hp} {xs ys : List α} {vs us : List V} (h : At R H xs vs) (k : At R H ys us) : At R H (xs ++ ys) (vs ++ us) := by
  refine ⟨by rw [List.length_append, List.length_append, h.1, k.1], fun i v e => ?_⟩
  by_cases c : i < vs.length
  · rw [List.getElem?_append_left c] at e
    rw [List.getElem?_append_left (by rw [← h.1]; exact c)]
    exact h.2 i v e
  · rw [List.getElem?_append_right (by omega)] at e
    rw [List.getElem?_append_right (by rw [← h.1]; omega), ← h.1]
    exact k.2 _ v e
theorem At.one {α : Type} {R : Hp → α → V → Prop} {H : Hp} {x : α} {v : V} (h : R H x v) : At R H [x] [v] := by
  refine ⟨rfl, fun i u e => ?_⟩
  cases i with
  | zero => simp at e; subst e; exact ⟨x, rfl, h⟩
  | succ i => simp at e
theorem At.nil {α : Type} {R : Hp → α → V → Prop} {H : Hp} : At R H [] [] := ⟨rfl, fun i u e => by simp at e⟩
theorem At.last {α : Type} {R : Hp → α → V → Prop} {H : Hp} {xs : List α} {v : V} {vs : List V} (h : At R H xs (vs ++ [v])) : ∃ ys y, xs = ys ++ [y] ∧ At R H ys vs ∧ R H y v := by
  have hl := h.1
  rw [List.length_append, List.length_singleton] at hl
  obtain ⟨ys, y, rfl⟩ : ∃ ys y, xs = ys ++ [y] := by
    rcases List.eq_nil_or_concat xs with rfl | ⟨ys, y, e⟩
    · simp at hl
    · exact ⟨ys, y, by rw [e, List.concat_eq_append]⟩
  rw [List.length_append, List.length_singleton] at hl
  have hl' : vs.length = ys.length := by omega
  refine ⟨ys, y, rfl, ⟨hl', fun i u e => ?_⟩, ?_⟩
  · have hi : i < vs.length := (List.getElem?_eq_some_iff.mp e).1
    obtain ⟨x, e1, r⟩ := h.2 i u (by rw [List.getElem?_append_left hi]; exact e)
    rw [List.getElem?_append_left (by omega)] at e1
    exact ⟨x, e1, r⟩
  · obtain ⟨x, e1, r⟩ := h.2 vs.length v (by rw [List.getElem?_append_right (Nat.le_refl _), Nat.sub_self]; rfl)
    rw [hl', List.getElem?_append_right (Nat.le_refl _), Nat.sub_self] at e1
    have e2 : y = x := by simpa using e1
    rw [e2]
    exact r
theorem OkC.kids {core : Core9} {p : Nat} : ∀ {c : C9}, OkC core p c → ∀ k ∈ c.kids, OkC core p k ∧ k.deep + 1 ≤ c.deep
  | .unit, _, k, h => by cases h
  | .loc, _, k, h => by cases h
  | .thn a b, ok, k, h => by
    have h' : k = a ∨ k = b := by simpa [C9.kids] using h
    rcases h' with rfl | rfl
    · exact ⟨ok.1, by show _ ≤ 1 + max _ _; omega⟩
    · exact ⟨ok.2, by show _ ≤ 1 + max _ _; omega⟩
  | .dir _ a, ok, k, h => by
    have h' : k = a := by simpa [C9.kids] using h
    subst h'
    exact ⟨ok.2, by show _ ≤ 1 + _; omega⟩
  | .snd a _, ok, k, h => by
    have h' : k = a := by simpa [C9.kids] using h
    subst h'
    exact ⟨ok.2, by show _ ≤ 1 + _; omega⟩
  | .mak _, _, k, h => by cases h
  | .sgl _, _, k, h => by cases h
section
variable {P : Program} {w : World} {K : PySem.W.Frag} {mg : Str → Option Value} {base : Heap} {f C d : Addr} {fd : FuncData}
def spBfHolds (C : Addr) : Sp := fun vs H Q _ => ∃ (H0 : Hp) (b : Bf) (tvs : List V) (core : Core9) (c : C9), vs = [.ref b.m] ∧ BfOk H0 H C b tvs ∧ IsCore H0 core b.core ∧ IsC H0 c b.cv ∧ OkC core b.p c ∧ (∀ t ∈ core.tabs, HasP core 1 t.begin) ∧ c.deep ≤ 200 ∧ c.size ≤ 10000 ∧ ∀ H', Same H0 H' → Q (.bl true) H'
theorem ok_bf_holds (F : Fun K "holds" "BodyForm.holds" s_BodyForm_holds f fd) (B : Blt mg) (G : Glo mg) (D : Ds3 P w K mg base C d) (M : Mn P w K mg base CX0 C "is_c" 4 3 (spIsC C)) : FnOk P w K mg base CX0 5 f fd ["self"] (spBfHolds C) := by
  refine F.ok sc_BodyForm_holds (fun vs H Q E h => ?_) (fun cdv A outer s H vs Q E hr h => ?_)
  · obtain ⟨H0, b, tvs, core, c, rfl, _⟩ := h
    rfl
  · obtain ⟨H0, b, tvs, core, c, rfl, bf, hCore, hC, ok, hb, hdp, hsz, q⟩ := h
    refine ⟨_, (pss_cons (ps_fld (pv 0) (pe_lst (pa_cons (pe_tup (pa_cons pe_str (pa_cons (pe_fld (pv 0) rfl) (pa_cons pe_int pa_nil)))) pa_nil)) rfl)
      (pss_cons (ps_while PassesOwn.never (pt_truth (pe_fld (pv 0) rfl) (fun _ => rfl)) (pss_cons (ps_asg (pe_bm0 PySem.F.plainAttrs_list PySem.F.slot_list_pop PySem.F.type_list_pop mt_pop (pe_fld (pv 0) rfl)) (pg_tup rfl (pgs_cons (pg_name (i := 1) sc_BodyForm_holds.nd rfl (.inl rfl)) (pgs_cons (pg_name (i := 2) sc_BodyForm_holds.nd rfl (.inl rfl)) (pgs_cons (pg_name (i := 3) sc_BodyForm_holds.nd rfl (.inl rfl)) pgs_nil)))))
      (pss_one (ps_if (pt_cmpR op_eq (pv 1) pe_str (nomark _)) (pss_one (ps_dput (hu_of hr) (pe_fld (pv 0) rfl) (pv 2) pe_bl rfl)) (pss_one (ps_if (pt_cmpR op_eq (pv 1) pe_str (nomark _)) (pss_one ps_never) (pss_one (ps_if (pt_cmpR op_eq (pv 1) pe_str (nomark _)) (pss_one (ps_fldaug (pv 0) (pv 2) in_add)) (pss_one (ps_if (PW.pt (pw_or (pt_cmpR op_gt (pv 3) (pe_gi G.CS_DEEP) (nomark _)) (pw_or1 (pt_not (pt_val (pe_mn D.cBodyForm M (hr.mono (by decide)) pass0 (pv 0) (pa_cons (pv 2) (pa_cons (pv 3) pa_nil)))))))) (pss_one (ps_ret pe_bl)) pss_nil))))))))))
      (pss_one (ps_ret (pe_cmpR op_eq (pe_callB call_lenD (by rfl) B.len PySem.boot_len (pa_cons (pe_fld (pv 0) rfl) pa_nil)) (pe_op op_sub (pe_fld (pv 0) rfl) (pe_fld (pv 0) rfl)) (nomark _)))))), ?_⟩
    refine ⟨_, rfl, _, C, b.dx, _, _, rfl, bf.m, D.cBodyForm, D.no "c", rfl, (by show 3 ≤ sizeLine; decide), fun t ht => ⟨(by show 1 ≤ sizeLine; decide), fun l hl => ?_⟩⟩
    have s1 := same_new (o := .tup [V.str "c", b.cv, V.int 1]) ht
    have ht1 : upd H t (.tup [V.str "c", b.cv, V.int 1]) t = some (.tup [V.str "c", b.cv, V.int 1]) := upd_same
    generalize upd H t (.tup [V.str "c", b.cv, V.int 1]) = H1 at s1 ht1 hl ⊢
    have bf1 := bf.mono s1
    have s2 := same_new (o := .lst [V.ref t]) hl
    have hl2 : upd H1 l (.lst [V.ref t]) l = some (.lst [V.ref t]) := upd_same
    have hl0 : H0 l = none := by
      cases e : H0 l with
      | none => rfl
      | some o => rw [bf1.s _ _ e] at hl; cases hl
    generalize upd H1 l (.lst [V.ref t]) = H2 at s2 hl2 ⊢
    have bf2 := bf1.mono s2
    refine ⟨_, rfl, b.m, C, b.dx, b.fs, rfl, bf2.m, D.cBodyForm, D.no "tasks", by show 8 < 1000; decide, ?_⟩
    have bf3 : BfOk H0 (upd H2 b.m (.ins C b.dx (putF "tasks" (.ref l) b.fs))) C { b with lt := l } [.ref t] := by
      have ne : ∀ {q : Addr} {o : HO}, H2 q = some o → (∀ fs, o ≠ .ins C b.dx fs) → q ≠ b.m := fun h1 h2 e => by
        rw [e, bf2.m] at h1
        exact h2 _ (Option.some.inj h1).symm
      exact ⟨fro bf2.m0 bf2.s, bf2.m0, hl0, upd_same, (upd_ne (ne bf2.ri fun _ z => by cases z)).trans bf2.ri, (upd_ne (ne bf2.bo fun _ z => by cases z)).trans bf2.bo, (upd_ne (ne hl2 fun _ z => by cases z)).trans hl2⟩
    have tu3 : Tu H2 (upd H2 b.m (.ins C b.dx (putF "tasks" (.ref l) b.fs))) := Tu.at bf2.m
    generalize upd H2 b.m (.ins C b.dx (putF "tasks" (.ref l) b.fs)) = H3 at bf3 tu3 ⊢
    have ht3 := tu3 _ _ (s2 _ _ ht1)
    generalize hb' : ({ b with lt := l } : Bf) = b' at bf3
    have em : b'.m = b.m := by rw [← hb']
    have ep : b'.p = b.p := by rw [← hb']
    have ec : b'.core = b.core := by rw [← hb']
    have ecv : b'.cv = b.cv := by rw [← hb']
    rw [← em]
    rw [← ep] at ok
    rw [← ec] at hCore
    refine ⟨fun n σ H' => ∃ u1 u2 u3 ts tvs, σ = [some (.ref b'.m), u1, u2, u3] ∧ BfOk H0 H' C b' tvs ∧ At (IsTask H0) H' ts tvs ∧ (∀ z ∈ ts, OkC core b'.p z.1 ∧ z.2 + z.1.deep ≤ 201) ∧ sizes ts = n ∧ n ≤ 10000, ⟨c.size, _, _, _, [(c, 1)], [.ref t], rfl, bf3, At.one ⟨t, _, rfl, ht3, hC⟩, ?_, ?_, hsz⟩, fun n σ H4 h4 => ?_⟩
    · intro z hz
      rw [List.mem_singleton] at hz
      rw [hz]
      exact ⟨ok, by show 1 + c.deep ≤ 201; omega⟩
    · show c.size + 0 = c.size
      rfl
    obtain ⟨u1, u2, u3, ts, tvs, rfl, bf4, hat, hok, hsize, hn⟩ := h4
    rcases List.eq_nil_or_concat tvs with rfl | ⟨tv', v, e⟩
    · refine ⟨_, rfl, _, C, b'.dx, _, _, rfl, bf4.m, D.cBodyForm, D.no "tasks", rfl, false, .inl ⟨[], SqL.of bf4.lt, rfl⟩, iteF ?_⟩
      refine ⟨_, rfl, _, C, b'.dx, _, _, rfl, bf4.m, D.cBodyForm, D.no "bound", rfl, b'.bo, [], rfl, bf4.bo, _, rfl, _, C, b'.dx, _, _, rfl, bf4.m, D.cBodyForm, D.no "total", rfl, _, rfl, _, C, b'.dx, _, _, rfl, bf4.m, D.cBodyForm, D.no "params", rfl, _, _, rfl, rfl, rfl, ?_⟩
      refine Eq.mp (congrArg (fun z => Q (V.bl z) H4) ?_) (q H4 bf4.s)
      rw [dec_vi]
      exact (decide_eq_true (by simp)).symm
    · rw [List.concat_eq_append] at e
      subst e
      obtain ⟨ts', ⟨c1, d1⟩, rfl, hat', ⟨ta, x, rfl, hta, hCx⟩⟩ := hat.last
      refine ⟨_, rfl, _, C, b'.dx, _, _, rfl, bf4.m, D.cBodyForm, D.no "tasks", rfl, true, .inl ⟨_, SqL.of bf4.lt, by simp⟩, iteT ?_⟩
      refine ⟨_, fun _ _ h => h, ?_⟩
      have edl : (tv' ++ [V.ref ta]).dropLast = tv' := List.dropLast_concat
      refine ⟨_, rfl, _, C, b'.dx, _, _, rfl, bf4.m, D.cBodyForm, D.no "tasks", rfl, .inl ⟨rfl, _, SqL.of bf4.lt⟩, b'.lt, _, .ref ta, rfl, rfl, bf4.lt, by simp, ?_⟩
      rw [edl]
      have bf5 : BfOk H0 (upd H4 b'.lt (.lst tv')) C b' tv' := bf4.put
      have tu5 : Tu H4 (upd H4 b'.lt (.lst tv')) := Tu.at bf4.lt
      generalize upd H4 b'.lt (.lst tv') = H5 at bf5 tu5 ⊢
      refine ⟨ta, _, rfl, SqT.of (tu5 _ _ hta), rfl, _, _, rfl, _, _, rfl, _, _, rfl, rfl, ?_⟩
      have hz1 := hok _ (List.mem_append_right ts' (List.mem_singleton.mpr rfl))
      have hsz' : sizes ts' + c1.size = n := by
        rw [sizes_app] at hsize
        exact hsize
      have hl' : tv'.length ≤ 10000 := by
        have h1 := sizes_len ts'
        have h2 := hat'.1
        omega
      refine ⟨_, rfl, rfl, _, rfl, iteF ⟨_, rfl, rfl, _, rfl, iteF ⟨_, rfl, rfl, _, rfl, iteF ?_⟩⟩⟩
      refine ⟨_, rfl, _, _, rfl, rfl, _, rfl, iff_ (decide_eq_false (by have := hz1.2; omega)) ?_⟩
      refine ⟨_, rfl, b'.m, b'.dx, _, rfl, bf5.m, rfl, _, rfl, _, rfl, H0, b', tv', core, c1, x, d1, rfl, bf5, hCore, hCx, hz1.1, hb, Nat.le_trans (show tv'.length + 4 ≤ 10004 by omega) (by decide), fun H6 nv bf6 t6 a6 => ⟨_, rfl, iteF ?_⟩⟩
      have hs1 := sizes_kids c1 (d1 + 1)
      refine ⟨sizes (ts' ++ tasksOf c1.kids (d1 + 1)), ?_, _, _, _, ts' ++ tasksOf c1.kids (d1 + 1), tv' ++ nv, rfl, bf6, (hat'.mono fun _ _ => IsTask.mono (tu5.trans t6)).app a6, fun z hz => ?_, rfl, ?_⟩
      · rw [sizes_app]
        omega
      · rcases List.mem_append.mp hz with hz | hz
        · exact hok z (List.mem_append_left _ hz)
        · unfold tasksOf at hz
          rw [List.mem_reverse, List.mem_map] at hz
          obtain ⟨k, hk, rfl⟩ := hz
          have h1 := hz1.1.kids k hk
          have h2 := hz1.2
          exact ⟨h1.1, by show d1 + 1 + k.deep ≤ 201; omega⟩
      · rw [sizes_app]
        omega
end
end K9
end
section
set_option Elab.async false
set_option linter.all false
set_option maxRecDepth 100000
set_option maxHeartbeats 4000000
namespace K9
open PySem PySem.Spec PyProof.Rows L2
theorem sc_CoreForm_holds : FnScope ["self", "tables", "bodies", "singles", "main", "part", "most", "body", "table", "single"] ["self"] (defScope s_CoreForm_holds) := ⟨rfl, rfl, rfl, by decide +kernel, rfl, by decide +kernel, by decide +kernel⟩
theorem sc_is_core_form : FnScope ["thing"] ["thing"] (defScope s_is_core_form) := ⟨rfl, rfl, rfl, by decide +kernel, rfl, by decide +kernel, by decide +kernel⟩
theorem sc_need_core : FnScope ["thing"] ["thing"] (defScope s_need_core) := ⟨rfl, rfl, rfl, by decide +kernel, rfl, by decide +kernel, by decide +kernel⟩
theorem sc_need_count : FnScope ["thing", "most"] ["thing", "most"] (defScope s_need_count) := ⟨rfl, rfl, rfl, by decide +kernel, rfl, by decide +kernel, by decide +kernel⟩
theorem all_one {n : Nat} : (List.replicate n true).all id = true := by
  rw [List.all_replicate]
  simp
theorem ones {n : Nat} : (List.range n).map (fun _ => V.bl true) = (List.replicate n true).map V.bl := by
  rw [List.map_replicate, ← map_const_range]
section
variable {P : Program} {w : World} {K : PySem.W.Frag} {mg : Str → Option Value} {base : Heap} {f C CB : Addr} {fd : FuncData}
def spCfHolds (C : Addr) : Sp := fun vs H Q _ => ∃ (H0 : Hp) (m dx lp : Addr) (v : V) (core : Core9), vs = [.ref m] ∧ Same H0 H ∧ H0 m = none ∧ H m = some (.ins C dx [("thing", v), ("params", .ref lp)]) ∧ IsCore H0 core v ∧ WF core ∧ ∀ H', Same H0 H' → Q (.bl true) H'
theorem ok_cf_holds (F : Fun K "holds" "CoreForm.holds" s_CoreForm_holds f fd) (B : Blt mg) (G : Glo mg) (D : Ds2 P w K mg base C) (M1 : Mn P w K mg base CX0 C "is_frame" 3 2 spIsFrame) (M2 : Mn P w K mg base CX0 C "is_table" 5 2 (spIsTable C)) (M3 : Mn P w K mg base CX0 C "is_single" 3 2 (spIsSingle C)) (cb : Cls K CB) (M4 : Kn P w K mg base CX0 "BodyForm" CB 1 3 (spBfInit CB)) (M5 : Mn P w K mg base CX0 CB "holds" 5 1 (spBfHolds CB)) : FnOk P w K mg base CX0 6 f fd ["self"] (spCfHolds C) := by
  refine F.ok sc_CoreForm_holds (fun vs H Q E h => ?_) (fun cdv A outer s H vs Q E hr h => ?_)
  · obtain ⟨H0, m, dx, lp, v, core, rfl, _⟩ := h
    rfl
  · obtain ⟨H0, m, dx, lp, v, core, rfl, s0, hm0, hm, hCore, wf, q⟩ := h
    refine ⟨_, (pss_cons (ps_if (pt_not (pt_val (pe_dn D.is_row (hr.mono (by decide)) pass0 (pa_cons (pe_fld (pv 0) rfl) (pa_cons pe_int pa_nil))))) (pss_one (ps_ret pe_bl)) pss_nil)
      (pss_cons (ps_asg (pe_fld (pv 0) rfl) (pg_tup rfl (pgs_cons (pg_name (i := 1) sc_CoreForm_holds.nd rfl (.inl rfl)) (pgs_cons (pg_name (i := 2) sc_CoreForm_holds.nd rfl (.inl rfl)) (pgs_cons (pg_name (i := 3) sc_CoreForm_holds.nd rfl (.inl rfl)) (pgs_cons (pg_name (i := 4) sc_CoreForm_holds.nd rfl (.inl rfl)) pgs_nil))))))
      (pss_cons (ps_for PassesOwn.never rfl (pi_tup (pe_tup (pa_cons (pe_tup (pa_cons (pv 1) (pa_cons (pe_gi G.TABLES_MOST) pa_nil))) (pa_cons (pe_tup (pa_cons (pv 2) (pa_cons (pe_gi G.BODIES_MOST) pa_nil))) (pa_cons (pe_tup (pa_cons (pv 3) (pa_cons (pe_gi G.SINGLES_MOST) pa_nil))) pa_nil))))) (pg_tup rfl (pgs_cons (pg_name (i := 5) sc_CoreForm_holds.nd rfl (.inl rfl)) (pgs_cons (pg_name (i := 6) sc_CoreForm_holds.nd rfl (.inl rfl)) pgs_nil))) (pss_one (ps_if (PW.pt (pw_or (pt_not (pt_val (pe_callB call_isi (by rfl) B.isinstance (by decide +kernel) (pa_cons (pv 5) (pa_cons (pe_bltn (v := .ty "tuple") (u := .type "tuple") rfl B.tuple (by decide +kernel) rfl) pa_nil))))) (pw_or1 (pt_cmpR op_gt (pe_callB call_len_seq (by rfl) B.len PySem.boot_len (pa_cons (pv 5) pa_nil)) (pv 6) (nomark _))))) (pss_one (ps_ret pe_bl)) pss_nil)))
      (pss_cons (ps_if (pt_not (pt_val (pe_callB (cr_all rfl) (by rfl) B.all (by decide +kernel) (pa_cons (pe_lc (own := [("body", 7)]) (g := (gName 7)) (tt := tYes) rfl sc_CoreForm_holds.nd (pi_tup (pv 2)) (blkOk_by (N := ["self", "tables", "bodies", "singles", "main", "part", "most", "body", "table", "single"]) (sc := defScope s_CoreForm_holds) (by decide +kernel)) (fun _ _ _ _ _ => (pg_name (i := 7) sc_CoreForm_holds.nd rfl (.inl rfl))) (fun _ _ _ _ _ => pts_nil) (fun _ _ _ _ _ => (pe_mn D.cCoreForm M1 (hr.mono (by decide)) pass0 (pv 0) (pa_cons (pv 7) pa_nil)))) pa_nil)))) (pss_one (ps_ret pe_bl)) pss_nil)
      (pss_cons (ps_fld (pv 0) (pe_lc (own := [("body", 7)]) (g := (gName 7)) (tt := tYes) rfl sc_CoreForm_holds.nd (pi_tup (pv 2)) (blkOk_by (N := ["self", "tables", "bodies", "singles", "main", "part", "most", "body", "table", "single"]) (sc := defScope s_CoreForm_holds) (by decide +kernel)) (fun _ _ _ _ _ => (pg_name (i := 7) sc_CoreForm_holds.nd rfl (.inl rfl))) (fun _ _ _ _ _ => pts_nil) (fun _ _ _ _ _ => (pe_ix (ix_tupK K) (pv 7) pe_int (fun _ _ => rfl)))) rfl)
      (pss_cons (ps_if (PW.pt (pw_or (pt_not (pt_val (pe_dn D.is_number (hr.mono (by decide)) pass0 (pa_cons (pv 4) (pa_cons (pe_callB call_len_seq (by rfl) B.len PySem.boot_len (pa_cons (pv 2) pa_nil)) pa_nil))))) (pw_or1 (pt_cmpR op_ne (pe_ix ix_list (pe_fld (pv 0) rfl) (pv 4) (fun _ _ => rfl)) pe_int (nomark _))))) (pss_one (ps_ret pe_bl)) pss_nil)
      (pss_one (ps_ret (pe_and (pe_callB (cr_all rfl) (by rfl) B.all (by decide +kernel) (pa_cons (pe_lc (own := [("table", 8)]) (g := (gName 8)) (tt := tYes) rfl sc_CoreForm_holds.nd (pi_tup (pv 1)) (blkOk_by (N := ["self", "tables", "bodies", "singles", "main", "part", "most", "body", "table", "single"]) (sc := defScope s_CoreForm_holds) (by decide +kernel)) (fun _ _ _ _ _ => (pg_name (i := 8) sc_CoreForm_holds.nd rfl (.inl rfl))) (fun _ _ _ _ _ => pts_nil) (fun _ _ _ _ _ => (pe_mn D.cCoreForm M2 (hr.mono (by decide)) pass0 (pv 0) (pa_cons (pv 8) pa_nil)))) pa_nil)) (pe_and (pe_callB (cr_all rfl) (by rfl) B.all (by decide +kernel) (pa_cons (pe_lc (own := [("single", 9)]) (g := (gName 9)) (tt := tYes) rfl sc_CoreForm_holds.nd (pi_tup (pv 3)) (blkOk_by (N := ["self", "tables", "bodies", "singles", "main", "part", "most", "body", "table", "single"]) (sc := defScope s_CoreForm_holds) (by decide +kernel)) (fun _ _ _ _ _ => (pg_name (i := 9) sc_CoreForm_holds.nd rfl (.inl rfl))) (fun _ _ _ _ _ => pts_nil) (fun _ _ _ _ _ => (pe_mn D.cCoreForm M3 (hr.mono (by decide)) pass0 (pv 0) (pa_cons (pv 9) pa_nil)))) pa_nil)) (pe_one (pe_callB (cr_all rfl) (by rfl) B.all (by decide +kernel) (pa_cons (pe_lc (own := [("body", 7)]) (g := (gName 7)) (tt := tYes) rfl sc_CoreForm_holds.nd (pi_tup (pv 2)) (blkOk_by (N := ["self", "tables", "bodies", "singles", "main", "part", "most", "body", "table", "single"]) (sc := defScope s_CoreForm_holds) (by decide +kernel)) (fun _ _ _ _ _ => (pg_name (i := 7) sc_CoreForm_holds.nd rfl (.inl rfl))) (fun _ _ _ _ _ => pts_nil) (fun _ _ _ _ _ => (pe_mn0 cb M5 (hr.mono (by decide)) pass0 (pe_kn M4 (hr.mono (by decide)) pass0 (pa_cons (pe_fldK K (pv 0) rfl) (pa_cons (pv 7) pa_nil)))))) pa_nil))))))))))))), ?_⟩
    have hCore0 := hCore
    obtain ⟨ca, ta, ba, sa, ts, bs, ss, rfl, hca, hta, hT, hba, hB, hsa, hS⟩ := hCore
    have up : ∀ {a : Addr} {xs : List V} {H' : Hp}, H0 a = some (.tup xs) → Same H0 H' → SqT K H' a xs := fun h s => SqT.of (s _ _ h)
    refine ⟨_, rfl, _, C, dx, _, _, rfl, hm, D.cCoreForm, D.thing, rfl, ca, _, _, rfl, up hca s0, _, rfl, iteF ?_⟩
    refine ⟨_, rfl, _, C, dx, _, _, rfl, hm, D.cCoreForm, D.thing, rfl, ca, _, rfl, up hca s0, rfl, _, _, rfl, _, _, rfl, _, _, rfl, _, _, rfl, rfl, ?_⟩
    refine ⟨_, rfl, (by show 2 ≤ sizeLine; decide), fun t1 n1 => ⟨_, rfl, (by show 2 ≤ sizeLine; decide), fun t2 n2 => ⟨_, rfl, (by show 2 ≤ sizeLine; decide), fun t3 n3 => ⟨(by show 3 ≤ sizeLine; decide), fun t4 n4 => ?_⟩⟩⟩⟩
    have e1 := same_new (o := .tup [V.ref ta, V.int 60]) n1
    have h1 : upd H t1 (.tup [V.ref ta, V.int 60]) t1 = _ := upd_same
    generalize upd H t1 (.tup [V.ref ta, V.int 60]) = H1 at e1 h1 n2 n3 n4 ⊢
    have e2 := same_new (o := .tup [V.ref ba, V.int 600]) n2
    have h2 : upd H1 t2 (.tup [V.ref ba, V.int 600]) t2 = _ := upd_same
    generalize upd H1 t2 (.tup [V.ref ba, V.int 600]) = H2 at e2 h2 n3 n4 ⊢
    have e3 := same_new (o := .tup [V.ref sa, V.int 60]) n3
    have h3 : upd H2 t3 (.tup [V.ref sa, V.int 60]) t3 = _ := upd_same
    generalize upd H2 t3 (.tup [V.ref sa, V.int 60]) = H3 at e3 h3 n4 ⊢
    have e4 := same_new (o := .tup [V.ref t1, V.ref t2, V.ref t3]) n4
    have h4 : upd H3 t4 (.tup [V.ref t1, V.ref t2, V.ref t3]) t4 = _ := upd_same
    generalize upd H3 t4 (.tup [V.ref t1, V.ref t2, V.ref t3]) = H4 at e4 h4 ⊢
    have f1 := e4 _ _ (e3 _ _ (e2 _ _ h1))
    have f2 := e4 _ _ (e3 _ _ h2)
    have f3 := e4 _ _ h3
    have s4 : Same H H4 := ((e1.trans e2).trans e3).trans e4
    have each : ∀ (i : Nat) (x : V), ([V.ref t1, V.ref t2, V.ref t3] : List V)[i]? = some x → ∃ (t pa : Addr) (ps : List V) (mo : Int), x = .ref t ∧ H4 t = some (.tup [.ref pa, .int mo]) ∧ H0 pa = some (.tup ps) ∧ (ps.length : Int) ≤ mo := fun i x e => by
      match i, e with
      | 0, e => cases e; exact ⟨t1, ta, ts, 60, rfl, f1, hta, by rw [hT.1]; have := wf.nt; omega⟩
      | 1, e => cases e; exact ⟨t2, ba, bs, 600, rfl, f2, hba, by rw [hB.1]; have := wf.nb; omega⟩
      | 2, e => cases e; exact ⟨t3, sa, ss, 60, rfl, f3, hsa, by rw [hS.1]; have := wf.ns; omega⟩
      | i + 3, e => simp at e
    refine ⟨t4, rfl, ⟨_, SqT.of h4⟩, for_it (walk_tup (xs := [V.ref t1, V.ref t2, V.ref t3])) (fun i σ H' => (∃ u1 u2, σ = [some (.ref m), some (.ref ta), some (.ref ba), some (.ref sa), some (.int core.main), u1, u2, none, none, none]) ∧ Same H4 H') ⟨⟨_, _, rfl⟩, Same.refl _⟩ (fun i σ H' _ h => SqT.of (h.2 _ _ h4)) (fun i x σ H5 H6 hi h y => ?_) (fun σ H5 h => ?_)⟩
    · obtain ⟨⟨u1, u2, rfl⟩, s5⟩ := h
      obtain ⟨rfl, hx⟩ := y
      obtain ⟨t, pa, ps, mo, rfl, ht, hpa, hle⟩ := each i x hx
      have hp := up hpa ((s0.trans s4).trans s5)
      refine ⟨t, _, rfl, SqT.of (s5 _ _ ht), rfl, _, _, rfl, _, _, rfl, rfl, ?_⟩
      refine ⟨_, rfl, _, _, _, _, true, rfl, .ty _, tyT hp, kit_ty (by decide +kernel), _, rfl, iteF ?_⟩
      refine ⟨_, rfl, pa, _, rfl, .inr hp, _, rfl, _, _, rfl, rfl, _, rfl, iff_ (decide_eq_false (by omega)) ?_⟩
      exact ⟨⟨_, _, rfl⟩, s5⟩
    · obtain ⟨⟨u1, u2, rfl⟩, s5⟩ := h
      have S5 := (s0.trans s4).trans s5
      have hl : bs.length = core.bods.length := hB.1
      have hbl : bs.length ≤ sizeLine := by rw [hl]; exact Nat.le_trans wf.nb (by decide)
      refine ⟨_, rfl, ba, rfl, ⟨bs, up hba S5⟩, fun Dn hD => lc_map (walk_tup (xs := bs)) (fun _ => V.bl true) hbl hD (fun H' s' => up hba (S5.trans s')) (fun i H x H' _ y => yat_same i H x H' y) (fun i x H6 H7 Kt hi s6 s7 y k => ?_) (fun H6 s6 h6 => ?_)⟩
      · obtain ⟨rfl, hx⟩ := y
        obtain ⟨bd, hbd, r⟩ := hB.2 i x hx
        have hm7 := s7 _ _ (s5 _ _ (s4 _ _ hm))
        exact ⟨rfl, _, rfl, m, dx, _, rfl, hm7, rfl, _, rfl, m, bd, x, rfl, r.mono (Tu.same (S5.trans s7)), (wf.bod _ (List.mem_of_getElem? hbd)).1, k H7 (Same.refl _)⟩
      · rw [ones] at h6
        refine ⟨Dn, _, rfl, SqL.of h6, _, rfl, iff_ (by rw [all_one]; rfl) ?_⟩
        have S6 := S5.trans s6
        have hm6 := s6 _ _ (s5 _ _ (s4 _ _ hm))
        refine ⟨_, rfl, ba, rfl, ⟨bs, up hba S6⟩, fun D2 hD2 => lc_map (walk_tup (xs := bs)) (fun i => (fun z : Nat × C9 => V.int (z.1 : Int)) (core.bods[i]?.getD (0, .unit))) hbl hD2 (fun H' s' => up hba (S6.trans s')) (fun i H x H' _ y => yat_same i H x H' y) (fun i x H7 H8 Kt hi s7 s8 y k => ?_) (fun H7 s7 h7 => ?_)⟩
        · obtain ⟨rfl, hx⟩ := y
          obtain ⟨bd, hbd, a, xc, rfl, ha, _⟩ := hB.2 i x hx
          have e1 : core.bods[i]?.getD (0, .unit) = bd := by rw [hbd]; rfl
          refine ⟨rfl, _, rfl, a, _, _, _, rfl, rfl, up ha (S6.trans s8), rfl, ?_⟩
          have k1 := k H8 (Same.refl _)
          rw [e1] at k1
          exact k1
        · rw [range_map_getD core.bods (fun z : Nat × C9 => V.int (z.1 : Int)) (0, .unit) hl] at h7
          have S7 := S6.trans s7
          refine ⟨_, rfl, m, C, dx, _, rfl, s7 _ _ hm6, D.cCoreForm, D.params, by show 2 < 1000; decide, ?_⟩
          have S8 : Same H0 (upd H7 m (.ins C dx (putF "params" (.ref D2) [("thing", .ref ca), ("params", .ref lp)]))) := fro hm0 S7
          have hcf : CfAt (upd H7 m (.ins C dx (putF "params" (.ref D2) [("thing", .ref ca), ("params", .ref lp)]))) C m (.ref ca) (core.bods.map (·.1)) := by
            refine ⟨dx, D2, upd_same, ?_⟩
            rw [upd_ne (ne_of h7 (s7 _ _ hm6) (by intro z; cases z)), h7, List.map_map]
            rfl
          generalize upd H7 m (.ins C dx (putF "params" (.ref D2) [("thing", .ref ca), ("params", .ref lp)])) = H8 at S8 hcf ⊢
          have hps : ∀ {p n : Nat}, HasP core p n → (core.bods.map (·.1))[n]? = some p := fun {p n} h => by
            obtain ⟨b, e, e2⟩ := h
            rw [List.getElem?_map, e, ← e2]
            rfl
          obtain ⟨dx', lp', hm8, hlp8⟩ := hcf
          have hmn := wf.main.lt
          refine ⟨_, rfl, _, rfl, ba, _, rfl, .inr (up hba S8), _, _, rfl, _, rfl, iff_ ?_ ?_⟩
          · rw [decide_eq_true (by omega), decide_eq_true (by rw [hl]; omega)]
            rfl
          have hat : ((core.bods.map (·.1)).map fun n : Nat => V.int (n : Int))[core.main]? = some (V.int ((0 : Nat) : Int)) := by rw [List.getElem?_map, hps wf.main]; rfl
          refine ⟨_, rfl, _, C, dx', _, _, rfl, hm8, D.cCoreForm, D.params, rfl, _, rfl, lp', _, _, _, rfl, rfl, SqL.of hlp8, atI_nat hat, rfl, _, rfl, iteF ?_⟩
          have htl : ts.length ≤ sizeLine := by rw [hT.1]; exact Nat.le_trans wf.nt (by decide)
          have hsl : ss.length ≤ sizeLine := by rw [hS.1]; exact Nat.le_trans wf.ns (by decide)
          refine ⟨_, rfl, ta, rfl, ⟨ts, up hta S8⟩, fun D3 hD3 => lc_map (walk_tup (xs := ts)) (fun _ => V.bl true) htl hD3 (fun H' s' => up hta (S8.trans s')) (fun i H x H' _ y => yat_same i H x H' y) (fun i x H9 H10 Kt hi s9 s10 y k => ?_) (fun H9 s9 h9 => ?_)⟩
          · obtain ⟨rfl, hx⟩ := y
            obtain ⟨t, ht, r⟩ := hT.2 i x hx
            have wt := wf.tab t (List.mem_of_getElem? ht)
            exact ⟨rfl, _, rfl, m, dx', _, rfl, s10 _ _ hm8, rfl, _, rfl, m, t, x, _, core.bods.map (·.1), rfl, ⟨dx', lp', s10 _ _ hm8, s10 _ _ hlp8⟩, r.mono (Tu.same (S8.trans s10)), wt.name, wt.few, fun z hz => ⟨(wt.row z hz).1, hps (wt.row z hz).2⟩, wt.asc, hps wt.begin, k⟩
          · rw [ones] at h9
            have S9 := S8.trans s9
            have hm9 := s9 _ _ hm8
            have hlp9 := s9 _ _ hlp8
            refine ⟨D3, _, rfl, SqL.of h9, _, rfl, ift all_one ?_⟩
            refine ⟨_, rfl, sa, rfl, ⟨ss, up hsa S9⟩, fun D4 hD4 => lc_map (walk_tup (xs := ss)) (fun _ => V.bl true) hsl hD4 (fun H' s' => up hsa (S9.trans s')) (fun i H x H' _ y => yat_same i H x H' y) (fun i x H10 H11 Kt hi s10 s11 y k => ?_) (fun H10 s10 h10 => ?_)⟩
            · obtain ⟨rfl, hx⟩ := y
              obtain ⟨t, ht, r⟩ := hS.2 i x hx
              have wt := wf.sgl t (List.mem_of_getElem? ht)
              exact ⟨rfl, _, rfl, m, dx', _, rfl, s11 _ _ hm9, rfl, _, rfl, m, t, x, _, core.bods.map (·.1), rfl, ⟨dx', lp', s11 _ _ hm9, s11 _ _ hlp9⟩, r.mono (Tu.same (S9.trans s11)), wt.1, hps wt.2, k⟩
            · rw [ones] at h10
              have S10 := S9.trans s10
              have hm10 := s10 _ _ hm9
              refine ⟨D4, _, rfl, SqL.of h10, _, rfl, ift all_one ?_⟩
              refine ⟨_, rfl, ba, rfl, ⟨bs, up hba S10⟩, fun D5 hD5 => lc_map (walk_tup (xs := bs)) (fun _ => V.bl true) hbl hD5 (fun H' s' => up hba (S10.trans s')) (fun i H x H' _ y => yat_same i H x H' y) (fun i x H11 H12 Kt hi s11 s12 y k => ?_) (fun H11 s11 h11 => ?_)⟩
              · obtain ⟨rfl, hx⟩ := y
                obtain ⟨bd, hbd, a, xc, rfl, ha, hxc⟩ := hB.2 i x hx
                have wb := wf.bod bd (List.mem_of_getElem? hbd)
                have S12 := S10.trans s12
                refine ⟨rfl, _, rfl, _, C, dx', _, _, rfl, s12 _ _ hm10, D.cCoreForm, D.thing, rfl, _, rfl, fun x0 dx0 nx ndx ne => ?_⟩
                have s13 : Same H12 (upd (upd H12 dx0 (.own x0)) x0 (.ins CB dx0 [])) := (same_new ndx).trans (same_new (by rw [upd_ne (Ne.symm ne)]; exact nx))
                refine ⟨x0, dx0, .ref ca, xc, bd.1, a, rfl, upd_same, s13 _ _ (S12 _ _ ha), wb.1, fun b H' e1 e2 e3 e4 l0 oth hm' hri hbo hlt => ⟨rfl, ?_⟩⟩
                have sB : Same H12 H' := fun b' o e => oth b' (ne_of_none e nx) o (s13 _ _ e)
                have l0' : H12 b.lt = none := by
                  cases e : H12 b.lt with
                  | none => rfl
                  | some o => rw [s13 _ _ e] at l0; cases l0
                subst e1
                refine ⟨b.m, b.dx, _, rfl, hm', rfl, H12, b, [], core, bd.2, rfl, ⟨sB, nx, l0', hm', ?_, hbo, hlt⟩, ?_, ?_, ?_, fun t ht => (wf.tab t ht).begin, wb.2.2.1, wb.2.2.2, k⟩
                · rw [e4]; exact hri
                · rw [e2]; exact hCore0.mono (Tu.same S12)
                · rw [e3]; exact hxc.mono (Tu.same S12)
                · rw [e4]; exact wb.2.1
              · rw [ones] at h11
                refine ⟨D5, _, rfl, SqL.of h11, ?_⟩
                rw [all_one]
                exact q H11 (S10.trans s11)
def spIsCore : Sp := fun vs H Q _ => ∃ (core : Core9) (v : V), vs = [v] ∧ IsCore H core v ∧ WF core ∧ ∀ H', Same H H' → Q (.bl true) H'
theorem ok_is_core_form (F : Fun K "is_core_form" "is_core_form" s_is_core_form f fd) (cc : Cls K C) (M1 : Kn P w K mg base CX0 "CoreForm" C 1 2 (spCfInit C)) (M2 : Mn P w K mg base CX0 C "holds" 6 1 (spCfHolds C)) : FnOk P w K mg base CX0 7 f fd ["thing"] spIsCore := by
  refine F.ok sc_is_core_form (fun vs H Q E h => ?_) (fun cdv A outer s H vs Q E hr h => ?_)
  · obtain ⟨core, v, rfl, _⟩ := h
    rfl
  · obtain ⟨core, v, rfl, hC, wf, q⟩ := h
    refine ⟨_, (pss_one (ps_ret (pe_mn0 cc M2 (hr.mono (by decide)) pass0 (pe_kn M1 (hr.mono (by decide)) pass0 (pa_cons (pv 0) pa_nil))))), ?_⟩
    refine ⟨_, rfl, fun x dx nx ndx ne => ⟨x, dx, v, rfl, upd_same, fun lp hlp => ⟨rfl, ?_⟩⟩⟩
    have s1 : Same H (upd H dx (.own x)) := same_new ndx
    have hxm : upd H dx (.own x) x = none := by rw [upd_ne (Ne.symm ne)]; exact nx
    have s2 := s1.trans (same_new (o := .ins C dx []) hxm)
    have s3 : Same H (upd (upd (upd H dx (.own x)) x (.ins C dx [])) x (.ins C dx [("thing", v)])) := fro nx s2
    have hlx : lp ≠ x := fun e => by rw [e, upd_same] at hlp; cases hlp
    have s4 : Same H (upd (upd (upd (upd H dx (.own x)) x (.ins C dx [])) x (.ins C dx [("thing", v)])) lp (.lst [])) := s3.trans (same_new (by rw [upd_ne hlx]; exact hlp))
    have s5 : Same H (upd (upd (upd (upd (upd H dx (.own x)) x (.ins C dx [])) x (.ins C dx [("thing", v)])) lp (.lst [])) x (.ins C dx [("thing", v), ("params", .ref lp)])) := fro nx s4
    exact ⟨x, dx, _, rfl, upd_same, rfl, H, x, dx, lp, v, core, rfl, s5, nx, upd_same, hC, wf, q⟩
def spNeedCore : Sp := fun vs H Q _ => ∃ (core : Core9) (v : V), vs = [v] ∧ IsCore H core v ∧ WF core ∧ ∀ H', Same H H' → Q .non H'
theorem ok_need_core (F : Fun K "need_core" "need_core" s_need_core f fd) (D : Dn P w K mg base CX0 "is_core_form" 7 1 spIsCore) : FnOk P w K mg base CX0 8 f fd ["thing"] spNeedCore := by
  refine F.ok sc_need_core (fun vs H Q E h => ?_) (fun cdv A outer s H vs Q E hr h => ?_)
  · obtain ⟨core, v, rfl, _⟩ := h
    rfl
  · obtain ⟨core, v, rfl, hC, wf, q⟩ := h
    refine ⟨_, (pss_one (ps_if (pt_not (pt_val (pe_dn D (hr.mono (by decide)) pass0 (pa_cons (pv 0) pa_nil)))) pss_never pss_nil)), ?_⟩
    exact ⟨_, rfl, core, v, rfl, hC, wf, fun H' s => ⟨_, rfl, iteF (q H' s)⟩⟩
def spNeedCount : Sp := fun vs H Q _ => ∃ n most : Int, vs = [.int n, .int most] ∧ 0 ≤ n ∧ n ≤ most ∧ Q .non H
theorem ok_need_count (F : Fun K "need_count" "need_count" s_need_count f fd) (D : Dn P w K mg base CX0 "is_integer" 1 1 spIsInt) : FnOk P w K mg base CX0 2 f fd ["thing", "most"] spNeedCount := by
  refine F.ok sc_need_count (fun vs H Q E h => ?_) (fun cdv A outer s H vs Q E hr h => ?_)
  · obtain ⟨n, most, rfl, _⟩ := h
    rfl
  · obtain ⟨n, most, rfl, h0, h1, q⟩ := h
    refine ⟨_, (pss_one (ps_if (PW.pt (pw_or (pt_not (pt_val (pe_dn D (hr.mono (by decide)) pass0 (pa_cons (pv 0) pa_nil)))) (pw_or1 (pt_not (pt_chain op_le op_le pe_int (pv 0) (pv 1)))))) pss_never pss_nil)), ?_⟩
    refine ⟨_, rfl, n, rfl, _, rfl, iteF ?_⟩
    refine ⟨_, rfl, _, _, rfl, rfl, _, rfl, ift (decide_eq_true h0) ⟨_, rfl, _, _, rfl, rfl, _, rfl, iff_ ?_ q⟩⟩
    rw [decide_eq_true h1]
    rfl
end
end K9
end
section
set_option Elab.async false
set_option linter.all false
set_option maxRecDepth 100000
set_option maxHeartbeats 4000000
namespace K9
open PySem PySem.Spec PyProof.Rows L2
/-! the machine: its states, and how the heap holds one -/
inductive Val9 where | unit | obj (t : Nat)
inductive Tk9 where | c (k : C9) (fr : List Val9) | e (k : C9) (fr : List Val9) | swp (t : Nat) | lev | kep (i : Nat)
inductive Kp9 where | fresh | way | done (v : Val9)
structure St9 where
  tasks : List Tk9
  worths : List Val9
  once : List Kp9
  steps : Nat
  depth : Int
  begun : List Nat
/-- the classes, and the unit's object -/
structure Cl9 where
  CM : Addr
  CI : Addr
  CF : Addr
  CK : Addr
  U : Addr
structure Mc where
  m : Addr
  dx : Addr
  ta : Addr
  ba : Addr
  sa : Addr
  core : Core9
  ts : List V
  bs : List V
  ss : List V
  rw : Addr
  rws : List V
  sh : Addr
  bg : Addr
  tk : Addr
  wr : Addr
  oc : Addr
  ks : List Addr
  bound : Nat
def Mc.fs (M : Mc) (steps : Nat) (depth : Int) : List (Str × V) := [("tables", .ref M.ta), ("bodies", .ref M.ba), ("singles", .ref M.sa), ("main", .int M.core.main), ("rows", .ref M.rw), ("bound", .int M.bound), ("steps", .int steps), ("depth", .int depth), ("shown", .ref M.sh), ("begun", .ref M.bg), ("tasks", .ref M.tk), ("worths", .ref M.wr), ("once_worked", .ref M.oc)]
/-- what the machine changes -/
def Mc.mut (M : Mc) (a : Addr) : Prop := a = M.m ∨ a = M.tk ∨ a = M.wr ∨ a = M.bg ∨ a ∈ M.ks
/-- all else stays -/
def Ps (M : Mc) (H H' : Hp) : Prop := ∀ p o, ¬ M.mut p → H p = some o → H' p = some o
theorem Ps.refl {M : Mc} (H : Hp) : Ps M H H := fun _ _ _ e => e
theorem Ps.trans {M : Mc} {H H' H'' : Hp} (a : Ps M H H') (b : Ps M H' H'') : Ps M H H'' := fun p o n e => b p o n (a p o n e)
theorem Ps.same {M : Mc} {H H' : Hp} (a : Same H H') : Ps M H H' := fun p o _ e => a p o e
theorem Ps.upd {M : Mc} {H : Hp} {p : Addr} {o : HO} (h : M.mut p) : Ps M H (L2.upd H p o) := fun q u n e => by
  rw [upd_ne (fun c => n (by rw [c]; exact h))]
  exact e
def IsVal (L : Cl9) (M : Mc) (H : Hp) : Val9 → V → Prop
  | .unit, v => v = .ref L.U
  | .obj t, v => ∃ a dx sd, v = .ref a ∧ ¬ M.mut a ∧ H a = some (.ins L.CI dx [("table", .int t), ("slots", .ref sd)])
def IsFr (L : Cl9) (M : Mc) (H : Hp) (fr : List Val9) (v : V) : Prop := ∃ a dx l cvs, v = .ref a ∧ ¬ M.mut a ∧ H a = some (.ins L.CF dx [("cells", .ref l)]) ∧ ¬ M.mut l ∧ H l = some (.lst cvs) ∧ At (IsVal L M) H fr cvs
def IsTk (L : Cl9) (M : Mc) (H0 H : Hp) : Tk9 → V → Prop
  | .c k fr, v => ∃ a x y, v = .ref a ∧ ¬ M.mut a ∧ H a = some (.tup [.str "c", x, y]) ∧ IsC H0 k x ∧ IsFr L M H fr y
  | .e k fr, v => ∃ a x y, v = .ref a ∧ ¬ M.mut a ∧ H a = some (.tup [.str k.word, x, y]) ∧ IsC H0 k x ∧ IsFr L M H fr y
  | .swp t, v => ∃ a x y, v = .ref a ∧ ¬ M.mut a ∧ H a = some (.tup [.str "swap", x, y]) ∧ IsVal L M H (.obj t) x
  | .lev, v => ∃ a x y, v = .ref a ∧ ¬ M.mut a ∧ H a = some (.tup [.str "leave", x, y])
  | .kep i, v => ∃ a x y, v = .ref a ∧ ¬ M.mut a ∧ H a = some (.tup [.str "keep", .ref x, y]) ∧ M.ks[i]? = some x
def kpSt : Kp9 → Str
  | .fresh => "fresh" | .way => "under way" | .done _ => "done"
def IsKw (L : Cl9) (M : Mc) (H : Hp) : Kp9 → V → Prop
  | .done w, v => IsVal L M H w v
  | _, _ => True
def IsKp (L : Cl9) (M : Mc) (H : Hp) (k : Kp9) (a : Addr) : Prop := ∃ dx lb v, H a = some (.ins L.CK dx [("label", lb), ("c", .non), ("frame", .non), ("state", .str (kpSt k)), ("worth", v)]) ∧ IsKw L M H k v
/-- a row of a table's dict -/
def rowK (r : Str × Nat) : Key × V := (Sum.inr r.1, V.int (r.2 : Int))
def IsRw (M : Mc) (H : Hp) (t : Tab9) (v : V) : Prop := ∃ d, v = .ref d ∧ ¬ M.mut d ∧ H d = some (.dK (t.rows.map rowK))
section
variable {L : Cl9} {M : Mc} {H0 H H' : Hp}
theorem IsVal.mono (s : Ps M H H') : ∀ {x : Val9} {v : V}, IsVal L M H x v → IsVal L M H' x v
  | .unit, _, h => h
  | .obj _, _, ⟨a, dx, sd, e, n, h⟩ => ⟨a, dx, sd, e, n, s _ _ n h⟩
theorem IsFr.mono (s : Ps M H H') {fr : List Val9} {v : V} (h : IsFr L M H fr v) : IsFr L M H' fr v :=
  let ⟨a, dx, l, cvs, e, n, h1, n2, h2, h3⟩ := h
  ⟨a, dx, l, cvs, e, n, s _ _ n h1, n2, s _ _ n2 h2, h3.mono fun _ _ => IsVal.mono s⟩
theorem IsTk.mono (s : Ps M H H') : ∀ {x : Tk9} {v : V}, IsTk L M H0 H x v → IsTk L M H0 H' x v
  | .c _ _, _, ⟨a, x, y, e, n, h, h1, h2⟩ => ⟨a, x, y, e, n, s _ _ n h, h1, h2.mono s⟩
  | .e _ _, _, ⟨a, x, y, e, n, h, h1, h2⟩ => ⟨a, x, y, e, n, s _ _ n h, h1, h2.mono s⟩
  | .swp _, _, ⟨a, x, y, e, n, h, h1⟩ => ⟨a, x, y, e, n, s _ _ n h, h1.mono s⟩
  | .lev, _, ⟨a, x, y, e, n, h⟩ => ⟨a, x, y, e, n, s _ _ n h⟩
  | .kep _, _, ⟨a, x, y, e, n, h, h1⟩ => ⟨a, x, y, e, n, s _ _ n h, h1⟩
theorem IsKw.mono (s : Ps M H H') : ∀ {k : Kp9} {v : V}, IsKw L M H k v → IsKw L M H' k v
  | .done _, _, h => IsVal.mono s h
  | .fresh, _, _ => trivial
  | .way, _, _ => trivial
theorem IsRw.mono (s : Ps M H H') {t : Tab9} {v : V} (h : IsRw M H t v) : IsRw M H' t v := let ⟨d, e, n, h⟩ := h; ⟨d, e, n, s _ _ n h⟩
end
structure MOk (L : Cl9) (M : Mc) (H0 H : Hp) (s : St9) : Prop where
  same : Same H0 H
  new0 : ∀ a, M.mut a → H0 a = none
  d1 : M.tk ≠ M.wr
  d2 : M.tk ≠ M.bg
  d3 : M.wr ≠ M.bg
  dk : M.ks.Nodup
  m : H M.m = some (.ins L.CM M.dx (M.fs s.steps s.depth))
  nrw : ¬ M.mut M.rw
  rw : H M.rw = some (.lst M.rws)
  rows : At (IsRw M) H M.core.tabs M.rws
  nsh : ¬ M.mut M.sh
  sh : H M.sh = some (.lst [])
  bg : H M.bg = some (.lst (s.begun.map fun n : Nat => V.int (n : Int)))
  tk : ∃ tvs, H M.tk = some (.lst tvs) ∧ At (IsTk L M H0) H s.tasks tvs
  wr : ∃ wvs, H M.wr = some (.lst wvs) ∧ At (IsVal L M) H s.worths wvs
  noc : ¬ M.mut M.oc
  oc : H M.oc = some (.lst (M.ks.map V.ref))
  lk : M.ks.length = s.once.length
  ks : ∀ (i : Nat) (k : Kp9) (a : Addr), s.once[i]? = some k → M.ks[i]? = some a → IsKp L M H k a
  hta : H0 M.ta = some (.tup M.ts)
  tab : At IsTab H0 M.core.tabs M.ts
  hba : H0 M.ba = some (.tup M.bs)
  bod : At IsBod H0 M.core.bods M.bs
  hsa : H0 M.sa = some (.tup M.ss)
  sgl : At IsSgl H0 M.core.sgls M.ss
section
variable {L : Cl9} {M : Mc} {H0 H H' : Hp} {s : St9}
theorem insKM {C C' dx dx' : Addr} {M : Mc} {n : Nat} {d : Int} {lb st v x y : V} : HO.ins C' dx' [("label", lb), ("c", x), ("frame", y), ("state", st), ("worth", v)] ≠ .ins C dx (M.fs n d) := fun z => by
  injection z with _ _ z
  injection z with z _
  injection z with z _
  exact absurd z (by decide)
theorem MOk.km (h : MOk L M H0 H s) {a : Addr} (ha : a ∈ M.ks) : ∃ dx lb v st, H a = some (.ins L.CK dx [("label", lb), ("c", .non), ("frame", .non), ("state", .str st), ("worth", v)]) := by
  obtain ⟨i, hi⟩ := List.getElem?_of_mem ha
  have hl : i < s.once.length := by rw [← h.lk]; exact (List.getElem?_eq_some_iff.mp hi).1
  obtain ⟨dx, lb, v, e, _⟩ := h.ks i _ a (List.getElem?_eq_getElem hl) hi
  exact ⟨dx, lb, v, _, e⟩
/-- where a list of the machine's own stands, no kept one does -/
theorem MOk.kl (h : MOk L M H0 H s) {a b : Addr} {xs : List V} (ha : a ∈ M.ks) (hb : H b = some (.lst xs)) : a ≠ b := fun e => by
  obtain ⟨_, _, _, _, z⟩ := h.km ha
  rw [e, hb] at z
  cases z
theorem MOk.mono (h : MOk L M H0 H s) (k : Same H H') : MOk L M H0 H' s :=
  { h with same := h.same.trans k, m := k _ _ h.m, rw := k _ _ h.rw, rows := h.rows.mono fun _ _ => IsRw.mono (Ps.same k), sh := k _ _ h.sh, bg := k _ _ h.bg,
           tk := let ⟨t, e, a⟩ := h.tk; ⟨t, k _ _ e, a.mono fun _ _ => IsTk.mono (Ps.same k)⟩, wr := let ⟨t, e, a⟩ := h.wr; ⟨t, k _ _ e, a.mono fun _ _ => IsVal.mono (Ps.same k)⟩,
           oc := k _ _ h.oc, ks := fun i q a e1 e2 => let ⟨dx, lb, v, e, w⟩ := h.ks i q a e1 e2; ⟨dx, lb, v, k _ _ e, w.mono (Ps.same k)⟩ }
theorem MOk.ps (h : MOk L M H0 H s) {p : Addr} {o : HO} (hp : M.mut p) : Ps M H (upd H p o) := Ps.upd hp
theorem MOk.s0 (h : MOk L M H0 H s) {p : Addr} {o : HO} (hp : M.mut p) : Same H0 (upd H p o) := fro (h.new0 p hp) h.same
theorem mutM : M.mut M.m := .inl rfl
theorem mutT : M.mut M.tk := .inr (.inl rfl)
theorem mutW : M.mut M.wr := .inr (.inr (.inl rfl))
theorem mutB : M.mut M.bg := .inr (.inr (.inr (.inl rfl)))
theorem mutK {a : Addr} (h : a ∈ M.ks) : M.mut a := .inr (.inr (.inr (.inr h)))
theorem ksAt (ps : Ps M H H') {k : Kp9} {a : Addr} (e : IsKp L M H k a) (ha : H' a = H a) : IsKp L M H' k a :=
  let ⟨dx, lb, v, e, w⟩ := e; ⟨dx, lb, v, ha.trans e, w.mono ps⟩
/-- other tasks -/
theorem MOk.setT (h : MOk L M H0 H s) {ts : List Tk9} {tvs : List V} (ht : At (IsTk L M H0) H ts tvs) : MOk L M H0 (upd H M.tk (.lst tvs)) { s with tasks := ts } := by
  have ps : Ps M H (upd H M.tk (.lst tvs)) := Ps.upd mutT
  obtain ⟨t0, e0, _⟩ := h.tk
  obtain ⟨w0, w1, w2⟩ := h.wr
  have nm : M.m ≠ M.tk := ne_of h.m e0 (by intro z; cases z)
  exact { h with same := h.s0 mutT, m := (upd_ne nm).trans h.m, rw := ps _ _ h.nrw h.rw, rows := h.rows.mono fun _ _ => IsRw.mono ps, sh := ps _ _ h.nsh h.sh, bg := (upd_ne h.d2.symm).trans h.bg,
                 tk := ⟨tvs, upd_same, ht.mono fun _ _ => IsTk.mono ps⟩, wr := ⟨w0, (upd_ne h.d1.symm).trans w1, w2.mono fun _ _ => IsVal.mono ps⟩, oc := ps _ _ h.noc h.oc,
                 ks := fun i q a e1 e2 => ksAt ps (h.ks i q a e1 e2) (upd_ne (h.kl (List.mem_of_getElem? e2) e0)) }
/-- other worths -/
theorem MOk.setW (h : MOk L M H0 H s) {ws : List Val9} {wvs : List V} (hw : At (IsVal L M) H ws wvs) : MOk L M H0 (upd H M.wr (.lst wvs)) { s with worths := ws } := by
  have ps : Ps M H (upd H M.wr (.lst wvs)) := Ps.upd mutW
  obtain ⟨t0, e0, t2⟩ := h.tk
  obtain ⟨w0, w1, w2⟩ := h.wr
  have nm : M.m ≠ M.wr := ne_of h.m w1 (by intro z; cases z)
  exact { h with same := h.s0 mutW, m := (upd_ne nm).trans h.m, rw := ps _ _ h.nrw h.rw, rows := h.rows.mono fun _ _ => IsRw.mono ps, sh := ps _ _ h.nsh h.sh, bg := (upd_ne h.d3.symm).trans h.bg,
                 tk := ⟨t0, (upd_ne h.d1).trans e0, t2.mono fun _ _ => IsTk.mono ps⟩, wr := ⟨wvs, upd_same, hw.mono fun _ _ => IsVal.mono ps⟩, oc := ps _ _ h.noc h.oc,
                 ks := fun i q a e1 e2 => ksAt ps (h.ks i q a e1 e2) (upd_ne (h.kl (List.mem_of_getElem? e2) w1)) }
/-- one more begun -/
theorem MOk.setB (h : MOk L M H0 H s) {n : Nat} : MOk L M H0 (upd H M.bg (.lst ((s.begun ++ [n]).map fun n : Nat => V.int (n : Int)))) { s with begun := s.begun ++ [n] } := by
  have ps : ∀ {o}, Ps M H (upd H M.bg o) := Ps.upd mutB
  obtain ⟨t0, e0, t2⟩ := h.tk
  obtain ⟨w0, w1, w2⟩ := h.wr
  have nm : M.m ≠ M.bg := ne_of h.m h.bg (by intro z; cases z)
  exact { h with same := h.s0 mutB, m := (upd_ne nm).trans h.m, rw := ps _ _ h.nrw h.rw, rows := h.rows.mono fun _ _ => IsRw.mono ps, sh := ps _ _ h.nsh h.sh, bg := upd_same,
                 tk := ⟨t0, (upd_ne h.d2).trans e0, t2.mono fun _ _ => IsTk.mono ps⟩, wr := ⟨w0, (upd_ne h.d3).trans w1, w2.mono fun _ _ => IsVal.mono ps⟩, oc := ps _ _ h.noc h.oc,
                 ks := fun i q a e1 e2 => ksAt ps (h.ks i q a e1 e2) (upd_ne (h.kl (List.mem_of_getElem? e2) h.bg)) }
/-- the machine's own fields -/
theorem MOk.setM (h : MOk L M H0 H s) {n : Nat} {d : Int} : MOk L M H0 (upd H M.m (.ins L.CM M.dx (M.fs n d))) { s with steps := n, depth := d } := by
  have ps : ∀ {o}, Ps M H (upd H M.m o) := Ps.upd mutM
  obtain ⟨t0, e0, t2⟩ := h.tk
  obtain ⟨w0, w1, w2⟩ := h.wr
  have nl : ∀ {a : Addr} {xs : List V}, H a = some (.lst xs) → a ≠ M.m := fun e => ne_of e h.m (by intro z; cases z)
  exact { h with same := h.s0 mutM, m := upd_same, rw := ps _ _ h.nrw h.rw, rows := h.rows.mono fun _ _ => IsRw.mono ps, sh := ps _ _ h.nsh h.sh, bg := (upd_ne (nl h.bg)).trans h.bg,
                 tk := ⟨t0, (upd_ne (nl e0)).trans e0, t2.mono fun _ _ => IsTk.mono ps⟩, wr := ⟨w0, (upd_ne (nl w1)).trans w1, w2.mono fun _ _ => IsVal.mono ps⟩, oc := ps _ _ h.noc h.oc,
                 ks := fun i q a e1 e2 => ksAt ps (h.ks i q a e1 e2) (upd_ne fun e => by
                   obtain ⟨_, _, _, _, z⟩ := h.km (List.mem_of_getElem? e2)
                   rw [e, h.m] at z
                   exact insKM (Option.some.inj z).symm) }
/-- the i-th kept one -/
theorem MOk.setK (h : MOk L M H0 H s) {i : Nat} {a dx : Addr} {k : Kp9} {lb v : V} (ha : M.ks[i]? = some a) (hk : IsKw L M H k v) : MOk L M H0 (upd H a (.ins L.CK dx [("label", lb), ("c", .non), ("frame", .non), ("state", .str (kpSt k)), ("worth", v)])) { s with once := s.once.set i k } := by
  have hm : a ∈ M.ks := List.mem_of_getElem? ha
  have ps : ∀ {o}, Ps M H (upd H a o) := Ps.upd (mutK hm)
  obtain ⟨t0, e0, t2⟩ := h.tk
  obtain ⟨w0, w1, w2⟩ := h.wr
  have nm : M.m ≠ a := fun e => by
    obtain ⟨_, _, _, _, z⟩ := h.km hm
    rw [← e, h.m] at z
    exact insKM (Option.some.inj z).symm
  have hi : i < s.once.length := by rw [← h.lk]; exact (List.getElem?_eq_some_iff.mp ha).1
  refine { h with same := h.s0 (mutK hm), m := (upd_ne nm).trans h.m, rw := ps _ _ h.nrw h.rw, rows := h.rows.mono fun _ _ => IsRw.mono ps, sh := ps _ _ h.nsh h.sh, bg := (upd_ne (h.kl hm h.bg).symm).trans h.bg,
                  tk := ⟨t0, (upd_ne (h.kl hm e0).symm).trans e0, t2.mono fun _ _ => IsTk.mono ps⟩, wr := ⟨w0, (upd_ne (h.kl hm w1).symm).trans w1, w2.mono fun _ _ => IsVal.mono ps⟩, oc := ps _ _ h.noc h.oc,
                  lk := by rw [List.length_set]; exact h.lk, ks := fun j q b e1 e2 => ?_ }
  by_cases c : i = j
  · subst c
    rw [ha] at e2
    cases e2
    have e3 : (s.once.set i k)[i]? = some q := e1
    rw [List.getElem?_set_self hi] at e3
    cases e3
    exact ⟨dx, lb, v, upd_same, hk.mono ps⟩
  · have e3 : (s.once.set i k)[j]? = some q := e1
    rw [List.getElem?_set_ne c] at e3
    refine ksAt ps (h.ks j q b e3 e2) (upd_ne fun e => c ?_)
    subst e
    obtain ⟨hj1, hj2⟩ := List.getElem?_eq_some_iff.mp ha
    obtain ⟨hk1, hk2⟩ := List.getElem?_eq_some_iff.mp e2
    rcases Nat.lt_trichotomy i j with z | z | z
    · exact (List.pairwise_iff_getElem.mp h.dk i j hj1 hk1 z (hj2.trans hk2.symm)).elim
    · exact z
    · exact (List.pairwise_iff_getElem.mp h.dk j i hk1 hj1 z (hk2.trans hj2.symm)).elim
end
end K9
end
section
set_option Elab.async false
set_option linter.all false
set_option maxRecDepth 100000
set_option maxHeartbeats 4000000
namespace K9
open PySem PySem.Spec PyProof.Rows L2
theorem sc_Instance_init : FnScope ["self", "table"] ["self", "table"] (defScope s_Instance_init) := ⟨rfl, rfl, rfl, by decide +kernel, rfl, by decide +kernel, by decide +kernel⟩
theorem sc_Frame_init : FnScope ["self", "cells"] ["self", "cells"] (defScope s_Frame_init) := ⟨rfl, rfl, rfl, by decide +kernel, rfl, by decide +kernel, by decide +kernel⟩
theorem sc_Kept_init : FnScope ["self", "label", "c", "frame"] ["self", "label", "c", "frame"] (defScope s_Kept_init) := ⟨rfl, rfl, rfl, by decide +kernel, rfl, by decide +kernel, by decide +kernel⟩
theorem sc_Machine_add : FnScope ["self", "tasks"] ["self", "tasks"] (defScope s_Machine_add) := ⟨rfl, rfl, rfl, by decide +kernel, rfl, by decide +kernel, by decide +kernel⟩
theorem sc_Machine_taken : FnScope ["self", "many", "start", "worths"] ["self", "many"] (defScope s_Machine_taken) := ⟨rfl, rfl, rfl, by decide +kernel, rfl, by decide +kernel, by decide +kernel⟩
theorem sc_Machine_begin : FnScope ["self", "number", "worths", "params", "further", "c", "frame"] ["self", "number", "worths"] (defScope s_Machine_begin) := ⟨rfl, rfl, rfl, by decide +kernel, rfl, by decide +kernel, by decide +kernel⟩
theorem sc_Machine_instance : FnScope ["self", "thing"] ["self", "thing"] (defScope s_Machine_instance) := ⟨rfl, rfl, rfl, by decide +kernel, rfl, by decide +kernel, by decide +kernel⟩
def mcF : List Str := ["tables", "bodies", "singles", "main", "rows", "bound", "steps", "depth", "shown", "begun", "tasks", "worths", "once_worked"]
def kpF : List Str := ["label", "c", "frame", "state", "worth"]
structure DsM (K : PySem.W.Frag) (mg : Str → Option Value) (L : Cl9) : Prop where
  M : ClsF K L.CM mcF
  I : ClsF K L.CI ["table", "slots"]
  F : ClsF K L.CF ["cells"]
  Kp : ClsF K L.CK kpF
  i1 : PySem.W.findIn K (.ref L.CI) "__class__" = some (some (.builtin "object.__class__"))
  i2 : PySem.W.specialIn K (.builtin "object.__class__") "__get__" = some (some (.builtin "getset_descriptor.__get__"))
  i3 : PySem.W.takesIn K (.builtin "object.__class__") = some true
  i4 : PySem.W.mroIn K L.CI (.type "object") = some true
  Instance : mg "Instance" = some (.ref L.CI)
  UNIT : mg "UNIT" = some (.ref L.U)
  unit : KTup K L.U []
section
variable {K : PySem.W.Frag} {mg : Str → Option Value} {L : Cl9}
theorem DsM.cMachine (D : DsM K mg L) : Cls K L.CM := D.M.cls
theorem DsM.noM (D : DsM K mg L) (x : Str) (h : x ∈ mcF := by decide) : NoAttr K L.CM x := D.M.no x h
theorem DsM.noK (D : DsM K mg L) (x : Str) (h : x ∈ kpF := by decide) : NoAttr K L.CK x := D.Kp.no x h
end
def spFrInit (C : Addr) : Sp := fun vs H Q _ => ∃ m dx v, vs = [.ref m, v] ∧ H m = some (.ins C dx []) ∧ Q .non (upd H m (.ins C dx [("cells", v)]))
def spInInit (C : Addr) : Sp := fun vs H Q _ => ∃ m dx v, vs = [.ref m, v] ∧ H m = some (.ins C dx []) ∧ ∀ d, d ≠ m → H d = none → Q .non (upd (upd H d (.dK [])) m (.ins C dx [("table", v), ("slots", .ref d)]))
def spKpInit (C : Addr) : Sp := fun vs H Q _ => ∃ m dx v x y, vs = [.ref m, v, x, y] ∧ H m = some (.ins C dx []) ∧ Q .non (upd H m (.ins C dx [("label", v), ("c", x), ("frame", y), ("state", .str "fresh"), ("worth", .non)]))
section
variable {P : Program} {w : World} {K : PySem.W.Frag} {mg : Str → Option Value} {base : Heap} {f : Addr} {fd : FuncData} {L : Cl9}
theorem ok_fr_init (F : Fun K "__init__" "Frame.__init__" s_Frame_init f fd) (D : DsM K mg L) : FnOk P w K mg base CX0 1 f fd ["self", "cells"] (spFrInit L.CF) := by
  refine F.ok sc_Frame_init (fun vs H Q E h => ?_) (fun cdv A outer s H vs Q E hr h => ?_)
  · obtain ⟨m, dx, v, rfl, _⟩ := h
    rfl
  · obtain ⟨m, dx, v, rfl, hm, q⟩ := h
    refine ⟨_, (pss_one (ps_fld (pv 0) (pv 1) rfl)), ?_⟩
    exact ⟨_, rfl, _, rfl, m, L.CF, dx, [], rfl, hm, D.F.cls, D.F.no "cells" (by decide), by decide, q⟩
theorem ok_kp_init (F : Fun K "__init__" "Kept.__init__" s_Kept_init f fd) (D : DsM K mg L) : FnOk P w K mg base CX0 1 f fd ["self", "label", "c", "frame"] (spKpInit L.CK) := by
  refine F.ok sc_Kept_init (fun vs H Q E h => ?_) (fun cdv A outer s H vs Q E hr h => ?_)
  · obtain ⟨m, dx, v, x, y, rfl, _⟩ := h
    rfl
  · obtain ⟨m, dx, v, x, y, rfl, hm, q⟩ := h
    refine ⟨_, (pss_cons (ps_fld (pv 0) (pv 1) rfl)
      (pss_cons (ps_fld (pv 0) (pv 2) rfl)
      (pss_cons (ps_fld (pv 0) (pv 3) rfl)
      (pss_cons (ps_fld (pv 0) pe_str rfl)
      (pss_one (ps_fld (pv 0) pe_non rfl)))))), ?_⟩
    refine ⟨_, rfl, _, rfl, m, L.CK, dx, [], rfl, hm, D.Kp.cls, D.noK "label", by decide, ?_⟩
    refine ⟨_, rfl, _, rfl, m, L.CK, dx, [("label", v)], rfl, upd_same, D.Kp.cls, D.noK "c", by show 1 < 1000; decide, ?_⟩
    rw [up2]
    refine ⟨_, rfl, _, rfl, m, L.CK, dx, [("label", v), ("c", x)], rfl, upd_same, D.Kp.cls, D.noK "frame", by show 2 < 1000; decide, ?_⟩
    rw [up2]
    refine ⟨_, rfl, m, L.CK, dx, [("label", v), ("c", x), ("frame", y)], rfl, upd_same, D.Kp.cls, D.noK "state", by show 3 < 1000; decide, ?_⟩
    rw [up2]
    refine ⟨_, rfl, m, L.CK, dx, [("label", v), ("c", x), ("frame", y), ("state", .str "fresh")], rfl, upd_same, D.Kp.cls, D.noK "worth", by show 4 < 1000; decide, ?_⟩
    rw [up2]
    exact q
theorem ok_in_init (F : Fun K "__init__" "Instance.__init__" s_Instance_init f fd) (D : DsM K mg L) : FnOk P w K mg base CX0 1 f fd ["self", "table"] (spInInit L.CI) := by
  refine F.ok sc_Instance_init (fun vs H Q E h => ?_) (fun cdv A outer s H vs Q E hr h => ?_)
  · obtain ⟨m, dx, v, rfl, _⟩ := h
    rfl
  · obtain ⟨m, dx, v, rfl, hm, q⟩ := h
    refine ⟨_, (pss_cons (ps_fld (pv 0) (pv 1) rfl)
      (pss_one (ps_fld (pv 0) pe_dnewK rfl))), ?_⟩
    refine ⟨_, rfl, _, rfl, m, L.CI, dx, [], rfl, hm, D.I.cls, D.I.no "table" (by decide), by decide, fun d hd => ?_⟩
    have hdm : d ≠ m := fun e => by rw [e, upd_same] at hd; cases hd
    refine ⟨_, rfl, m, L.CI, dx, [("table", v)], rfl, (upd_ne hdm.symm).trans upd_same, D.I.cls, D.I.no "slots" (by decide), by show 1 < 1000; decide, ?_⟩
    have e : upd (upd (upd H m (.ins L.CI dx (putF "table" v []))) d (.dK [])) m (.ins L.CI dx (putF "slots" (.ref d) [("table", v)])) = upd (upd H d (.dK [])) m (.ins L.CI dx [("table", v), ("slots", .ref d)]) := by
      funext b
      unfold upd
      by_cases c : b = m
      · rw [if_pos c, if_pos c]
        rfl
      · simp only [if_neg c]
    rw [upd_ne hdm] at hd
    exact Eq.mpr (congrArg (Q V.non) e) (q d hdm hd)
theorem MOk.has {M : Mc} {H0 H : Hp} {s : St9} (h : MOk L M H0 H s) {p : Addr} (hp : H p = none) : ¬ M.mut p := fun c => by
  rcases c with rfl | rfl | rfl | rfl | c
  · rw [h.m] at hp; cases hp
  · obtain ⟨_, e, _⟩ := h.tk
    rw [e] at hp; cases hp
  · obtain ⟨_, e, _⟩ := h.wr
    rw [e] at hp; cases hp
  · rw [h.bg] at hp; cases hp
  · obtain ⟨_, _, _, _, z⟩ := h.km c
    rw [z] at hp; cases hp
def spAddM (L : Cl9) : Sp := fun vs H Q _ => ∃ (M : Mc) (H0 : Hp) (s : St9) (l : Addr) (nvs : List V) (ts : List Tk9), vs = [.ref M.m, .ref l] ∧ MOk L M H0 H s ∧ H l = some (.lst nvs) ∧ At (IsTk L M H0) H ts nvs ∧ s.tasks.length + ts.length ≤ sizeLine ∧
  ∀ H', MOk L M H0 H' { s with tasks := s.tasks ++ ts.reverse } → Ps M H H' → Q .non H'
theorem At.rev {α : Type} {R : Hp → α → V → Prop} {H : Hp} {xs : List α} {vs : List V} (h : At R H xs vs) : At R H xs.reverse vs.reverse := by
  refine ⟨by rw [List.length_reverse, List.length_reverse, h.1], fun i v e => ?_⟩
  have hi : i < vs.length := by
    have := (List.getElem?_eq_some_iff.mp e).1
    rwa [List.length_reverse] at this
  rw [List.getElem?_reverse hi] at e
  obtain ⟨x, e1, r⟩ := h.2 _ v e
  refine ⟨x, ?_, r⟩
  rw [List.getElem?_reverse (by rw [← h.1]; exact hi), ← h.1]
  exact e1
theorem ok_madd (F : Fun K "add" "Machine.add" s_Machine_add f fd) (B : Blt mg) (D : DsM K mg L) : FnOk P w K mg base CX0 1 f fd ["self", "tasks"] (spAddM L) := by
  refine F.ok sc_Machine_add (fun vs H Q E h => ?_) (fun cdv A outer s H vs Q E hr h => ?_)
  · obtain ⟨M, H0, s, l, nvs, ts, rfl, _⟩ := h
    rfl
  · obtain ⟨M, H0, s, l, nvs, ts, rfl, ok, hl, hat, hz, q⟩ := h
    refine ⟨_, (pss_one (ps_expr (pe_bm PySem.F.plainAttrs_list PySem.F.slot_list_extend PySem.F.type_list_extend mt_extend (pe_fld (pv 0) rfl) (pa_cons (RT.pe_listRev rfl rfl B.list rfl B.reversed (pe_callTy call_list_of (by rfl) B.list boot_list (pa_cons (pv 1) pa_nil))) pa_nil)))), ?_⟩
    obtain ⟨tvs, ht, ha⟩ := ok.tk
    refine ⟨_, rfl, _, L.CM, M.dx, _, _, rfl, ok.m, D.cMachine, D.noM "tasks", rfl, .inl ⟨rfl, _, SqL.of ht⟩, _, rfl, l, nvs, rfl, .inl (SqL.of hl), fun l1 n1 => ⟨l1, nvs, rfl, SqL.of upd_same, fun l2 n2 => ?_⟩⟩
    have e1 := same_new (o := .lst nvs) n1
    have e2 := e1.trans (same_new (o := .lst nvs.reverse) n2)
    refine ⟨M.tk, l2, tvs, nvs.reverse, rfl, rfl, e2 _ _ ht, upd_same, ?_, ?_⟩
    · rw [List.length_reverse, ha.1, hat.1]
      exact hz
    · have ok2 := ok.mono e2
      have ps2 : Ps M H _ := Ps.same e2
      exact q _ (ok2.setT ((ha.app hat.rev).mono fun _ _ => IsTk.mono ps2)) (ps2.trans (Ps.upd mutT))
theorem cutD (xs : List V) (k : Nat) (h : k ≤ xs.length) : cutV xs (some (k : Int)) none = xs.drop k := by
  unfold cutV
  have e1 : HT.sIx xs.length 0 (some (k : Int)) = k := by
    unfold HT.sIx
    simp
    rw [if_neg (by omega)]
    omega
  have e2 : HT.sIx xs.length xs.length none = xs.length := by
    unfold HT.sIx
    simp
  rw [e1, e2]
  apply List.take_of_length_le
  rw [List.length_drop]
  exact Nat.le_refl _
def spTaken (L : Cl9) : Sp := fun vs H Q _ => ∃ (M : Mc) (H0 : Hp) (s : St9) (ws xs : List Val9) (n : Nat), vs = [.ref M.m, .int n] ∧ MOk L M H0 H s ∧ s.worths = ws ++ xs ∧ xs.length = n ∧
  ∀ H' p vs, MOk L M H0 H' { s with worths := ws } → Ps M H H' → ¬ M.mut p → H' p = some (.lst vs) → At (IsVal L M) H' xs vs → Q (.ref p) H'
theorem ok_taken (F : Fun K "taken" "Machine.taken" s_Machine_taken f fd) (B : Blt mg) (D : DsM K mg L) : FnOk P w K mg base CX0 1 f fd ["self", "many"] (spTaken L) := by
  refine F.ok sc_Machine_taken (fun vs H Q E h => ?_) (fun cdv A outer s H vs Q E hr h => ?_)
  · obtain ⟨M, H0, s, ws, xs, n, rfl, _⟩ := h
    rfl
  · obtain ⟨M, H0, s, ws, xs, n, rfl, ok, hw, hx, q⟩ := h
    refine ⟨_, (pss_cons (ps_set (i := 2) sc_Machine_taken.nd rfl (.inl rfl) (pe_op op_sub (pe_callB call_len_seq (by rfl) B.len PySem.boot_len (pa_cons (pe_fld (pv 0) rfl) pa_nil)) (pv 1)))
      (pss_cons (ps_set (i := 3) sc_Machine_taken.nd rfl (.inl rfl) (pe_slice sl_list (pe_fld (pv 0) rfl) (po_some (pv 2)) po_none))
      (pss_cons (ps_delFrom (pe_fld (pv 0) rfl) (pv 2))
      (pss_one (ps_ret (pv 3)))))), ?_⟩
    obtain ⟨wvs, hv, ha⟩ := ok.wr
    have hl : wvs.length = ws.length + n := by rw [ha.1, hw, List.length_append, hx]
    refine ⟨_, rfl, _, L.CM, M.dx, _, _, rfl, ok.m, D.cMachine, D.noM "worths", rfl, M.wr, _, rfl, .inl (SqL.of hv), _, rfl, _, _, rfl, rfl, ?_⟩
    refine ⟨_, rfl, _, L.CM, M.dx, _, _, rfl, ok.m, D.cMachine, D.noM "worths", rfl, _, rfl, _, rfl, M.wr, _, rfl, SqL.of hv, fun p hp => ?_⟩
    have ei : (wvs.length : Int) - (n : Int) = (ws.length : Int) := by omega
    rw [show (((wvs.length : Nat) : Int) - (n : Int)) = ((ws.length : Nat) : Int) from ei, cutD wvs ws.length (by omega)]
    have e1 := same_new (o := .lst (wvs.drop ws.length)) hp
    have np := ok.has hp
    have hp1 : upd H p (.lst (wvs.drop ws.length)) p = some (.lst (wvs.drop ws.length)) := upd_same
    generalize upd H p (.lst (wvs.drop ws.length)) = H1 at e1 hp1 ⊢
    have ok1 := ok.mono e1
    have hv1 := e1 _ _ hv
    refine ⟨_, rfl, _, L.CM, M.dx, _, _, rfl, ok1.m, D.cMachine, D.noM "worths", rfl, _, rfl, M.wr, wvs, ws.length, rfl, congrArg V.int ei, hv1, by omega, ?_⟩
    have ps1 : Ps M H H1 := Ps.same e1
    have ha1 := ha.mono fun _ _ => IsVal.mono ps1
    rw [hw] at ha1
    have hA : At (IsVal L M) H1 ws (wvs.take ws.length) := ⟨by rw [List.length_take]; omega, fun i v e => by
      have hi : i < ws.length := by
        have := (List.getElem?_eq_some_iff.mp e).1
        rw [List.length_take] at this
        omega
      rw [List.getElem?_take_of_lt hi] at e
      obtain ⟨x, e2, r⟩ := ha1.2 i v e
      rw [List.getElem?_append_left hi] at e2
      exact ⟨x, e2, r⟩⟩
    have hB : At (IsVal L M) H1 xs (wvs.drop ws.length) := ⟨by rw [List.length_drop]; omega, fun i v e => by
      rw [List.getElem?_drop] at e
      obtain ⟨x, e2, r⟩ := ha1.2 _ v e
      rw [List.getElem?_append_right (by omega), show ws.length + i - ws.length = i by omega] at e2
      exact ⟨x, e2, r⟩⟩
    have ps2 : Ps M H1 (upd H1 M.wr (.lst (wvs.take ws.length))) := Ps.upd mutW
    exact ⟨_, rfl, q _ p _ (ok1.setW hA) (ps1.trans ps2) np (ps2 _ _ np hp1) (hB.mono fun _ _ => IsVal.mono ps2)⟩
def spInstance (L : Cl9) : Sp := fun vs H Q _ => ∃ (M : Mc) (m : V) (t : Nat) (v : V), vs = [m, v] ∧ IsVal L M H (.obj t) v ∧ Q v H
theorem ok_instance (F : Fun K "instance" "Machine.instance" s_Machine_instance f fd) (B : Blt mg) (D : DsM K mg L) : FnOk P w K mg base CX0 1 f fd ["self", "thing"] (spInstance L) := by
  refine F.ok sc_Machine_instance (fun vs H Q E h => ?_) (fun cdv A outer s H vs Q E hr h => ?_)
  · obtain ⟨M, m, t, v, rfl, _⟩ := h
    rfl
  · obtain ⟨M, m, t, v, rfl, ⟨a, dx, sd, rfl, n, ha⟩, q⟩ := h
    refine ⟨_, (pss_cons (ps_if (pt_not (pt_val (pe_callB call_isi (by rfl) B.isinstance (by decide +kernel) (pa_cons (pv 1) (pa_cons (pe_gr D.Instance) pa_nil))))) pss_never pss_nil)
      (pss_one (ps_ret (pv 1)))), ?_⟩
    have kit : PySem.W.kitOne K (.ref L.CI) (.ref L.CI) = some true := by
      unfold PySem.W.kitOne
      rw [if_pos (by simp)]
    exact ⟨_, rfl, _, _, _, _, true, rfl, .own _, .base (.ins ha D.I.cls D.i1 D.i2 D.i3 D.i4), kit, _, rfl, iteF ⟨_, rfl, q⟩⟩
def spBegin (L : Cl9) : Sp := fun vs H Q _ => ∃ (M : Mc) (H0 : Hp) (s : St9) (l : Addr) (n : Nat) (c : C9) (ws : List Val9) (wvs : List V), vs = [.ref M.m, .int n, .ref l] ∧ MOk L M H0 H s ∧ ¬ M.mut l ∧ H l = some (.lst wvs) ∧ At (IsVal L M) H ws wvs ∧ M.core.bods[n]? = some (ws.length, c) ∧ ws.length ≤ 1 ∧ s.depth ≠ 6000 ∧
  s.tasks.length + 2 ≤ sizeLine ∧ s.begun.length < sizeLine ∧ ∀ H', MOk L M H0 H' { s with depth := s.depth + 1, begun := s.begun ++ [n], tasks := s.tasks ++ [.lev, .c c ws] } → Ps M H H' → Q .non H'
theorem ok_begin (F : Fun K "begin" "Machine.begin" s_Machine_begin f fd) (B : Blt mg) (G : Glo mg) (D : DsM K mg L) (M1 : Mn P w K mg base CX0 L.CM "add" 1 2 (spAddM L)) (M2 : Kn P w K mg base CX0 "Frame" L.CF 1 2 (spFrInit L.CF)) : FnOk P w K mg base CX0 3 f fd ["self", "number", "worths"] (spBegin L) := by
  refine F.ok sc_Machine_begin (fun vs H Q E h => ?_) (fun cdv A outer s H vs Q E hr h => ?_)
  · obtain ⟨M, H0, s, l, n, c, ws, wvs, rfl, _⟩ := h
    rfl
  · obtain ⟨M, H0, s, l, n, c, ws, wvs, rfl, ok, nl, hl, hat, hb, h1, hd, hz1, hz2, q⟩ := h
    refine ⟨_, (pss_cons (ps_asg (pe_ix ix_tup (pe_fld (pv 0) rfl) (pv 1) (fun _ _ => rfl)) (pg_tup rfl (pgs_cons (pg_name (i := 3) sc_Machine_begin.nd rfl (.inl rfl)) (pgs_cons (pg_name (i := 4) sc_Machine_begin.nd rfl (.inl rfl)) (pgs_cons (pg_name (i := 5) sc_Machine_begin.nd rfl (.inl rfl)) pgs_nil)))))
      (pss_cons (ps_if (pt_cmpR op_ne (pe_callB call_len_seq (by rfl) B.len PySem.boot_len (pa_cons (pv 2) pa_nil)) (pv 3) (nomark _)) pss_never pss_nil)
      (pss_cons (ps_if (pt_cmpR op_eq (pe_fld (pv 0) rfl) (pe_gi G.UNDER_WAY_MOST) (nomark _)) pss_never pss_nil)
      (pss_cons (ps_fldaug (pv 0) pe_int in_add)
      (pss_cons (ps_expr (pe_bm PySem.F.plainAttrs_list PySem.F.slot_list_append PySem.F.type_list_append mt_append (pe_fld (pv 0) rfl) (pa_cons (pv 1) pa_nil)))
      (pss_cons (ps_set (i := 6) sc_Machine_begin.nd rfl (.inl rfl) (pe_kn M2 (hr.mono (by decide)) pass0 (pa_cons (pe_op op_cat (pe_callTy call_list_of (by rfl) B.list boot_list (pa_cons (pv 2) pa_nil)) (pe_op op_rep (pe_lst (pa_cons pe_non pa_nil)) (pv 4))) pa_nil)))
      (pss_one (ps_expr (pe_mn D.cMachine M1 (hr.mono (by decide)) pass0 (pv 0) (pa_cons (pe_lst (pa_cons (pe_tup (pa_cons pe_str (pa_cons (pv 5) (pa_cons (pv 6) pa_nil)))) (pa_cons (pe_tup (pa_cons pe_str (pa_cons pe_non (pa_cons (pv 6) pa_nil)))) pa_nil))) pa_nil)))))))))), ?_⟩
    obtain ⟨bv, hbv, ab, xb, rfl, hab, hxb⟩ := ok.bod.get hb
    have up : ∀ {a : Addr} {xs : List V}, H0 a = some (.tup xs) → SqT K H a xs := fun h => SqT.of (ok.same _ _ h)
    refine ⟨_, rfl, _, L.CM, M.dx, _, _, rfl, ok.m, D.cMachine, D.noM "bodies", rfl, _, rfl, M.ba, _, _, _, rfl, rfl, up ok.hba, atI_nat hbv, ab, _, rfl, up hab, rfl, _, _, rfl, _, _, rfl, _, _, rfl, rfl, ?_⟩
    refine ⟨_, rfl, l, wvs, rfl, .inl (SqL.of hl), _, rfl, rfl, _, rfl, iff_ ?_ ?_⟩
    · rw [dec_vi, hat.1]
      exact congrArg (!·) (decide_eq_true rfl)
    refine ⟨_, rfl, _, L.CM, M.dx, _, _, rfl, ok.m, D.cMachine, D.noM "depth", rfl, rfl, _, rfl, iff_ ?_ ?_⟩
    · rw [dec_vi]
      exact decide_eq_false hd
    refine ⟨_, rfl, M.m, L.CM, M.dx, _, _, rfl, ok.m, D.cMachine, D.noM "depth", rfl, _, _, rfl, rfl, _, _, ok.m, by show 13 < 1000; decide, ?_⟩
    have ok1 : MOk L M H0 (upd H M.m (.ins L.CM M.dx (putF "depth" (.int (s.depth + 1)) (M.fs s.steps s.depth)))) { s with depth := s.depth + 1 } := ok.setM (n := s.steps) (d := s.depth + 1)
    have ps1 : Ps M H (upd H M.m (.ins L.CM M.dx (putF "depth" (.int (s.depth + 1)) (M.fs s.steps s.depth)))) := Ps.upd mutM
    generalize upd H M.m (.ins L.CM M.dx (putF "depth" (.int (s.depth + 1)) (M.fs s.steps s.depth))) = H1 at ok1 ps1 ⊢
    refine ⟨_, rfl, _, L.CM, M.dx, _, _, rfl, ok1.m, D.cMachine, D.noM "begun", rfl, .inl ⟨rfl, _, SqL.of ok1.bg⟩, _, rfl, M.bg, _, _, rfl, rfl, ok1.bg, by rw [List.length_map]; exact hz2, ?_⟩
    have eb : (s.begun.map fun n : Nat => V.int (n : Int)) ++ [V.int (n : Int)] = (s.begun ++ [n]).map fun n : Nat => V.int (n : Int) := by
      rw [List.map_append]
      rfl
    have ok2 : MOk L M H0 (upd H1 M.bg (.lst ((s.begun.map fun n : Nat => V.int (n : Int)) ++ [V.int (n : Int)]))) { s with depth := s.depth + 1, begun := s.begun ++ [n] } := by
      rw [eb]
      exact ok1.setB (n := n)
    have ps2 : Ps M H (upd H1 M.bg (.lst ((s.begun.map fun n : Nat => V.int (n : Int)) ++ [V.int (n : Int)]))) := ps1.trans (Ps.upd mutB)
    generalize upd H1 M.bg (.lst ((s.begun.map fun n : Nat => V.int (n : Int)) ++ [V.int (n : Int)])) = H2 at ok2 ps2 ⊢
    have hl2 := ps2 _ _ nl hl
    refine ⟨_, rfl, l, wvs, rfl, .inl (SqL.of hl2), fun p1 n1 => ?_⟩
    have e1 := same_new (o := .lst wvs) n1
    have h1' : upd H2 p1 (.lst wvs) p1 = some (.lst wvs) := upd_same
    generalize upd H2 p1 (.lst wvs) = H3 at e1 h1' ⊢
    refine ⟨(by show 1 ≤ sizeLine; decide), fun p2 n2 => ?_⟩
    have e2 := same_new (o := .lst [V.non]) n2
    have h2' : upd H3 p2 (.lst [V.non]) p2 = some (.lst [V.non]) := upd_same
    generalize upd H3 p2 (.lst [V.non]) = H4 at e2 h2' ⊢
    refine ⟨_, rfl, p2, 0, _, rfl, rfl, h2', by decide, by decide, by decide, fun p3 n3 => ?_⟩
    have e3 := same_new (o := .lst (List.replicate (0 : Int).toNat [V.non]).flatten) n3
    have h3' : upd H4 p3 (.lst (List.replicate (0 : Int).toNat [V.non]).flatten) p3 = some (.lst []) := upd_same
    generalize upd H4 p3 (.lst (List.replicate (0 : Int).toNat [V.non]).flatten) = H5 at e3 h3' ⊢
    have hw1 : wvs.length ≤ 1 := by rw [hat.1]; exact h1
    refine ⟨p1, p3, wvs, [], rfl, rfl, e3 _ _ (e2 _ _ h1'), h3', Nat.le_trans hw1 (by decide), fun p4 n4 => ?_⟩
    have e4 := same_new (o := .lst (wvs ++ [])) n4
    have h4' : upd H5 p4 (.lst (wvs ++ [])) p4 = some (.lst (wvs ++ [])) := upd_same
    generalize upd H5 p4 (.lst (wvs ++ [])) = H6 at e4 h4' ⊢
    rw [List.append_nil] at h4'
    have s26 : Same H2 H6 := ((e1.trans e2).trans e3).trans e4
    have ok6 := ok2.mono s26
    have np4 : ¬ M.mut p4 := (ok2.mono ((e1.trans e2).trans e3)).has n4
    intro x dx nx ndx ne
    have s67 : Same H6 (upd (upd H6 dx (.own x)) x (.ins L.CF dx [])) := (same_new ndx).trans (same_new (by rw [upd_ne (Ne.symm ne)]; exact nx))
    refine ⟨x, dx, .ref p4, rfl, upd_same, rfl, ?_⟩
    have s68 : Same H6 (upd (upd (upd H6 dx (.own x)) x (.ins L.CF dx [])) x (.ins L.CF dx [("cells", .ref p4)])) := fro nx s67
    have hx8 : upd (upd (upd H6 dx (.own x)) x (.ins L.CF dx [])) x (.ins L.CF dx [("cells", .ref p4)]) x = some (.ins L.CF dx [("cells", .ref p4)]) := upd_same
    generalize upd (upd (upd H6 dx (.own x)) x (.ins L.CF dx [])) x (.ins L.CF dx [("cells", .ref p4)]) = H8 at s68 hx8 ⊢
    have npx : ¬ M.mut x := ok6.has nx
    have ok8 := ok6.mono s68
    have ps8 : Ps M H H8 := ps2.trans (Ps.same (s26.trans s68))
    have hfr : IsFr L M H8 ws (.ref x) := ⟨x, dx, p4, wvs, rfl, npx, hx8, np4, s68 _ _ h4', hat.mono fun _ _ => IsVal.mono ps8⟩
    refine ⟨_, rfl, M.m, M.dx, _, rfl, ok8.m, rfl, ?_⟩
    refine ⟨_, rfl, _, rfl, (by show 3 ≤ sizeLine; decide), fun t1 n1 => ⟨_, rfl, (by show 3 ≤ sizeLine; decide), fun t2 n2 => ⟨(by show 2 ≤ sizeLine; decide), fun l3 n3 => ?_⟩⟩⟩
    have f1 := same_new (o := .tup [V.str "c", xb, V.ref x]) n1
    have g1 : upd H8 t1 (.tup [V.str "c", xb, V.ref x]) t1 = some (.tup [V.str "c", xb, V.ref x]) := upd_same
    have nt1 := ok8.has n1
    generalize upd H8 t1 (.tup [V.str "c", xb, V.ref x]) = H9 at f1 g1 n2 n3 ⊢
    have f2 := same_new (o := .tup [V.str "leave", V.non, V.ref x]) n2
    have g2 : upd H9 t2 (.tup [V.str "leave", V.non, V.ref x]) t2 = some (.tup [V.str "leave", V.non, V.ref x]) := upd_same
    have nt2 := (ok8.mono f1).has n2
    generalize upd H9 t2 (.tup [V.str "leave", V.non, V.ref x]) = H10 at f2 g2 n3 ⊢
    have f3 := same_new (o := .lst [V.ref t1, V.ref t2]) n3
    have g3 : upd H10 l3 (.lst [V.ref t1, V.ref t2]) l3 = some (.lst [V.ref t1, V.ref t2]) := upd_same
    generalize upd H10 l3 (.lst [V.ref t1, V.ref t2]) = H11 at f3 g3 ⊢
    have s811 : Same H8 H11 := (f1.trans f2).trans f3
    have ok11 := ok8.mono s811
    refine ⟨M, H0, _, l3, _, [.c c ws, .lev], rfl, ok11, g3, (At.one (x := Tk9.c c ws) ⟨t1, xb, .ref x, rfl, nt1, f3 _ _ (f2 _ _ g1), hxb, hfr.mono (Ps.same s811)⟩).app (At.one (x := Tk9.lev) ⟨t2, _, _, rfl, nt2, f3 _ _ g2⟩), hz1, fun H' ok' ps' => ?_⟩
    exact q H' ok' ((ps8.trans (Ps.same s811)).trans ps')
end
end K9
end
section
set_option Elab.async false
set_option linter.all false
set_option maxRecDepth 100000
set_option maxHeartbeats 4000000
namespace K9
open PySem PySem.Spec PyProof.Rows L2
/-- what a task that was taken off does -/
inductive Wk (core : Core9) : Tk9 → St9 → St9 → Prop where
  | unit {s fr} : Wk core (.c .unit fr) s { s with worths := s.worths ++ [.unit] }
  | loc {s v r} : Wk core (.c .loc (v :: r)) s { s with worths := s.worths ++ [v] }
  | thn {s fr a b} : Wk core (.c (.thn a b) fr) s { s with tasks := s.tasks ++ [.e (.thn a b) fr, .c a fr] }
  | dir {s fr n a} : Wk core (.c (.dir n a) fr) s { s with tasks := s.tasks ++ [.e (.dir n a) fr, .c a fr] }
  | snd {s fr a z} : Wk core (.c (.snd a z) fr) s { s with tasks := s.tasks ++ [.e (.snd a z) fr, .c a fr] }
  | mak {s fr t} : Wk core (.c (.mak t) fr) s { s with tasks := s.tasks ++ [.e (.mak t) fr] }
  | sglD {s fr i v} (h : s.once[i]? = some (.done v)) : Wk core (.c (.sgl i) fr) s { s with worths := s.worths ++ [v] }
  | sglF {s fr i n lb c} (h : s.once[i]? = some .fresh) (h1 : core.sgls[i]? = some (n, lb)) (h2 : core.bods[n]? = some (0, c)) (h3 : s.depth ≠ 6000) : Wk core (.c (.sgl i) fr) s { s with once := s.once.set i .way, depth := s.depth + 1, begun := s.begun ++ [n], tasks := s.tasks ++ [.kep i] ++ [.lev, .c c []] }
  | eThn {s fr a b ws v} (h : s.worths = ws ++ [v]) : Wk core (.e (.thn a b) fr) s { s with worths := ws, tasks := s.tasks ++ [.c b fr] }
  | eDir {s fr a n c ws v} (h : s.worths = ws ++ [v]) (h2 : core.bods[n]? = some (1, c)) (h3 : s.depth ≠ 6000) : Wk core (.e (.dir n a) fr) s { s with worths := ws, depth := s.depth + 1, begun := s.begun ++ [n], tasks := s.tasks ++ [.lev, .c c [v]] }
  | eSnd {s fr a} {z : Str} {t tb} {n : Nat} {c ws} (h : s.worths = ws ++ [.obj t]) (h1 : core.tabs[t]? = some tb) (h4 : valV (tb.rows.map rowK) (Sum.inr z : Key) = some (.int (n : Int))) (h2 : core.bods[n]? = some (1, c)) (h3 : s.depth ≠ 6000) : Wk core (.e (.snd a z) fr) s { s with worths := ws, depth := s.depth + 1, begun := s.begun ++ [n], tasks := s.tasks ++ [.lev, .c c [.obj t]] }
  | eMak {s fr t tb c} (h1 : core.tabs[t]? = some tb) (h2 : core.bods[tb.begin]? = some (1, c)) (h3 : s.depth ≠ 6000) : Wk core (.e (.mak t) fr) s { s with depth := s.depth + 1, begun := s.begun ++ [tb.begin], tasks := s.tasks ++ [.swp t] ++ [.lev, .c c [.obj t]] }
  | swp {s t ws x} (h : s.worths = ws ++ [x]) : Wk core (.swp t) s { s with worths := ws ++ [.obj t] }
  | lev {s} : Wk core .lev s { s with depth := s.depth - 1 }
  | kep {s i ws x} (h : s.worths = ws ++ [x]) : Wk core (.kep i) s { s with once := s.once.set i (.done x) }
/-- the parts of a task's tuple -/
def IsXY (L : Cl9) (M : Mc) (H0 H : Hp) : Tk9 → V → V → Prop
  | .c k fr, x, y => IsC H0 k x ∧ IsFr L M H fr y
  | .e k fr, x, y => IsC H0 k x ∧ IsFr L M H fr y
  | .swp t, x, _ => IsVal L M H (.obj t) x
  | .lev, _, _ => True
  | .kep i, x, _ => ∃ a, x = .ref a ∧ M.ks[i]? = some a
theorem IsXY.mono {L : Cl9} {M : Mc} {H0 H H' : Hp} (s : Ps M H H') : ∀ {t : Tk9} {x y : V}, IsXY L M H0 H t x y → IsXY L M H0 H' t x y
  | .c _ _, _, _, h => ⟨h.1, h.2.mono s⟩
  | .e _ _, _, _, h => ⟨h.1, h.2.mono s⟩
  | .swp t, _, _, h => IsVal.mono (x := .obj t) s h
  | .lev, _, _, _ => trivial
  | .kep _, _, _, h => h
structure Small (s : St9) : Prop where
  t : s.tasks.length ≤ 100000
  w : s.worths.length ≤ 100000
  b : s.begun.length ≤ 100000
def spWk (L : Cl9) (P : Tk9 → Prop) : Sp := fun vs H Q _ => ∃ (M : Mc) (H0 : Hp) (s s' : St9) (t : Tk9) (x y : V), vs = [.ref M.m, x, y] ∧ MOk L M H0 H s ∧ IsXY L M H0 H t x y ∧ P t ∧ Wk M.core t s s' ∧ Small s ∧ ∀ H', MOk L M H0 H' s' → Ps M H H' → Q .non H'
theorem sc_work_unit : FnScope ["machine", "c", "frame"] ["machine", "c", "frame"] (defScope s_work_unit) := ⟨rfl, rfl, rfl, by decide +kernel, rfl, by decide +kernel, by decide +kernel⟩
theorem sc_work_local : FnScope ["machine", "c", "frame"] ["machine", "c", "frame"] (defScope s_work_local) := ⟨rfl, rfl, rfl, by decide +kernel, rfl, by decide +kernel, by decide +kernel⟩
theorem sc_work_single : FnScope ["machine", "c", "frame", "kept"] ["machine", "c", "frame"] (defScope s_work_single) := ⟨rfl, rfl, rfl, by decide +kernel, rfl, by decide +kernel, by decide +kernel⟩
theorem sc_read_kept : FnScope ["machine", "kept"] ["machine", "kept"] (defScope s_read_kept) := ⟨rfl, rfl, rfl, by decide +kernel, rfl, by decide +kernel, by decide +kernel⟩
theorem sc_work_one : FnScope ["machine", "c", "frame"] ["machine", "c", "frame"] (defScope s_work_one) := ⟨rfl, rfl, rfl, by decide +kernel, rfl, by decide +kernel, by decide +kernel⟩
theorem sc_work_row : FnScope ["machine", "c", "frame", "one"] ["machine", "c", "frame"] (defScope s_work_row) := ⟨rfl, rfl, rfl, by decide +kernel, rfl, by decide +kernel, by decide +kernel⟩
theorem sc_work_send : FnScope ["machine", "c", "frame", "one"] ["machine", "c", "frame"] (defScope s_work_send) := ⟨rfl, rfl, rfl, by decide +kernel, rfl, by decide +kernel, by decide +kernel⟩
theorem sc_end_send : FnScope ["machine", "c", "frame", "worths", "thing", "rows"] ["machine", "c", "frame"] (defScope s_end_send) := ⟨rfl, rfl, rfl, by decide +kernel, rfl, by decide +kernel, by decide +kernel⟩
theorem sc_end_direct : FnScope ["machine", "c", "frame"] ["machine", "c", "frame"] (defScope s_end_direct) := ⟨rfl, rfl, rfl, by decide +kernel, rfl, by decide +kernel, by decide +kernel⟩
theorem sc_end_make : FnScope ["machine", "c", "frame", "thing", "worths"] ["machine", "c", "frame"] (defScope s_end_make) := ⟨rfl, rfl, rfl, by decide +kernel, rfl, by decide +kernel, by decide +kernel⟩
theorem sc_end_swap : FnScope ["machine", "thing", "frame"] ["machine", "thing", "frame"] (defScope s_end_swap) := ⟨rfl, rfl, rfl, by decide +kernel, rfl, by decide +kernel, by decide +kernel⟩
theorem sc_end_leave : FnScope ["machine", "thing", "frame"] ["machine", "thing", "frame"] (defScope s_end_leave) := ⟨rfl, rfl, rfl, by decide +kernel, rfl, by decide +kernel, by decide +kernel⟩
theorem sc_end_keep : FnScope ["machine", "kept", "frame"] ["machine", "kept", "frame"] (defScope s_end_keep) := ⟨rfl, rfl, rfl, by decide +kernel, rfl, by decide +kernel, by decide +kernel⟩
theorem sc_end_then : FnScope ["machine", "c", "frame"] ["machine", "c", "frame"] (defScope s_end_then) := ⟨rfl, rfl, rfl, by decide +kernel, rfl, by decide +kernel, by decide +kernel⟩
structure DsW (P : Program) (w : World) (K : PySem.W.Frag) (mg : Str → Option Value) (base : Heap) (L : Cl9) : Prop extends DsM K mg L where
  Machine_add : Mn P w K mg base CX0 L.CM "add" 1 2 (spAddM L)
  Machine_taken : Mn P w K mg base CX0 L.CM "taken" 1 2 (spTaken L)
  Machine_begin : Mn P w K mg base CX0 L.CM "begin" 3 3 (spBegin L)
  Machine_instance : Mn P w K mg base CX0 L.CM "instance" 1 2 (spInstance L)
  cInstance : Kn P w K mg base CX0 "Instance" L.CI 1 2 (spInInit L.CI)
section
variable {P : Program} {w : World} {K : PySem.W.Frag} {mg : Str → Option Value} {base : Heap} {f : Addr} {fd : FuncData} {L : Cl9}
theorem DsW.cMachine (D : DsW P w K mg base L) : Cls K L.CM := D.M.cls
theorem wk_len {vs : List V} {H : Hp} {Q : VK} {E : XK} {Pt : Tk9 → Prop} (h : spWk L Pt vs H Q E) : vs.length = 3 := by
  obtain ⟨M, H0, s, s', t, x, y, rfl, _⟩ := h
  rfl
/-- one more worth -/
theorem MOk.push {M : Mc} {H0 H : Hp} {s : St9} (ok : MOk L M H0 H s) {wvs : List V} (h : H M.wr = some (.lst wvs)) (ha : At (IsVal L M) H s.worths wvs) {v : Val9} {x : V} (hx : IsVal L M H v x) : MOk L M H0 (upd H M.wr (.lst (wvs ++ [x]))) { s with worths := s.worths ++ [v] } := ok.setW (ha.app (At.one hx))
theorem ok_work_unit (F : Fun K "work_unit" "work_unit" s_work_unit f fd) (D : DsW P w K mg base L) : FnOk P w K mg base CX0 1 f fd ["machine", "c", "frame"] (spWk L fun t => ∃ fr, t = .c .unit fr) := by
  refine F.ok sc_work_unit (fun vs H Q E h => wk_len h) (fun cdv A outer s H vs Q E hr h => ?_)
  obtain ⟨M, H0, s, s', t, x, y, rfl, ok, hxy, ⟨fr, rfl⟩, wk, sm, q⟩ := h
  refine ⟨_, (pss_one (ps_expr (pe_bm PySem.F.plainAttrs_list PySem.F.slot_list_append PySem.F.type_list_append mt_append (pe_fld (pv 0) rfl) (pa_cons (pe_gr D.UNIT) pa_nil)))), ?_⟩
  obtain ⟨wvs, hv, ha⟩ := ok.wr
  cases wk
  refine ⟨_, rfl, _, L.CM, M.dx, _, _, rfl, ok.m, D.cMachine, D.noM "worths", rfl, .inl ⟨rfl, _, SqL.of hv⟩, M.wr, _, _, rfl, rfl, hv, by rw [ha.1]; exact Nat.lt_of_le_of_lt sm.w (by decide), ?_⟩
  exact q _ (ok.push hv ha (v := .unit) rfl) (Ps.upd mutW)
theorem ok_work_local (F : Fun K "work_local" "work_local" s_work_local f fd) (D : DsW P w K mg base L) : FnOk P w K mg base CX0 1 f fd ["machine", "c", "frame"] (spWk L fun t => ∃ fr, t = .c .loc fr) := by
  refine F.ok sc_work_local (fun vs H Q E h => wk_len h) (fun cdv A outer s H vs Q E hr h => ?_)
  obtain ⟨M, H0, s, s', t, x, y, rfl, ok, hxy, ⟨fr, rfl⟩, wk, sm, q⟩ := h
  refine ⟨_, (pss_one (ps_expr (pe_bm PySem.F.plainAttrs_list PySem.F.slot_list_append PySem.F.type_list_append mt_append (pe_fld (pv 0) rfl) (pa_cons (pe_ix ix_list (pe_fld (pv 2) rfl) (pe_ix ix_tup (pv 1) pe_int (fun _ _ => rfl)) (fun _ _ => rfl)) pa_nil)))), ?_⟩
  obtain ⟨wvs, hv, ha⟩ := ok.wr
  obtain ⟨⟨a, rfl, hc⟩, ⟨fa, fdx, l, cvs, rfl, nf, hf, nl, hl, hcv⟩⟩ := hxy
  cases wk
  rename_i v r
  obtain ⟨u, hu, hvu⟩ := hcv.get (i := 0) rfl
  refine ⟨_, rfl, _, L.CM, M.dx, _, _, rfl, ok.m, D.cMachine, D.noM "worths", rfl, .inl ⟨rfl, _, SqL.of hv⟩, _, rfl, _, L.CF, fdx, _, _, rfl, hf, D.F.cls, D.F.no "cells" (by decide), rfl, _, rfl, a, _, _, _, rfl, rfl, SqT.of (ok.same _ _ hc), rfl, l, _, _, _, rfl, rfl, SqL.of hl, atI_nat (j := 0) hu, M.wr, _, _, rfl, rfl, hv, by rw [ha.1]; exact Nat.lt_of_le_of_lt sm.w (by decide), ?_⟩
  exact q _ (ok.push hv ha hvu) (Ps.upd mutW)
theorem ok_work_one (F : Fun K "work_one" "work_one" s_work_one f fd) (D : DsW P w K mg base L) : FnOk P w K mg base CX0 2 f fd ["machine", "c", "frame"] (spWk L fun t => ∃ a b fr, t = .c (.thn a b) fr) := by
  refine F.ok sc_work_one (fun vs H Q E h => wk_len h) (fun cdv A outer s H vs Q E hr h => ?_)
  obtain ⟨M, H0, s, s', t, x, y, rfl, ok, hxy, ⟨a, b, fr, rfl⟩, wk, sm, q⟩ := h
  refine ⟨_, (pss_one (ps_expr (pe_mn D.cMachine D.Machine_add (hr.mono (by decide)) pass0 (pv 0) (pa_cons (pe_lst (pa_cons (pe_tup (pa_cons pe_str (pa_cons (pe_ix ix_tup (pv 1) pe_int (fun _ _ => rfl)) (pa_cons (pv 2) pa_nil)))) (pa_cons (pe_tup (pa_cons (pe_ix ix_tup (pv 1) pe_int (fun _ _ => rfl)) (pa_cons (pv 1) (pa_cons (pv 2) pa_nil)))) pa_nil))) pa_nil)))), ?_⟩
  obtain ⟨⟨ca, u1, u2, rfl, hc, h1, h2⟩, hfr⟩ := hxy
  cases wk
  have hS : SqT K H ca _ := SqT.of (ok.same _ _ hc)
  refine ⟨_, rfl, M.m, M.dx, _, rfl, ok.m, rfl, ?_⟩
  refine ⟨_, rfl, ca, _, _, _, rfl, rfl, hS, rfl, _, rfl, (by show 3 ≤ sizeLine; decide), fun t1 n1 => ?_⟩
  have f1 := same_new (o := .tup [V.str "c", u1, y]) n1
  have g1 : upd H t1 (.tup [V.str "c", u1, y]) t1 = some (.tup [V.str "c", u1, y]) := upd_same
  have nt1 := ok.has n1
  generalize upd H t1 (.tup [V.str "c", u1, y]) = H1 at f1 g1 ⊢
  refine ⟨_, rfl, ca, _, _, _, rfl, rfl, f1.seqT hS, rfl, _, rfl, _, rfl, (by show 3 ≤ sizeLine; decide), fun t2 n2 => ?_⟩
  have f2 := same_new (o := .tup [V.str "then", V.ref ca, y]) n2
  have g2 : upd H1 t2 (.tup [V.str "then", V.ref ca, y]) t2 = some (.tup [V.str "then", V.ref ca, y]) := upd_same
  have nt2 := (ok.mono f1).has n2
  generalize upd H1 t2 (.tup [V.str "then", V.ref ca, y]) = H2 at f2 g2 ⊢
  refine ⟨(by show 2 ≤ sizeLine; decide), fun l n3 => ?_⟩
  have f3 := same_new (o := .lst [V.ref t1, V.ref t2]) n3
  have g3 : upd H2 l (.lst [V.ref t1, V.ref t2]) l = some (.lst [V.ref t1, V.ref t2]) := upd_same
  generalize upd H2 l (.lst [V.ref t1, V.ref t2]) = H3 at f3 g3 ⊢
  have s13 := (f1.trans f2).trans f3
  refine ⟨M, H0, s, l, _, [.c a fr, .e (.thn a b) fr], rfl, ok.mono s13, g3, (At.one (x := Tk9.c a fr) ⟨t1, _, _, rfl, nt1, f3 _ _ (f2 _ _ g1), h1, hfr.mono (Ps.same s13)⟩).app (At.one (x := Tk9.e (.thn a b) fr) ⟨t2, _, _, rfl, nt2, f3 _ _ g2, ⟨ca, u1, u2, rfl, hc, h1, h2⟩, hfr.mono (Ps.same s13)⟩), Nat.le_trans (Nat.add_le_add_right sm.t 2) (by decide), fun H' ok' ps' => q H' ok' ((Ps.same s13).trans ps')⟩
theorem ok_work_row (F : Fun K "work_row" "work_row" s_work_row f fd) (D : DsW P w K mg base L) : FnOk P w K mg base CX0 2 f fd ["machine", "c", "frame"] (spWk L fun t => (∃ n a fr, t = .c (.dir n a) fr) ∨ ∃ n fr, t = .c (.mak n) fr) := by
  refine F.ok sc_work_row (fun vs H Q E h => wk_len h) (fun cdv A outer s H vs Q E hr h => ?_)
  obtain ⟨M, H0, s, s', t, x, y, rfl, ok, hxy, hP, wk, sm, q⟩ := h
  refine ⟨_, (pss_one (ps_expr (pe_mn D.cMachine D.Machine_add (hr.mono (by decide)) pass0 (pv 0) (pa_cons (pe_op op_cat (pe_lc (own := [("one", 3)]) (g := (gName 3)) (tt := tYes) rfl sc_work_row.nd (pi_tup (pe_ix ix_tup (pv 1) pe_int (fun _ _ => rfl))) (blkOk_by (N := ["machine", "c", "frame", "one"]) (sc := defScope s_work_row) (by decide +kernel)) (fun _ _ _ _ _ => (pg_name (i := 3) sc_work_row.nd rfl (.inl rfl))) (fun _ _ _ _ _ => pts_nil) (fun _ _ _ _ _ => (pe_tup (pa_cons pe_str (pa_cons (pv 3) (pa_cons (pv 2) pa_nil)))))) (pe_lst (pa_cons (pe_tup (pa_cons (pe_ix ix_tup (pv 1) pe_int (fun _ _ => rfl)) (pa_cons (pv 1) (pa_cons (pv 2) pa_nil)))) pa_nil))) pa_nil)))), ?_⟩
  obtain ⟨k, fr, ca, u, tp, xs, ks, rfl, rfl, hc, htp, hkids, hxl, hk, hfr, he⟩ : ∃ (k : C9) (fr : List Val9) (ca : Addr) (u : V) (tp : Addr) (xs : List V) (ks : List C9), t = .c k fr ∧ x = .ref ca ∧ H0 ca = some (.tup [.str k.word, u, .ref tp]) ∧ H0 tp = some (.tup xs) ∧ Kids H0 ks xs ∧ xs.length ≤ 1 ∧ IsC H0 k x ∧ IsFr L M H fr y ∧ s' = { s with tasks := s.tasks ++ [.e k fr] ++ (ks.map fun z => Tk9.c z fr).reverse } := by
    rcases hP with ⟨n, a, fr, rfl⟩ | ⟨n, fr, rfl⟩
    · obtain ⟨⟨ca, tp, u, rfl, hc, ht, h1⟩, hfr⟩ := hxy
      cases wk
      exact ⟨_, fr, ca, _, tp, [u], [a], rfl, rfl, hc, ht, ⟨h1, trivial⟩, by simp, ⟨ca, tp, u, rfl, hc, ht, h1⟩, hfr, by simp⟩
    · obtain ⟨⟨ca, tp, rfl, hc, ht⟩, hfr⟩ := hxy
      cases wk
      exact ⟨_, fr, ca, _, tp, [], [], rfl, rfl, hc, ht, trivial, by simp, ⟨ca, tp, rfl, hc, ht⟩, hfr, by simp⟩
  have up : ∀ {a : Addr} {xs : List V} {H' : Hp}, H0 a = some (.tup xs) → Same H H' → SqT K H' a xs := fun h e => SqT.of (e _ _ (ok.same _ _ h))
  refine ⟨_, rfl, M.m, M.dx, _, rfl, ok.m, rfl, ?_⟩
  refine ⟨_, rfl, ca, _, _, _, rfl, rfl, up hc (Same.refl _), rfl, tp, rfl, ⟨xs, up htp (Same.refl _)⟩, fun Dn hD => lc_rel (walk_tup (xs := xs)) (fun i H' v => ∃ k t x, ks[i]? = some k ∧ v = .ref t ∧ ¬ M.mut t ∧ H' t = some (.tup [.str "c", x, y]) ∧ IsC H0 k x) (fun i H1 H2 v t h => let ⟨k, t1, x, e, e2, n, h, r⟩ := h; ⟨k, t1, x, e, e2, n, t _ _ h, r⟩) (Nat.le_trans hxl (by decide)) hD (fun H3 s3 => up htp s3) (fun i H x H' _ y => yat_same i H x H' y) (fun i x H3 H4 Kt hi s3 s4 y2 kk => ?_) (fun H3 acc s3 hacc hlen hr' => ?_)⟩
  · obtain ⟨rfl, hx⟩ := y2
    obtain ⟨kc, hkc, hk2⟩ := hkids.at hx
    exact ⟨rfl, _, rfl, _, rfl, (by show 3 ≤ sizeLine; decide), fun t1 n1 => kk _ _ (same_new n1) ⟨kc, t1, x, hkc, rfl, (ok.mono s4).has n1, upd_same, hk2⟩⟩
  · refine ⟨_, rfl, ca, _, _, _, rfl, rfl, up hc s3, rfl, _, rfl, _, rfl, (by show 3 ≤ sizeLine; decide), fun t2 n2 => ?_⟩
    have f2 := same_new (o := .tup [V.str k.word, V.ref ca, y]) n2
    have g2 : upd H3 t2 (.tup [V.str k.word, V.ref ca, y]) t2 = some (.tup [V.str k.word, V.ref ca, y]) := upd_same
    have nt2 := (ok.mono s3).has n2
    generalize upd H3 t2 (.tup [V.str k.word, V.ref ca, y]) = H4 at f2 g2 ⊢
    refine ⟨(by show 1 ≤ sizeLine; decide), fun l n3 => ?_⟩
    have f3 := same_new (o := .lst [V.ref t2]) n3
    have g3 : upd H4 l (.lst [V.ref t2]) l = some (.lst [V.ref t2]) := upd_same
    generalize upd H4 l (.lst [V.ref t2]) = H5 at f3 g3 ⊢
    refine ⟨Dn, l, acc, _, rfl, rfl, f3 _ _ (f2 _ _ hacc), g3, ?_, fun l2 n4 => ?_⟩
    · rw [hlen]
      exact Nat.le_trans (Nat.add_le_add_right hxl _) (by show 2 ≤ sizeLine; decide)
    have f4 := same_new (o := .lst (acc ++ [V.ref t2])) n4
    have g4 : upd H5 l2 (.lst (acc ++ [V.ref t2])) l2 = some (.lst (acc ++ [V.ref t2])) := upd_same
    generalize upd H5 l2 (.lst (acc ++ [V.ref t2])) = H6 at f4 g4 ⊢
    have s36 := (f2.trans f3).trans f4
    have s06 := s3.trans s36
    have hfr6 := hfr.mono (Ps.same (M := M) s06)
    have hA : At (IsTk L M H0) H6 (ks.map fun z => Tk9.c z fr) acc := ⟨by rw [List.length_map, hlen, hkids.len], fun i v e => by
      obtain ⟨k', t1, x', e1, rfl, n1, h1, h2⟩ := hr' i v e
      exact ⟨.c k' fr, by rw [List.getElem?_map, e1]; rfl, t1, x', y, rfl, n1, s36 _ _ h1, h2, hfr6⟩⟩
    refine ⟨M, H0, s, l2, _, (ks.map fun z => Tk9.c z fr) ++ [.e k fr], rfl, ok.mono s06, g4, hA.app (At.one (x := Tk9.e k fr) ⟨t2, _, _, rfl, nt2, f4 _ _ (f3 _ _ g2), hk, hfr6⟩), ?_, fun H' ok' ps' => ?_⟩
    · rw [List.length_append, List.length_map, ← hkids.len]
      exact Nat.le_trans (Nat.add_le_add sm.t (Nat.add_le_add_right hxl _)) (by show 100002 ≤ sizeLine; decide)
    · refine q H' ?_ ((Ps.same s06).trans ps')
      rw [he]
      rw [List.reverse_append, ← List.append_assoc] at ok'
      exact ok'
theorem ok_work_send (F : Fun K "work_send" "work_send" s_work_send f fd) (D : DsW P w K mg base L) : FnOk P w K mg base CX0 2 f fd ["machine", "c", "frame"] (spWk L fun t => ∃ a z fr, t = .c (.snd a z) fr) := by
  refine F.ok sc_work_send (fun vs H Q E h => wk_len h) (fun cdv A outer s H vs Q E hr h => ?_)
  obtain ⟨M, H0, s, s', t, x, y, rfl, ok, hxy, ⟨a, z, fr, rfl⟩, wk, sm, q⟩ := h
  refine ⟨_, (pss_one (ps_expr (pe_mn D.cMachine D.Machine_add (hr.mono (by decide)) pass0 (pv 0) (pa_cons (pe_op op_cat (pe_op op_cat (pe_lst (pa_cons (pe_tup (pa_cons pe_str (pa_cons (pe_ix ix_tup (pv 1) pe_int (fun _ _ => rfl)) (pa_cons (pv 2) pa_nil)))) pa_nil)) (pe_lc (own := [("one", 3)]) (g := (gName 3)) (tt := tYes) rfl sc_work_send.nd (pi_tup (pe_ix ix_tup (pv 1) pe_int (fun _ _ => rfl))) (blkOk_by (N := ["machine", "c", "frame", "one"]) (sc := defScope s_work_send) (by decide +kernel)) (fun _ _ _ _ _ => (pg_name (i := 3) sc_work_send.nd rfl (.inl rfl))) (fun _ _ _ _ _ => pts_nil) (fun _ _ _ _ _ => (pe_tup (pa_cons pe_str (pa_cons (pv 3) (pa_cons (pv 2) pa_nil))))))) (pe_lst (pa_cons (pe_tup (pa_cons pe_str (pa_cons (pv 1) (pa_cons (pv 2) pa_nil)))) pa_nil))) pa_nil)))), ?_⟩
  obtain ⟨⟨ca, u, tp, rfl, hc, htp, h1⟩, hfr⟩ := hxy
  cases wk
  have up : ∀ {a : Addr} {xs : List V} {H' : Hp}, H0 a = some (.tup xs) → Same H H' → SqT K H' a xs := fun h e => SqT.of (e _ _ (ok.same _ _ h))
  refine ⟨_, rfl, M.m, M.dx, _, rfl, ok.m, rfl, ?_⟩
  refine ⟨_, rfl, ca, _, _, _, rfl, rfl, up hc (Same.refl _), rfl, _, rfl, (by show 3 ≤ sizeLine; decide), fun t1 n1 => ?_⟩
  have f1 := same_new (o := .tup [V.str "c", u, y]) n1
  have g1 : upd H t1 (.tup [V.str "c", u, y]) t1 = some (.tup [V.str "c", u, y]) := upd_same
  have nt1 := ok.has n1
  generalize upd H t1 (.tup [V.str "c", u, y]) = H1 at f1 g1 ⊢
  refine ⟨(by show 1 ≤ sizeLine; decide), fun l1 n2 => ?_⟩
  have f2 := same_new (o := .lst [V.ref t1]) n2
  have g2 : upd H1 l1 (.lst [V.ref t1]) l1 = some (.lst [V.ref t1]) := upd_same
  generalize upd H1 l1 (.lst [V.ref t1]) = H2 at f2 g2 ⊢
  have s2 := f1.trans f2
  refine ⟨_, rfl, ca, _, _, _, rfl, rfl, up hc s2, rfl, tp, rfl, ⟨[], up htp s2⟩, fun Dn hD => lc_map (walk_tup (xs := [])) (fun _ => V.bl true) (Nat.zero_le _) hD (fun H' s' => up htp (s2.trans s')) (fun i H x H' _ y => yat_same i H x H' y) (fun i x H1 H2 Kt hi => by cases hi) (fun H3 s3 h3 => ?_)⟩
  refine ⟨l1, Dn, [.ref t1], [], rfl, rfl, s3 _ _ g2, h3, (by show 1 ≤ sizeLine; decide), fun l2 n4 => ?_⟩
  have f4 := same_new (o := .lst ([V.ref t1] ++ [])) n4
  have g4 : upd H3 l2 (.lst ([V.ref t1] ++ [])) l2 = some (.lst [V.ref t1]) := upd_same
  generalize upd H3 l2 (.lst ([V.ref t1] ++ [])) = H4 at f4 g4 ⊢
  refine ⟨_, rfl, _, rfl, (by show 3 ≤ sizeLine; decide), fun t5 n5 => ?_⟩
  have s04 := (s2.trans s3).trans f4
  have f5 := same_new (o := .tup [V.str "send", V.ref ca, y]) n5
  have g5 : upd H4 t5 (.tup [V.str "send", V.ref ca, y]) t5 = some (.tup [V.str "send", V.ref ca, y]) := upd_same
  have nt5 := (ok.mono s04).has n5
  generalize upd H4 t5 (.tup [V.str "send", V.ref ca, y]) = H5 at f5 g5 ⊢
  refine ⟨(by show 1 ≤ sizeLine; decide), fun l6 n6 => ?_⟩
  have f6 := same_new (o := .lst [V.ref t5]) n6
  have g6 : upd H5 l6 (.lst [V.ref t5]) l6 = some (.lst [V.ref t5]) := upd_same
  generalize upd H5 l6 (.lst [V.ref t5]) = H6 at f6 g6 ⊢
  refine ⟨l2, l6, [.ref t1], [.ref t5], rfl, rfl, f6 _ _ (f5 _ _ g4), g6, (by show 2 ≤ sizeLine; decide), fun l7 n7 => ?_⟩
  have f7 := same_new (o := .lst ([V.ref t1] ++ [V.ref t5])) n7
  have g7 : upd H6 l7 (.lst ([V.ref t1] ++ [V.ref t5])) l7 = some (.lst ([V.ref t1] ++ [V.ref t5])) := upd_same
  generalize upd H6 l7 (.lst ([V.ref t1] ++ [V.ref t5])) = H7 at f7 g7 ⊢
  have s47 := (f5.trans f6).trans f7
  have s07 := s04.trans s47
  have s17 := (f2.trans s3).trans (f4.trans s47)
  have hfr7 := hfr.mono (Ps.same (M := M) s07)
  refine ⟨M, H0, s, l7, _, [.c a fr, .e (.snd a z) fr], rfl, ok.mono s07, g7, (At.one (x := Tk9.c a fr) ⟨t1, _, _, rfl, nt1, s17 _ _ g1, h1, hfr7⟩).app (At.one (x := Tk9.e (.snd a z) fr) ⟨t5, _, _, rfl, nt5, f7 _ _ (f6 _ _ g5), ⟨ca, u, tp, rfl, hc, htp, h1⟩, hfr7⟩), Nat.le_trans (Nat.add_le_add_right sm.t 2) (by decide), fun H' ok' ps' => q H' ok' ((Ps.same s07).trans ps')⟩
theorem ok_end_leave (F : Fun K "end_leave" "end_leave" s_end_leave f fd) (D : DsW P w K mg base L) : FnOk P w K mg base CX0 1 f fd ["machine", "thing", "frame"] (spWk L fun t => t = .lev) := by
  refine F.ok sc_end_leave (fun vs H Q E h => wk_len h) (fun cdv A outer s H vs Q E hr h => ?_)
  obtain ⟨M, H0, s, s', t, x, y, rfl, ok, hxy, rfl, wk, sm, q⟩ := h
  refine ⟨_, (pss_one (ps_fldaug (pv 0) pe_int in_sub)), ?_⟩
  cases wk
  refine ⟨_, rfl, M.m, L.CM, M.dx, _, _, rfl, ok.m, D.cMachine, D.noM "depth", rfl, _, _, rfl, rfl, _, _, ok.m, by show 13 < 1000; decide, ?_⟩
  exact q _ (ok.setM (n := s.steps) (d := s.depth - 1)) (Ps.upd mutM)
theorem ok_end_swap (F : Fun K "end_swap" "end_swap" s_end_swap f fd) (D : DsW P w K mg base L) : FnOk P w K mg base CX0 1 f fd ["machine", "thing", "frame"] (spWk L fun t => ∃ i, t = .swp i) := by
  refine F.ok sc_end_swap (fun vs H Q E h => wk_len h) (fun cdv A outer s H vs Q E hr h => ?_)
  obtain ⟨M, H0, s, s', t, x, y, rfl, ok, hxy, ⟨i, rfl⟩, wk, sm, q⟩ := h
  refine ⟨_, (pss_one (ps_asg (pv 1) (pg_sub (pe_fld (pv 0) rfl) (pe_un un_neg pe_int) set_list))), ?_⟩
  cases wk
  rename_i ws v hw
  obtain ⟨wvs, hv, ha⟩ := ok.wr
  rw [hw] at ha
  have hl : wvs.length = ws.length + 1 := by rw [ha.1, List.length_append, List.length_singleton]
  have hA : At (IsVal L M) H (ws ++ [.obj i]) (wvs.set ws.length x) := ⟨by rw [List.length_set, hl, List.length_append, List.length_singleton], fun j u e => by
    by_cases c : ws.length = j
    · subst c
      rw [List.getElem?_set_self (by omega)] at e
      cases e
      exact ⟨.obj i, by rw [List.getElem?_append_right (Nat.le_refl _), Nat.sub_self]; rfl, hxy⟩
    · rw [List.getElem?_set_ne c] at e
      obtain ⟨z, e1, r⟩ := ha.2 j u e
      have hj : j < ws.length := by
        have := (List.getElem?_eq_some_iff.mp e).1
        omega
      rw [List.getElem?_append_left hj] at e1
      exact ⟨z, by rw [List.getElem?_append_left hj]; exact e1, r⟩⟩
  refine ⟨_, rfl, _, rfl, _, L.CM, M.dx, _, _, rfl, ok.m, D.cMachine, D.noM "worths", rfl, _, rfl, M.wr, wvs, -1, ws.length, rfl, rfl, hv, ?_, ?_⟩
  · unfold ixN
    rw [if_neg (by decide), if_pos (by omega), hl]
    simp
    omega
  · exact q _ (ok.setW hA) (Ps.upd mutW)
theorem ok_end_then (F : Fun K "end_then" "end_then" s_end_then f fd) (D : DsW P w K mg base L) : FnOk P w K mg base CX0 2 f fd ["machine", "c", "frame"] (spWk L fun t => ∃ a b fr, t = .e (.thn a b) fr) := by
  refine F.ok sc_end_then (fun vs H Q E h => wk_len h) (fun cdv A outer s H vs Q E hr h => ?_)
  obtain ⟨M, H0, s, s', t, x, y, rfl, ok, hxy, ⟨a, b, fr, rfl⟩, wk, sm, q⟩ := h
  refine ⟨_, (pss_cons (ps_expr (pe_bm0 PySem.F.plainAttrs_list PySem.F.slot_list_pop PySem.F.type_list_pop mt_pop (pe_fld (pv 0) rfl)))
      (pss_one (ps_expr (pe_mn D.cMachine D.Machine_add (hr.mono (by decide)) pass0 (pv 0) (pa_cons (pe_lst (pa_cons (pe_tup (pa_cons pe_str (pa_cons (pe_ix ix_tup (pv 1) pe_int (fun _ _ => rfl)) (pa_cons (pv 2) pa_nil)))) pa_nil)) pa_nil))))), ?_⟩
  obtain ⟨⟨ca, u1, u2, rfl, hc, h1, h2⟩, hfr⟩ := hxy
  cases wk
  rename_i ws v hw
  obtain ⟨wvs, hv, ha⟩ := ok.wr
  rw [hw] at ha
  obtain ⟨wv', vl, rfl⟩ : ∃ wv' vl, wvs = wv' ++ [vl] := by
    rcases List.eq_nil_or_concat wvs with rfl | ⟨wv', vl, e⟩
    · have := ha.1
      simp at this
    · exact ⟨wv', vl, by rw [e, List.concat_eq_append]⟩
  obtain ⟨ws', v', e, ha', _⟩ := ha.last
  obtain ⟨rfl, e2⟩ := List.append_inj' e rfl
  refine ⟨_, rfl, _, L.CM, M.dx, _, _, rfl, ok.m, D.cMachine, D.noM "worths", rfl, .inl ⟨rfl, _, SqL.of hv⟩, M.wr, _, vl, rfl, rfl, hv, by simp, ?_⟩
  rw [List.dropLast_concat]
  have ok1 := ok.setW ha'
  have ps1 : Ps M H (upd H M.wr (.lst wv')) := Ps.upd mutW
  generalize upd H M.wr (.lst wv') = H1 at ok1 ps1 ⊢
  refine ⟨_, rfl, M.m, M.dx, _, rfl, ok1.m, rfl, ?_⟩
  refine ⟨_, rfl, ca, _, _, _, rfl, rfl, SqT.of (ok1.same _ _ hc), rfl, _, rfl, (by show 3 ≤ sizeLine; decide), fun t1 n1 => ?_⟩
  have f1 := same_new (o := .tup [V.str "c", u2, y]) n1
  have g1 : upd H1 t1 (.tup [V.str "c", u2, y]) t1 = some (.tup [V.str "c", u2, y]) := upd_same
  have nt1 := ok1.has n1
  generalize upd H1 t1 (.tup [V.str "c", u2, y]) = H2 at f1 g1 ⊢
  refine ⟨(by show 1 ≤ sizeLine; decide), fun l n3 => ?_⟩
  have f3 := same_new (o := .lst [V.ref t1]) n3
  have g3 : upd H2 l (.lst [V.ref t1]) l = some (.lst [V.ref t1]) := upd_same
  generalize upd H2 l (.lst [V.ref t1]) = H3 at f3 g3 ⊢
  have s13 := f1.trans f3
  refine ⟨M, H0, _, l, _, [.c b fr], rfl, ok1.mono s13, g3, At.one (x := Tk9.c b fr) ⟨t1, _, _, rfl, nt1, f3 _ _ g1, h2, hfr.mono (ps1.trans (Ps.same s13))⟩, Nat.le_trans (Nat.add_le_add_right sm.t 1) (by decide), fun H' ok' ps' => q H' ok' ((ps1.trans (Ps.same s13)).trans ps')⟩
theorem ok_end_direct (F : Fun K "end_direct" "end_direct" s_end_direct f fd) (B : Blt mg) (D : DsW P w K mg base L) : FnOk P w K mg base CX0 4 f fd ["machine", "c", "frame"] (spWk L fun t => ∃ n a fr, t = .e (.dir n a) fr) := by
  refine F.ok sc_end_direct (fun vs H Q E h => wk_len h) (fun cdv A outer s H vs Q E hr h => ?_)
  obtain ⟨M, H0, s, s', t, x, y, rfl, ok, hxy, ⟨n, a, fr, rfl⟩, wk, sm, q⟩ := h
  refine ⟨_, (pss_one (ps_expr (pe_mn D.cMachine D.Machine_begin (hr.mono (by decide)) pass0 (pv 0) (pa_cons (pe_ix ix_tup (pv 1) pe_int (fun _ _ => rfl)) (pa_cons (pe_mn D.cMachine D.Machine_taken (hr.mono (by decide)) pass0 (pv 0) (pa_cons (pe_callB call_len_seq (by rfl) B.len PySem.boot_len (pa_cons (pe_ix ix_tup (pv 1) pe_int (fun _ _ => rfl)) pa_nil)) pa_nil)) pa_nil))))), ?_⟩
  obtain ⟨⟨ca, tp, u, rfl, hc, htp, h1⟩, hfr⟩ := hxy
  obtain ⟨c, ws, v, hw, hb, hd, rfl⟩ : ∃ (c : C9) (ws : List Val9) (v : Val9), s.worths = ws ++ [v] ∧ M.core.bods[n]? = some (1, c) ∧ s.depth ≠ 6000 ∧ s' = { s with worths := ws, depth := s.depth + 1, begun := s.begun ++ [n], tasks := s.tasks ++ [.lev, .c c [v]] } := by
    cases wk
    exact ⟨_, _, _, by assumption, by assumption, by assumption, rfl⟩
  have up : ∀ {a : Addr} {xs : List V}, H0 a = some (.tup xs) → SqT K H a xs := fun h => SqT.of (ok.same _ _ h)
  refine ⟨_, rfl, M.m, M.dx, _, rfl, ok.m, rfl, _, rfl, ca, _, _, _, rfl, rfl, up hc, rfl, ?_⟩
  refine ⟨_, rfl, M.m, M.dx, _, rfl, ok.m, rfl, _, rfl, ca, _, _, _, rfl, rfl, up hc, rfl, tp, _, rfl, .inr (up htp), ?_⟩
  refine ⟨M, H0, s, ws, [v], 1, rfl, ok, hw, rfl, fun H1 p vs ok1 ps1 np hp hat => ?_⟩
  exact ⟨M, H0, _, p, n, c, [v], vs, rfl, ok1, np, hp, hat, hb, by simp, hd, Nat.le_trans (Nat.add_le_add_right sm.t 2) (by decide), Nat.lt_of_le_of_lt sm.b (by decide), fun H' ok' ps' => q H' ok' (ps1.trans ps')⟩
/-- the last of the worths, and what is ahead of it -/
theorem At.cut {α : Type} {R : Hp → α → V → Prop} {H : Hp} {xs : List α} {x : α} {vs : List V} (h : At R H (xs ++ [x]) vs) : ∃ us v, vs = us ++ [v] ∧ At R H xs us ∧ R H x v := by
  obtain ⟨us, v, rfl⟩ : ∃ us v, vs = us ++ [v] := by
    rcases List.eq_nil_or_concat vs with rfl | ⟨us, v, e⟩
    · have := h.1
      simp at this
    · exact ⟨us, v, by rw [e, List.concat_eq_append]⟩
  obtain ⟨ys, y, e, h1, h2⟩ := h.last
  obtain ⟨rfl, e2⟩ := List.append_inj' e rfl
  cases e2
  exact ⟨us, v, rfl, h1, h2⟩
theorem ok_end_send (F : Fun K "end_send" "end_send" s_end_send f fd) (B : Blt mg) (D : DsW P w K mg base L) : FnOk P w K mg base CX0 4 f fd ["machine", "c", "frame"] (spWk L fun t => ∃ a z fr, t = .e (.snd a z) fr) := by
  refine F.ok sc_end_send (fun vs H Q E h => wk_len h) (fun cdv A outer s H vs Q E hr h => ?_)
  obtain ⟨M, H0, s, s', t, x, y, rfl, ok, hxy, ⟨a, z, fr, rfl⟩, wk, sm, q⟩ := h
  refine ⟨_, (pss_cons (ps_set (i := 3) sc_end_send.nd rfl (.inl rfl) (pe_mn D.cMachine D.Machine_taken (hr.mono (by decide)) pass0 (pv 0) (pa_cons (pe_callB call_len_seq (by rfl) B.len PySem.boot_len (pa_cons (pe_ix ix_tup (pv 1) pe_int (fun _ _ => rfl)) pa_nil)) pa_nil)))
      (pss_cons (ps_set (i := 4) sc_end_send.nd rfl (.inl rfl) (pe_mn D.cMachine D.Machine_instance (hr.mono (by decide)) pass0 (pv 0) (pa_cons (pe_bm0 PySem.F.plainAttrs_list PySem.F.slot_list_pop PySem.F.type_list_pop mt_pop (pe_fld (pv 0) rfl)) pa_nil)))
      (pss_cons (ps_set (i := 5) sc_end_send.nd rfl (.inl rfl) (pe_ix ix_list (pe_fld (pv 0) rfl) (pe_fld (pv 4) rfl) (fun _ _ => rfl)))
      (pss_cons (ps_if (pt_cmp (pc_dnotin (hu_of hr) (pe_ix ix_tup (pv 1) pe_int (fun _ _ => rfl)) (pv 5))) pss_never pss_nil)
      (pss_one (ps_expr (pe_mn D.cMachine D.Machine_begin (hr.mono (by decide)) pass0 (pv 0) (pa_cons (pe_dget (hu_of hr) (pv 5) (pe_ix ix_tup (pv 1) pe_int (fun _ _ => rfl)) (fun _ _ => rfl)) (pa_cons (pe_op op_cat (pe_lst (pa_cons (pv 4) pa_nil)) (pv 3)) pa_nil))))))))), ?_⟩
  obtain ⟨⟨ca, u, tp, rfl, hc, htp, h1⟩, hfr⟩ := hxy
  obtain ⟨t, tb, n, c, ws, hw, htb, hrow, hb, hd, rfl⟩ : ∃ (t : Nat) (tb : Tab9) (n : Nat) (c : C9) (ws : List Val9), s.worths = ws ++ [.obj t] ∧ M.core.tabs[t]? = some tb ∧ valV (tb.rows.map rowK) (Sum.inr z : Key) = some (.int (n : Int)) ∧ M.core.bods[n]? = some (1, c) ∧ s.depth ≠ 6000 ∧ s' = { s with worths := ws, depth := s.depth + 1, begun := s.begun ++ [n], tasks := s.tasks ++ [.lev, .c c [.obj t]] } := by
    cases wk
    exact ⟨_, _, _, _, _, by assumption, by assumption, by assumption, by assumption, by assumption, rfl⟩
  have up : ∀ {a : Addr} {xs : List V}, H0 a = some (.tup xs) → SqT K H a xs := fun h => SqT.of (ok.same _ _ h)
  refine ⟨_, rfl, M.m, M.dx, _, rfl, ok.m, rfl, _, rfl, ca, _, _, _, rfl, rfl, up hc, rfl, tp, _, rfl, .inr (up htp), ?_⟩
  refine ⟨M, H0, s, s.worths, [], 0, rfl, ok, by rw [List.append_nil], rfl, fun H1 p vs ok1 ps1 np hp hat => ?_⟩
  have hvs : vs = [] := List.length_eq_zero_iff.mp hat.1
  subst hvs
  obtain ⟨wvs, hv, ha⟩ := ok1.wr
  have ha2 : At (IsVal L M) H1 (ws ++ [.obj t]) wvs := by
    have e : s.worths = ws ++ [.obj t] := hw
    rw [← e]
    exact ha
  obtain ⟨wv', vl, rfl, ha', hvl⟩ := ha2.cut
  refine ⟨_, rfl, M.m, M.dx, _, rfl, ok1.m, rfl, _, rfl, _, L.CM, M.dx, _, _, rfl, ok1.m, D.cMachine, D.noM "worths", rfl, .inl ⟨rfl, _, SqL.of hv⟩, M.wr, _, vl, rfl, rfl, hv, by simp, ?_⟩
  rw [List.dropLast_concat]
  have ok2 := ok1.setW ha'
  have ps12 : Ps M H1 (upd H1 M.wr (.lst wv')) := Ps.upd mutW
  generalize upd H1 M.wr (.lst wv') = H2 at ok2 ps12 ⊢
  have hvl2 : IsVal L M H2 (.obj t) vl := IsVal.mono ps12 hvl
  refine ⟨M, _, t, vl, rfl, hvl2, ?_⟩
  obtain ⟨ia, idx, sd, rfl, ni, hi⟩ := hvl2
  obtain ⟨rv, hrv, d, rfl, nd, hd'⟩ := ok2.rows.get htb
  refine ⟨_, rfl, _, L.CM, M.dx, _, _, rfl, ok2.m, D.cMachine, D.noM "rows", rfl, _, rfl, _, L.CI, idx, _, _, rfl, hi, D.I.cls, D.I.no "table" (by decide), rfl, M.rw, _, _, _, rfl, rfl, SqL.of ok2.rw, atI_nat hrv, ?_⟩
  have up2 : ∀ {a : Addr} {xs : List V}, H0 a = some (.tup xs) → SqT K H2 a xs := fun h => SqT.of (ok2.same _ _ h)
  have hdg : DGet H2 d (.str z) (some (.int (n : Int))) := by
    rw [← hrow]
    exact DGet.k (k := Sum.inr z) hd'
  refine ⟨_, rfl, ca, _, _, _, rfl, rfl, up2 hc, rfl, _, rfl, d, _, rfl, hdg, _, rfl, iteF ?_⟩
  refine ⟨_, rfl, M.m, M.dx, _, rfl, ok2.m, rfl, _, rfl, _, rfl, ca, _, _, _, rfl, rfl, up2 hc, rfl, d, _, rfl, hdg, ?_⟩
  refine ⟨_, rfl, (by show 1 ≤ sizeLine; decide), fun l n1 => ?_⟩
  have f1 := same_new (o := .lst [V.ref ia]) n1
  have g1 : upd H2 l (.lst [V.ref ia]) l = some (.lst [V.ref ia]) := upd_same
  generalize upd H2 l (.lst [V.ref ia]) = H3 at f1 g1 ⊢
  refine ⟨_, rfl, l, p, _, [], rfl, rfl, g1, f1 _ _ (ps12 _ _ np hp), (by show 1 ≤ sizeLine; decide), fun l2 n2 => ?_⟩
  have f2 := same_new (o := .lst ([V.ref ia] ++ [])) n2
  have g2 : upd H3 l2 (.lst ([V.ref ia] ++ [])) l2 = some (.lst [V.ref ia]) := upd_same
  have nl2 := (ok2.mono f1).has n2
  generalize upd H3 l2 (.lst ([V.ref ia] ++ [])) = H4 at f2 g2 ⊢
  have s24 := f1.trans f2
  have ok4 := ok2.mono s24
  exact ⟨M, H0, _, l2, n, c, [.obj t], _, rfl, ok4, nl2, g2, At.one (x := Val9.obj t) ⟨ia, idx, sd, rfl, ni, s24 _ _ hi⟩, hb, by simp, hd, Nat.le_trans (Nat.add_le_add_right sm.t 2) (by decide), Nat.lt_of_le_of_lt sm.b (by decide), fun H' ok' ps' => q H' ok' (((ps1.trans ps12).trans (Ps.same s24)).trans ps')⟩
end
end K9
end
section
set_option Elab.async false
set_option linter.all false
set_option maxRecDepth 100000
set_option maxHeartbeats 4000000
namespace K9
open PySem PySem.Spec PyProof.Rows L2
def spReadKept (L : Cl9) : Sp := fun vs H Q _ => ∃ (M : Mc) (H0 : Hp) (s : St9) (i : Nat) (a : Addr), vs = [.ref M.m, .ref a] ∧ MOk L M H0 H s ∧ M.ks[i]? = some a ∧ Small s ∧
  ((s.once[i]? = some .fresh ∧ ∀ H', MOk L M H0 H' { s with once := s.once.set i .way } → Ps M H H' → Q (.bl true) H') ∨ ∃ v, s.once[i]? = some (.done v) ∧ ∀ H', MOk L M H0 H' { s with worths := s.worths ++ [v] } → Ps M H H' → Q (.bl false) H')
section
variable {P : Program} {w : World} {K : PySem.W.Frag} {mg : Str → Option Value} {base : Heap} {f : Addr} {fd : FuncData} {L : Cl9}
theorem ok_read_kept (F : Fun K "read_kept" "read_kept" s_read_kept f fd) (D : DsW P w K mg base L) : FnOk P w K mg base CX0 1 f fd ["machine", "kept"] (spReadKept L) := by
  refine F.ok sc_read_kept (fun vs H Q E h => ?_) (fun cdv A outer s H vs Q E hr h => ?_)
  · obtain ⟨M, H0, s, i, a, rfl, _⟩ := h
    rfl
  · obtain ⟨M, H0, s, i, a, rfl, ok, ha, sm, h⟩ := h
    refine ⟨_, (pss_cons (ps_if (pt_cmpR op_eq (pe_fld (pv 1) rfl) pe_str (nomark _)) pss_never pss_nil)
      (pss_cons (ps_if (pt_cmpR op_eq (pe_fld (pv 1) rfl) pe_str (nomark _)) (pss_cons (ps_expr (pe_bm PySem.F.plainAttrs_list PySem.F.slot_list_append PySem.F.type_list_append mt_append (pe_fld (pv 0) rfl) (pa_cons (pe_fld (pv 1) rfl) pa_nil)))
      (pss_one (ps_ret pe_bl))) pss_nil)
      (pss_cons (ps_fld (pv 1) pe_str rfl)
      (pss_one (ps_ret pe_bl))))), ?_⟩
    obtain ⟨wvs, hv, hw⟩ := ok.wr
    rcases h with ⟨hk, q⟩ | ⟨v, hk, q⟩
    · obtain ⟨dx, lb, v, e, _⟩ := ok.ks i _ a hk ha
      refine ⟨_, rfl, a, L.CK, dx, _, _, rfl, e, D.Kp.cls, D.noK "state", rfl, rfl, _, rfl, iteF ?_⟩
      refine ⟨_, rfl, a, L.CK, dx, _, _, rfl, e, D.Kp.cls, D.noK "state", rfl, rfl, _, rfl, iteF ?_⟩
      refine ⟨_, rfl, a, L.CK, dx, _, rfl, e, D.Kp.cls, D.noK "state", by show 5 < 1000; decide, ?_⟩
      exact q _ (ok.setK (k := .way) (lb := lb) (v := v) ha trivial) (Ps.upd (mutK (List.mem_of_getElem? ha)))
    · obtain ⟨dx, lb, u, e, hu⟩ := ok.ks i _ a hk ha
      refine ⟨_, rfl, a, L.CK, dx, _, _, rfl, e, D.Kp.cls, D.noK "state", rfl, rfl, _, rfl, iteF ?_⟩
      refine ⟨_, rfl, a, L.CK, dx, _, _, rfl, e, D.Kp.cls, D.noK "state", rfl, rfl, _, rfl, iteT ?_⟩
      refine ⟨_, rfl, _, L.CM, M.dx, _, _, rfl, ok.m, D.cMachine, D.noM "worths", rfl, .inl ⟨rfl, _, SqL.of hv⟩, _, rfl, a, L.CK, dx, _, _, rfl, e, D.Kp.cls, D.noK "worth", rfl, M.wr, _, _, rfl, rfl, hv, by rw [hw.1]; exact Nat.lt_of_le_of_lt sm.w (by decide), ?_⟩
      exact q _ (ok.push hv hw (v := v) hu) (Ps.upd mutW)
theorem ok_work_single (F : Fun K "work_single" "work_single" s_work_single f fd) (D : DsW P w K mg base L) (R : Dn P w K mg base CX0 "read_kept" 1 2 (spReadKept L)) : FnOk P w K mg base CX0 4 f fd ["machine", "c", "frame"] (spWk L fun t => ∃ i fr, t = .c (.sgl i) fr) := by
  refine F.ok sc_work_single (fun vs H Q E h => wk_len h) (fun cdv A outer s H vs Q E hr h => ?_)
  obtain ⟨M, H0, s, s', t, x, y, rfl, ok, hxy, ⟨i, fr, rfl⟩, wk, sm, q⟩ := h
  refine ⟨_, (pss_cons (ps_set (i := 3) sc_work_single.nd rfl (.inl rfl) (pe_ix ix_list (pe_fld (pv 0) rfl) (pe_ix ix_tup (pv 1) pe_int (fun _ _ => rfl)) (fun _ _ => rfl)))
      (pss_one (ps_if (pt_val (pe_dn R (hr.mono (by decide)) pass0 (pa_cons (pv 0) (pa_cons (pv 3) pa_nil)))) (pss_cons (ps_expr (pe_mn D.cMachine D.Machine_add (hr.mono (by decide)) pass0 (pv 0) (pa_cons (pe_lst (pa_cons (pe_tup (pa_cons pe_str (pa_cons (pv 3) (pa_cons (pv 2) pa_nil)))) pa_nil)) pa_nil)))
      (pss_one (ps_expr (pe_mn D.cMachine D.Machine_begin (hr.mono (by decide)) pass0 (pv 0) (pa_cons (pe_ix ix_tup (pe_ix ix_tup (pe_fld (pv 0) rfl) (pe_ix ix_tup (pv 1) pe_int (fun _ _ => rfl)) (fun _ _ => rfl)) pe_int (fun _ _ => rfl)) (pa_cons (pe_lst pa_nil) pa_nil)))))) pss_nil))), ?_⟩
  obtain ⟨⟨ca, rfl, hc⟩, hfr⟩ := hxy
  have up : ∀ {a : Addr} {xs : List V}, H0 a = some (.tup xs) → SqT K H a xs := fun h => SqT.of (ok.same _ _ h)
  have hq : ∃ a, M.ks[i]? = some a ∧ ((s.once[i]? = some .fresh ∧ ∃ n lb c, M.core.sgls[i]? = some (n, lb) ∧ M.core.bods[n]? = some (0, c) ∧ s.depth ≠ 6000 ∧ s' = { s with once := s.once.set i .way, depth := s.depth + 1, begun := s.begun ++ [n], tasks := s.tasks ++ [.kep i] ++ [.lev, .c c []] }) ∨ ∃ v, s.once[i]? = some (.done v) ∧ s' = { s with worths := s.worths ++ [v] }) := by
    have hks : ∀ {k}, s.once[i]? = some k → ∃ a, M.ks[i]? = some a := fun h => ⟨_, List.getElem?_eq_getElem (by rw [ok.lk]; exact (List.getElem?_eq_some_iff.mp h).1)⟩
    cases wk with
    | sglD h => exact let ⟨a, e⟩ := hks h; ⟨a, e, .inr ⟨_, h, rfl⟩⟩
    | sglF h h1 h2 h3 => exact let ⟨a, e⟩ := hks h; ⟨a, e, .inl ⟨h, _, _, _, h1, h2, h3, rfl⟩⟩
  obtain ⟨a, ha, hq⟩ := hq
  have hat : (M.ks.map V.ref)[i]? = some (.ref a) := by rw [List.getElem?_map, ha]; rfl
  refine ⟨_, rfl, _, L.CM, M.dx, _, _, rfl, ok.m, D.cMachine, D.noM "once_worked", rfl, _, rfl, ca, _, _, _, rfl, rfl, up hc, rfl, M.oc, _, _, _, rfl, rfl, SqL.of ok.oc, atI_nat hat, ?_⟩
  rcases hq with ⟨hf, n, lb, c, h1, h2, h3, rfl⟩ | ⟨v, hd, rfl⟩
  · refine ⟨_, rfl, _, rfl, M, H0, s, i, a, rfl, ok, ha, sm, .inl ⟨hf, fun H1 ok1 ps1 => ⟨_, rfl, iteT ?_⟩⟩⟩
    refine ⟨_, rfl, M.m, M.dx, _, rfl, ok1.m, rfl, _, rfl, _, rfl, (by show 3 ≤ sizeLine; decide), fun t1 n1 => ?_⟩
    have f1 := same_new (o := .tup [V.str "keep", V.ref a, y]) n1
    have g1 : upd H1 t1 (.tup [V.str "keep", V.ref a, y]) t1 = some (.tup [V.str "keep", V.ref a, y]) := upd_same
    have nt1 := ok1.has n1
    generalize upd H1 t1 (.tup [V.str "keep", V.ref a, y]) = H2 at f1 g1 ⊢
    refine ⟨(by show 1 ≤ sizeLine; decide), fun l n3 => ?_⟩
    have f3 := same_new (o := .lst [V.ref t1]) n3
    have g3 : upd H2 l (.lst [V.ref t1]) l = some (.lst [V.ref t1]) := upd_same
    generalize upd H2 l (.lst [V.ref t1]) = H3 at f3 g3 ⊢
    have s13 := f1.trans f3
    refine ⟨M, H0, _, l, _, [.kep i], rfl, ok1.mono s13, g3, At.one (x := Tk9.kep i) ⟨t1, a, y, rfl, nt1, f3 _ _ g1, ha⟩, Nat.le_trans (Nat.add_le_add_right sm.t 1) (by decide), fun H4 ok4 ps4 => ?_⟩
    obtain ⟨sv, hsv, sa, rfl, hsa⟩ := ok4.sgl.get h1
    have up4 : ∀ {a : Addr} {xs : List V}, H0 a = some (.tup xs) → SqT K H4 a xs := fun h => SqT.of (ok4.same _ _ h)
    refine ⟨_, rfl, M.m, M.dx, _, rfl, ok4.m, rfl, _, rfl, _, L.CM, M.dx, _, _, rfl, ok4.m, D.cMachine, D.noM "singles", rfl, _, rfl, ca, _, _, _, rfl, rfl, up4 hc, rfl, M.sa, _, _, _, rfl, rfl, up4 ok4.hsa, atI_nat hsv, sa, _, _, _, rfl, rfl, up4 hsa, rfl, Nat.zero_le _, fun l5 n5 => ?_⟩
    have f5 := same_new (o := .lst []) n5
    have nl5 := ok4.has n5
    have g5 : upd H4 l5 (.lst []) l5 = some (.lst []) := upd_same
    generalize upd H4 l5 (.lst []) = H5 at f5 g5 ⊢
    exact ⟨M, H0, _, l5, n, c, [], [], rfl, ok4.mono f5, nl5, g5, At.nil, h2, Nat.zero_le _, h3, by show (s.tasks ++ _).length + 2 ≤ _; rw [List.length_append]; exact Nat.le_trans (Nat.add_le_add_right (Nat.add_le_add_right sm.t 1) 2) (by decide), Nat.lt_of_le_of_lt sm.b (by decide), fun H' ok' ps' => q H' ok' ((((ps1.trans (Ps.same s13)).trans ps4).trans (Ps.same f5)).trans ps')⟩
  · exact ⟨_, rfl, _, rfl, M, H0, s, i, a, rfl, ok, ha, sm, .inr ⟨v, hd, fun H1 ok1 ps1 => ⟨_, rfl, iteF (q H1 ok1 ps1)⟩⟩⟩
theorem ok_end_keep (F : Fun K "end_keep" "end_keep" s_end_keep f fd) (D : DsW P w K mg base L) : FnOk P w K mg base CX0 1 f fd ["machine", "kept", "frame"] (spWk L fun t => ∃ i, t = .kep i) := by
  refine F.ok sc_end_keep (fun vs H Q E h => wk_len h) (fun cdv A outer s H vs Q E hr h => ?_)
  obtain ⟨M, H0, s, s', t, x, y, rfl, ok, hxy, ⟨i, rfl⟩, wk, sm, q⟩ := h
  refine ⟨_, (pss_cons (ps_fld (pv 1) pe_str rfl)
      (pss_one (ps_fld (pv 1) (pe_ix ix_list (pe_fld (pv 0) rfl) (pe_un un_neg pe_int) (fun _ _ => rfl)) rfl))), ?_⟩
  obtain ⟨a, rfl, ha⟩ := hxy
  obtain ⟨ws, v, hw, rfl⟩ : ∃ (ws : List Val9) (v : Val9), s.worths = ws ++ [v] ∧ s' = { s with once := s.once.set i (.done v) } := by
    cases wk
    exact ⟨_, _, by assumption, rfl⟩
  obtain ⟨wvs, hv, hwa⟩ := ok.wr
  rw [hw] at hwa
  obtain ⟨us, u, rfl, _, hu⟩ := hwa.cut
  have hm := List.mem_of_getElem? ha
  obtain ⟨dx, lb, vv, st, e⟩ := ok.km hm
  have nm : M.m ≠ a := fun z => by
    rw [← z, ok.m] at e
    exact insKM (Option.some.inj e).symm
  have nw : M.wr ≠ a := (ok.kl hm hv).symm
  refine ⟨_, rfl, a, L.CK, dx, _, rfl, e, D.Kp.cls, D.noK "state", by show 5 < 1000; decide, ?_⟩
  refine ⟨_, rfl, _, L.CM, M.dx, _, _, rfl, (upd_ne nm).trans ok.m, D.cMachine, D.noM "worths", rfl, _, rfl, M.wr, _, _, _, rfl, rfl, SqL.of ((upd_ne nw).trans hv), atI_last us u, _, rfl, a, L.CK, dx, _, rfl, upd_same, D.Kp.cls, D.noK "worth", by show 5 < 1000; decide, ?_⟩
  rw [up2]
  exact q _ (ok.setK (k := .done v) (lb := lb) (v := u) ha hu) (Ps.upd (mutK hm))
theorem ok_end_make (F : Fun K "end_make" "end_make" s_end_make f fd) (B : Blt mg) (D : DsW P w K mg base L) : FnOk P w K mg base CX0 4 f fd ["machine", "c", "frame"] (spWk L fun t => ∃ n fr, t = .e (.mak n) fr) := by
  refine F.ok sc_end_make (fun vs H Q E h => wk_len h) (fun cdv A outer s H vs Q E hr h => ?_)
  obtain ⟨M, H0, s, s', t, x, y, rfl, ok, hxy, ⟨n, fr, rfl⟩, wk, sm, q⟩ := h
  refine ⟨_, (pss_cons (ps_set (i := 3) sc_end_make.nd rfl (.inl rfl) (pe_kn D.cInstance (hr.mono (by decide)) pass0 (pa_cons (pe_ix ix_tup (pv 1) pe_int (fun _ _ => rfl)) pa_nil)))
      (pss_cons (ps_set (i := 4) sc_end_make.nd rfl (.inl rfl) (pe_op op_cat (pe_lst (pa_cons (pv 3) pa_nil)) (pe_mn D.cMachine D.Machine_taken (hr.mono (by decide)) pass0 (pv 0) (pa_cons (pe_callB call_len_seq (by rfl) B.len PySem.boot_len (pa_cons (pe_ix ix_tup (pv 1) pe_int (fun _ _ => rfl)) pa_nil)) pa_nil))))
      (pss_cons (ps_expr (pe_mn D.cMachine D.Machine_add (hr.mono (by decide)) pass0 (pv 0) (pa_cons (pe_lst (pa_cons (pe_tup (pa_cons pe_str (pa_cons (pv 3) (pa_cons (pv 2) pa_nil)))) pa_nil)) pa_nil)))
      (pss_one (ps_expr (pe_mn D.cMachine D.Machine_begin (hr.mono (by decide)) pass0 (pv 0) (pa_cons (pe_ix ix_tup (pe_ix ix_tup (pe_fld (pv 0) rfl) (pe_ix ix_tup (pv 1) pe_int (fun _ _ => rfl)) (fun _ _ => rfl)) pe_int (fun _ _ => rfl)) (pa_cons (pv 4) pa_nil)))))))), ?_⟩
  obtain ⟨⟨ca, tp, rfl, hc, htp⟩, hfr⟩ := hxy
  obtain ⟨tb, c, htb, hb, hd, rfl⟩ : ∃ (tb : Tab9) (c : C9), M.core.tabs[n]? = some tb ∧ M.core.bods[tb.begin]? = some (1, c) ∧ s.depth ≠ 6000 ∧ s' = { s with depth := s.depth + 1, begun := s.begun ++ [tb.begin], tasks := s.tasks ++ [.swp n] ++ [.lev, .c c [.obj n]] } := by
    cases wk
    exact ⟨_, _, by assumption, by assumption, by assumption, rfl⟩
  have up : ∀ {a : Addr} {xs : List V} {H' : Hp}, H0 a = some (.tup xs) → Same H0 H' → SqT K H' a xs := fun h e => SqT.of (e _ _ h)
  refine ⟨_, rfl, ca, _, _, _, rfl, rfl, up hc ok.same, rfl, fun x dx nx ndx ne => ?_⟩
  have s1 : Same H (upd (upd H dx (.own x)) x (.ins L.CI dx [])) := (same_new ndx).trans (same_new (by rw [upd_ne (Ne.symm ne)]; exact nx))
  refine ⟨x, dx, _, rfl, upd_same, fun dd hne hdd => ⟨rfl, ?_⟩⟩
  have s2 : Same H (upd (upd (upd (upd H dx (.own x)) x (.ins L.CI dx [])) dd (.dK [])) x (.ins L.CI dx [("table", .int n), ("slots", .ref dd)])) := fro nx (s1.trans (same_new hdd))
  have hx2 : upd (upd (upd (upd H dx (.own x)) x (.ins L.CI dx [])) dd (.dK [])) x (.ins L.CI dx [("table", .int n), ("slots", .ref dd)]) x = some (.ins L.CI dx [("table", .int n), ("slots", .ref dd)]) := upd_same
  have npx : ¬ M.mut x := ok.has nx
  generalize upd (upd (upd (upd H dx (.own x)) x (.ins L.CI dx [])) dd (.dK [])) x (.ins L.CI dx [("table", .int n), ("slots", .ref dd)]) = H2 at s2 hx2 ⊢
  have ok2 := ok.mono s2
  refine ⟨_, rfl, (by show 1 ≤ sizeLine; decide), fun l n1 => ?_⟩
  have f1 := same_new (o := .lst [V.ref x]) n1
  have nl := ok2.has n1
  have g1 : upd H2 l (.lst [V.ref x]) l = some (.lst [V.ref x]) := upd_same
  generalize upd H2 l (.lst [V.ref x]) = H3 at f1 g1 ⊢
  have ok3 := ok2.mono f1
  refine ⟨_, rfl, M.m, M.dx, _, rfl, ok3.m, rfl, _, rfl, ca, _, _, _, rfl, rfl, up hc ok3.same, rfl, tp, _, rfl, .inr (up htp ok3.same), ?_⟩
  refine ⟨M, H0, s, s.worths, [], 0, rfl, ok3, by rw [List.append_nil], rfl, fun H4 p vs ok4 ps4 np hp hat => ?_⟩
  have hvs : vs = [] := List.length_eq_zero_iff.mp hat.1
  subst hvs
  refine ⟨l, p, _, [], rfl, rfl, ps4 _ _ nl g1, hp, (by show 1 ≤ sizeLine; decide), fun l2 n2 => ?_⟩
  have f2 := same_new (o := .lst ([V.ref x] ++ [])) n2
  have g2 : upd H4 l2 (.lst ([V.ref x] ++ [])) l2 = some (.lst [V.ref x]) := upd_same
  have nl2 := ok4.has n2
  generalize upd H4 l2 (.lst ([V.ref x] ++ [])) = H5 at f2 g2 ⊢
  have ok5 := ok4.mono f2
  have ps5 : Ps M H2 H5 := ((Ps.same f1).trans ps4).trans (Ps.same f2)
  have hx5 := ps5 _ _ npx hx2
  refine ⟨_, rfl, M.m, M.dx, _, rfl, ok5.m, rfl, _, rfl, _, rfl, (by show 3 ≤ sizeLine; decide), fun t1 n3 => ?_⟩
  have f3 := same_new (o := .tup [V.str "swap", V.ref x, y]) n3
  have g3 : upd H5 t1 (.tup [V.str "swap", V.ref x, y]) t1 = some (.tup [V.str "swap", V.ref x, y]) := upd_same
  have nt1 := ok5.has n3
  generalize upd H5 t1 (.tup [V.str "swap", V.ref x, y]) = H6 at f3 g3 ⊢
  refine ⟨(by show 1 ≤ sizeLine; decide), fun l3 n4 => ?_⟩
  have f4 := same_new (o := .lst [V.ref t1]) n4
  have g4 : upd H6 l3 (.lst [V.ref t1]) l3 = some (.lst [V.ref t1]) := upd_same
  generalize upd H6 l3 (.lst [V.ref t1]) = H7 at f4 g4 ⊢
  have s57 := f3.trans f4
  have ok7 := ok5.mono s57
  refine ⟨M, H0, _, l3, _, [.swp n], rfl, ok7, g4, At.one (x := Tk9.swp n) ⟨t1, _, _, rfl, nt1, f4 _ _ g3, x, dx, dd, rfl, npx, s57 _ _ hx5⟩, Nat.le_trans (Nat.add_le_add_right sm.t 1) (by decide), fun H8 ok8 ps8 => ?_⟩
  obtain ⟨tv, htv, at', y0, e1, e2, r, rs, rfl, hat', _⟩ := ok8.tab.get htb
  have ps58 : Ps M H5 H8 := (Ps.same s57).trans ps8
  refine ⟨_, rfl, M.m, M.dx, _, rfl, ok8.m, rfl, _, rfl, _, L.CM, M.dx, _, _, rfl, ok8.m, D.cMachine, D.noM "tables", rfl, _, rfl, ca, _, _, _, rfl, rfl, up hc ok8.same, rfl, M.ta, _, _, _, rfl, rfl, up ok8.hta ok8.same, atI_nat htv, at', _, _, _, rfl, rfl, up hat' ok8.same, rfl, _, rfl, ?_⟩
  exact ⟨M, H0, _, l2, tb.begin, c, [.obj n], _, rfl, ok8, nl2, ps58 _ _ nl2 g2, At.one (x := Val9.obj n) ⟨x, dx, dd, rfl, npx, ps58 _ _ npx hx5⟩, hb, by simp, hd, by show (s.tasks ++ _).length + 2 ≤ _; rw [List.length_append]; exact Nat.le_trans (Nat.add_le_add_right (Nat.add_le_add_right sm.t 1) 2) (by decide), Nat.lt_of_le_of_lt sm.b (by decide), fun H' ok' ps' => q H' ok' ((((Ps.same s2).trans ps5).trans ps58).trans ps')⟩
end
end K9
end
section
set_option Elab.async false
set_option linter.all false
set_option maxRecDepth 100000
set_option maxHeartbeats 4000000
namespace K9
open PySem PySem.Spec PyProof.Rows L2
/-- the run of the machine: to its end, or to where a further step is over the bound -/
inductive Runs (core : Core9) (bound : Nat) : Nat → St9 → St9 → Bool → Prop where
  | done {s} (h : s.tasks = []) : Runs core bound 0 s s true
  | stop {s ts k fr} (h : s.tasks = ts ++ [.c k fr]) (hb : s.steps = bound) : Runs core bound 0 s { s with tasks := ts } false
  | stepC {n s ts k fr s' s'' b} (h : s.tasks = ts ++ [.c k fr]) (hb : s.steps ≠ bound) (sm : Small s) (hw : Wk core (.c k fr) { s with tasks := ts, steps := s.steps + 1 } s') (r : Runs core bound n s' s'' b) : Runs core bound (n + 1) s s'' b
  | stepE {n s ts t s' s'' b} (h : s.tasks = ts ++ [t]) (ht : ∀ k fr, t ≠ .c k fr) (sm : Small s) (hw : Wk core t { s with tasks := ts } s') (r : Runs core bound n s' s'' b) : Runs core bound (n + 1) s s'' b
def Tk9.word : Tk9 → Str
  | .c _ _ => "c" | .e k _ => k.word | .swp _ => "swap" | .lev => "leave" | .kep _ => "keep"
section
variable {L : Cl9} {M : Mc} {H0 H : Hp}
theorem IsTk.xy : ∀ {t : Tk9} {v : V}, IsTk L M H0 H t v → ∃ a x y, v = .ref a ∧ H a = some (.tup [.str t.word, x, y]) ∧ IsXY L M H0 H t x y
  | .c _ _, _, ⟨a, x, y, e, n, h, h1, h2⟩ => ⟨a, x, y, e, h, h1, h2⟩
  | .e _ _, _, ⟨a, x, y, e, n, h, h1, h2⟩ => ⟨a, x, y, e, h, h1, h2⟩
  | .swp _, _, ⟨a, x, y, e, n, h, h1⟩ => ⟨a, x, y, e, h, h1⟩
  | .lev, _, ⟨a, x, y, e, n, h⟩ => ⟨a, x, y, e, h, trivial⟩
  | .kep _, _, ⟨a, x, y, e, n, h, h1⟩ => ⟨a, _, y, e, h, x, rfl, h1⟩
end
section
variable (P : Program) (w : World) (K : PySem.W.Frag) (mg : Str → Option Value) (base : Heap) (L : Cl9)
/-- the table at d has at z a def of this promise -/
def Hnd (d : Addr) (z : Str) (Pt : Tk9 → Prop) : Prop := ∃ f, KDct K w d z (.ref f) ∧ PySem.W.keepIn K (.ref f) = true ∧ ∃ fd ps, FnOk P w K mg base CX0 4 f fd ps (spWk L Pt) ∧ Binds K fd ps []
structure DsL (bd ed : Addr) : Prop where
  BEGINS : mg "BEGINS" = some (.ref bd)
  ENDS : mg "ENDS" = some (.ref ed)
  cM : ClsF K L.CM mcF
  unit : Hnd P w K mg base L bd "unit" (fun t => ∃ fr, t = .c .unit fr)
  loc : Hnd P w K mg base L bd "local" (fun t => ∃ fr, t = .c .loc fr)
  thn : Hnd P w K mg base L bd "then" (fun t => ∃ a b fr, t = .c (.thn a b) fr)
  dir : Hnd P w K mg base L bd "direct" (fun t => (∃ n a fr, t = .c (.dir n a) fr) ∨ ∃ n fr, t = .c (.mak n) fr)
  snd : Hnd P w K mg base L bd "send" (fun t => ∃ a z fr, t = .c (.snd a z) fr)
  mak : Hnd P w K mg base L bd "make" (fun t => (∃ n a fr, t = .c (.dir n a) fr) ∨ ∃ n fr, t = .c (.mak n) fr)
  sgl : Hnd P w K mg base L bd "single" (fun t => ∃ i fr, t = .c (.sgl i) fr)
  ethn : Hnd P w K mg base L ed "then" (fun t => ∃ a b fr, t = .e (.thn a b) fr)
  edir : Hnd P w K mg base L ed "direct" (fun t => ∃ n a fr, t = .e (.dir n a) fr)
  esnd : Hnd P w K mg base L ed "send" (fun t => ∃ a z fr, t = .e (.snd a z) fr)
  emak : Hnd P w K mg base L ed "make" (fun t => ∃ n fr, t = .e (.mak n) fr)
  eswp : Hnd P w K mg base L ed "swap" (fun t => ∃ i, t = .swp i)
  elev : Hnd P w K mg base L ed "leave" (fun t => t = .lev)
  ekep : Hnd P w K mg base L ed "keep" (fun t => ∃ i, t = .kep i)
end
section
variable {P : Program} {w : World} {K : PySem.W.Frag} {mg : Str → Option Value} {base : Heap} {L : Cl9} {bd ed : Addr}
theorem DsL.beg (D : DsL P w K mg base L bd ed) : ∀ (k : C9) (fr : List Val9), ∃ Pt : Tk9 → Prop, Hnd P w K mg base L bd k.word Pt ∧ Pt (.c k fr)
  | .unit, fr => ⟨_, D.unit, _, rfl⟩
  | .loc, fr => ⟨_, D.loc, _, rfl⟩
  | .thn _ _, fr => ⟨_, D.thn, _, _, _, rfl⟩
  | .dir _ _, fr => ⟨_, D.dir, .inl ⟨_, _, _, rfl⟩⟩
  | .snd _ _, fr => ⟨_, D.snd, _, _, _, rfl⟩
  | .mak _, fr => ⟨_, D.mak, .inr ⟨_, _, rfl⟩⟩
  | .sgl _, fr => ⟨_, D.sgl, _, _, rfl⟩
theorem DsL.fin (D : DsL P w K mg base L bd ed) {core : Core9} {t : Tk9} {s s' : St9} (hw : Wk core t s s') (ht : ∀ k fr, t ≠ .c k fr) : ∃ Pt : Tk9 → Prop, Hnd P w K mg base L ed t.word Pt ∧ Pt t ∧ ¬ t.word = "c" := by
  cases hw with
  | eThn _ => exact ⟨_, D.ethn, ⟨_, _, _, rfl⟩, (by decide : ¬ ("then" : Str) = "c")⟩
  | eDir _ _ _ => exact ⟨_, D.edir, ⟨_, _, _, rfl⟩, (by decide : ¬ ("direct" : Str) = "c")⟩
  | eSnd _ _ _ _ _ => exact ⟨_, D.esnd, ⟨_, _, _, rfl⟩, (by decide : ¬ ("send" : Str) = "c")⟩
  | eMak _ _ _ => exact ⟨_, D.emak, ⟨_, _, rfl⟩, (by decide : ¬ ("make" : Str) = "c")⟩
  | swp _ => exact ⟨_, D.eswp, ⟨_, rfl⟩, (by decide : ¬ ("swap" : Str) = "c")⟩
  | lev => exact ⟨_, D.elev, rfl, (by decide : ¬ ("leave" : Str) = "c")⟩
  | kep _ => exact ⟨_, D.ekep, ⟨_, rfl⟩, (by decide : ¬ ("keep" : Str) = "c")⟩
  | _ => exact (ht _ _ rfl).elim
end
theorem sc_Machine_work : FnScope ["self", "word", "thing", "frame", "work"] ["self"] (defScope s_Machine_work) := ⟨rfl, rfl, rfl, by decide +kernel, rfl, by decide +kernel, by decide +kernel⟩
/-- the error of the bound -/
def endX (a b : Str) : HO := .xd [("text", .str b), ("word", .str a)]
def spWork (L : Cl9) (CE : Addr) : Sp := fun vs H Q E => ∃ (M : Mc) (H0 : Hp) (s s'' : St9) (n : Nat) (b : Bool), vs = [.ref M.m] ∧ MOk L M H0 H s ∧ Runs M.core M.bound n s s'' b ∧
  (b = true → ∀ H', MOk L M H0 H' s'' → Ps M H H' → Q .non H') ∧ (b = false → ∀ H' d, MOk L M H0 H' s'' → Ps M H H' → ¬ M.mut d → H' d = some (endX "steps" "") → E (.ref CE) (some d) H')
section
variable {P : Program} {w : World} {K : PySem.W.Frag} {mg : Str → Option Value} {base : Heap} {f CE fI bd ed : Addr} {fd : FuncData} {L : Cl9} {qual : Str}
theorem ok_work (F : Fun K "work" "Machine.work" s_Machine_work f fd) (B : Blt mg) (D : DsL P w K mg base L bd ed) (T : PySem.OwnY.OwnT P K qual CE fI) (gE : mg "Ended" = some (.ref CE)) (tyE : PySem.W.typeIn K (.ref CE) = some (.type "type")) : FnOk P w K mg base (L2.CX P w) 5 f fd ["self"] (spWork L CE) := by
  refine F.okX sc_Machine_work (fun vs H Q E h => ?_) (fun cdv A outer s H vs Q E hr h => ?_)
  · obtain ⟨M, H0, s, s'', n, b, rfl, _⟩ := h
    rfl
  · obtain ⟨M, H0, s, s'', n, b, rfl, ok, run, q1, q2⟩ := h
    refine ⟨_, (pss_one (ps_while (passes_of rfl) (pt_truth (pe_fld (pv 0) rfl) (fun _ => rfl)) (pss_cons (ps_asg (pe_bm0 PySem.F.plainAttrs_list PySem.F.slot_list_pop PySem.F.type_list_pop mt_pop (pe_fld (pv 0) rfl)) (pg_tup rfl (pgs_cons (pg_name (i := 1) sc_Machine_work.nd rfl (.inl rfl)) (pgs_cons (pg_name (i := 2) sc_Machine_work.nd rfl (.inl rfl)) (pgs_cons (pg_name (i := 3) sc_Machine_work.nd rfl (.inl rfl)) pgs_nil)))))
      (pss_cons (ps_if (pt_cmpR op_ne (pv 1) pe_str (nomark _)) (pss_cons (ps_set (i := 4) sc_Machine_work.nd rfl (.inl rfl) (pe_ix ix_kdict (pe_gr D.ENDS) (pv 1) (fun _ _ => rfl)))
      (pss_cons (ps_expr (pe_callX (k := 4) (i := 4) CX0 (hr.mono (by decide)) rfl (.inl rfl) pass0 (pa_cons (pv 0) (pa_cons (pv 2) (pa_cons (pv 3) pa_nil)))))
      (pss_one ps_continue))) pss_nil)
      (pss_cons (ps_if (pt_cmpR op_eq (pe_fld (pv 0) rfl) (pe_fld (pv 0) rfl) (nomark _)) (pss_one (ps_raise rfl (takes_of rfl rfl rfl rfl) (pmk_Y T (k := 1) (hr.mono (by decide)) B.super gE tyE (pa_cons pe_str (pa_cons pe_str pa_nil))))) pss_nil)
      (pss_cons (ps_fldaug (pv 0) pe_int in_add)
      (pss_cons (ps_set (i := 4) sc_Machine_work.nd rfl (.inl rfl) (pe_ix ix_kdict (pe_gr D.BEGINS) (pe_ix ix_tup (pv 2) pe_int (fun _ _ => rfl)) (fun _ _ => rfl)))
      (pss_one (ps_expr (pe_callX (k := 4) (i := 4) CX0 (hr.mono (by decide)) rfl (.inl rfl) pass0 (pa_cons (pv 0) (pa_cons (pv 2) (pa_cons (pv 3) pa_nil))))))))))))), ?_⟩
    refine ⟨fun n σ H1 => ∃ u1 u2 u3 u4 s1, σ = [some (.ref M.m), u1, u2, u3, u4] ∧ MOk L M H0 H1 s1 ∧ Ps M H H1 ∧ Runs M.core M.bound n s1 s'' b, ⟨n, _, _, _, _, s, rfl, ok, Ps.refl H, run⟩, fun n σ H1 h1 => ?_⟩
    obtain ⟨u1, u2, u3, u4, s1, rfl, ok1, ps1, run1⟩ := h1
    have pop : ∀ {ts : List Tk9} {t : Tk9}, s1.tasks = ts ++ [t] → ∃ tv' v, H1 M.tk = some (.lst (tv' ++ [v])) ∧ At (IsTk L M H0) H1 ts tv' ∧ IsTk L M H0 H1 t v := fun {ts t} e => by
      obtain ⟨tvs, h1, h2⟩ := ok1.tk
      rw [e] at h2
      obtain ⟨tv', v, rfl, h3, h4⟩ := h2.cut
      exact ⟨tv', v, h1, h3, h4⟩
    cases run1 with
    | done ht =>
      obtain ⟨tvs, h1, h2⟩ := ok1.tk
      rw [ht] at h2
      have e : tvs = [] := List.length_eq_zero_iff.mp h2.1
      subst e
      exact ⟨_, rfl, _, L.CM, M.dx, _, _, rfl, ok1.m, D.cM.cls, D.cM.no "tasks" (by decide), rfl, false, .inl ⟨[], SqL.of h1, rfl⟩, iteF (q1 rfl H1 ok1 ps1)⟩
    | stop ht hb =>
      rename_i ts k fr
      obtain ⟨tv', v, h1, h2, h3⟩ := pop ht
      obtain ⟨a, x, y, rfl, ha, hxy⟩ := h3.xy
      refine ⟨_, rfl, _, L.CM, M.dx, _, _, rfl, ok1.m, D.cM.cls, D.cM.no "tasks" (by decide), rfl, true, .inl ⟨_, SqL.of h1, by simp⟩, iteT ?_⟩
      refine ⟨_, fun _ _ h => h, ?_⟩
      refine ⟨_, rfl, _, L.CM, M.dx, _, _, rfl, ok1.m, D.cM.cls, D.cM.no "tasks" (by decide), rfl, .inl ⟨rfl, _, SqL.of h1⟩, M.tk, _, .ref a, rfl, rfl, h1, by simp, ?_⟩
      rw [List.dropLast_concat]
      have nta : a ≠ M.tk := fun e => by rw [e, h1] at ha; cases ha
      have ok2 := ok1.setT h2
      have ps2 : Ps M H (upd H1 M.tk (.lst tv')) := ps1.trans (Ps.upd mutT)
      have ha2 : upd H1 M.tk (.lst tv') a = _ := (upd_ne nta).trans ha
      generalize upd H1 M.tk (.lst tv') = H2 at ok2 ps2 ha2 ⊢
      refine ⟨a, _, rfl, SqT.of ha2, rfl, _, _, rfl, _, _, rfl, _, _, rfl, rfl, ?_⟩
      refine ⟨_, rfl, rfl, _, rfl, iteF ?_⟩
      refine ⟨_, rfl, _, L.CM, M.dx, _, _, rfl, ok2.m, D.cM.cls, D.cM.no "steps" (by decide), rfl, _, rfl, _, L.CM, M.dx, _, _, rfl, ok2.m, D.cM.cls, D.cM.no "bound" (by decide), rfl, rfl, _, rfl, ift ?_ ?_⟩
      · rw [dec_vi]
        exact decide_eq_true (congrArg _ hb)
      · refine ⟨_, _, rfl, fun pins σ s u I r => ?_, fun pins σ s u I r => ?_, fun d hd => ?_⟩
        · obtain ⟨t, rfl⟩ := r
          exact PySem.Fmt.str (by decide)
        · obtain ⟨t, rfl⟩ := r
          exact PySem.Fmt.str (by decide)
        · have e1 := same_new (o := endX "steps" "") hd
          exact q2 rfl _ d (ok2.mono e1) (ps2.trans (Ps.same e1)) (ok2.has hd) upd_same
    | stepC ht hb sm hw r =>
      rename_i n ts k fr s'
      obtain ⟨tv', v, h1, h2, h3⟩ := pop ht
      obtain ⟨a, x, y, rfl, ha, hxy⟩ := h3.xy
      refine ⟨_, rfl, _, L.CM, M.dx, _, _, rfl, ok1.m, D.cM.cls, D.cM.no "tasks" (by decide), rfl, true, .inl ⟨_, SqL.of h1, by simp⟩, iteT ?_⟩
      refine ⟨_, fun _ _ h => h, ?_⟩
      refine ⟨_, rfl, _, L.CM, M.dx, _, _, rfl, ok1.m, D.cM.cls, D.cM.no "tasks" (by decide), rfl, .inl ⟨rfl, _, SqL.of h1⟩, M.tk, _, .ref a, rfl, rfl, h1, by simp, ?_⟩
      rw [List.dropLast_concat]
      have nta : a ≠ M.tk := fun e => by rw [e, h1] at ha; cases ha
      have ok2 := ok1.setT h2
      have ps12 : Ps M H1 (upd H1 M.tk (.lst tv')) := Ps.upd mutT
      have ha2 : upd H1 M.tk (.lst tv') a = _ := (upd_ne nta).trans ha
      have hxy2 := hxy.mono ps12
      generalize upd H1 M.tk (.lst tv') = H2 at ok2 ps12 ha2 hxy2 ⊢
      refine ⟨a, _, rfl, SqT.of ha2, rfl, _, _, rfl, _, _, rfl, _, _, rfl, rfl, ?_⟩
      refine ⟨_, rfl, rfl, _, rfl, iteF ?_⟩
      refine ⟨_, rfl, _, L.CM, M.dx, _, _, rfl, ok2.m, D.cM.cls, D.cM.no "steps" (by decide), rfl, _, rfl, _, L.CM, M.dx, _, _, rfl, ok2.m, D.cM.cls, D.cM.no "bound" (by decide), rfl, rfl, _, rfl, iff_ ?_ ?_⟩
      · rw [dec_vi]
        exact decide_eq_false fun z => hb (Int.ofNat.inj z)
      refine ⟨_, rfl, M.m, L.CM, M.dx, _, _, rfl, ok2.m, D.cM.cls, D.cM.no "steps" (by decide), rfl, _, _, rfl, rfl, _, _, ok2.m, by show 13 < 1000; decide, ?_⟩
      have ok3 : MOk L M H0 (upd H2 M.m (.ins L.CM M.dx (putF "steps" (.int ((s1.steps : Int) + 1)) (M.fs s1.steps s1.depth)))) { s1 with tasks := ts, steps := s1.steps + 1 } := ok2.setM (n := s1.steps + 1) (d := s1.depth)
      have ps23 : Ps M H2 (upd H2 M.m (.ins L.CM M.dx (putF "steps" (.int ((s1.steps : Int) + 1)) (M.fs s1.steps s1.depth)))) := Ps.upd mutM
      have hxy3 := hxy2.mono ps23
      generalize upd H2 M.m (.ins L.CM M.dx (putF "steps" (.int ((s1.steps : Int) + 1)) (M.fs s1.steps s1.depth))) = H3 at ok3 ps23 hxy3 ⊢
      obtain ⟨ca, ps', ks', rfl, hca, _⟩ := hxy3.1.view
      obtain ⟨Pt, ⟨fa, hk, hkeep, fd', psn, FF, bb⟩, hPt⟩ := D.beg k fr
      refine ⟨_, rfl, ca, _, _, _, rfl, rfl, SqT.of (ok3.same _ _ hca), atI_nat (j := 0) rfl, bd, k.word, .ref fa, rfl, rfl, hk, ?_⟩
      refine ⟨fa, rfl, hkeep, _, rfl, _, rfl, _, rfl, fd', psn, _, FF, bb, M, H0, _, s', _, _, _, rfl, ok3, hxy3, hPt, hw, ⟨?_, sm.w, sm.b⟩, fun H4 ok4 ps4 => ?_⟩
      · have z := sm.t
        rw [ht, List.length_append] at z
        exact Nat.le_trans (Nat.le_add_right _ _) z
      · exact ⟨_, Nat.lt_succ_self _, _, _, _, _, s', rfl, ok4, ((ps1.trans ps12).trans ps23).trans ps4, r⟩
    | stepE ht hn sm hw r =>
      rename_i n ts t s'
      obtain ⟨tv', v, h1, h2, h3⟩ := pop ht
      obtain ⟨a, x, y, rfl, ha, hxy⟩ := h3.xy
      refine ⟨_, rfl, _, L.CM, M.dx, _, _, rfl, ok1.m, D.cM.cls, D.cM.no "tasks" (by decide), rfl, true, .inl ⟨_, SqL.of h1, by simp⟩, iteT ?_⟩
      refine ⟨_, fun _ _ h => h, ?_⟩
      refine ⟨_, rfl, _, L.CM, M.dx, _, _, rfl, ok1.m, D.cM.cls, D.cM.no "tasks" (by decide), rfl, .inl ⟨rfl, _, SqL.of h1⟩, M.tk, _, .ref a, rfl, rfl, h1, by simp, ?_⟩
      rw [List.dropLast_concat]
      have nta : a ≠ M.tk := fun e => by rw [e, h1] at ha; cases ha
      have ok2 := ok1.setT h2
      have ps12 : Ps M H1 (upd H1 M.tk (.lst tv')) := Ps.upd mutT
      have ha2 : upd H1 M.tk (.lst tv') a = _ := (upd_ne nta).trans ha
      have hxy2 := hxy.mono ps12
      generalize upd H1 M.tk (.lst tv') = H2 at ok2 ps12 ha2 hxy2 ⊢
      refine ⟨a, _, rfl, SqT.of ha2, rfl, _, _, rfl, _, _, rfl, _, _, rfl, rfl, ?_⟩
      obtain ⟨Pt, ⟨fa, hk, hkeep, fd', psn, FF, bb⟩, hPt, hne⟩ := D.fin hw hn
      refine ⟨_, rfl, rfl, _, rfl, ift ?_ ?_⟩
      · rw [dec_vs, decide_eq_false hne]
        rfl
      refine ⟨_, rfl, ed, t.word, .ref fa, rfl, rfl, hk, ?_⟩
      refine ⟨fa, rfl, hkeep, _, rfl, _, rfl, _, rfl, fd', psn, _, FF, bb, M, H0, _, s', _, _, _, rfl, ok2, hxy2, hPt, hw, ⟨?_, sm.w, sm.b⟩, fun H4 ok4 ps4 => ?_⟩
      · have z := sm.t
        rw [ht, List.length_append] at z
        exact Nat.le_trans (Nat.le_add_right _ _) z
      · exact ⟨_, Nat.lt_succ_self _, _, _, _, _, s', rfl, ok4, (ps1.trans ps12).trans ps4, r⟩
end
end K9
end
section
set_option Elab.async false
set_option linter.all false
set_option maxRecDepth 100000
set_option maxHeartbeats 4000000
namespace K9
open PySem PySem.Spec PyProof.Rows L2
theorem sc_Machine_init : FnScope ["self", "core", "bound", "table", "_", "label", "selector", "number"] ["self", "core", "bound"] (defScope s_Machine_init) := ⟨rfl, rfl, rfl, by decide +kernel, rfl, by decide +kernel, by decide +kernel⟩
abbrev scTab9 : Scope := { kind := .function, names := [(".0", .local), ("table", .local)], isGenerator := false, isCoroutine := false }
def st0 (core : Core9) : St9 := ⟨[], [], List.replicate core.sgls.length .fresh, 0, 0, []⟩
def spMcInit (L : Cl9) : Sp := fun vs H Q _ => ∃ (G : Hp) (m dx : Addr) (v : V) (core : Core9) (bound : Nat), vs = [.ref m, v, .int bound] ∧ H = upd (upd G dx (.own m)) m (.ins L.CM dx []) ∧ G m = none ∧ G dx = none ∧ dx ≠ m ∧ IsCore G core v ∧ WF core ∧
  ∀ M H', M.m = m → M.core = core → M.bound = bound → MOk L M G H' (st0 core) → Q .non H'
section
variable {P : Program} {w : World} {K : PySem.W.Frag} {mg : Str → Option Value} {base : Heap} {f : Addr} {fd : FuncData} {L : Cl9}
theorem ok_mc_init (F : Fun K "__init__" "Machine.__init__" s_Machine_init f fd) (B : Blt mg) (D : DsM K mg L) (Mk : Kn P w K mg base CX0 "Kept" L.CK 1 4 (spKpInit L.CK)) : FnOk P w K mg base CX0 3 f fd ["self", "core", "bound"] (spMcInit L) := by
  refine F.ok sc_Machine_init (fun vs H Q E h => ?_) (fun cdv A outer s H vs Q E hr h => ?_)
  · obtain ⟨G, m, dx, v, core, bound, rfl, _⟩ := h
    rfl
  · obtain ⟨G, m, dx, v, core, bound, rfl, hH, gm, gd, ne, hC, wf, q⟩ := h
    refine ⟨_, (pss_cons (ps_asg (pv 1) (pg_tup rfl (pgs_cons (pg_fld (pv 0)) (pgs_cons (pg_fld (pv 0)) (pgs_cons (pg_fld (pv 0)) (pgs_cons (pg_fld (pv 0)) pgs_nil))))))
      (pss_cons (ps_fld (pv 0) (pe_lc (own := [("table", 3)]) (g := (gName 3)) (tt := tYes) rfl sc_Machine_init.nd (pi_tup (pe_fld (pv 0) rfl)) (blkOk_by (N := ["self", "core", "bound", "table", "_", "label", "selector", "number"]) (sc := defScope s_Machine_init) (by decide +kernel)) (fun _ _ _ _ _ => (pg_name (i := 3) sc_Machine_init.nd rfl (.inl rfl))) (fun _ _ _ _ _ => pts_nil) (fun _ _ _ _ _ => (pe_dc (own := [("selector", 6), ("number", 7)]) (g := (gTup K 2 (gCons (gName 6) (gCons (gName 7) gNil)))) (tt := tYes) rfl sc_Machine_init.nd (pi_tupK K (pe_ix (ix_tupK K) (pv 3) pe_int (fun _ _ => rfl))) (blkOk_by (N := ["self", "core", "bound", "table", "_", "label", "selector", "number"]) (sc := scTab9) (by decide +kernel)) (fun _ _ _ _ _ => (pg_tup rfl (pgs_cons (pg_name (i := 6) sc_Machine_init.nd rfl (.inl rfl)) (pgs_cons (pg_name (i := 7) sc_Machine_init.nd rfl (.inl rfl)) pgs_nil)))) (fun _ _ _ _ _ => pts_nil) (fun _ _ _ _ _ => (pv 6)) (fun _ _ _ _ _ => (pv 7))))) rfl)
      (pss_cons (ps_fld (pv 0) (pv 2) rfl)
      (pss_cons (ps_fld (pv 0) pe_int rfl)
      (pss_cons (ps_fld (pv 0) pe_int rfl)
      (pss_cons (ps_fld (pv 0) (pe_lst pa_nil) rfl)
      (pss_cons (ps_fld (pv 0) (pe_lst pa_nil) rfl)
      (pss_cons (ps_fld (pv 0) (pe_lst pa_nil) rfl)
      (pss_cons (ps_fld (pv 0) (pe_lst pa_nil) rfl)
      (pss_one (ps_fld (pv 0) (pe_lc (own := [("_", 4), ("label", 5)]) (g := (gTup K 2 (gCons (gName 4) (gCons (gName 5) gNil)))) (tt := tYes) rfl sc_Machine_init.nd (pi_tup (pe_fld (pv 0) rfl)) (blkOk_by (N := ["self", "core", "bound", "table", "_", "label", "selector", "number"]) (sc := defScope s_Machine_init) (by decide +kernel)) (fun _ _ _ _ _ => (pg_tup rfl (pgs_cons (pg_name (i := 4) sc_Machine_init.nd rfl (.inl rfl)) (pgs_cons (pg_name (i := 5) sc_Machine_init.nd rfl (.inl rfl)) pgs_nil)))) (fun _ _ _ _ _ => pts_nil) (fun _ _ _ _ _ => (pe_kn Mk (hr.mono (by decide)) pass0 (pa_cons (pv 5) (pa_cons pe_non (pa_cons pe_non pa_nil)))))) rfl))))))))))), ?_⟩
    obtain ⟨ca, ta, ba, sa, ts, bs, ss, rfl, hca, hta, hT, hba, hB, hsa, hS⟩ := hC
    have hm0 : H m = some (.ins L.CM dx []) := by rw [hH]; exact upd_same
    have sG : Same G H := by rw [hH]; exact (same_new gd).trans (same_new ((upd_ne ne.symm).trans gm))
    have neG : ∀ {q : Addr} {o : HO}, G q = some o → q ≠ m := fun e => ne_of_none e gm
    have up0 : ∀ {a : Addr} {xs : List V} {H' : Hp}, G a = some (.tup xs) → Fk m H H' → SqT K H' a xs := fun h k => SqT.of (k _ _ (neG h) (sG _ _ h))
    refine ⟨_, rfl, ca, _, rfl, up0 hca (fun _ _ _ e => e), rfl, ?_⟩
    refine ⟨_, _, rfl, _, rfl, m, L.CM, dx, _, rfl, hm0, D.cMachine, D.noM "tables", by show 0 < 1000; decide, ?_⟩
    have m1 : (upd H m (.ins L.CM dx (putF "tables" (.ref ta) []))) m = some (.ins L.CM dx (putF "tables" (.ref ta) [])) := upd_same
    have k1 : Fk m H (upd H m (.ins L.CM dx (putF "tables" (.ref ta) []))) := Fk.put
    generalize upd H m (.ins L.CM dx (putF "tables" (.ref ta) [])) = G1 at m1 k1 ⊢
    refine ⟨_, _, rfl, _, rfl, m, L.CM, dx, _, rfl, m1, D.cMachine, D.noM "bodies", by show 1 < 1000; decide, ?_⟩
    have m2 : (upd G1 m (.ins L.CM dx (putF "bodies" (.ref ba) (putF "tables" (.ref ta) [])))) m = some (.ins L.CM dx (putF "bodies" (.ref ba) (putF "tables" (.ref ta) []))) := upd_same
    have k2 : Fk m G1 (upd G1 m (.ins L.CM dx (putF "bodies" (.ref ba) (putF "tables" (.ref ta) [])))) := Fk.put
    generalize upd G1 m (.ins L.CM dx (putF "bodies" (.ref ba) (putF "tables" (.ref ta) []))) = G2 at m2 k2 ⊢
    refine ⟨_, _, rfl, _, rfl, m, L.CM, dx, _, rfl, m2, D.cMachine, D.noM "singles", by show 2 < 1000; decide, ?_⟩
    have m3 : (upd G2 m (.ins L.CM dx (putF "singles" (.ref sa) (putF "bodies" (.ref ba) (putF "tables" (.ref ta) []))))) m = some (.ins L.CM dx (putF "singles" (.ref sa) (putF "bodies" (.ref ba) (putF "tables" (.ref ta) [])))) := upd_same
    have k3 : Fk m G2 (upd G2 m (.ins L.CM dx (putF "singles" (.ref sa) (putF "bodies" (.ref ba) (putF "tables" (.ref ta) []))))) := Fk.put
    generalize upd G2 m (.ins L.CM dx (putF "singles" (.ref sa) (putF "bodies" (.ref ba) (putF "tables" (.ref ta) [])))) = G3 at m3 k3 ⊢
    refine ⟨_, _, rfl, _, rfl, m, L.CM, dx, _, rfl, m3, D.cMachine, D.noM "main", by show 3 < 1000; decide, ?_⟩
    have m4 : (upd G3 m (.ins L.CM dx (putF "main" (.int core.main) (putF "singles" (.ref sa) (putF "bodies" (.ref ba) (putF "tables" (.ref ta) [])))))) m = some (.ins L.CM dx (putF "main" (.int core.main) (putF "singles" (.ref sa) (putF "bodies" (.ref ba) (putF "tables" (.ref ta) []))))) := upd_same
    have k4 : Fk m G3 (upd G3 m (.ins L.CM dx (putF "main" (.int core.main) (putF "singles" (.ref sa) (putF "bodies" (.ref ba) (putF "tables" (.ref ta) [])))))) := Fk.put
    generalize upd G3 m (.ins L.CM dx (putF "main" (.int core.main) (putF "singles" (.ref sa) (putF "bodies" (.ref ba) (putF "tables" (.ref ta) []))))) = G4 at m4 k4 ⊢
    refine ⟨rfl, ?_⟩
    have k04 : Fk m H G4 := ((k1.trans k2).trans k3).trans k4
    refine ⟨_, rfl, m, L.CM, dx, _, _, rfl, m4, D.cMachine, D.noM "tables", rfl, ta, rfl, ⟨ts, up0 hta k04⟩, fun rw hrw => lc_rel2 (walk_tup (xs := ts)) (fun i H' v => ∃ t d, core.tabs[i]? = some t ∧ v = .ref d ∧ H' d = some (.dK (t.rows.map rowK))) (fun i H1 H2 v p h => let ⟨t, d, e, e2, h⟩ := h; ⟨t, d, e, e2, p _ _ (by intro xs z; cases z) h⟩) (by rw [hT.1]; exact Nat.le_trans wf.nt (by decide)) hrw (fun H' s' => up0 hta (k04.trans (Fk.same s'))) (fun i H x H' _ y => yat_same i H x H' y) (fun i x H5 H6 Kt hi s5 s6 y kk => ?_) (fun H5 acc s5 hacc hlen hr' => ?_)⟩
    · obtain ⟨rfl, hx⟩ := y
      obtain ⟨t, ht, at', y0, e1, e2, r, rs, rfl, hat', _, _, _, hr, hA⟩ := hT.2 i x hx
      have wt := wf.tab t (List.mem_of_getElem? ht)
      have k06 := k04.trans (Fk.same s6)
      refine ⟨rfl, _, rfl, at', _, _, _, rfl, rfl, up0 hat' k06, rfl, r, rfl, ⟨rs, up0 hr k06⟩, fun dd hdd => dc_it (walk_tup (xs := rs)) (fun j H' => Same H6 H' ∧ H' dd = some (.dK ((t.rows.take j).map rowK))) ⟨same_new hdd, upd_same⟩ (fun j H' _ p => up0 hr (k06.trans (Fk.same p.1))) (fun j u H7 H8 hj p y => ?_) (fun H7 p => ?_)⟩
      · obtain ⟨s7, hd7⟩ := p
        obtain ⟨rfl, hu⟩ := y
        obtain ⟨z, hz, az, rfl, haz⟩ := hA.2 j u hu
        have hj' : j < t.rows.length := by rw [← hA.1]; exact hj
        refine ⟨az, _, rfl, up0 haz (k06.trans (Fk.same s7)), rfl, _, _, rfl, _, _, rfl, rfl, rfl, _, rfl, _, rfl, _, .inr z.1, rfl, hd7, ?_, ?_, ?_⟩
        · rw [List.length_map, List.length_take]
          have := wt.few
          exact Nat.lt_of_le_of_lt (show _ ≤ 60 by omega) (by decide)
        · exact fun b o e => by
            rw [upd_ne (ne_of_none e hdd)]
            exact s7 _ _ e
        · rw [upd_same, List.take_succ, hz, List.map_append]
          refine congrArg (fun q => some (HO.dK q)) (putK_new _ ?_)
          unfold valV
          rw [List.find?_eq_none.mpr ?_]
          · rfl
          intro p hp hq
          have hq := of_decide_eq_true hq
          obtain ⟨z', hz', rfl⟩ := List.mem_map.mp hp
          obtain ⟨j', hj1, hj2⟩ := List.mem_take_iff_getElem.mp hz'
          have e' : z'.1 = z.1 := Sum.inr.inj hq
          have nd := List.pairwise_iff_getElem.mp wt.nd j' j (by rw [List.length_map]; omega) (by rw [List.length_map]; exact hj') (by omega)
          refine nd ?_
          rw [List.getElem_map, List.getElem_map, hj2, e', (List.getElem?_eq_some_iff.mp hz).2]
      · obtain ⟨s7, hd7⟩ := p
        rw [hA.1, List.take_length] at hd7
        exact kk _ _ s7 ⟨t, dd, ht, rfl, hd7⟩
    have k05 := k04.trans (Fk.same s5)
    have m5 := s5 _ _ m4
    have rwm : rw ≠ m := fun e => by rw [e, m4] at hrw; cases hrw
    refine ⟨_, rfl, m, L.CM, dx, _, rfl, m5, D.cMachine, D.noM "rows", by show 4 < 1000; decide, ?_⟩
    have rw5 : H5 rw = some (.lst acc) := hacc
    have m6 : (upd H5 m (.ins L.CM dx (putF "rows" (.ref rw) (putF "main" (.int core.main) (putF "singles" (.ref sa) (putF "bodies" (.ref ba) (putF "tables" (.ref ta) []))))))) m = some (.ins L.CM dx (putF "rows" (.ref rw) (putF "main" (.int core.main) (putF "singles" (.ref sa) (putF "bodies" (.ref ba) (putF "tables" (.ref ta) [])))))) := upd_same
    have c6 : Fk m H5 (upd H5 m (.ins L.CM dx (putF "rows" (.ref rw) (putF "main" (.int core.main) (putF "singles" (.ref sa) (putF "bodies" (.ref ba) (putF "tables" (.ref ta) []))))))) := Fk.put
    have k6 : Fk m H (upd H5 m (.ins L.CM dx (putF "rows" (.ref rw) (putF "main" (.int core.main) (putF "singles" (.ref sa) (putF "bodies" (.ref ba) (putF "tables" (.ref ta) []))))))) := k05.trans c6
    have rw6 := c6 _ _ rwm rw5
    generalize upd H5 m (.ins L.CM dx (putF "rows" (.ref rw) (putF "main" (.int core.main) (putF "singles" (.ref sa) (putF "bodies" (.ref ba) (putF "tables" (.ref ta) [])))))) = G6 at m6 c6 k6 rw6 ⊢
    refine ⟨_, rfl, _, rfl, m, L.CM, dx, _, rfl, m6, D.cMachine, D.noM "bound", by show 5 < 1000; decide, ?_⟩
    have m7 : (upd G6 m (.ins L.CM dx (putF "bound" (.int bound) (putF "rows" (.ref rw) (putF "main" (.int core.main) (putF "singles" (.ref sa) (putF "bodies" (.ref ba) (putF "tables" (.ref ta) [])))))))) m = some (.ins L.CM dx (putF "bound" (.int bound) (putF "rows" (.ref rw) (putF "main" (.int core.main) (putF "singles" (.ref sa) (putF "bodies" (.ref ba) (putF "tables" (.ref ta) []))))))) := upd_same
    have c7 : Fk m G6 (upd G6 m (.ins L.CM dx (putF "bound" (.int bound) (putF "rows" (.ref rw) (putF "main" (.int core.main) (putF "singles" (.ref sa) (putF "bodies" (.ref ba) (putF "tables" (.ref ta) [])))))))) := Fk.put
    have k7 : Fk m H (upd G6 m (.ins L.CM dx (putF "bound" (.int bound) (putF "rows" (.ref rw) (putF "main" (.int core.main) (putF "singles" (.ref sa) (putF "bodies" (.ref ba) (putF "tables" (.ref ta) [])))))))) := k6.trans c7
    have rw7 := c7 _ _ rwm rw6
    generalize upd G6 m (.ins L.CM dx (putF "bound" (.int bound) (putF "rows" (.ref rw) (putF "main" (.int core.main) (putF "singles" (.ref sa) (putF "bodies" (.ref ba) (putF "tables" (.ref ta) []))))))) = G7 at m7 c7 k7 rw7 ⊢
    refine ⟨_, rfl, m, L.CM, dx, _, rfl, m7, D.cMachine, D.noM "steps", by show 6 < 1000; decide, ?_⟩
    have m8 : (upd G7 m (.ins L.CM dx (putF "steps" (.int 0) (putF "bound" (.int bound) (putF "rows" (.ref rw) (putF "main" (.int core.main) (putF "singles" (.ref sa) (putF "bodies" (.ref ba) (putF "tables" (.ref ta) []))))))))) m = some (.ins L.CM dx (putF "steps" (.int 0) (putF "bound" (.int bound) (putF "rows" (.ref rw) (putF "main" (.int core.main) (putF "singles" (.ref sa) (putF "bodies" (.ref ba) (putF "tables" (.ref ta) [])))))))) := upd_same
    have c8 : Fk m G7 (upd G7 m (.ins L.CM dx (putF "steps" (.int 0) (putF "bound" (.int bound) (putF "rows" (.ref rw) (putF "main" (.int core.main) (putF "singles" (.ref sa) (putF "bodies" (.ref ba) (putF "tables" (.ref ta) []))))))))) := Fk.put
    have k8 : Fk m H (upd G7 m (.ins L.CM dx (putF "steps" (.int 0) (putF "bound" (.int bound) (putF "rows" (.ref rw) (putF "main" (.int core.main) (putF "singles" (.ref sa) (putF "bodies" (.ref ba) (putF "tables" (.ref ta) []))))))))) := k7.trans c8
    have rw8 := c8 _ _ rwm rw7
    generalize upd G7 m (.ins L.CM dx (putF "steps" (.int 0) (putF "bound" (.int bound) (putF "rows" (.ref rw) (putF "main" (.int core.main) (putF "singles" (.ref sa) (putF "bodies" (.ref ba) (putF "tables" (.ref ta) [])))))))) = G8 at m8 c8 k8 rw8 ⊢
    refine ⟨_, rfl, m, L.CM, dx, _, rfl, m8, D.cMachine, D.noM "depth", by show 7 < 1000; decide, ?_⟩
    have m9 : (upd G8 m (.ins L.CM dx (putF "depth" (.int 0) (putF "steps" (.int 0) (putF "bound" (.int bound) (putF "rows" (.ref rw) (putF "main" (.int core.main) (putF "singles" (.ref sa) (putF "bodies" (.ref ba) (putF "tables" (.ref ta) [])))))))))) m = some (.ins L.CM dx (putF "depth" (.int 0) (putF "steps" (.int 0) (putF "bound" (.int bound) (putF "rows" (.ref rw) (putF "main" (.int core.main) (putF "singles" (.ref sa) (putF "bodies" (.ref ba) (putF "tables" (.ref ta) []))))))))) := upd_same
    have c9 : Fk m G8 (upd G8 m (.ins L.CM dx (putF "depth" (.int 0) (putF "steps" (.int 0) (putF "bound" (.int bound) (putF "rows" (.ref rw) (putF "main" (.int core.main) (putF "singles" (.ref sa) (putF "bodies" (.ref ba) (putF "tables" (.ref ta) [])))))))))) := Fk.put
    have k9 : Fk m H (upd G8 m (.ins L.CM dx (putF "depth" (.int 0) (putF "steps" (.int 0) (putF "bound" (.int bound) (putF "rows" (.ref rw) (putF "main" (.int core.main) (putF "singles" (.ref sa) (putF "bodies" (.ref ba) (putF "tables" (.ref ta) [])))))))))) := k8.trans c9
    have rw9 := c9 _ _ rwm rw8
    generalize upd G8 m (.ins L.CM dx (putF "depth" (.int 0) (putF "steps" (.int 0) (putF "bound" (.int bound) (putF "rows" (.ref rw) (putF "main" (.int core.main) (putF "singles" (.ref sa) (putF "bodies" (.ref ba) (putF "tables" (.ref ta) []))))))))) = G9 at m9 c9 k9 rw9 ⊢
    refine ⟨Nat.zero_le _, fun sh nsh => ?_⟩
    have c10 : Same G9 (upd G9 sh (.lst [])) := same_new nsh
    have shm : sh ≠ m := fun e => by rw [e, m9] at nsh; cases nsh
    have m10 := c10 _ _ m9
    have k10 : Fk m H (upd G9 sh (.lst [])) := k9.trans (Fk.same c10)
    have rwsh : rw ≠ sh := ne_of_none rw9 nsh
    have rw10 := c10 _ _ rw9
    have sh10 : (upd G9 sh (.lst [])) sh = some (.lst []) := upd_same
    generalize upd G9 sh (.lst []) = G10 at m10 c10 k10 rw10 sh10 ⊢
    refine ⟨_, rfl, m, L.CM, dx, _, rfl, m10, D.cMachine, D.noM "shown", by show 8 < 1000; decide, ?_⟩
    have m11 : (upd G10 m (.ins L.CM dx (putF "shown" (.ref sh) (putF "depth" (.int 0) (putF "steps" (.int 0) (putF "bound" (.int bound) (putF "rows" (.ref rw) (putF "main" (.int core.main) (putF "singles" (.ref sa) (putF "bodies" (.ref ba) (putF "tables" (.ref ta) []))))))))))) m = some (.ins L.CM dx (putF "shown" (.ref sh) (putF "depth" (.int 0) (putF "steps" (.int 0) (putF "bound" (.int bound) (putF "rows" (.ref rw) (putF "main" (.int core.main) (putF "singles" (.ref sa) (putF "bodies" (.ref ba) (putF "tables" (.ref ta) [])))))))))) := upd_same
    have c11 : Fk m G10 (upd G10 m (.ins L.CM dx (putF "shown" (.ref sh) (putF "depth" (.int 0) (putF "steps" (.int 0) (putF "bound" (.int bound) (putF "rows" (.ref rw) (putF "main" (.int core.main) (putF "singles" (.ref sa) (putF "bodies" (.ref ba) (putF "tables" (.ref ta) []))))))))))) := Fk.put
    have k11 : Fk m H (upd G10 m (.ins L.CM dx (putF "shown" (.ref sh) (putF "depth" (.int 0) (putF "steps" (.int 0) (putF "bound" (.int bound) (putF "rows" (.ref rw) (putF "main" (.int core.main) (putF "singles" (.ref sa) (putF "bodies" (.ref ba) (putF "tables" (.ref ta) []))))))))))) := k10.trans c11
    have rw11 := c11 _ _ rwm rw10
    have sh11 := c11 _ _ shm sh10
    generalize upd G10 m (.ins L.CM dx (putF "shown" (.ref sh) (putF "depth" (.int 0) (putF "steps" (.int 0) (putF "bound" (.int bound) (putF "rows" (.ref rw) (putF "main" (.int core.main) (putF "singles" (.ref sa) (putF "bodies" (.ref ba) (putF "tables" (.ref ta) [])))))))))) = G11 at m11 c11 k11 rw11 sh11 ⊢
    refine ⟨Nat.zero_le _, fun bg nbg => ?_⟩
    have c12 : Same G11 (upd G11 bg (.lst [])) := same_new nbg
    have bgm : bg ≠ m := fun e => by rw [e, m11] at nbg; cases nbg
    have m12 := c12 _ _ m11
    have k12 : Fk m H (upd G11 bg (.lst [])) := k11.trans (Fk.same c12)
    have rwbg : rw ≠ bg := ne_of_none rw11 nbg
    have rw12 := c12 _ _ rw11
    have shbg : sh ≠ bg := ne_of_none sh11 nbg
    have sh12 := c12 _ _ sh11
    have bg12 : (upd G11 bg (.lst [])) bg = some (.lst []) := upd_same
    generalize upd G11 bg (.lst []) = G12 at m12 c12 k12 rw12 sh12 bg12 ⊢
    refine ⟨_, rfl, m, L.CM, dx, _, rfl, m12, D.cMachine, D.noM "begun", by show 9 < 1000; decide, ?_⟩
    have m13 : (upd G12 m (.ins L.CM dx (putF "begun" (.ref bg) (putF "shown" (.ref sh) (putF "depth" (.int 0) (putF "steps" (.int 0) (putF "bound" (.int bound) (putF "rows" (.ref rw) (putF "main" (.int core.main) (putF "singles" (.ref sa) (putF "bodies" (.ref ba) (putF "tables" (.ref ta) [])))))))))))) m = some (.ins L.CM dx (putF "begun" (.ref bg) (putF "shown" (.ref sh) (putF "depth" (.int 0) (putF "steps" (.int 0) (putF "bound" (.int bound) (putF "rows" (.ref rw) (putF "main" (.int core.main) (putF "singles" (.ref sa) (putF "bodies" (.ref ba) (putF "tables" (.ref ta) []))))))))))) := upd_same
    have c13 : Fk m G12 (upd G12 m (.ins L.CM dx (putF "begun" (.ref bg) (putF "shown" (.ref sh) (putF "depth" (.int 0) (putF "steps" (.int 0) (putF "bound" (.int bound) (putF "rows" (.ref rw) (putF "main" (.int core.main) (putF "singles" (.ref sa) (putF "bodies" (.ref ba) (putF "tables" (.ref ta) [])))))))))))) := Fk.put
    have k13 : Fk m H (upd G12 m (.ins L.CM dx (putF "begun" (.ref bg) (putF "shown" (.ref sh) (putF "depth" (.int 0) (putF "steps" (.int 0) (putF "bound" (.int bound) (putF "rows" (.ref rw) (putF "main" (.int core.main) (putF "singles" (.ref sa) (putF "bodies" (.ref ba) (putF "tables" (.ref ta) [])))))))))))) := k12.trans c13
    have rw13 := c13 _ _ rwm rw12
    have sh13 := c13 _ _ shm sh12
    have bg13 := c13 _ _ bgm bg12
    generalize upd G12 m (.ins L.CM dx (putF "begun" (.ref bg) (putF "shown" (.ref sh) (putF "depth" (.int 0) (putF "steps" (.int 0) (putF "bound" (.int bound) (putF "rows" (.ref rw) (putF "main" (.int core.main) (putF "singles" (.ref sa) (putF "bodies" (.ref ba) (putF "tables" (.ref ta) []))))))))))) = G13 at m13 c13 k13 rw13 sh13 bg13 ⊢
    refine ⟨Nat.zero_le _, fun tk ntk => ?_⟩
    have c14 : Same G13 (upd G13 tk (.lst [])) := same_new ntk
    have tkm : tk ≠ m := fun e => by rw [e, m13] at ntk; cases ntk
    have m14 := c14 _ _ m13
    have k14 : Fk m H (upd G13 tk (.lst [])) := k13.trans (Fk.same c14)
    have rwtk : rw ≠ tk := ne_of_none rw13 ntk
    have rw14 := c14 _ _ rw13
    have shtk : sh ≠ tk := ne_of_none sh13 ntk
    have sh14 := c14 _ _ sh13
    have bgtk : bg ≠ tk := ne_of_none bg13 ntk
    have bg14 := c14 _ _ bg13
    have tk14 : (upd G13 tk (.lst [])) tk = some (.lst []) := upd_same
    generalize upd G13 tk (.lst []) = G14 at m14 c14 k14 rw14 sh14 bg14 tk14 ⊢
    refine ⟨_, rfl, m, L.CM, dx, _, rfl, m14, D.cMachine, D.noM "tasks", by show 10 < 1000; decide, ?_⟩
    have m15 : (upd G14 m (.ins L.CM dx (putF "tasks" (.ref tk) (putF "begun" (.ref bg) (putF "shown" (.ref sh) (putF "depth" (.int 0) (putF "steps" (.int 0) (putF "bound" (.int bound) (putF "rows" (.ref rw) (putF "main" (.int core.main) (putF "singles" (.ref sa) (putF "bodies" (.ref ba) (putF "tables" (.ref ta) []))))))))))))) m = some (.ins L.CM dx (putF "tasks" (.ref tk) (putF "begun" (.ref bg) (putF "shown" (.ref sh) (putF "depth" (.int 0) (putF "steps" (.int 0) (putF "bound" (.int bound) (putF "rows" (.ref rw) (putF "main" (.int core.main) (putF "singles" (.ref sa) (putF "bodies" (.ref ba) (putF "tables" (.ref ta) [])))))))))))) := upd_same
    have c15 : Fk m G14 (upd G14 m (.ins L.CM dx (putF "tasks" (.ref tk) (putF "begun" (.ref bg) (putF "shown" (.ref sh) (putF "depth" (.int 0) (putF "steps" (.int 0) (putF "bound" (.int bound) (putF "rows" (.ref rw) (putF "main" (.int core.main) (putF "singles" (.ref sa) (putF "bodies" (.ref ba) (putF "tables" (.ref ta) []))))))))))))) := Fk.put
    have k15 : Fk m H (upd G14 m (.ins L.CM dx (putF "tasks" (.ref tk) (putF "begun" (.ref bg) (putF "shown" (.ref sh) (putF "depth" (.int 0) (putF "steps" (.int 0) (putF "bound" (.int bound) (putF "rows" (.ref rw) (putF "main" (.int core.main) (putF "singles" (.ref sa) (putF "bodies" (.ref ba) (putF "tables" (.ref ta) []))))))))))))) := k14.trans c15
    have rw15 := c15 _ _ rwm rw14
    have sh15 := c15 _ _ shm sh14
    have bg15 := c15 _ _ bgm bg14
    have tk15 := c15 _ _ tkm tk14
    generalize upd G14 m (.ins L.CM dx (putF "tasks" (.ref tk) (putF "begun" (.ref bg) (putF "shown" (.ref sh) (putF "depth" (.int 0) (putF "steps" (.int 0) (putF "bound" (.int bound) (putF "rows" (.ref rw) (putF "main" (.int core.main) (putF "singles" (.ref sa) (putF "bodies" (.ref ba) (putF "tables" (.ref ta) [])))))))))))) = G15 at m15 c15 k15 rw15 sh15 bg15 tk15 ⊢
    refine ⟨Nat.zero_le _, fun wr nwr => ?_⟩
    have c16 : Same G15 (upd G15 wr (.lst [])) := same_new nwr
    have wrm : wr ≠ m := fun e => by rw [e, m15] at nwr; cases nwr
    have m16 := c16 _ _ m15
    have k16 : Fk m H (upd G15 wr (.lst [])) := k15.trans (Fk.same c16)
    have rwwr : rw ≠ wr := ne_of_none rw15 nwr
    have rw16 := c16 _ _ rw15
    have shwr : sh ≠ wr := ne_of_none sh15 nwr
    have sh16 := c16 _ _ sh15
    have bgwr : bg ≠ wr := ne_of_none bg15 nwr
    have bg16 := c16 _ _ bg15
    have tkwr : tk ≠ wr := ne_of_none tk15 nwr
    have tk16 := c16 _ _ tk15
    have wr16 : (upd G15 wr (.lst [])) wr = some (.lst []) := upd_same
    generalize upd G15 wr (.lst []) = G16 at m16 c16 k16 rw16 sh16 bg16 tk16 wr16 ⊢
    refine ⟨_, rfl, m, L.CM, dx, _, rfl, m16, D.cMachine, D.noM "worths", by show 11 < 1000; decide, ?_⟩
    have m17 : (upd G16 m (.ins L.CM dx (putF "worths" (.ref wr) (putF "tasks" (.ref tk) (putF "begun" (.ref bg) (putF "shown" (.ref sh) (putF "depth" (.int 0) (putF "steps" (.int 0) (putF "bound" (.int bound) (putF "rows" (.ref rw) (putF "main" (.int core.main) (putF "singles" (.ref sa) (putF "bodies" (.ref ba) (putF "tables" (.ref ta) [])))))))))))))) m = some (.ins L.CM dx (putF "worths" (.ref wr) (putF "tasks" (.ref tk) (putF "begun" (.ref bg) (putF "shown" (.ref sh) (putF "depth" (.int 0) (putF "steps" (.int 0) (putF "bound" (.int bound) (putF "rows" (.ref rw) (putF "main" (.int core.main) (putF "singles" (.ref sa) (putF "bodies" (.ref ba) (putF "tables" (.ref ta) []))))))))))))) := upd_same
    have c17 : Fk m G16 (upd G16 m (.ins L.CM dx (putF "worths" (.ref wr) (putF "tasks" (.ref tk) (putF "begun" (.ref bg) (putF "shown" (.ref sh) (putF "depth" (.int 0) (putF "steps" (.int 0) (putF "bound" (.int bound) (putF "rows" (.ref rw) (putF "main" (.int core.main) (putF "singles" (.ref sa) (putF "bodies" (.ref ba) (putF "tables" (.ref ta) [])))))))))))))) := Fk.put
    have k17 : Fk m H (upd G16 m (.ins L.CM dx (putF "worths" (.ref wr) (putF "tasks" (.ref tk) (putF "begun" (.ref bg) (putF "shown" (.ref sh) (putF "depth" (.int 0) (putF "steps" (.int 0) (putF "bound" (.int bound) (putF "rows" (.ref rw) (putF "main" (.int core.main) (putF "singles" (.ref sa) (putF "bodies" (.ref ba) (putF "tables" (.ref ta) [])))))))))))))) := k16.trans c17
    have rw17 := c17 _ _ rwm rw16
    have sh17 := c17 _ _ shm sh16
    have bg17 := c17 _ _ bgm bg16
    have tk17 := c17 _ _ tkm tk16
    have wr17 := c17 _ _ wrm wr16
    generalize upd G16 m (.ins L.CM dx (putF "worths" (.ref wr) (putF "tasks" (.ref tk) (putF "begun" (.ref bg) (putF "shown" (.ref sh) (putF "depth" (.int 0) (putF "steps" (.int 0) (putF "bound" (.int bound) (putF "rows" (.ref rw) (putF "main" (.int core.main) (putF "singles" (.ref sa) (putF "bodies" (.ref ba) (putF "tables" (.ref ta) []))))))))))))) = G17 at m17 c17 k17 rw17 sh17 bg17 tk17 wr17 ⊢
    have kr : Fk m H5 G17 := (c6.trans (c7.trans (c8.trans (c9.trans ((Fk.same c10).trans (c11.trans ((Fk.same c12).trans (c13.trans ((Fk.same c14).trans (c15.trans ((Fk.same c16).trans c17)))))))))))
    have gone : ∀ {q : Addr} {X : Hp}, Fk m H X → X q = none → q ≠ m → G q = none := fun {q X} k hq hne => by
      cases e : G q with
      | none => rfl
      | some o => rw [k _ _ hne (sG _ _ e)] at hq; cases hq
    refine ⟨_, rfl, m, L.CM, dx, _, _, rfl, m17, D.cMachine, D.noM "singles", rfl, sa, rfl, ⟨ss, up0 hsa k17⟩, fun oc noc => lc_it (walk_tup (xs := ss)) (fun i H' => Same G17 H' ∧ ∃ as : List Addr, H' oc = some (.lst (as.map V.ref)) ∧ as.length = i ∧ as.Nodup ∧ ∀ a ∈ as, G17 a = none ∧ a ≠ oc ∧ ∃ dx lb, H' a = some (.ins L.CK dx [("label", lb), ("c", .non), ("frame", .non), ("state", .str "fresh"), ("worth", .non)])) ⟨same_new noc, [], upd_same, rfl, List.nodup_nil, fun a h => by cases h⟩ (fun i H' _ p => up0 hsa (k17.trans (Fk.same p.1))) (fun i x H5' H6' hi p y => ?_) (fun H18 p => ?_)⟩
    · obtain ⟨rfl, hx⟩ := y
      obtain ⟨s6, as, h1, h2, h3, h4⟩ := p
      obtain ⟨sg, hsg, asv, rfl, hasv⟩ := hS.2 i x hx
      refine ⟨asv, _, rfl, up0 hasv (k17.trans (Fk.same s6)), rfl, _, _, rfl, _, _, rfl, rfl, rfl, _, rfl, fun x0 dx0 nx ndx ne0 => ?_⟩
      have t1 := (same_new (o := .own x0) ndx).trans (same_new (o := .ins L.CK dx0 []) ((upd_ne ne0.symm).trans nx))
      refine ⟨x0, dx0, _, _, _, rfl, upd_same, rfl, as.map V.ref, ?_, ?_, ?_⟩
      · exact (upd_ne (ne_of_none h1 nx)).trans (t1 _ _ h1)
      · rw [List.length_map, h2]
        exact Nat.lt_of_lt_of_le hi (by rw [hS.1]; exact Nat.le_trans wf.ns (by decide))
      · have xo : x0 ≠ oc := (ne_of_none h1 nx).symm
        have gx : G17 x0 = none := by
          cases e : G17 x0 with
          | none => rfl
          | some o => rw [s6 _ _ e] at nx; cases nx
        refine ⟨fun b o e => ?_, as ++ [x0], ?_, ?_, ?_, fun a ha => ?_⟩
        · rw [upd_ne (ne_of_none e noc), upd_ne (ne_of_none e gx)]
          exact t1 _ _ (s6 _ _ e)
        · rw [upd_same, List.map_append]
          rfl
        · rw [List.length_append, h2]
          rfl
        · rw [List.nodup_append]
          refine ⟨h3, by simp, fun a ha b hb e => ?_⟩
          rw [List.mem_singleton] at hb
          obtain ⟨_, _, _, _, z⟩ := h4 a ha
          rw [e, hb, nx] at z
          cases z
        · rcases List.mem_append.mp ha with ha | ha
          · obtain ⟨g1, g2, d1, l1, g3⟩ := h4 a ha
            exact ⟨g1, g2, d1, l1, ((upd_ne g2).trans (upd_ne (ne_of_none g3 nx))).trans (t1 _ _ g3)⟩
          · rw [List.mem_singleton] at ha
            subst ha
            exact ⟨gx, xo, dx0, _, (upd_ne xo).trans upd_same⟩
    · obtain ⟨s18, as, h1, h2, h3, h4⟩ := p
      have m18 := s18 _ _ m17
      refine ⟨_, rfl, m, L.CM, dx, _, rfl, m18, D.cMachine, D.noM "once_worked", by show 12 < 1000; decide, ?_⟩
      have ocm : oc ≠ m := fun e => by rw [e, m17] at noc; cases noc
      have k18 : Fk m G17 H18 := Fk.same s18
      have kf : Fk m G17 (upd H18 m (.ins L.CM dx (putF "once_worked" (.ref oc) (putF "worths" (.ref wr) (putF "tasks" (.ref tk) (putF "begun" (.ref bg) (putF "shown" (.ref sh) (putF "depth" (.int 0) (putF "steps" (.int 0) (putF "bound" (.int bound) (putF "rows" (.ref rw) (putF "main" (.int core.main) (putF "singles" (.ref sa) (putF "bodies" (.ref ba) (putF "tables" (.ref ta) []))))))))))))))) := k18.trans Fk.put
      have kF : Fk m H (upd H18 m (.ins L.CM dx (putF "once_worked" (.ref oc) (putF "worths" (.ref wr) (putF "tasks" (.ref tk) (putF "begun" (.ref bg) (putF "shown" (.ref sh) (putF "depth" (.int 0) (putF "steps" (.int 0) (putF "bound" (.int bound) (putF "rows" (.ref rw) (putF "main" (.int core.main) (putF "singles" (.ref sa) (putF "bodies" (.ref ba) (putF "tables" (.ref ta) []))))))))))))))) := k17.trans kf
      have nas : ∀ {a : Addr} {o : HO}, G17 a = some o → a ∉ as := fun e h => by
        have z := (h4 _ h).1
        rw [e] at z
        cases z
      have nm : ∀ a, a ∈ as → a ≠ m := fun a h e => by
        have z := (h4 a h).1
        rw [e, m17] at z
        cases z
      refine q ⟨m, dx, ta, ba, sa, core, ts, bs, ss, rw, acc, sh, bg, tk, wr, oc, as, bound⟩ _ rfl rfl rfl ?_
      exact {
        same := fun b o e => kF _ _ (neG e) (sG _ _ e)
        new0 := fun a ha => by
          rcases ha with rfl | rfl | rfl | rfl | ha
          · exact gm
          · exact gone k13 ntk tkm
          · exact gone k15 nwr wrm
          · exact gone k11 nbg bgm
          · exact gone k17 (h4 a ha).1 (nm a ha)
        d1 := tkwr
        d2 := bgtk.symm
        d3 := bgwr.symm
        dk := h3
        m := upd_same
        nrw := fun c => by
          rcases c with c | c | c | c | c
          · exact rwm c
          · exact rwtk c
          · exact rwwr c
          · exact rwbg c
          · exact nas rw17 c
        rw := kf _ _ rwm rw17
        rows := ⟨by rw [hlen, hT.1], fun i v e => by
          obtain ⟨t, d, e1, e2, e3⟩ := hr' i v e
          have dm : d ≠ m := ne_of e3 m5 (by intro z; cases z)
          have d17 := kr _ _ dm e3
          refine ⟨t, e1, d, e2, fun c => ?_, kf _ _ dm d17⟩
          rcases c with c | c | c | c | c
          · exact dm c
          · exact ne_of d17 tk17 (by intro z; cases z) c
          · exact ne_of d17 wr17 (by intro z; cases z) c
          · exact ne_of d17 bg17 (by intro z; cases z) c
          · exact nas d17 c⟩
        nsh := fun c => by
          rcases c with c | c | c | c | c
          · exact shm c
          · exact shtk c
          · exact shwr c
          · exact shbg c
          · exact nas sh17 c
        sh := kf _ _ shm sh17
        bg := kf _ _ bgm bg17
        tk := ⟨[], kf _ _ tkm tk17, At.nil⟩
        wr := ⟨[], kf _ _ wrm wr17, At.nil⟩
        noc := fun c => by
          rcases c with c | c | c | c | c
          · exact ocm c
          · exact ne_of_none tk17 noc c.symm
          · exact ne_of_none wr17 noc c.symm
          · exact ne_of_none bg17 noc c.symm
          · exact (h4 oc c).2.1 rfl
        oc := (upd_ne ocm).trans h1
        lk := by
          show as.length = (List.replicate core.sgls.length Kp9.fresh).length
          rw [List.length_replicate, h2, hS.1]
        ks := fun i k a e1 e2 => by
          have e3 : (List.replicate core.sgls.length Kp9.fresh)[i]? = some k := e1
          have hk : k = .fresh := List.eq_of_mem_replicate (List.mem_of_getElem? e3)
          have ha : a ∈ as := List.mem_of_getElem? e2
          obtain ⟨_, _, d1, l1, g3⟩ := h4 a ha
          subst hk
          exact ⟨d1, l1, .non, (upd_ne (nm a ha)).trans g3, trivial⟩
        hta := hta
        tab := hT
        hba := hba
        bod := hB
        hsa := hsa
        sgl := hS }
end
end K9
end
section
set_option Elab.async false
set_option linter.all false
set_option maxRecDepth 100000
set_option maxHeartbeats 4000000
namespace K9
open PySem PySem.Spec PyProof.Rows L2
theorem sc_Machine_outcome : FnScope ["self", "ended"] ["self"] (defScope s_Machine_outcome) := ⟨rfl, rfl, rfl, by decide +kernel, rfl, by decide +kernel, by decide +kernel⟩
def spTold (L : Cl9) : Sp := fun vs H Q _ => ∃ (M : Mc) (H0 : Hp) (s : St9), vs = [.ref M.m, .ref L.U] ∧ MOk L M H0 H s ∧ ∀ H', Same H H' → Q (.str "()") H'
/-- what the outcome is -/
def outW (b : Bool) : Str × Str := if b then ("value", "()") else ("steps", "")
def spOutcome (L : Cl9) : Sp := fun vs H Q _ => ∃ (M : Mc) (H0 : Hp) (n : Nat) (c : C9) (s'' : St9) (b : Bool), vs = [.ref M.m] ∧ MOk L M H0 H (st0 M.core) ∧ M.core.bods[M.core.main]? = some (0, c) ∧
  Runs M.core M.bound n ⟨[.lev, .c c []], [], List.replicate M.core.sgls.length .fresh, 0, 0, [M.core.main]⟩ s'' b ∧ (b = true → s''.worths = [.unit]) ∧
  ∀ H' t l, (∃ sf, MOk L M H0 H' sf ∧ sf.begun = s''.begun) → H' t = some (.tup [.str (outW b).1, .str (outW b).2, .ref l]) → H' l = some (.lst []) → H0 t = none → H0 l = none → Q (.ref t) H'
structure DsO (P : Program) (w : World) (K : PySem.W.Frag) (mg : Str → Option Value) (base : Heap) (L : Cl9) (CE : Addr) : Prop where
  M : ClsF K L.CM mcF
  begin_ : Mn P w K mg base CX0 L.CM "begin" 3 3 (spBegin L)
  work : Mn P w K mg base (L2.CX P w) L.CM "work" 5 1 (spWork L CE)
  told : Mn P w K mg base CX0 L.CM "told" 5 2 (spTold L)
  Ended : mg "Ended" = some (.ref CE)
  xf : XfC K CE
  noW : PySem.W.findIn K (.ref CE) "word" = some none
  noT : PySem.W.findIn K (.ref CE) "text" = some none
  ex : PySem.W.exmOne K (.ref CE) (.ref CE) = some true
section
variable {P : Program} {w : World} {K : PySem.W.Frag} {mg : Str → Option Value} {base : Heap} {f CE : Addr} {fd : FuncData} {L : Cl9}
theorem ok_outcome (F : Fun K "outcome" "Machine.outcome" s_Machine_outcome f fd) (B : Blt mg) (D : DsO P w K mg base L CE) : FnOk P w K mg base CX0 6 f fd ["self"] (spOutcome L) := by
  refine F.ok sc_Machine_outcome (fun vs H Q E h => ?_) (fun cdv A outer s H vs Q E hr h => ?_)
  · obtain ⟨M, H0, n, c, s'', b, rfl, _⟩ := h
    rfl
  · obtain ⟨M, H0, n, c, s'', b, rfl, ok, hb, run, hw, q⟩ := h
    refine ⟨_, pss_one (ps_try_fst (i := 1) (c := .ref CE) rfl rfl sc_Machine_outcome.nd rfl rfl ⟨rfl, by decide, .inl D.Ended⟩
      (fun W pn xe tk _ => pss_cons (ps_fldKK K (pv 0) (pe_un un_neg pe_int) rfl)
        (pss_cons (ps_expr (pe_mn D.M.cls D.begin_ (hr.mono (by decide)) pass0 (pv 0) (pa_cons (pe_fldK K (pv 0) rfl) (pa_cons (pe_lst pa_nil) pa_nil))))
        (pss_cons (ps_expr (pe_mn0S D.M.cls D.work (hr.mono (by decide)) (fun σ => passAt tk σ) (pv 0)))
        (pss_one (ps_ret (pe_tup (pa_cons pe_str (pa_cons (pe_mn D.M.cls D.told (hr.mono (by decide)) pass0 (pv 0) (pa_cons (pe_popKK K (pe_fldK K (pv 0) rfl)) pa_nil)) (pa_cons (pe_callTy (call_listKK K) (by rfl) B.list boot_list (pa_cons (pe_fldK K (pv 0) rfl) pa_nil)) pa_nil)))))))))
      (fun a oe cls d pn hz hf => pss_one (ps_ret (pe_tup (pa_cons (pe_xf D.xf D.noW hz hf (pv 1)) (pa_cons (pe_xf D.xf D.noT hz hf (pv 1)) (pa_cons (pe_callTy (call_listKK K) (by rfl) B.list boot_list (pa_cons (pe_fldK K (pv 0) rfl) pa_nil)) pa_nil))))))), ?_⟩
    have ok1 : MOk L M H0 (upd H M.m (.ins L.CM M.dx (putF "depth" (.int (-1)) (M.fs 0 0)))) { st0 M.core with depth := -1 } := ok.setM (n := 0) (d := -1)
    refine ⟨_, rfl, _, rfl, M.m, L.CM, M.dx, M.fs 0 0, rfl, ok.m, D.M.cls, D.M.no "depth" (by decide), by show 13 < 1000; decide, ?_⟩
    generalize upd H M.m (.ins L.CM M.dx (putF "depth" (.int (-1)) (M.fs 0 0))) = H1 at ok1 ⊢
    refine ⟨_, rfl, M.m, M.dx, _, rfl, ok1.m, rfl, _, rfl, _, L.CM, M.dx, _, _, rfl, ok1.m, D.M.cls, D.M.no "main" (by decide), rfl, Nat.zero_le _, fun l hl => ?_⟩
    have e2 := same_new (o := .lst []) hl
    have g2 : upd H1 l (.lst []) l = some (.lst []) := upd_same
    have nl := ok1.has hl
    generalize upd H1 l (.lst []) = H2 at e2 g2 ⊢
    refine ⟨M, H0, _, l, M.core.main, c, [], [], rfl, ok1.mono e2, nl, g2, At.nil, hb, Nat.zero_le _, (by show (-1 : Int) ≠ 6000; decide), (by show 2 ≤ sizeLine; decide), (by show 0 < sizeLine; decide), fun H3 ok3 ps3 => ?_⟩
    have new0 : ∀ {G G' : Hp} {p : Addr}, Same H0 G → G p = none → H0 p = none := fun {G G' p} k e => by
      cases z : H0 p with
      | none => rfl
      | some o => rw [k _ _ z] at e; cases e
    refine ⟨_, rfl, M.m, M.dx, _, rfl, ok3.m, rfl, M, H0, _, s'', n, b, rfl, ok3, run, fun eb H4 ok4 ps4 => ?_, fun eb H4 d ok4 ps4 nd hd => ?_⟩
    · obtain ⟨wvs, hv, ha⟩ := ok4.wr
      rw [hw eb] at ha
      obtain ⟨us, v, rfl, ha', hu⟩ := At.cut (xs := []) ha
      have hus : us = [] := List.length_eq_zero_iff.mp ha'.1
      subst hus
      have hu' : v = .ref L.U := hu
      subst hu'
      refine ⟨_, rfl, M.m, M.dx, _, rfl, ok4.m, rfl, _, rfl, _, L.CM, M.dx, _, _, rfl, ok4.m, D.M.cls, D.M.no "worths" (by decide), rfl, .inl ⟨rfl, _, SqL.of hv⟩, M.wr, _, .ref L.U, rfl, rfl, hv, rfl, ?_⟩
      have ok5 : MOk L M H0 (upd H4 M.wr (.lst ([V.ref L.U] : List V).dropLast)) { s'' with worths := [] } := ok4.setW (ws := []) (wvs := []) At.nil
      refine ⟨M, H0, _, rfl, ok5, fun H6 s6 => ?_⟩
      have ok6 := ok5.mono s6
      refine ⟨_, rfl, _, L.CM, M.dx, _, _, rfl, ok6.m, D.M.cls, D.M.no "shown" (by decide), rfl, M.sh, [], rfl, .inl (SqL.of ok6.sh), fun l6 n6 => ⟨(by show 3 ≤ sizeLine; decide), fun t n7 => ?_⟩⟩
      have f6 := same_new (o := .lst []) n6
      have g6 : upd H6 l6 (.lst []) l6 = some (.lst []) := upd_same
      have z6 := new0 (G' := H6) ok6.same n6
      generalize upd H6 l6 (.lst []) = H7 at f6 g6 n7 ⊢
      have ok7 := ok6.mono f6
      have f7 := same_new (o := .tup [V.str "value", V.str "()", V.ref l6]) n7
      refine q _ t l6 ⟨_, ok7.mono f7, rfl⟩ ?_ (f7 _ _ g6) (new0 (G' := H7) ok7.same n7) z6
      rw [eb]
      exact upd_same
    · refine ⟨D.ex, fun a na => ?_⟩
      refine ⟨_, rfl, rfl, rfl, d, _, _, rfl, hd, rfl, _, rfl, rfl, rfl, d, _, _, rfl, hd, rfl, ?_⟩
      refine ⟨_, rfl, _, L.CM, M.dx, _, _, rfl, ok4.m, D.M.cls, D.M.no "shown" (by decide), rfl, M.sh, [], rfl, .inl (SqL.of ok4.sh), fun l6 n6 => ⟨(by show 3 ≤ sizeLine; decide), fun t n7 => ?_⟩⟩
      have f6 := same_new (o := .lst []) n6
      have g6 : upd H4 l6 (.lst []) l6 = some (.lst []) := upd_same
      have z6 := new0 (G' := H4) ok4.same n6
      generalize upd H4 l6 (.lst []) = H7 at f6 g6 n7 ⊢
      have ok7 := ok4.mono f6
      have f7 := same_new (o := .tup [V.str "steps", V.str "", V.ref l6]) n7
      refine q _ t l6 ⟨_, ok7.mono f7, rfl⟩ ?_ (f7 _ _ g6) (new0 (G' := H7) ok7.same n7) z6
      rw [eb]
      exact upd_same
end
end K9
end
section
set_option Elab.async false
set_option linter.all false
set_option maxRecDepth 100000
set_option maxHeartbeats 4000000
namespace K9
open PySem PySem.Spec PyProof.Rows L2
theorem sc_run_core : FnScope ["core", "steps"] ["core", "steps"] (defScope s_run_core) := ⟨rfl, rfl, rfl, by decide +kernel, rfl, by decide +kernel, by decide +kernel⟩
theorem sc_begun_bodies : FnScope ["core", "steps", "machine"] ["core", "steps"] (defScope s_begun_bodies) := ⟨rfl, rfl, rfl, by decide +kernel, rfl, by decide +kernel, by decide +kernel⟩
/-- the state behind the begin of main -/
def st1 (core : Core9) (c : C9) : St9 := ⟨[.lev, .c c []], [], List.replicate core.sgls.length .fresh, 0, 0, [core.main]⟩
/-- what a core does within a bound -/
structure Goes (core : Core9) (bound : Nat) (s'' : St9) (b : Bool) : Prop where
  wf : WF core
  bd : bound ≤ 100000
  ex : ∃ n c, core.bods[core.main]? = some (0, c) ∧ Runs core bound n (st1 core c) s'' b
  un : b = true → s''.worths = [.unit]
def spRunCore : Sp := fun vs H Q _ => ∃ (core : Core9) (v : V) (bound : Nat) (s'' : St9) (b : Bool), vs = [v, .int bound] ∧ IsCore H core v ∧ Goes core bound s'' b ∧
  ∀ H' t l, Same H H' → H' t = some (.tup [.str (outW b).1, .str (outW b).2, .ref l]) → H' l = some (.lst []) → H t = none → H l = none → Q (.ref t) H'
def spBegunBodies : Sp := fun vs H Q _ => ∃ (core : Core9) (v : V) (bound : Nat) (s'' : St9) (b : Bool), vs = [v, .int bound] ∧ IsCore H core v ∧ Goes core bound s'' b ∧
  ∀ H' p, Same H H' → H p = none → H' p = some (.lst (s''.begun.map fun n : Nat => V.int (n : Int))) → Q (.ref p) H'
structure DsR (P : Program) (w : World) (K : PySem.W.Frag) (mg : Str → Option Value) (base : Heap) (L : Cl9) : Prop where
  M : ClsF K L.CM mcF
  need_core : Dn P w K mg base CX0 "need_core" 8 1 spNeedCore
  need_count : Dn P w K mg base CX0 "need_count" 2 2 spNeedCount
  Machine : Kn P w K mg base CX0 "Machine" L.CM 3 3 (spMcInit L)
  Machine_outcome : Mn P w K mg base CX0 L.CM "outcome" 6 1 (spOutcome L)
section
variable {P : Program} {w : World} {K : PySem.W.Frag} {mg : Str → Option Value} {base : Heap} {f : Addr} {fd : FuncData} {L : Cl9}
theorem ok_run_core (F : Fun K "run_core" "run_core" s_run_core f fd) (B : Blt mg) (G : Glo mg) (D : DsR P w K mg base L) : FnOk P w K mg base CX0 9 f fd ["core", "steps"] spRunCore := by
  refine F.ok sc_run_core (fun vs H Q E h => ?_) (fun cdv A outer s H vs Q E hr h => ?_)
  · obtain ⟨core, v, bound, s'', b, rfl, _⟩ := h
    rfl
  · obtain ⟨core, v, bound, s'', b, rfl, hC, go, q⟩ := h
    refine ⟨_, (pss_cons (ps_expr (pe_dn D.need_core (hr.mono (by decide)) pass0 (pa_cons (pv 0) pa_nil)))
      (pss_cons (ps_expr (pe_dn D.need_count (hr.mono (by decide)) pass0 (pa_cons (pv 1) (pa_cons (pe_gi G.CORE_MOST) pa_nil))))
      (pss_one (ps_ret (pe_mn0 D.M.cls D.Machine_outcome (hr.mono (by decide)) pass0 (pe_kn D.Machine (hr.mono (by decide)) pass0 (pa_cons (pv 0) (pa_cons (pv 1) pa_nil)))))))), ?_⟩
    obtain ⟨n, c, hb, run⟩ := go.ex
    refine ⟨_, rfl, core, v, rfl, hC, go.wf, fun H1 s1 => ?_⟩
    refine ⟨_, rfl, _, _, rfl, by omega, by have := go.bd; omega, ?_⟩
    refine ⟨_, rfl, _, rfl, fun x dx nx ndx ne => ⟨H1, x, dx, v, core, bound, rfl, rfl, nx, ndx, ne, hC.mono (Tu.same s1), go.wf, fun M H' e1 e2 e3 ok => ⟨rfl, ?_⟩⟩⟩
    subst e1
    subst e2
    subst e3
    refine ⟨M.m, M.dx, _, rfl, ok.m, rfl, M, H1, n, c, s'', b, rfl, ok, hb, run, go.un, fun H2 t l hs ht hl nt nl => ?_⟩
    obtain ⟨sf, okf, _⟩ := hs
    have no : ∀ {p : Addr}, H1 p = none → H p = none := fun {p} e => by
      cases z : H p with
      | none => rfl
      | some o => rw [s1 _ _ z] at e; cases e
    exact q H2 t l (s1.trans okf.same) ht hl (no nt) (no nl)
theorem ok_begun_bodies (F : Fun K "begun_bodies" "begun_bodies" s_begun_bodies f fd) (B : Blt mg) (G : Glo mg) (D : DsR P w K mg base L) : FnOk P w K mg base CX0 9 f fd ["core", "steps"] spBegunBodies := by
  refine F.ok sc_begun_bodies (fun vs H Q E h => ?_) (fun cdv A outer s H vs Q E hr h => ?_)
  · obtain ⟨core, v, bound, s'', b, rfl, _⟩ := h
    rfl
  · obtain ⟨core, v, bound, s'', b, rfl, hC, go, q⟩ := h
    refine ⟨_, (pss_cons (ps_expr (pe_dn D.need_core (hr.mono (by decide)) pass0 (pa_cons (pv 0) pa_nil)))
      (pss_cons (ps_expr (pe_dn D.need_count (hr.mono (by decide)) pass0 (pa_cons (pv 1) (pa_cons (pe_gi G.CORE_MOST) pa_nil))))
      (pss_cons (ps_set (i := 2) sc_begun_bodies.nd rfl (.inl rfl) (pe_kn D.Machine (hr.mono (by decide)) pass0 (pa_cons (pv 0) (pa_cons (pv 1) pa_nil))))
      (pss_cons (ps_expr (pe_mn0 D.M.cls D.Machine_outcome (hr.mono (by decide)) pass0 (pv 2)))
      (pss_one (ps_ret (pe_callTy call_list_of (by rfl) B.list boot_list (pa_cons (pe_fld (pv 2) rfl) pa_nil)))))))), ?_⟩
    obtain ⟨n, c, hb, run⟩ := go.ex
    refine ⟨_, rfl, core, v, rfl, hC, go.wf, fun H1 s1 => ?_⟩
    refine ⟨_, rfl, _, _, rfl, by omega, by have := go.bd; omega, ?_⟩
    refine ⟨_, rfl, _, rfl, fun x dx nx ndx ne => ⟨H1, x, dx, v, core, bound, rfl, rfl, nx, ndx, ne, hC.mono (Tu.same s1), go.wf, fun M H' e1 e2 e3 ok => ⟨rfl, ?_⟩⟩⟩
    subst e1
    subst e2
    subst e3
    refine ⟨_, rfl, M.m, M.dx, _, rfl, ok.m, rfl, M, H1, n, c, s'', b, rfl, ok, hb, run, go.un, fun H2 t l hs ht hl nt nl => ?_⟩
    obtain ⟨sf, okf, ebg⟩ := hs
    have hbg := okf.bg
    rw [ebg] at hbg
    refine ⟨_, rfl, _, L.CM, M.dx, _, _, rfl, okf.m, D.M.cls, D.M.no "begun" (by decide), rfl, M.bg, _, rfl, .inl (SqL.of hbg), fun p np => ?_⟩
    have hp : H p = none := by
      cases z : H p with
      | none => rfl
      | some o => rw [okf.same _ _ (s1 _ _ z)] at np; cases np
    exact q _ p ((s1.trans okf.same).trans (same_new np)) hp upd_same
end
end K9
end
section
set_option Elab.async false
set_option linter.all false
set_option maxRecDepth 100000
set_option maxHeartbeats 4000000
namespace K9
open PySem PySem.Spec PyProof.Rows L2
theorem sc_Teller_init : FnScope ["self"] ["self"] (defScope s_Teller_init) := ⟨rfl, rfl, rfl, by decide +kernel, rfl, by decide +kernel, by decide +kernel⟩
theorem sc_Teller_told : FnScope ["self", "thing", "deep", "fields"] ["self", "thing", "deep"] (defScope s_Teller_told) := ⟨rfl, rfl, rfl, by decide +kernel, rfl, by decide +kernel, by decide +kernel⟩
theorem sc_CoreTeller_fields_of : FnScope ["self", "thing"] ["self", "thing"] (defScope s_CoreTeller_fields_of) := ⟨rfl, rfl, rfl, by decide +kernel, rfl, by decide +kernel, by decide +kernel⟩
theorem sc_CoreTeller_told_other : FnScope ["self", "thing"] ["self", "thing"] (defScope s_CoreTeller_told_other) := ⟨rfl, rfl, rfl, by decide +kernel, rfl, by decide +kernel, by decide +kernel⟩
theorem sc_told_plain : FnScope ["thing"] ["thing"] (defScope s_told_plain) := ⟨rfl, rfl, rfl, by decide +kernel, rfl, by decide +kernel, by decide +kernel⟩
theorem sc_Machine_told : FnScope ["self", "thing"] ["self", "thing"] (defScope s_Machine_told) := ⟨rfl, rfl, rfl, by decide +kernel, rfl, by decide +kernel, by decide +kernel⟩
/-- classes of the text that have no part here -/
structure DsT (P : Program) (w : World) (K : PySem.W.Frag) (mg : Str → Option Value) (base : Heap) (L : Cl9) (CT : Addr) : Prop where
  T : ClsF K CT ["kept", "machine"]
  unit : KTup K L.U []
  Instance : mg "Instance" = some (.ref L.CI)
  Late : ∃ a, mg "Late" = some (.ref a) ∧ PySem.W.kitAny K (.type "tuple") [.ref a, .ref L.CK] = some false
  Kept : mg "Kept" = some (.ref L.CK)
  CoreFun : ∃ a, mg "CoreFun" = some (.ref a) ∧ PySem.W.kitOne K (.type "tuple") (.ref a) = some false
  noI : PySem.W.kitOne K (.type "tuple") (.ref L.CI) = some false
def spPlain (L : Cl9) : Sp := fun vs H Q _ => vs = [.ref L.U] ∧ Q (.str "()") H
def spOther (L : Cl9) : Sp := fun vs H Q _ => ∃ x, vs = [x, .ref L.U] ∧ ∀ H', Same H H' → Q (.str "()") H'
def spFields (L : Cl9) : Sp := fun vs H Q _ => ∃ x, vs = [x, .ref L.U] ∧ Q .non H
def spTTold (L : Cl9) (CT : Addr) : Sp := fun vs H Q _ => ∃ (x dx d : Addr) (m : V), vs = [.ref x, .ref L.U, .int 0] ∧ H x = some (.ins CT dx [("kept", .ref d), ("machine", m)]) ∧ ∀ H', Same H H' → Q (.str "()") H'
def spTInit (CT : Addr) : Sp := fun vs H Q _ => ∃ m dx, vs = [.ref m] ∧ H m = some (.ins CT dx []) ∧ ∀ d, H d = none → Q .non (upd (upd H d (.dK [])) m (.ins CT dx [("kept", .ref d)]))
def spCtInit (CT : Addr) : Sp := fun vs H Q _ => ∃ m dx v, vs = [.ref m, v] ∧ H m = some (.ins CT dx []) ∧ ∀ d, H d = none → Q .non (upd (upd H d (.dK [])) m (.ins CT dx [("kept", .ref d), ("machine", v)]))
section
variable {P : Program} {w : World} {K : PySem.W.Frag} {mg : Str → Option Value} {base : Heap} {f CT : Addr} {fd : FuncData} {L : Cl9}
theorem ok_told_plain (F : Fun K "told_plain" "told_plain" s_told_plain f fd) (B : Blt mg) (D : DsT P w K mg base L CT) : FnOk P w K mg base CX0 1 f fd ["thing"] (spPlain L) := by
  refine F.ok sc_told_plain (fun vs H Q E h => ?_) (fun cdv A outer s H vs Q E hr h => ?_)
  · rw [h.1]
    rfl
  · obtain ⟨rfl, q⟩ := h
    refine ⟨_, (pss_cons (ps_if (pt_val (pe_callB call_isi (by rfl) B.isinstance (by decide +kernel) (pa_cons (pv 0) (pa_cons (pe_bltn (v := .ty "bool") (u := .type "bool") rfl B.bool (by decide +kernel) rfl) pa_nil)))) (pss_one (ps_ret (pe_ifExp (pt_truth (pv 0) (fun _ => rfl)) pe_str pe_str))) pss_nil)
      (pss_cons (ps_if (pt_val (pe_callB call_isi (by rfl) B.isinstance (by decide +kernel) (pa_cons (pv 0) (pa_cons (pe_bltn (v := .ty "int") (u := .type "int") rfl B.int (by decide +kernel) rfl) pa_nil)))) (pss_one (ps_ret (pe_callTy call_str_int (by rfl) B.str (by decide +kernel) (pa_cons (pv 0) pa_nil)))) pss_nil)
      (pss_one (ps_ret (pe_ifExp (pt_val (pe_callB call_isi (by rfl) B.isinstance (by decide +kernel) (pa_cons (pv 0) (pa_cons (pe_bltn (v := .ty "str") (u := .type "str") rfl B.str (by decide +kernel) rfl) pa_nil)))) (pe_op op_add_str (pe_op op_add_str pe_str (pv 0)) pe_str) pe_str))))), ?_⟩
    have ty : TyX K H (.ref L.U) (.type "tuple") := tyT (.inr D.unit)
    refine ⟨_, rfl, _, _, _, _, false, rfl, .ty _, ty, kit_ty (by decide +kernel), _, rfl, iteF ?_⟩
    refine ⟨_, rfl, _, _, _, _, false, rfl, .ty _, ty, kit_ty (by decide +kernel), _, rfl, iteF ?_⟩
    exact ⟨_, rfl, _, _, _, _, false, rfl, .ty _, ty, kit_ty (by decide +kernel), _, rfl, iteF q⟩
theorem ok_told_other (F : Fun K "told_other" "CoreTeller.told_other" s_CoreTeller_told_other f fd) (B : Blt mg) (D : DsT P w K mg base L CT) (R : Dn P w K mg base CX0 "told_plain" 1 1 (spPlain L)) : FnOk P w K mg base CX0 2 f fd ["self", "thing"] (spOther L) := by
  obtain ⟨la, gla, kla⟩ := D.Late
  obtain ⟨fa, gfa, kfa⟩ := D.CoreFun
  refine F.ok sc_CoreTeller_told_other (fun vs H Q E h => ?_) (fun cdv A outer s H vs Q E hr h => ?_)
  · obtain ⟨x, rfl, _⟩ := h
    rfl
  · obtain ⟨x, rfl, q⟩ := h
    refine ⟨_, (pss_cons (ps_if (pt_val (pe_callB call_isiT (by rfl) B.isinstance (by decide +kernel) (pa_cons (pv 1) (pa_cons (pe_tup (pa_cons (pe_gr gla) (pa_cons (pe_gr D.Kept) pa_nil))) pa_nil)))) pss_never pss_nil)
      (pss_one (ps_ret (pe_ifExp (pt_val (pe_callB call_isi (by rfl) B.isinstance (by decide +kernel) (pa_cons (pv 1) (pa_cons (pe_gr gfa) pa_nil)))) pe_str (pe_dn R (hr.mono (by decide)) pass0 (pa_cons (pv 1) pa_nil)))))), ?_⟩
    refine ⟨_, rfl, (by show 2 ≤ sizeLine; decide), fun t ht => ?_⟩
    have s1 := same_new (o := .tup [V.ref la, V.ref L.CK]) ht
    refine ⟨.ref L.U, t, [.ref la, .ref L.CK], _, [.ref la, .ref L.CK], false, rfl, upd_same, .cons (.own _) (.cons (.own _) .nil), tyT (.inr D.unit), kla, _, rfl, iteF ?_⟩
    exact ⟨_, rfl, _, _, _, _, false, rfl, .own _, tyT (.inr D.unit), kfa, _, rfl, iteF ⟨_, rfl, rfl, q _ s1⟩⟩
theorem ok_fields_of (F : Fun K "fields_of" "CoreTeller.fields_of" s_CoreTeller_fields_of f fd) (B : Blt mg) (D : DsT P w K mg base L CT) : FnOk P w K mg base CX0 1 f fd ["self", "thing"] (spFields L) := by
  refine F.ok sc_CoreTeller_fields_of (fun vs H Q E h => ?_) (fun cdv A outer s H vs Q E hr h => ?_)
  · obtain ⟨x, rfl, _⟩ := h
    rfl
  · obtain ⟨x, rfl, q⟩ := h
    refine ⟨_, (pss_cons (ps_if (pt_not (pt_val (pe_callB call_isi (by rfl) B.isinstance (by decide +kernel) (pa_cons (pv 1) (pa_cons (pe_gr D.Instance) pa_nil))))) (pss_one (ps_ret pe_non)) pss_nil) pss_never), ?_⟩
    exact ⟨_, rfl, _, _, _, _, false, rfl, .own _, tyT (.inr D.unit), D.noI, _, rfl, iteT q⟩
theorem ok_ttold (F : Fun K "told" "Teller.told" s_Teller_told f fd) (B : Blt mg) (G : Glo mg) (D : DsT P w K mg base L CT) (M1 : Mn P w K mg base CX0 CT "fields_of" 1 2 (spFields L)) (M2 : Mn P w K mg base CX0 CT "told_other" 2 2 (spOther L)) : FnOk P w K mg base CX0 3 f fd ["self", "thing", "deep"] (spTTold L CT) := by
  refine F.ok sc_Teller_told (fun vs H Q E h => ?_) (fun cdv A outer s H vs Q E hr h => ?_)
  · obtain ⟨x, dx, d, m, rfl, _⟩ := h
    rfl
  · obtain ⟨x, dx, d, m, rfl, hx, q⟩ := h
    refine ⟨_, (pss_cons (ps_set (i := 3) sc_Teller_told.nd rfl (.inl rfl) (pe_mn D.T.cls M1 (hr.mono (by decide)) pass0 (pv 0) (pa_cons (pv 1) pa_nil)))
      (pss_cons (ps_if (pt_cmpR op_isN (pv 3) pe_non (nomark _)) (pss_one (ps_ret (pe_slice sl_str (pe_mn D.T.cls M2 (hr.mono (by decide)) pass0 (pv 0) (pa_cons (pv 1) pa_nil)) po_none (po_some (pe_gi G.TOLD_MOST))))) pss_nil) pss_never)), ?_⟩
    refine ⟨_, rfl, x, dx, _, rfl, hx, rfl, _, rfl, _, rfl, ?_⟩
    refine ⟨_, rfl, rfl, _, rfl, iteT ?_⟩
    refine ⟨_, rfl, x, dx, _, rfl, hx, rfl, _, rfl, _, rfl, fun H' s' => ?_⟩
    exact ⟨200, rfl, "()", rfl, by decide, q _ s'⟩
theorem ok_mtold (F : Fun K "told" "Machine.told" s_Machine_told f fd) (D : DsT P w K mg base L CT) (M1 : Kn P w K mg base CX0 "CoreTeller" CT 2 2 (spCtInit CT)) (M2 : Mn P w K mg base CX0 CT "told" 3 3 (spTTold L CT)) : FnOk P w K mg base CX0 4 f fd ["self", "thing"] (spTold L) := by
  refine F.ok sc_Machine_told (fun vs H Q E h => ?_) (fun cdv A outer s H vs Q E hr h => ?_)
  · obtain ⟨M, H0, s, rfl, _⟩ := h
    rfl
  · obtain ⟨M, H0, s, rfl, ok, q⟩ := h
    refine ⟨_, (pss_one (ps_ret (pe_mn D.T.cls M2 (hr.mono (by decide)) pass0 (pe_kn M1 (hr.mono (by decide)) pass0 (pa_cons (pv 0) pa_nil)) (pa_cons (pv 1) (pa_cons pe_int pa_nil))))), ?_⟩
    refine ⟨_, rfl, fun x dx nx ndx ne => ⟨x, dx, _, rfl, upd_same, fun d hd => ⟨rfl, ?_⟩⟩⟩
    have s1 : Same H (upd (upd H dx (.own x)) x (.ins CT dx [])) := (same_new ndx).trans (same_new ((upd_ne ne.symm).trans nx))
    have s2 := fro (o := .ins CT dx [("kept", .ref d), ("machine", .ref M.m)]) nx (s1.trans (same_new (o := .dK []) hd))
    exact ⟨x, dx, _, rfl, upd_same, rfl, _, rfl, x, dx, d, .ref M.m, rfl, upd_same, fun H' s' => q H' (s2.trans s')⟩
theorem ok_tinit (F : Fun K "__init__" "Teller.__init__" s_Teller_init f fd) (D : DsT P w K mg base L CT) : FnOk P w K mg base CX0 1 f fd ["self"] (spTInit CT) := by
  refine F.ok sc_Teller_init (fun vs H Q E h => ?_) (fun cdv A outer s H vs Q E hr h => ?_)
  · obtain ⟨m, dx, rfl, _⟩ := h
    rfl
  · obtain ⟨m, dx, rfl, hm, q⟩ := h
    refine ⟨_, (pss_one (ps_fld (pv 0) pe_dnewK rfl)), ?_⟩
    exact fun d hd => ⟨_, rfl, m, CT, dx, [], rfl, (upd_ne (ne_of_none hm hd)).trans hm, D.T.cls, D.T.no "kept" (by decide), by decide, q d hd⟩
end
end K9
end
section
set_option Elab.async false
set_option linter.all false
set_option maxRecDepth 100000
set_option maxHeartbeats 4000000
set_option exponentiation.threshold 5000
namespace K9
open PySem PySem.Spec PyProof.Rows L2
/-! ### numbers -/
def Bd (k : Nat) (x : Int) : Prop := x.natAbs < 2 ^ k
theorem Bd.of {k : Nat} {x : Int} (h0 : 0 ≤ x) (h : x < 2 ^ k) : Bd k x := by
  unfold Bd
  have e : (2 ^ k : Int) = ((2 ^ k : Nat) : Int) := by rw [Int.natCast_pow]; rfl
  rw [e] at h
  omega
theorem Bd.mono {a b : Nat} {x : Int} (h : Bd a x) (k : a ≤ b) : Bd b x := Nat.lt_of_lt_of_le h (Nat.pow_le_pow_right (by decide) k)
theorem Bd.add {a : Nat} {x y : Int} (hx : Bd a x) (hy : Bd a y) : Bd (a + 1) (x + y) := by
  unfold Bd at *
  rw [Nat.pow_succ]
  omega
theorem Bd.mul {a b : Nat} {x y : Int} (hx : Bd a x) (hy : Bd b y) : Bd (a + b) (x * y) := wide_lt hx hy
theorem Bd.mod {k : Nat} {x m : Int} (h0 : 0 < m) (h : Bd k m) : Bd k (x % m) := by
  have h1 := Int.emod_nonneg x (by omega : m ≠ 0)
  have h2 := Int.emod_lt_of_pos x h0
  unfold Bd at *
  omega
/-- ** of a great base -/
def CPowW (i j : Int) : Prop := 0 ≤ j ∧ (Builtin.Int.intBits i : Int) * j ≤ 2 ^ 27
theorem op_powW {X : Cx} : OpR X (binaryOp .Pow) (rI CPowW fun i j => .int (i ^ j.toNat)) := opI fun _ _ _ _ _ _ _ hc q => pow_int hc.1 hc.2 q
theorem cut_ints (ns : List Int) (lo hi : Option Int) : ∃ ms : List Int, cutV (ns.map V.int) lo hi = ms.map V.int := by
  unfold cutV
  rw [← List.map_drop, ← List.map_take]
  exact ⟨_, rfl⟩
theorem sc__law_feed : FnScope ["_law_script", "_law_k", "_law_cell"] ["_law_script", "_law_k"] (defScope s__law_feed) := ⟨rfl, rfl, rfl, by decide +kernel, rfl, by decide +kernel, by decide +kernel⟩
theorem sc__law_draw : FnScope ["_law_feed_here", "_law_many", "_law_rest", "_law_got", "_law_stir"] ["_law_feed_here", "_law_many"] (defScope s__law_draw) := ⟨rfl, rfl, rfl, by decide +kernel, rfl, by decide +kernel, by decide +kernel⟩
theorem sc__law_one : FnScope ["_law_feed_here", "_law_things"] ["_law_feed_here", "_law_things"] (defScope s__law_one) := ⟨rfl, rfl, rfl, by decide +kernel, rfl, by decide +kernel, by decide +kernel⟩
def spFeed (K : PySem.W.Frag) : Sp := fun vs H Q _ => ∃ (a : Addr) (ns : List Int) (k : Int), vs = [.ref a, .int k] ∧ SqL K H a (ns.map V.int) ∧ 0 ≤ k ∧ k ≤ 24 ∧
  ∀ (H' : Hp) (p : Addr) (x y : Int), Same H H' → H p = none → 0 ≤ x → Bd 130 y → H' p = some (.lst [.int x, .int y, .int 0]) → Q (.ref p) H'
/-- a draw: some number below m; the feed's list goes on -/
def spDraw : Sp := fun vs H Q _ => ∃ (p : Addr) (m x y c : Int), vs = [.ref p, .int m] ∧ 0 < m ∧ m ≤ 1000000 ∧ H p = some (.lst [.int x, .int y, .int c]) ∧ 0 ≤ x ∧ Bd 130 y ∧ 0 ≤ c ∧ c ≤ 10000 ∧
  ∀ r x' c' : Int, 0 ≤ r → r < m → 0 ≤ x' → 0 ≤ c' → c' ≤ c + 1 → Q (.int r) (upd H p (.lst [.int x', .int y, .int c']))
section
variable {P : Program} {w : World} {K : PySem.W.Frag} {mg : Str → Option Value} {base : Heap} {f : Addr} {fd : FuncData}
theorem ok_feed (F : Fun K "_law_feed" "_law_feed" s__law_feed f fd) (B : Blt mg) : FnOk P w K mg base CX0 1 f fd ["_law_script", "_law_k"] (spFeed K) := by
  refine F.ok sc__law_feed (fun vs H Q E h => ?_) (fun cdv A outer s H vs Q E hr h => ?_)
  · obtain ⟨a, ns, k, rfl, _⟩ := h
    rfl
  · obtain ⟨a, ns, kk, rfl, hS, hk0, hk1, q⟩ := h
    refine ⟨_, (pss_cons (ps_set (i := 2) sc__law_feed.nd rfl (.inl rfl) (pe_op op_add (pe_op op_mul pe_int (pv 1)) (pe_callB (cr_sum rfl) (by rfl) B.sum (by decide +kernel) (pa_cons (pe_slice sl_list (pv 0) po_none (po_some pe_int)) pa_nil))))
      (Evl.pss_cut (ps_if (pt_cmpR op_lt (pv 1) (pe_callB call_len_seq (by rfl) B.len PySem.boot_len (pa_cons (pv 0) pa_nil)) (nomark _)) (pss_one (ps_set (i := 2) sc__law_feed.nd rfl (.inl rfl) (pe_ix ix_list (pv 0) (pv 1) (fun _ _ => rfl)))) pss_nil)
      (pss_one (ps_ret (pe_lst (pa_cons (pe_callB (call_max2 rfl) (by rfl) B.max (by decide +kernel) (pa_cons pe_int (pa_cons (pe_op op_sub (pv 2) (pe_op op_powW pe_int pe_int)) pa_nil))) (pa_cons (pe_op op_mod (pe_callTy call_int1 (by rfl) B.int (by decide +kernel) (pa_cons (pe_op op_add (pe_op op_mul (pv 2) pe_int) (pe_op op_mul pe_int (pv 1))) pa_nil)) (pe_op op_add (pe_op op_powW pe_int pe_int) pe_int)) (pa_cons pe_int pa_nil)))))))), ?_⟩
    refine ⟨_, rfl, _, _, rfl, rfl, .inl ⟨by decide, by decide⟩, _, rfl, 1, rfl, a, ns.map V.int, rfl, hS, fun c nc => ?_⟩
    have s1 : Same H (upd H c (.lst (cutV (ns.map V.int) none (some 1)))) := same_new nc
    obtain ⟨ms, hms⟩ := cut_ints ns none (some 1)
    refine ⟨c, ms, rfl, .inl (.inl (by rw [upd_same, hms])), _, _, rfl, rfl, ?_⟩
    refine ⟨fun σ' H' => ∃ z : Int, σ' = [some (.ref a), some (.int kk), some (.int z)] ∧ Same H H', ?_, ?_⟩
    · refine ⟨_, rfl, _, rfl, a, ns.map V.int, rfl, .inl (s1.seq hS), _, _, rfl, rfl, _, rfl, ite2 (fun e => ?_) (fun e => ?_)⟩
      · have hl : kk < ((ns.map V.int).length : Int) := of_decide_eq_true e
        rw [List.length_map] at hl
        obtain ⟨j, rfl⟩ := Int.eq_ofNat_of_zero_le hk0
        have hj : j < ns.length := by omega
        exact ⟨_, rfl, _, rfl, a, ns.map V.int, _, .int ns[j], rfl, rfl, s1.seq hS, atI_nat (by rw [List.getElem?_map, List.getElem?_eq_getElem hj]; rfl), _, rfl, s1⟩
      · exact ⟨_, rfl, s1⟩
    · rintro σ' H' ⟨z, rfl, s2⟩
      have e2 : (0 : Int) < 10 ^ Int.toNat 39 + 23 := by decide +kernel
      refine ⟨_, rfl, _, _, rfl, rfl, ⟨by decide, by decide +kernel⟩, _, _, rfl, rfl, _, _, rfl, ?_⟩
      refine ⟨_, rfl, _, _, rfl, rfl, .inr ⟨by decide, by decide⟩, _, rfl, _, _, rfl, rfl, .inl ⟨by decide, by decide⟩, _, _, rfl, rfl, .inl ⟨_, rfl, _, _, rfl, rfl, ⟨by decide, by decide +kernel⟩, _, _, rfl, rfl, _, _, rfl, rfl, e2, ?_⟩⟩
      refine ⟨by show 3 ≤ sizeLine; decide, fun p np => ?_⟩
      refine q _ p _ _ (s2.trans (same_new np)) (s2.free np) ?_ (Bd.mod e2 (by unfold Bd; decide +kernel)) upd_same
      show (0 : Int) ≤ if _ > (0 : Int) then _ else 0
      by_cases c : z - 10 ^ Int.toNat 18 > 0
      · rw [if_pos c]
        omega
      · rw [if_neg c]
        exact Int.le_refl _
theorem ok_draw (F : Fun K "_law_draw" "_law_draw" s__law_draw f fd) (B : Blt mg) : FnOk P w K mg base CX0 1 f fd ["_law_feed_here", "_law_many"] spDraw := by
  refine F.ok sc__law_draw (fun vs H Q E h => ?_) (fun cdv A outer s H vs Q E hr h => ?_)
  · obtain ⟨p, m, x, y, c, rfl, _⟩ := h
    rfl
  · obtain ⟨p, m, x, y, c, rfl, hm0, hm1, hp, hx0, hyB, hc0, hc1, q⟩ := h
    refine ⟨_, (pss_cons (ps_if (pt_cmpR op_gt (pe_ix ix_list (pv 0) pe_int (fun _ _ => rfl)) pe_int (nomark _)) (pss_cons (ps_set (i := 2) sc__law_draw.nd rfl (.inl rfl) (pe_op op_fdiv (pe_ix ix_list (pv 0) pe_int (fun _ _ => rfl)) (pv 1)))
      (pss_cons (ps_set (i := 3) sc__law_draw.nd rfl (.inl rfl) (pe_op op_sub (pe_ix ix_list (pv 0) pe_int (fun _ _ => rfl)) (pe_op op_mul (pv 2) (pv 1))))
      (pss_cons (ps_asg (pv 2) (pg_sub (pv 0) pe_int set_list))
      (pss_one (ps_ret (pv 3)))))) pss_nil)
      (pss_cons (ps_asg (pe_op op_add (pe_ix ix_list (pv 0) pe_int (fun _ _ => rfl)) pe_int) (pg_sub (pv 0) pe_int set_list))
      (pss_cons (ps_set (i := 4) sc__law_draw.nd rfl (.inl rfl) (pe_op op_add (pe_ix ix_list (pv 0) pe_int (fun _ _ => rfl)) (pe_op op_mul pe_int (pe_ix ix_list (pv 0) pe_int (fun _ _ => rfl)))))
      (pss_cons (ps_set (i := 4) sc__law_draw.nd rfl (.inl rfl) (pe_op op_mod (pe_callTy call_int1 (by rfl) B.int (by decide +kernel) (pa_cons (pe_op op_add (pe_op op_mulW (pe_op op_mulW (pv 4) (pv 4)) (pv 4)) (pe_op op_mul pe_int (pe_ix ix_list (pv 0) pe_int (fun _ _ => rfl)))) pa_nil)) (pe_op op_add (pe_op op_powW pe_int pe_int) pe_int)))
      (pss_cons (ps_set (i := 4) sc__law_draw.nd rfl (.inl rfl) (pe_op op_mod (pe_callTy call_int1 (by rfl) B.int (by decide +kernel) (pa_cons (pe_op op_add (pe_op op_mulW (pv 4) (pv 4)) pe_int) pa_nil)) (pe_op op_add (pe_op op_powW pe_int pe_int) pe_int)))
      (pss_one (ps_ret (pe_op op_mod (pe_callTy call_int1 (by rfl) B.int (by decide +kernel) (pa_cons (pe_op op_fdivW (pv 4) (pe_op op_powW pe_int pe_int)) pa_nil)) (pv 1))))))))), ?_⟩
    have hS : ∀ {H : Hp} {a b c : Int}, H p = some (.lst [.int a, .int b, .int c]) → SqL K H p [.int a, .int b, .int c] := fun h => .inl (.inl h)
    refine ⟨_, rfl, p, _, 0, .int x, rfl, rfl, hS hp, rfl, _, _, rfl, rfl, _, rfl, ite2 (fun e => ?_) (fun _ => ?_)⟩
    · refine ⟨_, rfl, p, _, 0, .int x, rfl, rfl, hS hp, rfl, _, rfl, _, _, rfl, rfl, ⟨hm0, by omega⟩, ?_⟩
      refine ⟨_, rfl, p, _, 0, .int x, rfl, rfl, hS hp, rfl, _, rfl, _, rfl, _, _, rfl, rfl, .inr ⟨by omega, by omega⟩, _, _, rfl, rfl, ?_⟩
      refine ⟨_, rfl, _, rfl, p, _, 0, 0, rfl, rfl, hp, rfl, _, rfl, ?_⟩
      have hd0 : 0 ≤ x / m := Int.ediv_nonneg hx0 (by omega)
      have h1 := Int.emod_def x m
      have h2 := Int.emod_nonneg x (by omega : m ≠ 0)
      have h3 := Int.emod_lt_of_pos x hm0
      have e4 : x - x / m * m = x % m := by rw [h1, Int.mul_comm (x / m) m]
      have k := q (x - x / m * m) (x / m) c (by omega) (by omega) hd0 hc0 (by omega)
      exact k
    · have e1 : (0 : Int) < 10 ^ Int.toNat 43 + 57 := by decide +kernel
      have e2 : (0 : Int) < 10 ^ Int.toNat 38 + 133 := by decide +kernel
      have e3 : (0 : Int) < 10 ^ Int.toNat 9 := by decide +kernel
      have b1 : Bd 160 (10 ^ Int.toNat 43 + 57) := by unfold Bd; decide +kernel
      have hcB : Bd 40 (6700417 * (c + 1)) := by unfold Bd; omega
      have s3 : Bd 131 (y + 6700417 * (c + 1)) := hyB.add (hcB.mono (by decide))
      refine ⟨_, rfl, p, _, 2, .int c, rfl, rfl, hS hp, rfl, _, _, rfl, rfl, _, rfl, p, _, 2, 2, rfl, rfl, hp, rfl, ?_⟩
      have h1 : upd H p (.lst [.int x, .int y, .int (c + 1)]) p = some (.lst [.int x, .int y, .int (c + 1)]) := upd_same
      refine ⟨_, rfl, p, _, 1, .int y, rfl, rfl, hS h1, rfl, _, rfl, p, _, 2, .int (c + 1), rfl, rfl, hS h1, rfl, _, _, rfl, rfl, .inl ⟨by decide, by decide⟩, _, _, rfl, rfl, ?_⟩
      refine ⟨_, rfl, _, rfl, _, _, rfl, rfl, wide_mul s3 s3 (by decide) (by decide) (by decide), _, rfl, _, _, rfl, rfl, wide_mul (s3.mul s3) s3 (by decide) (by decide) (by decide), _, rfl, p, _, 2, .int (c + 1), rfl, rfl, hS h1, rfl, _, _, rfl, rfl, .inl ⟨by decide, by decide⟩, _, _, rfl, rfl, .inl ⟨_, rfl, _, _, rfl, rfl, ⟨by decide, by decide +kernel⟩, _, _, rfl, rfl, _, _, rfl, rfl, e1, ?_⟩⟩
      have z1 : ∀ t : Int, Bd 160 (t % (10 ^ Int.toNat 43 + 57)) := fun t => Bd.mod e1 b1
      refine ⟨_, rfl, _, rfl, _, _, rfl, rfl, wide_mul (z1 _) (z1 _) (by decide) (by decide) (by decide), _, _, rfl, rfl, .inl ⟨_, rfl, _, _, rfl, rfl, ⟨by decide, by decide +kernel⟩, _, _, rfl, rfl, _, _, rfl, rfl, e2, ?_⟩⟩
      refine ⟨_, rfl, _, _, rfl, rfl, ⟨by decide, by decide +kernel⟩, _, _, rfl, rfl, wide_div (b := 60) e3 (by decide +kernel) (by decide) (by decide), .inl ⟨_, rfl, _, rfl, _, _, rfl, rfl, hm0, ?_⟩⟩
      exact q _ x (c + 1) (Int.emod_nonneg _ (by omega)) (Int.emod_lt_of_pos _ hm0) hx0 (by omega) (Int.le_refl _)
end
end K9
end
section
set_option Elab.async false
set_option linter.all false
set_option maxRecDepth 100000
set_option maxHeartbeats 4000000
namespace K9
open PySem PySem.Spec PyProof.Rows L2
inductive Way9 where | dir | snd | mak | sgl | oth
  deriving DecidableEq
def Way9.s : Way9 → Str
  | .dir => "direct" | .snd => "send" | .mak => "make" | .sgl => "single" | .oth => "other"
def ways9 : List Way9 := [.dir, .snd, .mak, .sgl, .oth]
abbrev Call9 := Way9 × Nat
def IsCall (H : Hp) (c : Call9) (v : V) : Prop := ∃ a, v = .ref a ∧ H a = some (.tup [.str c.1.s, .int c.2])
theorem IsCall.mono {H H' : Hp} (s : Tu H H') {c : Call9} {v : V} (h : IsCall H c v) : IsCall H' c v := let ⟨a, e, h⟩ := h; ⟨a, e, s _ _ h⟩
/-- the feed at p, after at most n stirs -/
def FeedOk (H : Hp) (p : Addr) (n : Int) : Prop := ∃ x y c : Int, H p = some (.lst [.int x, .int y, .int c]) ∧ 0 ≤ x ∧ Bd 130 y ∧ 0 ≤ c ∧ c ≤ n
theorem FeedOk.mono {H : Hp} {p : Addr} {n m : Int} (h : FeedOk H p n) (k : n ≤ m) : FeedOk H p m := let ⟨x, y, c, h1, h2, h3, h4, h5⟩ := h; ⟨x, y, c, h1, h2, h3, h4, by omega⟩
theorem FeedOk.same {H H' : Hp} {p : Addr} {n : Int} (h : FeedOk H p n) (s : Same H H') : FeedOk H' p n := let ⟨x, y, c, h1, h2⟩ := h; ⟨x, y, c, s _ _ h1, h2⟩
theorem FeedOk.put {H : Hp} {p a : Addr} {o : HO} {n : Int} (h : FeedOk H p n) (e : p ≠ a) : FeedOk (upd H a o) p n := let ⟨x, y, c, h1, h2⟩ := h; ⟨x, y, c, (upd_ne e).trans h1, h2⟩
theorem sc__law_calls : FnScope ["_law_feed_here", "_law_many", "_law_least", "_law_calls_here", "_law_turn", "_law_near", "_law_number"] ["_law_feed_here", "_law_many", "_law_least"] (defScope s__law_calls) := ⟨rfl, rfl, rfl, by decide +kernel, rfl, by decide +kernel, by decide +kernel⟩
def spDrawN : Sp := fun vs H Q _ => ∃ (p : Addr) (m n : Int), vs = [.ref p, .int m] ∧ 0 < m ∧ m ≤ 1000000 ∧ FeedOk H p n ∧ n ≤ 10000 ∧
  ∀ (r : Int) H', 0 ≤ r → r < m → Fk p H H' → (∀ q, H' q = none ↔ H q = none) → FeedOk H' p (n + 1) → Q (.int r) H'
theorem draw_imp : ∀ vs H Q E, spDrawN vs H Q E → spDraw vs H Q E := by
  rintro vs H Q E ⟨p, m, n, e, h1, h2, ⟨x, y, c, hp, hx, hy, hc, hcn⟩, hn, q⟩
  refine ⟨p, m, x, y, c, e, h1, h2, hp, hx, hy, hc, by omega, fun r x' c' r0 r1 x0 c0 c1 => ?_⟩
  refine q r _ r0 r1 Fk.put (fun z => ?_) ⟨x', y, c', upd_same, x0, hy, c0, by omega⟩
  by_cases k : z = p
  · rw [k, upd_same, hp]
    constructor <;> intro h <;> cases h
  · rw [upd_ne k]
def spOne : Sp := fun vs H Q _ => ∃ (p a : Addr) (xs : List V) (n : Int), vs = [.ref p, .ref a] ∧ p ≠ a ∧ H a = some (.lst xs) ∧ 0 < xs.length ∧ xs.length ≤ 100 ∧ FeedOk H p n ∧ n ≤ 10000 ∧
  ∀ x H', x ∈ xs → Fk p H H' → (∀ q, H' q = none ↔ H q = none) → FeedOk H' p (n + 1) → Q x H'
section
variable {P : Program} {w : World} {K : PySem.W.Frag} {mg : Str → Option Value} {base : Heap} {f : Addr} {fd : FuncData}
theorem ok_one (F : Fun K "_law_one" "_law_one" s__law_one f fd) (B : Blt mg) (D : Dn P w K mg base CX0 "_law_draw" 1 2 spDrawN) : FnOk P w K mg base CX0 2 f fd ["_law_feed_here", "_law_things"] spOne := by
  refine F.ok sc__law_one (fun vs H Q E h => ?_) (fun cdv A outer s H vs Q E hr h => ?_)
  · obtain ⟨p, a, xs, n, rfl, _⟩ := h
    rfl
  · obtain ⟨p, a, xs, n, rfl, hpa, ha, h0, h1, hF, hn, q⟩ := h
    refine ⟨_, (pss_one (ps_ret (pe_ix ix_list (pv 1) (pe_dn D (hr.mono (by decide)) pass0 (pa_cons (pv 0) (pa_cons (pe_callB call_len_seq (by rfl) B.len PySem.boot_len (pa_cons (pv 1) pa_nil)) pa_nil))) (fun _ _ => rfl)))), ?_⟩
    refine ⟨_, rfl, _, rfl, _, rfl, a, xs, rfl, .inl (SqL.of ha), p, _, n, rfl, by omega, by omega, hF, hn, fun r H' r0 r1 k nn hF' => ?_⟩
    obtain ⟨j, rfl⟩ := Int.eq_ofNat_of_zero_le r0
    have hj : j < xs.length := by omega
    exact ⟨a, xs, _, _, rfl, rfl, SqL.of (k _ _ hpa.symm ha), atI_nat (List.getElem?_eq_getElem hj), q _ H' (List.getElem_mem hj) k nn hF'⟩
def spCalls : Sp := fun vs H Q _ => ∃ (p : Addr) (many least : Nat) (n : Int), vs = [.ref p, .int many, .int least] ∧ many ≤ 6 ∧ FeedOk H p n ∧ n ≤ 9000 ∧
  ∀ H' l (cs : List Call9) us, Fk p H H' → H l = none → l ≠ p → FeedOk H' p (n + 7) → H' l = some (.lst us) → At IsCall H' cs us → cs.length ≤ 2 → (∀ c ∈ cs, least ≤ c.2 ∧ c.2 ≤ many) → Q (.ref l) H'
theorem ok_calls (F : Fun K "_law_calls" "_law_calls" s__law_calls f fd) (B : Blt mg) (D : Dn P w K mg base CX0 "_law_draw" 1 2 spDrawN) (D1 : Dn P w K mg base CX0 "_law_one" 2 2 spOne) : FnOk P w K mg base CX0 3 f fd ["_law_feed_here", "_law_many", "_law_least"] spCalls := by
  refine F.ok sc__law_calls (fun vs H Q E h => ?_) (fun cdv A outer s H vs Q E hr h => ?_)
  · obtain ⟨p, many, least, n, rfl, _⟩ := h
    rfl
  · obtain ⟨p, many, least, n, rfl, hm, hF, hn, q⟩ := h
    refine ⟨_, (pss_cons (ps_set (i := 3) sc__law_calls.nd rfl (.inl rfl) (pe_lst pa_nil))
      (pss_cons (ps_for PassesOwn.never rfl (pi_range1 rfl B.range (pa_cons (pe_ifExp (pt_cmpR op_le (pv 2) (pv 1) (nomark _)) (pe_dn D (hr.mono (by decide)) pass0 (pa_cons (pv 0) (pa_cons pe_int pa_nil))) pe_int) pa_nil)) (pg_name (i := 4) sc__law_calls.nd rfl (.inl rfl)) (pss_cons (ps_set (i := 5) sc__law_calls.nd rfl (.inl rfl) (pe_cmpR op_eq (pe_dn D (hr.mono (by decide)) pass0 (pa_cons (pv 0) (pa_cons pe_int pa_nil))) pe_int (nomark _)))
      (pss_cons (ps_set (i := 6) sc__law_calls.nd rfl (.inl rfl) (pe_ifExp (pt_val (pv 5)) (pv 2) (pe_op op_add (pv 2) (pe_dn D (hr.mono (by decide)) pass0 (pa_cons (pv 0) (pa_cons (pe_op op_sub (pe_op op_add (pv 1) pe_int) (pv 2)) pa_nil))))))
      (pss_one (ps_expr (pe_bm PySem.F.plainAttrs_list PySem.F.slot_list_append PySem.F.type_list_append mt_append (pv 3) (pa_cons (pe_tup (pa_cons (pe_dn D1 (hr.mono (by decide)) pass0 (pa_cons (pv 0) (pa_cons (pe_lst (pa_cons pe_str (pa_cons pe_str (pa_cons pe_str (pa_cons pe_str (pa_cons pe_str pa_nil)))))) pa_nil))) (pa_cons (pv 6) pa_nil))) pa_nil)))))))
      (pss_one (ps_ret (pv 3))))), ?_⟩
    refine ⟨Nat.zero_le _, fun l hl => ?_⟩
    have hlp : l ≠ p := fun e => by
      obtain ⟨x, y, c, z, _⟩ := hF
      rw [← e, hl] at z
      cases z
    have e1 := same_new (o := .lst []) hl
    have g1 : upd H l (.lst []) l = some (.lst []) := upd_same
    generalize upd H l (.lst []) = H1 at e1 g1 ⊢
    have hF1 := hF.same e1
    have kF1 : Fk p H H1 := Fk.same e1
    refine ⟨_, rfl, _, rfl, _, _, rfl, rfl, _, rfl, ite2 (fun hle => ?_) (fun hle => ?_)⟩
    · have hle' : least ≤ many := by have := of_decide_eq_true hle; omega
      refine ⟨_, rfl, p, 3, n, rfl, by decide, by decide, hF1, by omega, fun r H2 r0 r1 k2 nn2 hF2 => ?_⟩
      obtain ⟨t, rfl⟩ := Int.eq_ofNat_of_zero_le r0
      have hlg := k2 _ _ hlp g1
      refine ⟨_, rfl, by omega, by omega, for_it (walk_range (lo := 0) (n := ((t : Int)).toNat)) (fun i σ H3 => ∃ u4 u5 u6 cs us, σ = [some (.ref p), some (.int many), some (.int least), some (.ref l), u4, u5, u6] ∧ Fk p H H3 ∧ FeedOk H3 p (n + 1 + 3 * i) ∧ H3 l = some (.lst us) ∧ At IsCall H3 cs us ∧ cs.length = i ∧ ∀ c ∈ cs, least ≤ c.2 ∧ c.2 ≤ many) ⟨_, _, _, [], [], rfl, kF1.trans k2, by simpa using hF2, hlg, At.nil, rfl, fun c h => by cases h⟩ (fun _ _ _ _ _ => trivial) (fun i x σ H3 H4 hi h3 hy => ?_) (fun σ H3 h3 => ?_)⟩
      · obtain ⟨u4, u5, u6, cs, us, rfl, k3, f3, l3, a3, len3, in3⟩ := h3
        obtain ⟨rfl, rfl⟩ := hy
        have hi2 : i < 2 := by omega
        refine ⟨_, rfl, p, 2, _, rfl, by decide, by decide, f3, by omega, fun r5 H5 r50 r51 k5 nn5 f5 => ⟨rfl, ?_⟩⟩
        refine ⟨_, rfl, _, rfl, ite2 (fun e5 => ?_) (fun e5 => ?_)⟩
        · refine ⟨_, rfl, ?_⟩
          have pl : p ≠ l := hlp.symm
          have lg := k5 _ _ hlp l3
          refine ⟨_, rfl, .inl ⟨rfl, _, SqL.of lg⟩, _, rfl, (by show 5 ≤ sizeLine; decide), fun w nw => ?_⟩
          have sw := same_new (o := .lst [V.str "direct", V.str "send", V.str "make", V.str "single", V.str "other"]) nw
          have gw : upd H5 w (.lst [V.str "direct", V.str "send", V.str "make", V.str "single", V.str "other"]) w = some (.lst [V.str "direct", V.str "send", V.str "make", V.str "single", V.str "other"]) := upd_same
          have fw := f5.same sw
          have pw : p ≠ w := fun e => by
            obtain ⟨x, y, c, z, _⟩ := f5
            rw [e, nw] at z
            cases z
          have lw : l ≠ w := ne_of_none lg nw
          have lgw := sw _ _ lg
          generalize upd H5 w (.lst [V.str "direct", V.str "send", V.str "make", V.str "single", V.str "other"]) = Hw at sw gw fw lgw ⊢
          refine ⟨p, w, _, _, rfl, pw, gw, by decide, by decide, fw, by omega, fun x H7 hx k7 nn7 f7 => ?_⟩
          obtain ⟨wy, hwy, rfl⟩ := List.mem_map.mp (show x ∈ ways9.map fun w => V.str w.s from hx)
          have lg7 := k7 _ _ hlp lgw
          refine ⟨_, rfl, (by show 2 ≤ sizeLine; decide), fun t nt => ?_⟩
          have st := same_new (o := .tup [V.str wy.s, V.int ((least : Nat) : Int)]) nt
          have gt : upd H7 t (.tup [V.str wy.s, V.int ((least : Nat) : Int)]) t = some (.tup [V.str wy.s, V.int ((least : Nat) : Int)]) := upd_same
          have ft := f7.same st
          have lgt := st _ _ lg7
          have k3t : Fk p H4 (upd H7 t (.tup [V.str wy.s, V.int ((least : Nat) : Int)])) := (k5.trans (Fk.same sw)).trans (k7.trans (Fk.same st))
          refine ⟨l, us, _, rfl, rfl, lgt, by rw [a3.1, len3]; exact Nat.lt_of_lt_of_le hi2 (by decide), ?_⟩
          have tl : t ≠ l := fun e => by rw [e, lg7] at nt; cases nt
          refine ⟨_, _, _, cs ++ [(wy, least)], us ++ [.ref t], rfl, ?_, ?_, upd_same, ?_, by rw [List.length_append, len3]; rfl, fun c hc => ?_⟩
          · exact fun q o hq e => (upd_ne (ne_of_none e hl)).trans (k3t q o hq (k3 q o hq e))
          · refine (ft.put pl).mono ?_
            rw [Int.natCast_succ]
            omega
          · have tuA : ∀ c u, IsCall H4 c u → IsCall (upd (upd H7 t (.tup [V.str wy.s, V.int ((least : Nat) : Int)])) l (.lst (us ++ [V.ref t]))) c u := fun c u ⟨b, e, hb⟩ => ⟨b, e, (upd_ne (fun z => by rw [z, l3] at hb; cases hb)).trans (k3t _ _ (fun z => by
              obtain ⟨x, y, c, zz, _⟩ := f3
              rw [z, zz] at hb
              cases hb) hb)⟩
            exact (a3.mono tuA).app (At.one ⟨t, rfl, (upd_ne tl).trans gt⟩)
          · rcases List.mem_append.mp hc with hc | hc
            · exact in3 c hc
            · rw [List.mem_singleton] at hc
              rw [hc]
              exact ⟨by show least ≤ least; omega, by show least ≤ many; omega⟩
        · refine ⟨_, rfl, _, rfl, _, rfl, _, _, rfl, rfl, _, rfl, _, _, rfl, rfl, p, _, _, rfl, by omega, by omega, f5, by omega, fun r6 H6 r60 r61 k6 nn6 f6 => ?_⟩
          obtain ⟨j, rfl⟩ := Int.eq_ofNat_of_zero_le r60
          have k56 := k5.trans k6
          refine ⟨_, _, rfl, rfl, ?_⟩
          have pl : p ≠ l := hlp.symm
          have lg := k56 _ _ hlp l3
          refine ⟨_, rfl, .inl ⟨rfl, _, SqL.of lg⟩, _, rfl, (by show 5 ≤ sizeLine; decide), fun w nw => ?_⟩
          have sw := same_new (o := .lst [V.str "direct", V.str "send", V.str "make", V.str "single", V.str "other"]) nw
          have gw : upd H6 w (.lst [V.str "direct", V.str "send", V.str "make", V.str "single", V.str "other"]) w = some (.lst [V.str "direct", V.str "send", V.str "make", V.str "single", V.str "other"]) := upd_same
          have fw := f6.same sw
          have pw : p ≠ w := fun e => by
            obtain ⟨x, y, c, z, _⟩ := f6
            rw [e, nw] at z
            cases z
          have lw : l ≠ w := ne_of_none lg nw
          have lgw := sw _ _ lg
          generalize upd H6 w (.lst [V.str "direct", V.str "send", V.str "make", V.str "single", V.str "other"]) = Hw at sw gw fw lgw ⊢
          refine ⟨p, w, _, _, rfl, pw, gw, by decide, by decide, fw, by omega, fun x H7 hx k7 nn7 f7 => ?_⟩
          obtain ⟨wy, hwy, rfl⟩ := List.mem_map.mp (show x ∈ ways9.map fun w => V.str w.s from hx)
          have lg7 := k7 _ _ hlp lgw
          refine ⟨_, rfl, (by show 2 ≤ sizeLine; decide), fun t nt => ?_⟩
          have st := same_new (o := .tup [V.str wy.s, V.int (((least + j) : Nat) : Int)]) nt
          have gt : upd H7 t (.tup [V.str wy.s, V.int (((least + j) : Nat) : Int)]) t = some (.tup [V.str wy.s, V.int (((least + j) : Nat) : Int)]) := upd_same
          have ft := f7.same st
          have lgt := st _ _ lg7
          have k3t : Fk p H4 (upd H7 t (.tup [V.str wy.s, V.int (((least + j) : Nat) : Int)])) := (k56.trans (Fk.same sw)).trans (k7.trans (Fk.same st))
          refine ⟨l, us, _, rfl, rfl, lgt, by rw [a3.1, len3]; exact Nat.lt_of_lt_of_le hi2 (by decide), ?_⟩
          have tl : t ≠ l := fun e => by rw [e, lg7] at nt; cases nt
          refine ⟨_, _, _, cs ++ [(wy, (least + j))], us ++ [.ref t], rfl, ?_, ?_, upd_same, ?_, by rw [List.length_append, len3]; rfl, fun c hc => ?_⟩
          · exact fun q o hq e => (upd_ne (ne_of_none e hl)).trans (k3t q o hq (k3 q o hq e))
          · refine (ft.put pl).mono ?_
            rw [Int.natCast_succ]
            omega
          · have tuA : ∀ c u, IsCall H4 c u → IsCall (upd (upd H7 t (.tup [V.str wy.s, V.int (((least + j) : Nat) : Int)])) l (.lst (us ++ [V.ref t]))) c u := fun c u ⟨b, e, hb⟩ => ⟨b, e, (upd_ne (fun z => by rw [z, l3] at hb; cases hb)).trans (k3t _ _ (fun z => by
              obtain ⟨x, y, c, zz, _⟩ := f3
              rw [z, zz] at hb
              cases hb) hb)⟩
            exact (a3.mono tuA).app (At.one ⟨t, rfl, (upd_ne tl).trans gt⟩)
          · rcases List.mem_append.mp hc with hc | hc
            · exact in3 c hc
            · rw [List.mem_singleton] at hc
              rw [hc]
              exact ⟨by show least ≤ (least + j); omega, by show (least + j) ≤ many; omega⟩
      · obtain ⟨u4, u5, u6, cs, us, rfl, k3, f3, l3, a3, len3, in3⟩ := h3
        rw [Int.toNat_natCast] at f3 len3
        exact ⟨_, rfl, q H3 l cs us k3 hl hlp (f3.mono (by omega)) l3 a3 (by omega) in3⟩
    · refine ⟨_, rfl, by decide, by decide, for_it (walk_range (lo := 0) (n := (0 : Int).toNat)) (fun i σ H3 => ∃ u4 u5 u6, σ = [some (.ref p), some (.int many), some (.int least), some (.ref l), u4, u5, u6] ∧ H3 = H1) ⟨_, _, _, rfl, rfl⟩ (fun _ _ _ _ _ => trivial) (fun i x σ H3 H4 hi _ _ => absurd hi (Nat.not_lt_zero _)) (fun σ H3 h3 => ?_)⟩
      obtain ⟨u4, u5, u6, rfl, rfl⟩ := h3
      exact ⟨_, rfl, q _ l [] [] kF1 hl hlp (hF1.mono (by omega)) g1 At.nil (by decide) (fun c h => by cases h)⟩
end
end K9
end
section
set_option Elab.async false
set_option linter.all false
set_option maxRecDepth 100000
set_option maxHeartbeats 4000000
namespace K9
open PySem PySem.Spec PyProof.Rows L2
theorem sc__law_c : FnScope ["_law_calls_here", "_law_many", "_law_here", "_law_c_here", "_law_way", "_law_number", "_law_one_here"] ["_law_calls_here", "_law_many", "_law_here"] (defScope s__law_c) := ⟨rfl, rfl, rfl, by decide +kernel, rfl, by decide +kernel, by decide +kernel⟩
def lab9 (k : Nat) : Str := ("s" : Str) ++ Str.ofString (toString (k : Int))
def one9 (many : Nat) (here : C9) : Call9 → C9
  | (.dir, k) => .dir k here
  | (.snd, k) => .snd here (lab9 k)
  | (.mak, k) => .mak (k - 1)
  | (.sgl, k) => .sgl (k - 1)
  | (.oth, k) => .sgl (many + k - 1)
/-- the c of a row of calls -/
def cOf (many : Nat) (here : C9) : List Call9 → C9
  | [] => .unit
  | c :: cs => .thn (one9 many here c) (cOf many here cs)
def spC (K : PySem.W.Frag) : Sp := fun vs H Q _ => ∃ (a : Addr) (us : List V) (cs : List Call9) (many : Nat) (here : C9) (hv : V), vs = [.ref a, .int many, hv] ∧ H a = some (.lst us) ∧ At IsCall H cs us ∧ IsC H here hv ∧ many ≤ 6 ∧ cs.length ≤ 100 ∧ (∀ c ∈ cs, 1 ≤ c.2 ∧ c.2 ≤ 6) ∧
  ∀ H' v, Same H H' → IsC H' (cOf many here cs) v → Q v H'
section
variable {P : Program} {w : World} {K : PySem.W.Frag} {mg : Str → Option Value} {base : Heap} {f : Addr} {fd : FuncData}
theorem ok_c (F : Fun K "_law_c" "_law_c" s__law_c f fd) (B : Blt mg) : FnOk P w K mg base CX0 1 f fd ["_law_calls_here", "_law_many", "_law_here"] (spC K) := by
  refine F.ok sc__law_c (fun vs H Q E h => ?_) (fun cdv A outer s H vs Q E hr h => ?_)
  · obtain ⟨a, us, cs, many, here, hv, rfl, _⟩ := h
    rfl
  · obtain ⟨a, us, cs, many, here, hv, rfl, ha, hA, hC, hm, hcl, hin, q⟩ := h
    refine ⟨_, (pss_cons (ps_set (i := 3) sc__law_c.nd rfl (.inl rfl) (pe_tup (pa_cons pe_str pa_nil)))
      (pss_cons (ps_for PassesOwn.never rfl (pi_list (pe_revL (pv 0))) (pg_tup rfl (pgs_cons (pg_name (i := 4) sc__law_c.nd rfl (.inl rfl)) (pgs_cons (pg_name (i := 5) sc__law_c.nd rfl (.inl rfl)) pgs_nil))) (pss_cons (ps_if (pt_cmpR op_eq (pv 4) pe_str (nomark _)) (pss_one (ps_set (i := 6) sc__law_c.nd rfl (.inl rfl) (pe_tup (pa_cons pe_str (pa_cons (pv 5) (pa_cons (pe_tup (pa_cons (pv 2) pa_nil)) pa_nil)))))) (pss_one (ps_if (pt_cmpR op_eq (pv 4) pe_str (nomark _)) (pss_one (ps_set (i := 6) sc__law_c.nd rfl (.inl rfl) (pe_tup (pa_cons pe_str (pa_cons (pv 2) (pa_cons (pe_op op_add_str pe_str (pe_callTy call_str_int (by rfl) B.str (by decide +kernel) (pa_cons (pv 5) pa_nil))) (pa_cons (pe_tup pa_nil) pa_nil))))))) (pss_one (ps_if (pt_cmpR op_eq (pv 4) pe_str (nomark _)) (pss_one (ps_set (i := 6) sc__law_c.nd rfl (.inl rfl) (pe_tup (pa_cons pe_str (pa_cons (pe_op op_sub (pv 5) pe_int) (pa_cons (pe_tup pa_nil) pa_nil)))))) (pss_one (ps_set (i := 6) sc__law_c.nd rfl (.inl rfl) (pe_tup (pa_cons pe_str (pa_cons (pe_ifExp (pt_cmpR op_eq (pv 4) pe_str (nomark _)) (pe_op op_sub (pv 5) pe_int) (pe_op op_sub (pe_op op_add (pv 1) (pv 5)) pe_int)) pa_nil))))))))))
      (pss_one (ps_set (i := 3) sc__law_c.nd rfl (.inl rfl) (pe_tup (pa_cons pe_str (pa_cons (pv 6) (pa_cons (pv 3) pa_nil))))))))
      (pss_one (ps_ret (pv 3))))), ?_⟩
    refine ⟨(by show 1 ≤ sizeLine; decide), fun t0 n0 => ?_⟩
    have e0 := same_new (o := .tup [V.str "unit"]) n0
    have g0 : upd H t0 (.tup [V.str "unit"]) t0 = some (.tup [V.str "unit"]) := upd_same
    generalize upd H t0 (.tup [V.str "unit"]) = H1 at e0 g0 ⊢
    refine ⟨_, rfl, a, us, rfl, SqL.of (e0 _ _ ha), fun l nl => ?_⟩
    have e1 := e0.trans (same_new (o := .lst us.reverse) nl)
    have g0' := same_new (o := .lst us.reverse) nl _ _ g0
    have gl : upd H1 l (.lst us.reverse) l = some (.lst us.reverse) := upd_same
    generalize upd H1 l (.lst us.reverse) = H2 at e1 g0' gl ⊢
    refine ⟨l, rfl, ⟨_, SqL.of gl⟩, for_it (walk_list (xs := us.reverse)) (fun i σ H3 => ∃ v u4 u5 u6, σ = [some (.ref a), some (.int many), some hv, some v, u4, u5, u6] ∧ Same H2 H3 ∧ IsC H3 (cOf many here (cs.drop (cs.length - i))) v) ⟨_, _, _, _, rfl, Same.refl _, ?_⟩ (fun i σ H3 _ h3 => let ⟨_, _, _, _, _, s3, _⟩ := h3; SqL.of (s3 _ _ gl)) (fun i x σ H3 H4 hi h3 hy => ?_) (fun σ H3 h3 => ?_)⟩
    · rw [Nat.sub_zero, List.drop_length]
      exact ⟨t0, rfl, g0'⟩
    · obtain ⟨v, u4, u5, u6, rfl, s3, hv3⟩ := h3
      obtain ⟨rfl, hx⟩ := hy
      rw [List.length_reverse, hA.1] at hi
      rw [List.getElem?_reverse (by rw [hA.1]; exact hi), hA.1] at hx
      obtain ⟨c, hc, ca, rfl, hca⟩ := hA.2 _ _ hx
      have s03 := e1.trans s3
      have hmem := hin c (List.mem_of_getElem? hc)
      have hstep : cOf many here (cs.drop (cs.length - (i + 1))) = .thn (one9 many here c) (cOf many here (cs.drop (cs.length - i))) := by
        have hlt : cs.length - (i + 1) < cs.length := by omega
        have e1 : cs.length - 1 - i = cs.length - (i + 1) := by omega
        rw [e1] at hc
        rw [List.drop_eq_getElem_cons hlt, (List.getElem?_eq_some_iff.mp hc).2, show cs.length - (i + 1) + 1 = cs.length - i by omega]
        rfl
      obtain ⟨wy, k⟩ := c
      have hk1 : 1 ≤ k := hmem.1
      have hk6 : k ≤ 6 := hmem.2
      refine ⟨ca, _, rfl, SqT.of (s03 _ _ hca), rfl, _, _, rfl, _, _, rfl, rfl, ?_⟩
      have fin : ∀ (y : V) H5, Same H4 H5 → IsC H5 (one9 many here (wy, k)) y → ∀ t6, H5 t6 = none → ∃ v' u4' u5' u6', ([some (.ref a), some (.int many), some hv, some (.ref t6), some (.str wy.s), some (.int k), some y] : L2.St) = [some (.ref a), some (.int many), some hv, some v', u4', u5', u6'] ∧ Same H2 (upd H5 t6 (.tup [.str "then", y, v])) ∧ IsC (upd H5 t6 (.tup [.str "then", y, v])) (cOf many here (cs.drop (cs.length - (i + 1)))) v' := fun y H5 s5 hy t6 n6 => by
        have st := same_new (o := .tup [.str "then", y, v]) n6
        refine ⟨_, _, _, _, rfl, (s3.trans s5).trans st, ?_⟩
        rw [hstep]
        exact ⟨t6, y, v, rfl, upd_same, hy.mono (Tu.same st), hv3.mono (Tu.same (s5.trans st))⟩
      have hC4 := hC.mono (Tu.same s03)
      cases wy with
      | dir =>
        refine ⟨_, rfl, rfl, _, rfl, iteT ⟨_, rfl, _, rfl, (by show 1 ≤ sizeLine; decide), fun t5 n5 => ?_⟩⟩
        have s5 := same_new (o := .tup [hv]) n5
        have g5 : upd H4 t5 (.tup [hv]) t5 = some (.tup [hv]) := upd_same
        generalize upd H4 t5 (.tup [hv]) = H5 at s5 g5 ⊢
        refine ⟨(by show 3 ≤ sizeLine; decide), fun t6 n6 => ?_⟩
        have s6 := same_new (o := .tup [V.str "direct", V.int (k : Int), V.ref t5]) n6
        have g6 : upd H5 t6 (.tup [V.str "direct", V.int (k : Int), V.ref t5]) t6 = some (.tup [V.str "direct", V.int (k : Int), V.ref t5]) := upd_same
        generalize upd H5 t6 (.tup [V.str "direct", V.int (k : Int), V.ref t5]) = H6 at s6 g6 ⊢
        refine ⟨_, rfl, _, rfl, (by show 3 ≤ sizeLine; decide), fun t9 n9 => ?_⟩
        exact fin (.ref t6) H6 (s5.trans s6) ⟨t6, t5, hv, rfl, g6, s6 _ _ g5, hC4.mono (Tu.same (s5.trans s6))⟩ t9 n9
      | snd =>
        refine ⟨_, rfl, rfl, _, rfl, iteF ⟨_, rfl, rfl, _, rfl, iteT ⟨_, rfl, _, rfl, _, rfl, ?_, _, _, rfl, rfl, ?_⟩⟩⟩
        · exact Nat.lt_of_le_of_lt (Nat.log2_le_self _) (by show ((k : Int)).natAbs < 1920; omega)
        refine ⟨?_, Nat.zero_le _, fun t5 n5 => ?_⟩
        · have h12 := PySem.kr_intLen (n := (k : Int)) (by omega) (by omega)
          exact Nat.le_trans (Nat.add_le_add_left h12 _) (show ("s" : Str).length + 12 ≤ sizeLine by decide)
        have s5 := same_new (o := .tup []) n5
        have g5 : upd H4 t5 (.tup []) t5 = some (.tup []) := upd_same
        generalize upd H4 t5 (.tup []) = H5 at s5 g5 ⊢
        refine ⟨(by show 4 ≤ sizeLine; decide), fun t6 n6 => ?_⟩
        have s6 := same_new (o := .tup [V.str "send", hv, V.str (("s" : Str) ++ Str.ofString (toString (k : Int))), V.ref t5]) n6
        have g6 : upd H5 t6 (.tup [V.str "send", hv, V.str (("s" : Str) ++ Str.ofString (toString (k : Int))), V.ref t5]) t6 = some (.tup [V.str "send", hv, V.str (("s" : Str) ++ Str.ofString (toString (k : Int))), V.ref t5]) := upd_same
        generalize upd H5 t6 (.tup [V.str "send", hv, V.str (("s" : Str) ++ Str.ofString (toString (k : Int))), V.ref t5]) = H6 at s6 g6 ⊢
        refine ⟨_, rfl, _, rfl, (by show 3 ≤ sizeLine; decide), fun t9 n9 => ?_⟩
        exact fin (.ref t6) H6 (s5.trans s6) ⟨t6, hv, t5, rfl, g6, s6 _ _ g5, hC4.mono (Tu.same (s5.trans s6))⟩ t9 n9
      | mak =>
        refine ⟨_, rfl, rfl, _, rfl, iteF ⟨_, rfl, rfl, _, rfl, iteF ⟨_, rfl, rfl, _, rfl, iteT ⟨_, rfl, _, _, rfl, rfl, Nat.zero_le _, fun t5 n5 => ?_⟩⟩⟩⟩
        have s5 := same_new (o := .tup []) n5
        have g5 : upd H4 t5 (.tup []) t5 = some (.tup []) := upd_same
        generalize upd H4 t5 (.tup []) = H5 at s5 g5 ⊢
        refine ⟨(by show 3 ≤ sizeLine; decide), fun t6 n6 => ?_⟩
        have ek : (k : Int) - 1 = ((k - 1 : Nat) : Int) := by omega
        have s6 := same_new (o := .tup [V.str "make", V.int ((k : Int) - 1), V.ref t5]) n6
        have g6 : upd H5 t6 (.tup [V.str "make", V.int ((k : Int) - 1), V.ref t5]) t6 = some (.tup [V.str "make", V.int ((k : Int) - 1), V.ref t5]) := upd_same
        generalize upd H5 t6 (.tup [V.str "make", V.int ((k : Int) - 1), V.ref t5]) = H6 at s6 g6 ⊢
        refine ⟨_, rfl, _, rfl, (by show 3 ≤ sizeLine; decide), fun t9 n9 => ?_⟩
        rw [ek] at g6
        exact fin (.ref t6) H6 (s5.trans s6) ⟨t6, t5, rfl, g6, s6 _ _ g5⟩ t9 n9
      | sgl =>
        refine ⟨_, rfl, rfl, _, rfl, iteF ⟨_, rfl, rfl, _, rfl, iteF ⟨_, rfl, rfl, _, rfl, iteF ⟨_, rfl, rfl, _, rfl, iteT ⟨_, rfl, _, _, rfl, rfl, ?_⟩⟩⟩⟩⟩
        refine ⟨(by show 2 ≤ sizeLine; decide), fun t6 n6 => ?_⟩
        have ek : (k : Int) - 1 = ((k - 1 : Nat) : Int) := by omega
        have s6 := same_new (o := .tup [V.str "single", V.int ((k : Int) - 1)]) n6
        have g6 : upd H4 t6 (.tup [V.str "single", V.int ((k : Int) - 1)]) t6 = some (.tup [V.str "single", V.int ((k : Int) - 1)]) := upd_same
        generalize upd H4 t6 (.tup [V.str "single", V.int ((k : Int) - 1)]) = H6 at s6 g6 ⊢
        refine ⟨_, rfl, _, rfl, (by show 3 ≤ sizeLine; decide), fun t9 n9 => ?_⟩
        rw [ek] at g6
        exact fin (.ref t6) H6 s6 ⟨t6, rfl, g6⟩ t9 n9
      | oth =>
        refine ⟨_, rfl, rfl, _, rfl, iteF ⟨_, rfl, rfl, _, rfl, iteF ⟨_, rfl, rfl, _, rfl, iteF ⟨_, rfl, rfl, _, rfl, iteF ⟨_, rfl, _, rfl, _, _, rfl, rfl, _, _, rfl, rfl, ?_⟩⟩⟩⟩⟩
        refine ⟨(by show 2 ≤ sizeLine; decide), fun t6 n6 => ?_⟩
        have ek : (many : Int) + (k : Int) - 1 = ((many + k - 1 : Nat) : Int) := by omega
        have s6 := same_new (o := .tup [V.str "single", V.int ((many : Int) + (k : Int) - 1)]) n6
        have g6 : upd H4 t6 (.tup [V.str "single", V.int ((many : Int) + (k : Int) - 1)]) t6 = some (.tup [V.str "single", V.int ((many : Int) + (k : Int) - 1)]) := upd_same
        generalize upd H4 t6 (.tup [V.str "single", V.int ((many : Int) + (k : Int) - 1)]) = H6 at s6 g6 ⊢
        refine ⟨_, rfl, _, rfl, (by show 3 ≤ sizeLine; decide), fun t9 n9 => ?_⟩
        rw [ek] at g6
        exact fin (.ref t6) H6 s6 ⟨t6, rfl, g6⟩ t9 n9
    · obtain ⟨v, u4, u5, u6, rfl, s3, hv3⟩ := h3
      rw [List.length_reverse, hA.1, Nat.sub_self, List.drop_zero] at hv3
      exact ⟨_, rfl, q H3 v (e1.trans s3) hv3⟩
end
end K9
end
section
set_option Elab.async false
set_option linter.all false
set_option maxRecDepth 100000
set_option maxHeartbeats 4000000
namespace K9
open PySem PySem.Spec PyProof.Rows L2
theorem sc__law_core : FnScope ["_law_calls_here", "_law_many", "_law_fresh_here", "_law_this", "_law_bodies", "_law_number", "_law_sends", "_law_tables"] ["_law_calls_here", "_law_many"] (defScope s__law_core) := ⟨rfl, rfl, rfl, by decide +kernel, rfl, by decide +kernel, by decide +kernel⟩
def sends9 (many : Nat) : List (Str × Nat) := (List.range many).map fun i => (lab9 (i + 1), i + 1)
def sgl9 (many : Nat) : List (Nat × Str) := (List.range many).map fun i => (many + (i + 1), "s")
def bodA (many : Nat) (css : List (List Call9)) (i : Nat) : Nat × C9 := (1, cOf many .loc (css.getD (i + 1) []))
def bodB (many : Nat) (i : Nat) : Nat × C9 := (0, .dir (i + 1) (.mak many))
def tabA (many : Nat) (i : Nat) : Tab9 := ⟨"T", false, sends9 many, i + 1⟩
def core9 (many : Nat) (css : List (List Call9)) : Core9 where
  tabs := (List.range many).map (tabA many) ++ [⟨"E", true, sends9 many, 2 * many + 1⟩]
  bods := [(0, cOf many (.mak many) (css.getD 0 []))] ++ (List.range many).map (bodA many css) ++ (List.range many).map (bodB many) ++ [(1, .unit)]
  sgls := sgl9 many ++ sgl9 many
  main := 0
def IsCalls (H : Hp) (cs : List Call9) (v : V) : Prop := ∃ b us, v = .ref b ∧ H b = some (.lst us) ∧ At IsCall H cs us
theorem IsCalls.same {H H' : Hp} (s : Same H H') {cs : List Call9} {v : V} (h : IsCalls H cs v) : IsCalls H' cs v := let ⟨b, us, e, h1, h2⟩ := h; ⟨b, us, e, s _ _ h1, h2.mono fun _ _ => IsCall.mono (Tu.same s)⟩
def spCoreL : Sp := fun vs H Q _ => ∃ (a : Addr) (lv : List V) (css : List (List Call9)) (many : Nat), vs = [.ref a, .int many] ∧ H a = some (.lst lv) ∧ At IsCalls H css lv ∧ css.length = many + 1 ∧ many ≤ 6 ∧ (∀ cs ∈ css, cs.length ≤ 100 ∧ ∀ c ∈ cs, 1 ≤ c.2 ∧ c.2 ≤ 6) ∧
  ∀ H' v, Same H H' → IsCore H' (core9 many css) v → Q v H'
theorem At.of_rel {α : Type} {R : Hp → α → V → Prop} {H : Hp} {n : Nat} {f : Nat → α} {acc : List V} (hl : acc.length = n) (h : ∀ i v, acc[i]? = some v → R H (f i) v) : At R H ((List.range n).map f) acc := by
  refine ⟨by rw [List.length_map, List.length_range, hl], fun i v e => ⟨f i, ?_, h i v e⟩⟩
  have hi : i < n := by rw [← hl]; exact (List.getElem?_eq_some_iff.mp e).1
  rw [List.getElem?_map, List.getElem?_range hi]
  rfl
section
variable {P : Program} {w : World} {K : PySem.W.Frag} {mg : Str → Option Value} {base : Heap} {f : Addr} {fd : FuncData}
theorem ok_core (F : Fun K "_law_core" "_law_core" s__law_core f fd) (B : Blt mg) (D : Dn P w K mg base CX0 "_law_c" 1 3 (spC K)) : FnOk P w K mg base CX0 2 f fd ["_law_calls_here", "_law_many"] spCoreL := by
  refine F.ok sc__law_core (fun vs H Q E h => ?_) (fun cdv A outer s H vs Q E hr h => ?_)
  · obtain ⟨a, lv, css, many, rfl, _⟩ := h
    rfl
  · obtain ⟨a, lv, css, many, rfl, ha, hA, hlen, hm, hin, q⟩ := h
    refine ⟨_, (pss_cons (ps_par (i := 2) (j := 3) rfl sc__law_core.nd rfl rfl (by decide) rfl rfl (pa_cons (pe_tup (pa_cons pe_str (pa_cons (pv 1) (pa_cons (pe_tup pa_nil) pa_nil)))) (pa_cons (pe_tup (pa_cons pe_str (pa_cons pe_int pa_nil))) pa_nil)) rfl)
      (pss_cons (ps_set (i := 4) sc__law_core.nd rfl (.inl rfl) (pe_lst (pa_cons (pe_tup (pa_cons pe_int (pa_cons pe_int (pa_cons (pe_dn D (hr.mono (by decide)) pass0 (pa_cons (pe_ix ix_list (pv 0) pe_int (fun _ _ => rfl)) (pa_cons (pv 1) (pa_cons (pv 2) pa_nil)))) pa_nil)))) pa_nil)))
      (pss_cons (ps_for PassesOwn.never rfl (pi_range2 rfl B.range (pa_cons pe_int (pa_cons (pe_op op_add (pv 1) pe_int) pa_nil))) (pg_name (i := 5) sc__law_core.nd rfl (.inl rfl)) (pss_one (ps_expr (pe_bm PySem.F.plainAttrs_list PySem.F.slot_list_append PySem.F.type_list_append mt_append (pv 4) (pa_cons (pe_tup (pa_cons pe_int (pa_cons pe_int (pa_cons (pe_dn D (hr.mono (by decide)) pass0 (pa_cons (pe_ix ix_list (pv 0) (pv 5) (fun _ _ => rfl)) (pa_cons (pv 1) (pa_cons (pv 3) pa_nil)))) pa_nil)))) pa_nil)))))
      (pss_cons (ps_for PassesOwn.never rfl (pi_range2 rfl B.range (pa_cons pe_int (pa_cons (pe_op op_add (pv 1) pe_int) pa_nil))) (pg_name (i := 5) sc__law_core.nd rfl (.inl rfl)) (pss_one (ps_expr (pe_bm PySem.F.plainAttrs_list PySem.F.slot_list_append PySem.F.type_list_append mt_append (pv 4) (pa_cons (pe_tup (pa_cons pe_int (pa_cons pe_int (pa_cons (pe_tup (pa_cons pe_str (pa_cons (pv 5) (pa_cons (pe_tup (pa_cons (pv 2) pa_nil)) pa_nil)))) pa_nil)))) pa_nil)))))
      (pss_cons (ps_expr (pe_bm PySem.F.plainAttrs_list PySem.F.slot_list_append PySem.F.type_list_append mt_append (pv 4) (pa_cons (pe_tup (pa_cons pe_int (pa_cons pe_int (pa_cons (pe_tup (pa_cons pe_str pa_nil)) pa_nil)))) pa_nil)))
      (pss_cons (ps_set (i := 6) sc__law_core.nd rfl (.inr rfl) (pe_callTy call_tuple_of (by rfl) B.tuple boot_tuple (pa_cons (pe_lc (own := [("_law_number", 5)]) (g := (gName 5)) (tt := tYes) rfl sc__law_core.nd (pi_range2 rfl B.range (pa_cons pe_int (pa_cons (pe_op op_add (pv 1) pe_int) pa_nil))) (blkOk_by (N := ["_law_calls_here", "_law_many", "_law_fresh_here", "_law_this", "_law_bodies", "_law_number", "_law_sends", "_law_tables"]) (sc := defScope s__law_core) (by decide +kernel)) (fun _ _ _ _ _ => (pg_name (i := 5) sc__law_core.nd rfl (.inl rfl))) (fun _ _ _ _ _ => pts_nil) (fun _ _ _ _ _ => (pe_tup (pa_cons (pe_op op_add_str pe_str (pe_callTy call_str_int (by rfl) B.str (by decide +kernel) (pa_cons (pv 5) pa_nil))) (pa_cons (pv 5) pa_nil))))) pa_nil)))
      (pss_cons (ps_set (i := 7) sc__law_core.nd rfl (.inl rfl) (pe_op op_cat (pe_lc (own := [("_law_number", 5)]) (g := (gName 5)) (tt := tYes) rfl sc__law_core.nd (pi_range2 rfl B.range (pa_cons pe_int (pa_cons (pe_op op_add (pv 1) pe_int) pa_nil))) (blkOk_by (N := ["_law_calls_here", "_law_many", "_law_fresh_here", "_law_this", "_law_bodies", "_law_number", "_law_sends", "_law_tables"]) (sc := defScope s__law_core) (by decide +kernel)) (fun _ _ _ _ _ => (pg_name (i := 5) sc__law_core.nd rfl (.inl rfl))) (fun _ _ _ _ _ => pts_nil) (fun _ _ _ _ _ => (pe_tup (pa_cons pe_str (pa_cons pe_non (pa_cons (pe_tup pa_nil) (pa_cons (pe_tup pa_nil) (pa_cons (pv 6) (pa_cons (pv 5) pa_nil))))))))) (pe_lst (pa_cons (pe_tup (pa_cons pe_str (pa_cons (pe_tup pa_nil) (pa_cons (pe_tup pa_nil) (pa_cons (pe_tup pa_nil) (pa_cons (pv 6) (pa_cons (pe_op op_add (pe_op op_mul pe_int (pv 1)) pe_int) pa_nil))))))) pa_nil))))
      (pss_one (ps_ret (pe_tup (pa_cons (pe_callTy call_tuple_of (by rfl) B.tuple boot_tuple (pa_cons (pv 7) pa_nil)) (pa_cons (pe_callTy call_tuple_of (by rfl) B.tuple boot_tuple (pa_cons (pv 4) pa_nil)) (pa_cons (pe_callTy call_tuple_of (by rfl) B.tuple boot_tuple (pa_cons (pe_op op_rep (pe_lc (own := [("_law_number", 5)]) (g := (gName 5)) (tt := tYes) rfl sc__law_core.nd (pi_range2 rfl B.range (pa_cons pe_int (pa_cons (pe_op op_add (pv 1) pe_int) pa_nil))) (blkOk_by (N := ["_law_calls_here", "_law_many", "_law_fresh_here", "_law_this", "_law_bodies", "_law_number", "_law_sends", "_law_tables"]) (sc := defScope s__law_core) (by decide +kernel)) (fun _ _ _ _ _ => (pg_name (i := 5) sc__law_core.nd rfl (.inl rfl))) (fun _ _ _ _ _ => pts_nil) (fun _ _ _ _ _ => (pe_tup (pa_cons (pe_op op_add (pv 1) (pv 5)) (pa_cons pe_str pa_nil))))) pe_int) pa_nil)) (pa_cons pe_int pa_nil)))))))))))))), ?_⟩
    have calls : ∀ {H'} (k : Nat), Same H H' → k ≤ many → ∃ v, lv[k]? = some v ∧ IsCalls H' (css.getD k []) v ∧ (css.getD k []).length ≤ 100 ∧ ∀ c ∈ css.getD k [], 1 ≤ c.2 ∧ c.2 ≤ 6 := fun {H'} k s hk => by
      have hk' : k < css.length := by omega
      obtain ⟨v, h1, h2⟩ := hA.get (List.getElem?_eq_getElem hk')
      have e : css.getD k [] = css[k] := by rw [List.getD_eq_getElem?_getD, List.getElem?_eq_getElem hk']; rfl
      rw [e]
      have h3 := hin _ (List.getElem_mem hk')
      exact ⟨v, h1, h2.same s, h3.1, h3.2⟩
    refine ⟨_, rfl, Nat.zero_le _, fun t1 n1 => ?_⟩
    have f1 := same_new (o := .tup []) n1
    have g1 : upd H t1 (.tup []) t1 = some (.tup []) := upd_same
    generalize upd H t1 (.tup []) = H1 at f1 g1 ⊢
    refine ⟨(by show 3 ≤ sizeLine; decide), fun t2 n2 => ?_⟩
    have f2 := f1.trans (same_new (o := .tup [V.str "make", V.int (many : Int), V.ref t1]) n2)
    have g12 := same_new (o := .tup [V.str "make", V.int (many : Int), V.ref t1]) n2 _ _ g1
    have g2 : upd H1 t2 (.tup [V.str "make", V.int (many : Int), V.ref t1]) t2 = some (.tup [V.str "make", V.int (many : Int), V.ref t1]) := upd_same
    generalize upd H1 t2 (.tup [V.str "make", V.int (many : Int), V.ref t1]) = H2 at f2 g12 g2 ⊢
    have hfresh : IsC H2 (.mak many) (.ref t2) := ⟨t2, t1, rfl, g2, g12⟩
    refine ⟨(by show 2 ≤ sizeLine; decide), fun t3 n3 => ?_⟩
    have f3' := same_new (o := .tup [V.str "local", V.int 0]) n3
    have g3 : upd H2 t3 (.tup [V.str "local", V.int 0]) t3 = some (.tup [V.str "local", V.int 0]) := upd_same
    generalize upd H2 t3 (.tup [V.str "local", V.int 0]) = H3 at f3' g3 ⊢
    have hloc : IsC H3 .loc (.ref t3) := ⟨t3, rfl, g3⟩
    have hfr4 := hfresh.mono (Tu.same f3')
    have hlc4 := hloc
    have f4 : Same H H3 := f2.trans f3'
    refine ⟨_, _, rfl, ?_⟩
    obtain ⟨v0, hv0, ⟨b0, us0, rfl, hb0, hA0⟩, hl0, hi0⟩ := calls 0 f4 (Nat.zero_le _)
    refine ⟨_, rfl, a, _, _, _, rfl, rfl, SqL.of (f4 _ _ ha), atI_nat (j := 0) hv0, _, rfl, _, rfl, b0, us0, _, many, .mak many, .ref t2, rfl, hb0, hA0, hfr4, hm, hl0, hi0, fun H5 c5 s5 hc5 => ?_⟩
    refine ⟨(by show 3 ≤ sizeLine; decide), fun t6 n6 => ⟨(by show 1 ≤ sizeLine; decide), fun lb nb => ?_⟩⟩
    have s6 := same_new (o := .tup [V.int 0, V.int 0, c5]) n6
    have g6 : upd H5 t6 (.tup [V.int 0, V.int 0, c5]) t6 = some (.tup [V.int 0, V.int 0, c5]) := upd_same
    generalize upd H5 t6 (.tup [V.int 0, V.int 0, c5]) = H6 at s6 g6 nb ⊢
    have s7 := same_new (o := .lst [V.ref t6]) nb
    have gb : upd H6 lb (.lst [V.ref t6]) lb = some (.lst [V.ref t6]) := upd_same
    generalize upd H6 lb (.lst [V.ref t6]) = H7 at s7 gb ⊢
    have f7 : Same H H7 := f4.trans ((s5.trans s6).trans s7)
    have f47 : Same H3 H7 := (s5.trans s6).trans s7
    have nbH : H3 lb = none := by
      cases e : H3 lb with
      | none => rfl
      | some o => rw [s6 _ _ (s5 _ _ e)] at nb; cases nb
    have hb0' : IsBod H7 (0, cOf many (.mak many) (css.getD 0 [])) (.ref t6) := ⟨t6, c5, rfl, s7 _ _ g6, hc5.mono (Tu.same (s6.trans s7))⟩
    have rng : ((many : Int) + 1 - 1).toNat = many := by omega
    have bset : ∀ {G : Hp} {xs : List (Nat × C9)} {vs : List V} {x : Nat × C9} {v : V} {ws : List V}, Same H3 G → G lb = some (.lst ws) → At IsBod G xs vs → IsBod G x v → Same H3 (upd G lb (.lst (vs ++ [v]))) ∧ upd G lb (.lst (vs ++ [v])) lb = some (.lst (vs ++ [v])) ∧ At IsBod (upd G lb (.lst (vs ++ [v]))) (xs ++ [x]) (vs ++ [v]) := fun {G xs vs x v ws} s h a b =>
      ⟨fro nbH s, upd_same, (a.app (At.one b)).mono fun _ _ => IsBod.mono (Tu.at h)⟩
    refine ⟨_, rfl, _, _, rfl, rfl, 1, _, rfl, ⟨by decide, by decide, by omega, by omega⟩, for_it (walk_range (lo := 1) (n := ((many : Int) + 1 - 1).toNat)) (fun i σ H' => ∃ u5, σ = [some (.ref a), some (.int many), some (.ref t2), some (.ref t3), some (.ref lb), u5, none, none] ∧ Same H3 H' ∧ ∃ vs, H' lb = some (.lst vs) ∧ At IsBod H' ([(0, cOf many (.mak many) (css.getD 0 []))] ++ (List.range i).map (bodA many css)) vs) ⟨_, rfl, f47, _, gb, At.one hb0'⟩ (fun _ _ _ _ _ => trivial) (fun i x σ G1 G2 hi h3 hy => ?_) (fun σ G1 h3 => ?_)⟩
    · obtain ⟨u5, rfl, s3, vs, hvs, hAt⟩ := h3
      obtain ⟨rfl, rfl⟩ := hy
      rw [rng] at hi
      have sH := f4.trans s3
      have hl1 : vs.length ≤ 100 := by rw [hAt.1, List.length_append, List.length_map, List.length_range]; show 1 + i ≤ 100; omega
      obtain ⟨v1, hv1, ⟨b1, us1, rfl, hb1, hA1⟩, hl1', hi1⟩ := calls (i + 1) sH (by omega)
      have ei : (1 : Int) + (i : Int) = ((i + 1 : Nat) : Int) := by omega
      refine ⟨_, rfl, .inl ⟨rfl, _, SqL.of hvs⟩, _, rfl, _, rfl, a, _, _, _, rfl, rfl, SqL.of (sH _ _ ha), (by rw [ei]; exact atI_nat hv1), _, rfl, _, rfl, b1, us1, _, many, .loc, .ref t3, rfl, hb1, hA1, hlc4.mono (Tu.same s3), hm, hl1', hi1, fun G3 c3 q3 hc3 => ?_⟩
      refine ⟨(by show 3 ≤ sizeLine; decide), fun t6 n6' => ?_⟩
      have s6' := same_new (o := .tup [V.int 1, V.int 0, c3]) n6'
      have g6' : upd G3 t6 (.tup [V.int 1, V.int 0, c3]) t6 = some (.tup [V.int 1, V.int 0, c3]) := upd_same
      generalize upd G3 t6 (.tup [V.int 1, V.int 0, c3]) = G4 at s6' g6' ⊢
      have q4 := q3.trans s6'
      obtain ⟨r1, r2, r3⟩ := bset (x := bodA many css i) (v := .ref t6) (s3.trans q4) (q4 _ _ hvs) (hAt.mono fun _ _ => IsBod.mono (Tu.same q4)) ⟨t6, c3, rfl, g6', hc3.mono (Tu.same s6')⟩
      refine ⟨lb, vs, _, rfl, rfl, q4 _ _ hvs, Nat.lt_of_le_of_lt hl1 (by decide), ?_⟩
      refine ⟨_, rfl, r1, _, r2, ?_⟩
      rw [range_succ_map, ← List.append_assoc]
      exact r3
    obtain ⟨u5, rfl, s3, vs, hvs, hAt⟩ := h3
    rw [rng] at hAt
    refine ⟨_, rfl, _, _, rfl, rfl, 1, _, rfl, ⟨by decide, by decide, by omega, by omega⟩, for_it (walk_range (lo := 1) (n := ((many : Int) + 1 - 1).toNat)) (fun i σ H' => ∃ u5, σ = [some (.ref a), some (.int many), some (.ref t2), some (.ref t3), some (.ref lb), u5, none, none] ∧ Same H3 H' ∧ ∃ vs, H' lb = some (.lst vs) ∧ At IsBod H' (([(0, cOf many (.mak many) (css.getD 0 []))] ++ (List.range many).map (bodA many css)) ++ (List.range i).map (bodB many)) vs) ⟨_, rfl, s3, _, hvs, by simpa using hAt⟩ (fun _ _ _ _ _ => trivial) (fun i x σ G2 G3 hi h3 hy => ?_) (fun σ G2 h3 => ?_)⟩
    · obtain ⟨u5, rfl, s3, vs, hvs, hAt⟩ := h3
      obtain ⟨rfl, rfl⟩ := hy
      rw [rng] at hi
      have sH := f4.trans s3
      have hl1 : vs.length ≤ 100 := by
        rw [hAt.1, List.length_append, List.length_append, List.length_map, List.length_range, List.length_map, List.length_range]
        show 1 + many + i ≤ 100
        omega
      have ei : (1 : Int) + (i : Int) = ((i + 1 : Nat) : Int) := by omega
      refine ⟨_, rfl, .inl ⟨rfl, _, SqL.of hvs⟩, _, rfl, _, rfl, (by show 1 ≤ sizeLine; decide), fun t5 n5 => ?_⟩
      have s5' := same_new (o := .tup [V.ref t2]) n5
      have g5' : upd G3 t5 (.tup [V.ref t2]) t5 = some (.tup [V.ref t2]) := upd_same
      generalize upd G3 t5 (.tup [V.ref t2]) = G4 at s5' g5' ⊢
      refine ⟨(by show 3 ≤ sizeLine; decide), fun t6 n6' => ?_⟩
      have s6' := same_new (o := .tup [V.str "direct", V.int (1 + (i : Int)), V.ref t5]) n6'
      have g6' : upd G4 t6 (.tup [V.str "direct", V.int (1 + (i : Int)), V.ref t5]) t6 = some (.tup [V.str "direct", V.int (1 + (i : Int)), V.ref t5]) := upd_same
      generalize upd G4 t6 (.tup [V.str "direct", V.int (1 + (i : Int)), V.ref t5]) = G5 at s6' g6' ⊢
      refine ⟨(by show 3 ≤ sizeLine; decide), fun t8 n8 => ?_⟩
      have s8' := same_new (o := .tup [V.int 0, V.int 0, V.ref t6]) n8
      have g8' : upd G5 t8 (.tup [V.int 0, V.int 0, V.ref t6]) t8 = some (.tup [V.int 0, V.int 0, V.ref t6]) := upd_same
      generalize upd G5 t8 (.tup [V.int 0, V.int 0, V.ref t6]) = G6 at s8' g8' ⊢
      have q6 := (s5'.trans s6').trans s8'
      rw [ei] at g6'
      obtain ⟨r1, r2, r3⟩ := bset (x := bodB many i) (v := .ref t8) (s3.trans q6) (q6 _ _ hvs) (hAt.mono fun _ _ => IsBod.mono (Tu.same q6)) ⟨t8, .ref t6, rfl, g8', t6, t5, .ref t2, rfl, s8' _ _ g6', s8' _ _ (s6' _ _ g5'), hfr4.mono (Tu.same (s3.trans q6))⟩
      refine ⟨lb, vs, _, rfl, rfl, q6 _ _ hvs, Nat.lt_of_le_of_lt hl1 (by decide), ?_⟩
      refine ⟨_, rfl, r1, _, r2, ?_⟩
      rw [range_succ_map, ← List.append_assoc]
      exact r3
    obtain ⟨u5', rfl, s3', vs2, hvs2, hAt2⟩ := h3
    rw [rng] at hAt2
    have hl2 : vs2.length ≤ 100 := by
      rw [hAt2.1, List.length_append, List.length_append, List.length_map, List.length_range, List.length_map, List.length_range]
      show 1 + many + many ≤ 100
      omega
    -- the last body
    refine ⟨_, rfl, .inl ⟨rfl, _, SqL.of hvs2⟩, (by show 1 ≤ sizeLine; decide), fun t9 n9 => ?_⟩
    have s9 := same_new (o := .tup [V.str "unit"]) n9
    have g9 : upd G2 t9 (.tup [V.str "unit"]) t9 = some (.tup [V.str "unit"]) := upd_same
    generalize upd G2 t9 (.tup [V.str "unit"]) = G7 at s9 g9 ⊢
    refine ⟨(by show 3 ≤ sizeLine; decide), fun ta na => ?_⟩
    have sa := same_new (o := .tup [V.int 1, V.int 0, V.ref t9]) na
    have ga : upd G7 ta (.tup [V.int 1, V.int 0, V.ref t9]) ta = some (.tup [V.int 1, V.int 0, V.ref t9]) := upd_same
    generalize upd G7 ta (.tup [V.int 1, V.int 0, V.ref t9]) = G8 at sa ga ⊢
    have q8 := s9.trans sa
    obtain ⟨r1, r2, r3⟩ := bset (x := (1, C9.unit)) (v := .ref ta) (s3'.trans q8) (q8 _ _ hvs2) (hAt2.mono fun _ _ => IsBod.mono (Tu.same q8)) ⟨ta, .ref t9, rfl, ga, t9, rfl, sa _ _ g9⟩
    refine ⟨lb, vs2, _, rfl, rfl, q8 _ _ hvs2, Nat.lt_of_le_of_lt hl2 (by decide), ?_⟩
    have lbb : (vs2 ++ [V.ref ta]).length ≤ 101 := by rw [List.length_append, List.length_singleton]; omega
    generalize vs2 ++ [V.ref ta] = vs3 at r1 r2 r3 lbb ⊢
    generalize upd G8 lb (.lst vs3) = G9 at r1 r2 r3 ⊢
    -- the sends
    have rel : ∀ {α : Type} {R : Hp → α → V → Prop} {fx : Nat → α}, True := trivial
    refine ⟨_, rfl, _, _, rfl, rfl, 1, _, rfl, ⟨by decide, by decide, by omega, by omega⟩, fun ls nls => lc_rel (walk_range (lo := 1) (n := ((many : Int) + 1 - 1).toNat)) (fun i H' v => IsRow H' (lab9 (i + 1), i + 1) v) (fun i H1 H2 v t h => h.mono t) (by rw [rng]; exact Nat.le_trans hm (by decide)) nls (fun _ _ => trivial) (fun i H x H' _ y => by obtain ⟨rfl, _⟩ := y; exact Same.refl _) (fun i x G1' G2' Kt hi q1 q2 y kk => ?_) (fun Ga acc qa hacc hlen' hr' => ?_)⟩
    · obtain ⟨rfl, rfl⟩ := y
      rw [rng] at hi
      have ei : (1 : Int) + (i : Int) = ((i + 1 : Nat) : Int) := by omega
      refine ⟨rfl, _, rfl, _, rfl, ?_, _, _, rfl, rfl, ?_, _, rfl, (by show 2 ≤ sizeLine; decide), fun tt nt => kk _ _ (same_new nt) ⟨tt, rfl, ?_⟩⟩
      · exact Nat.lt_of_le_of_lt (Nat.log2_le_self _) (by show (1 + (i : Int)).natAbs < 1920; omega)
      · have h12 := PySem.kr_intLen (n := (1 : Int) + (i : Int)) (by omega) (by omega)
        exact Nat.le_trans (Nat.add_le_add_left h12 _) (show ("s" : Str).length + 12 ≤ sizeLine by decide)
      · rw [upd_same]
        show some (HO.tup [V.str (("s" : Str) ++ Str.ofString (toString ((1 : Int) + (i : Int)))), V.int ((1 : Int) + (i : Int))]) = some (HO.tup [V.str (("s" : Str) ++ Str.ofString (toString (((i + 1 : Nat)) : Int))), V.int (((i + 1 : Nat)) : Int)])
        rw [ei]
    rw [rng] at hlen'
    refine ⟨ls, acc, rfl, .inl ⟨SqL.of hacc, fun ts nts => ?_⟩⟩
    have hS : At IsRow Ga (sends9 many) acc := At.of_rel hlen' hr'
    have sts := same_new (o := .tup acc) nts
    have gts : upd Ga ts (.tup acc) ts = some (.tup acc) := upd_same
    generalize upd Ga ts (.tup acc) = Gb at sts gts ⊢
    have qab := qa.trans sts
    have hSb := hS.mono fun _ _ => IsRow.mono (Tu.same sts)
    -- the tables
    refine ⟨_, rfl, _, _, rfl, rfl, 1, _, rfl, ⟨by decide, by decide, by omega, by omega⟩, fun lt nlt => lc_rel (walk_range (lo := 1) (n := ((many : Int) + 1 - 1).toNat)) (fun i H' v => IsTab H' (tabA many i) v) (fun i H1 H2 v t h => h.mono t) (by rw [rng]; exact Nat.le_trans hm (by decide)) nlt (fun _ _ => trivial) (fun i H x H' _ y => by obtain ⟨rfl, _⟩ := y; exact Same.refl _) (fun i x G1' G2' Kt hi q1 q2 y kk => ?_) (fun Gc acc2 qc hacc2 hlen2 hr2 => ?_)⟩
    · obtain ⟨rfl, rfl⟩ := y
      rw [rng] at hi
      have ei : (1 : Int) + (i : Int) = ((i + 1 : Nat) : Int) := by omega
      refine ⟨rfl, Nat.zero_le _, fun u1 m1 => ⟨Nat.zero_le _, fun u2 m2 => ⟨_, rfl, _, rfl, (by show 6 ≤ sizeLine; decide), fun u3 m3 => ?_⟩⟩⟩
      have w1 := same_new (o := .tup []) m1
      have w2 := same_new (o := .tup []) m2
      have w3 := same_new (o := .tup [V.str "T", V.non, V.ref u1, V.ref u2, V.ref ts, V.int (1 + (i : Int))]) m3
      have q3 := (w1.trans w2).trans w3
      refine kk _ _ q3 ⟨u3, .non, u1, u2, ts, acc, rfl, ?_, .inl ⟨rfl, rfl⟩, w3 _ _ (w2 _ _ upd_same), w3 _ _ upd_same, q3 _ _ (q2 _ _ gts), hSb.mono fun _ _ => IsRow.mono (Tu.same (q2.trans q3))⟩
      rw [upd_same]
      show some (HO.tup [V.str "T", V.non, V.ref u1, V.ref u2, V.ref ts, V.int (1 + (i : Int))]) = some (HO.tup [V.str "T", V.non, V.ref u1, V.ref u2, V.ref ts, V.int (((i + 1 : Nat)) : Int)])
      rw [ei]
    rw [rng] at hlen2
    have hTA : At IsTab Gc ((List.range many).map (tabA many)) acc2 := At.of_rel hlen2 hr2
    refine ⟨Nat.zero_le _, fun u1 m1 => ⟨Nat.zero_le _, fun u2 m2 => ⟨Nat.zero_le _, fun u3 m3 => ⟨_, rfl, _, rfl, _, _, rfl, rfl, .inl ⟨by decide, by decide⟩, _, _, rfl, rfl, (by show 6 ≤ sizeLine; decide), fun u4 m4 => ⟨(by show 1 ≤ sizeLine; decide), fun u5 m5 => ?_⟩⟩⟩⟩⟩
    have w1 := same_new (o := .tup []) m1
    have w2 := w1.trans (same_new (o := .tup []) m2)
    have w3 := w2.trans (same_new (o := .tup []) m3)
    have z1 : upd (upd (upd Gc u1 (.tup [])) u2 (.tup [])) u3 (.tup []) u1 = some (.tup []) := (same_new m3) _ _ ((same_new m2) _ _ upd_same)
    have z2 : upd (upd (upd Gc u1 (.tup [])) u2 (.tup [])) u3 (.tup []) u2 = some (.tup []) := (same_new m3) _ _ upd_same
    have z3 : upd (upd (upd Gc u1 (.tup [])) u2 (.tup [])) u3 (.tup []) u3 = some (.tup []) := upd_same
    generalize upd (upd (upd Gc u1 (.tup [])) u2 (.tup [])) u3 (.tup []) = Gd at w3 z1 z2 z3 m4 m5 ⊢
    have w4 := same_new (o := .tup [V.str "E", V.ref u1, V.ref u2, V.ref u3, V.ref ts, V.int (2 * (many : Int) + 1)]) m4
    have y4 : upd Gd u4 (.tup [V.str "E", V.ref u1, V.ref u2, V.ref u3, V.ref ts, V.int (2 * (many : Int) + 1)]) u4 = some (.tup [V.str "E", V.ref u1, V.ref u2, V.ref u3, V.ref ts, V.int (2 * (many : Int) + 1)]) := upd_same
    generalize upd Gd u4 (.tup [V.str "E", V.ref u1, V.ref u2, V.ref u3, V.ref ts, V.int (2 * (many : Int) + 1)]) = Ge at w4 y4 m5 ⊢
    have w5 := same_new (o := .lst [V.ref u4]) m5
    have y5 : upd Ge u5 (.lst [V.ref u4]) u5 = some (.lst [V.ref u4]) := upd_same
    generalize upd Ge u5 (.lst [V.ref u4]) = Gf at w5 y5 ⊢
    have qcf := (w3.trans w4).trans w5
    have hE : IsTab Gf ⟨"E", true, sends9 many, 2 * many + 1⟩ (.ref u4) := ⟨u4, .ref u1, u2, u3, ts, acc, rfl, w5 _ _ y4, .inr ⟨rfl, u1, rfl, w5 _ _ (w4 _ _ z1)⟩, w5 _ _ (w4 _ _ z2), w5 _ _ (w4 _ _ z3), qcf _ _ (qc _ _ gts), hSb.mono fun _ _ => IsRow.mono (Tu.same (qc.trans qcf))⟩
    have hTT : At IsTab Gf ((List.range many).map (tabA many) ++ [⟨"E", true, sends9 many, 2 * many + 1⟩]) (acc2 ++ [.ref u4]) := (hTA.mono fun _ _ => IsTab.mono (Tu.same qcf)).app (At.one hE)
    refine ⟨lt, u5, acc2, [.ref u4], rfl, rfl, qcf _ _ hacc2, y5, by rw [hlen2]; exact Nat.le_trans (Nat.add_le_add_right hm _) (by show 7 ≤ sizeLine; decide), fun u6 m6 => ?_⟩
    have hl2 : (acc2 ++ [V.ref u4]).length ≤ 7 := by rw [List.length_append, hlen2, List.length_singleton]; omega
    generalize acc2 ++ [V.ref u4] = tv at hTT hl2 ⊢
    have w6 := same_new (o := .lst tv) m6
    have y6 : upd Gf u6 (.lst tv) u6 = some (.lst tv) := upd_same
    generalize upd Gf u6 (.lst tv) = Gg at w6 y6 ⊢
    refine ⟨_, rfl, u6, tv, rfl, .inl ⟨SqL.of y6, fun u7 m7 => ?_⟩⟩
    have w7 := same_new (o := .tup tv) m7
    have y7 : upd Gg u7 (.tup tv) u7 = some (.tup tv) := upd_same
    generalize upd Gg u7 (.tup tv) = Gh at w7 y7 ⊢
    have q9h : Same G9 Gh := (qab.trans qc).trans (qcf.trans (w6.trans w7))
    refine ⟨_, rfl, lb, vs3, rfl, .inl ⟨SqL.of (q9h _ _ r2), fun u8 m8 => ?_⟩⟩
    have w8 := same_new (o := .tup vs3) m8
    have y8 : upd Gh u8 (.tup vs3) u8 = some (.tup vs3) := upd_same
    generalize upd Gh u8 (.tup vs3) = Gi at w8 y8 ⊢
    refine ⟨_, rfl, _, _, rfl, rfl, 1, _, rfl, ⟨by decide, by decide, by omega, by omega⟩, fun lq nlq => lc_rel (walk_range (lo := 1) (n := ((many : Int) + 1 - 1).toNat)) (fun i H' v => IsSgl H' (many + (i + 1), "s") v) (fun i H1 H2 v t h => h.mono t) (by rw [rng]; exact Nat.le_trans hm (by decide)) nlq (fun _ _ => trivial) (fun i H x H' _ y => by obtain ⟨rfl, _⟩ := y; exact Same.refl _) (fun i x G1' G2' Kt hi q1 q2 y kk => ?_) (fun Gj acc3 qj hacc3 hlen3 hr3 => ?_)⟩
    · obtain ⟨rfl, rfl⟩ := y
      rw [rng] at hi
      have ei : (many : Int) + ((1 : Int) + (i : Int)) = ((many + (i + 1) : Nat) : Int) := by omega
      refine ⟨rfl, _, rfl, _, rfl, _, _, rfl, rfl, (by show 2 ≤ sizeLine; decide), fun tt nt => kk _ _ (same_new nt) ⟨tt, rfl, ?_⟩⟩
      rw [upd_same]
      show some (HO.tup [V.int ((many : Int) + ((1 : Int) + (i : Int))), V.str "s"]) = some (HO.tup [V.int (((many + (i + 1) : Nat)) : Int), V.str "s"])
      rw [ei]
    rw [rng] at hlen3
    have hSG : At IsSgl Gj (sgl9 many) acc3 := At.of_rel hlen3 hr3
    refine ⟨lq, 2, acc3, rfl, rfl, hacc3, by decide, by decide, by rw [hlen3]; exact Nat.le_trans (Nat.mul_le_mul_right _ hm) (by decide), fun u9 m9 => ?_⟩
    have e2 : (List.replicate (2 : Int).toNat acc3).flatten = acc3 ++ acc3 := by
      show acc3 ++ (acc3 ++ []) = _
      rw [List.append_nil]
    rw [e2]
    have w9 := same_new (o := .lst (acc3 ++ acc3)) m9
    have y9 : upd Gj u9 (.lst (acc3 ++ acc3)) u9 = some (.lst (acc3 ++ acc3)) := upd_same
    generalize upd Gj u9 (.lst (acc3 ++ acc3)) = Gk at w9 y9 ⊢
    refine ⟨u9, _, rfl, .inl ⟨SqL.of y9, fun v1 l1 => ?_⟩⟩
    have w10 := same_new (o := .tup (acc3 ++ acc3)) l1
    have y10 : upd Gk v1 (.tup (acc3 ++ acc3)) v1 = some (.tup (acc3 ++ acc3)) := upd_same
    generalize upd Gk v1 (.tup (acc3 ++ acc3)) = Gl at w10 y10 ⊢
    refine ⟨(by show 4 ≤ sizeLine; decide), fun v2 l2 => ?_⟩
    have w11 := same_new (o := .tup [V.ref u7, V.ref u8, V.ref v1, V.int 0]) l2
    have y11 : upd Gl v2 (.tup [V.ref u7, V.ref u8, V.ref v1, V.int 0]) v2 = some (.tup [V.ref u7, V.ref u8, V.ref v1, V.int 0]) := upd_same
    generalize upd Gl v2 (.tup [V.ref u7, V.ref u8, V.ref v1, V.int 0]) = Gm at w11 y11 ⊢
    have qim : Same Gi Gm := qj.trans ((w9.trans w10).trans w11)
    have qhm := w8.trans qim
    have q9m := q9h.trans qhm
    refine q Gm (.ref v2) ((f4.trans r1).trans q9m) ⟨v2, u7, u8, v1, tv, vs3, acc3 ++ acc3, rfl, y11, qhm _ _ y7, hTT.mono fun _ _ => IsTab.mono (Tu.same ((w6.trans w7).trans qhm)), qim _ _ y8, r3.mono fun _ _ => IsBod.mono (Tu.same q9m), w11 _ _ y10, ?_⟩
    have z := hSG.mono fun _ _ => IsSgl.mono (Tu.same ((w9.trans w10).trans w11))
    exact z.app z
end
end K9
end
section
set_option Elab.async false
set_option linter.all false
set_option maxRecDepth 100000
set_option maxHeartbeats 4000000
namespace K9
open PySem PySem.Spec PyProof.Rows L2
def IsEv (H : Hp) (e : Nat × Nat) (v : V) : Prop := ∃ a, v = .ref a ∧ H a = some (.tup [.int e.1, .int e.2])
theorem IsEv.mono {H H' : Hp} (s : Tu H H') {e : Nat × Nat} {v : V} (h : IsEv H e v) : IsEv H' e v := let ⟨a, e, h⟩ := h; ⟨a, e, s _ _ h⟩
/-- the law's run at r: steps, events, what is done -/
def RunAt (H : Hp) (r : Addr) (s : Nat) (ev : List (Nat × Nat)) (dn : List Call9) : Prop := ∃ le lev ld ldv, H r = some (.lst [.int s, .ref le, .ref ld]) ∧ le ≠ r ∧ ld ≠ r ∧ H le = some (.lst lev) ∧ At IsEv H ev lev ∧ H ld = some (.lst ldv) ∧ At IsCall H dn ldv
theorem Fk.tu {r : Addr} {H H' : Hp} {xs : List V} (k : Fk r H H') (h : H r = some (.lst xs)) : Tu H H' := fun p ys e => k p _ (fun z => by rw [z, h] at e; cases e) e
theorem sc__law_step : FnScope ["_law_run"] ["_law_run"] (defScope s__law_step) := ⟨rfl, rfl, rfl, by decide +kernel, rfl, by decide +kernel, by decide +kernel⟩
theorem sc__law_enter : FnScope ["_law_run", "_law_number"] ["_law_run", "_law_number"] (defScope s__law_enter) := ⟨rfl, rfl, rfl, by decide +kernel, rfl, by decide +kernel, by decide +kernel⟩
theorem sc__law_fresh : FnScope ["_law_run", "_law_many"] ["_law_run", "_law_many"] (defScope s__law_fresh) := ⟨rfl, rfl, rfl, by decide +kernel, rfl, by decide +kernel, by decide +kernel⟩
def spStep : Sp := fun vs H Q _ => ∃ r s ev dn, vs = [.ref r] ∧ RunAt H r s ev dn ∧ ∀ H', Fk r H H' → RunAt H' r (s + 1) ev dn → Q .non H'
def spEnter : Sp := fun vs H Q _ => ∃ (r : Addr) (s : Nat) (ev : List (Nat × Nat)) (dn : List Call9) (n : Nat), vs = [.ref r, .int n] ∧ RunAt H r s ev dn ∧ ev.length ≤ 100000 ∧ ∀ H', Fk r H H' → RunAt H' r s (ev ++ [(s, n)]) dn → Q .non H'
def spFresh : Sp := fun vs H Q _ => ∃ (r : Addr) (s : Nat) (ev : List (Nat × Nat)) (dn : List Call9) (many : Nat), vs = [.ref r, .int many] ∧ RunAt H r s ev dn ∧ ev.length ≤ 100000 ∧ ∀ H', Fk r H H' → RunAt H' r (s + 2) (ev ++ [(s + 1, 2 * many + 1)]) dn → Q .non H'
section
variable {P : Program} {w : World} {K : PySem.W.Frag} {mg : Str → Option Value} {base : Heap} {f : Addr} {fd : FuncData}
theorem ok_step (F : Fun K "_law_step" "_law_step" s__law_step f fd) : FnOk P w K mg base CX0 1 f fd ["_law_run"] spStep := by
  refine F.ok sc__law_step (fun vs H Q E h => ?_) (fun cdv A outer s H vs Q E hr h => ?_)
  · obtain ⟨r, s, ev, dn, rfl, _⟩ := h
    rfl
  · obtain ⟨r, s, ev, dn, rfl, ⟨le, lev, ld, ldv, h1, n1, n2, h2, a2, h3, a3⟩, q⟩ := h
    refine ⟨_, (pss_one (ps_asg (pe_op op_add (pe_ix ix_list (pv 0) pe_int (fun _ _ => rfl)) pe_int) (pg_sub (pv 0) pe_int set_list))), ?_⟩
    refine ⟨_, rfl, r, _, _, _, rfl, rfl, SqL.of h1, rfl, _, _, rfl, rfl, _, rfl, r, _, 0, 0, rfl, rfl, h1, rfl, ?_⟩
    have tu : ∀ {o}, Tu H (upd H r o) := Tu.at h1
    exact q _ Fk.put ⟨le, lev, ld, ldv, upd_same, n1, n2, (upd_ne n1).trans h2, a2.mono fun _ _ => IsEv.mono tu, (upd_ne n2).trans h3, a3.mono fun _ _ => IsCall.mono tu⟩
theorem ok_enter (F : Fun K "_law_enter" "_law_enter" s__law_enter f fd) : FnOk P w K mg base CX0 1 f fd ["_law_run", "_law_number"] spEnter := by
  refine F.ok sc__law_enter (fun vs H Q E h => ?_) (fun cdv A outer s H vs Q E hr h => ?_)
  · obtain ⟨r, s, ev, dn, n, rfl, _⟩ := h
    rfl
  · obtain ⟨r, s, ev, dn, n, rfl, ⟨le, lev, ld, ldv, h1, n1, n2, h2, a2, h3, a3⟩, hz, q⟩ := h
    refine ⟨_, (pss_one (ps_asg (pe_op op_cat (pe_ix ix_list (pv 0) pe_int (fun _ _ => rfl)) (pe_lst (pa_cons (pe_tup (pa_cons (pe_ix ix_list (pv 0) pe_int (fun _ _ => rfl)) (pa_cons (pv 1) pa_nil))) pa_nil))) (pg_sub (pv 0) pe_int set_list))), ?_⟩
    refine ⟨_, rfl, r, _, _, _, rfl, rfl, SqL.of h1, rfl, _, rfl, r, _, _, _, rfl, rfl, SqL.of h1, rfl, _, rfl, (by show 2 ≤ sizeLine; decide), fun t nt => ⟨(by show 1 ≤ sizeLine; decide), fun l nl => ?_⟩⟩
    have e1 := same_new (o := .tup [V.int (s : Int), V.int (n : Int)]) nt
    have g1 : upd H t (.tup [V.int (s : Int), V.int (n : Int)]) t = some (.tup [V.int (s : Int), V.int (n : Int)]) := upd_same
    generalize upd H t (.tup [V.int (s : Int), V.int (n : Int)]) = H1 at e1 g1 nl ⊢
    have e2 := same_new (o := .lst [V.ref t]) nl
    have g2 : upd H1 l (.lst [V.ref t]) l = some (.lst [V.ref t]) := upd_same
    generalize upd H1 l (.lst [V.ref t]) = H2 at e2 g2 ⊢
    have s2 := e1.trans e2
    refine ⟨le, l, lev, _, rfl, rfl, s2 _ _ h2, g2, by rw [a2.1]; exact Nat.le_trans (Nat.add_le_add_right hz 1) (by decide), fun l2 nl2 => ?_⟩
    have e3 := same_new (o := .lst (lev ++ [V.ref t])) nl2
    have g3 : upd H2 l2 (.lst (lev ++ [V.ref t])) l2 = some (.lst (lev ++ [V.ref t])) := upd_same
    generalize upd H2 l2 (.lst (lev ++ [V.ref t])) = H3 at e3 g3 ⊢
    have s3 := s2.trans e3
    have l2r : l2 ≠ r := fun e => by rw [e, s2 _ _ h1] at nl2; cases nl2
    refine ⟨_, rfl, r, _, 1, 1, rfl, rfl, s3 _ _ h1, rfl, ?_⟩
    have tu : ∀ {o}, Tu H3 (upd H3 r o) := Tu.at (s3 _ _ h1)
    refine q _ ((Fk.same s3).trans Fk.put) ⟨l2, lev ++ [.ref t], ld, ldv, upd_same, l2r, n2, (upd_ne l2r).trans g3, ?_, (upd_ne n2).trans (s3 _ _ h3), a3.mono fun _ _ => IsCall.mono ((Tu.same s3).trans tu)⟩
    exact ((a2.mono fun _ _ => IsEv.mono (Tu.same s3)).app (At.one (x := (s, n)) ⟨t, rfl, e3 _ _ (e2 _ _ g1)⟩)).mono fun _ _ => IsEv.mono tu
theorem ok_fresh (F : Fun K "_law_fresh" "_law_fresh" s__law_fresh f fd) (D1 : Dn P w K mg base CX0 "_law_step" 1 1 spStep) (D2 : Dn P w K mg base CX0 "_law_enter" 1 2 spEnter) : FnOk P w K mg base CX0 2 f fd ["_law_run", "_law_many"] spFresh := by
  refine F.ok sc__law_fresh (fun vs H Q E h => ?_) (fun cdv A outer s H vs Q E hr h => ?_)
  · obtain ⟨r, s, ev, dn, many, rfl, _⟩ := h
    rfl
  · obtain ⟨r, s, ev, dn, many, rfl, h, hz, q⟩ := h
    refine ⟨_, (pss_cons (ps_expr (pe_dn D1 (hr.mono (by decide)) pass0 (pa_cons (pv 0) pa_nil)))
      (pss_cons (ps_expr (pe_dn D2 (hr.mono (by decide)) pass0 (pa_cons (pv 0) (pa_cons (pe_op op_add (pe_op op_mul pe_int (pv 1)) pe_int) pa_nil))))
      (pss_one (ps_expr (pe_dn D1 (hr.mono (by decide)) pass0 (pa_cons (pv 0) pa_nil)))))), ?_⟩
    refine ⟨_, rfl, r, s, ev, dn, rfl, h, fun H1 k1 r1 => ?_⟩
    refine ⟨_, rfl, _, rfl, _, _, rfl, rfl, .inl ⟨by decide, by decide⟩, _, _, rfl, rfl, r, s + 1, ev, dn, 2 * many + 1, rfl, r1, hz, fun H2 k2 r2 => ?_⟩
    exact ⟨_, rfl, r, s + 1, _, dn, rfl, r2, fun H3 k3 r3 => q H3 ((k1.trans k2).trans k3) r3⟩
end
end K9
end
section
set_option Elab.async false
set_option linter.all false
set_option maxRecDepth 100000
set_option maxHeartbeats 4000000
namespace K9
open PySem PySem.Spec PyProof.Rows L2
/-! the machine without a bound: its begins, each with the number of steps behind it -/
inductive Tr (core : Core9) : Nat → St9 → List (Nat × Nat) → St9 → Prop where
  | nil {s} : Tr core 0 s [] s
  | c {n s ts k fr s' bs E s''} (h : s.tasks = ts ++ [.c k fr]) (hw : Wk core (.c k fr) { s with tasks := ts, steps := s.steps + 1 } s') (hs : s'.steps = s.steps + 1) (hb : s'.begun = s.begun ++ bs) (r : Tr core n s' E s'') : Tr core (n + 1) s (bs.map (fun b => (s.steps + 1, b)) ++ E) s''
  | e {n s ts t s' bs E s''} (h : s.tasks = ts ++ [t]) (ht : ∀ k fr, t ≠ .c k fr) (hw : Wk core t { s with tasks := ts } s') (hs : s'.steps = s.steps) (hb : s'.begun = s.begun ++ bs) (r : Tr core n s' E s'') : Tr core (n + 1) s (bs.map (fun b => (s.steps, b)) ++ E) s''
theorem Tr.trans {core : Core9} {n m : Nat} {s s' s'' : St9} {E F : List (Nat × Nat)} (h : Tr core n s E s') (k : Tr core m s' F s'') : Tr core (n + m) s (E ++ F) s'' := by
  induction h with
  | nil =>
    rw [Nat.zero_add]
    exact k
  | c h hw hs hb r ih =>
    rw [List.append_assoc, Nat.add_right_comm]
    exact .c h hw hs hb (ih k)
  | e h ht hw hs hb r ih =>
    rw [List.append_assoc, Nat.add_right_comm]
    exact .e h ht hw hs hb (ih k)
theorem Tr.up {core : Core9} {n : Nat} {s s' : St9} {E : List (Nat × Nat)} (h : Tr core n s E s') : s.steps ≤ s'.steps ∧ ∀ e ∈ E, s.steps ≤ e.1 := by
  induction h with
  | nil => exact ⟨Nat.le_refl _, fun e h => by cases h⟩
  | c h hw hs hb r ih =>
    refine ⟨by omega, fun e he => ?_⟩
    rcases List.mem_append.mp he with he | he
    · obtain ⟨b, _, rfl⟩ := List.mem_map.mp he
      exact Nat.le_succ _
    · have := ih.2 e he
      omega
  | e h ht hw hs hb r ih =>
    refine ⟨by omega, fun e he => ?_⟩
    rcases List.mem_append.mp he with he | he
    · obtain ⟨b, _, rfl⟩ := List.mem_map.mp he
      exact Nat.le_refl _
    · have := ih.2 e he
      omega
/-- the numbers begun within a bound -/
def within (bound : Nat) (E : List (Nat × Nat)) : List Nat := (E.filter fun e => decide (e.1 ≤ bound)).map (·.2)
theorem within_app (bound : Nat) (E F : List (Nat × Nat)) : within bound (E ++ F) = within bound E ++ within bound F := by
  unfold within
  rw [List.filter_append, List.map_append]
theorem within_all {bound a : Nat} (bs : List Nat) (h : a ≤ bound) : within bound (bs.map fun b => (a, b)) = bs := by
  unfold within
  rw [List.filter_eq_self.mpr]
  · rw [List.map_map]
    exact List.map_id _
  · intro e he
    obtain ⟨b, _, rfl⟩ := List.mem_map.mp he
    exact decide_eq_true h
theorem within_none {bound : Nat} {E : List (Nat × Nat)} (h : ∀ e ∈ E, bound < e.1) : within bound E = [] := by
  unfold within
  rw [List.filter_eq_nil_iff.mpr]
  · rfl
  · intro e he hd
    have := h e he
    have := of_decide_eq_true hd
    omega
theorem Wk.grow {core : Core9} {t : Tk9} {s s' : St9} (h : Wk core t s s') : s'.tasks.length ≤ s.tasks.length + 3 ∧ s'.worths.length ≤ s.worths.length + 1 ∧ s'.begun.length ≤ s.begun.length + 1 := by
  cases h <;> simp_all <;> omega
/-- the run within a bound -/
theorem runs_of {core : Core9} {n : Nat} {s s'' : St9} {E : List (Nat × Nat)} (h : Tr core n s E s'') (hend : s''.tasks = []) (bound : Nat) (hb : s.steps ≤ bound) (h1 : s.tasks.length + 3 * n ≤ 100000) (h2 : s.worths.length + n ≤ 100000) (h3 : s.begun.length + n ≤ 100000) :
    ∃ m sf, Runs core bound m s sf (decide (s''.steps ≤ bound)) ∧ sf.begun = s.begun ++ within bound E ∧ (s''.steps ≤ bound → sf = s'') := by
  induction h with
  | nil =>
    refine ⟨0, _, ?_, by simp [within], fun _ => rfl⟩
    rw [decide_eq_true hb]
    exact .done hend
  | @c n s ts k fr s' bs E s'' h hw hs hbg r ih =>
    by_cases c : s.steps = bound
    · have u := r.up
      have u1 := u.1
      refine ⟨0, { s with tasks := ts }, ?_, ?_, fun z => by omega⟩
      · rw [decide_eq_false (by omega)]
        exact .stop h c
      · show s.begun = _
        rw [within_none, List.append_nil]
        intro e he
        rcases List.mem_append.mp he with he | he
        · obtain ⟨b, _, rfl⟩ := List.mem_map.mp he
          show bound < s.steps + 1
          omega
        · have := u.2 e he
          omega
    · have g := hw.grow
      have hl : s.tasks.length = ts.length + 1 := by rw [h, List.length_append, List.length_singleton]
      have g1 : s'.tasks.length ≤ ts.length + 3 := g.1
      have g2 : s'.worths.length ≤ s.worths.length + 1 := g.2.1
      have g3 : s'.begun.length ≤ s.begun.length + 1 := g.2.2
      obtain ⟨m, sf, r1, r2, r3⟩ := ih hend (by omega) (by omega) (by omega) (by omega)
      refine ⟨m + 1, sf, .stepC h c ⟨by omega, by omega, by omega⟩ hw r1, ?_, r3⟩
      rw [r2, hbg, within_app, within_all _ (by omega), List.append_assoc]
  | @e n s ts t s' bs E s'' h ht hw hs hbg r ih =>
    have g := hw.grow
    have hl : s.tasks.length = ts.length + 1 := by rw [h, List.length_append, List.length_singleton]
    have g1 : s'.tasks.length ≤ ts.length + 3 := g.1
    have g2 : s'.worths.length ≤ s.worths.length + 1 := g.2.1
    have g3 : s'.begun.length ≤ s.begun.length + 1 := g.2.2
    obtain ⟨m, sf, r1, r2, r3⟩ := ih hend (by omega) (by omega) (by omega) (by omega)
    refine ⟨m + 1, sf, .stepE h ht ⟨by omega, by omega, by omega⟩ hw r1, ?_, r3⟩
    rw [r2, hbg, within_app, within_all _ hb, List.append_assoc]
/-! whole cs -/
/-- what changes over a c: the steps, the singles, the begun -/
structure Var9 where
  n : Nat
  on : List Kp9
  bg : List Nat
def at9 (T : List Tk9) (W : List Val9) (D : Int) (v : Var9) : St9 := ⟨T, W, v.on, v.n, D, v.bg⟩
/-- the c k in the frame fr goes from v to v', begins E on its way, and leaves x -/
def BS (core : Core9) (D : Int) (k : C9) (fr : List Val9) (v : Var9) (E : List (Nat × Nat)) (v' : Var9) (x : Val9) : Prop :=
  v.n ≤ v'.n ∧ ∀ T W, ∃ m, m ≤ 4 * (v'.n - v.n) ∧ Tr core m (at9 (T ++ [.c k fr]) W D v) E (at9 T (W ++ [x]) D v')
theorem tr1c {core : Core9} {T : List Tk9} {W : List Val9} {D : Int} {v : Var9} {k : C9} {fr : List Val9} {s' s'' : St9} {bs : List Nat} {m : Nat} {E : List (Nat × Nat)} (hw : Wk core (.c k fr) (at9 T W D { v with n := v.n + 1 }) s') (hs : s'.steps = v.n + 1) (hb : s'.begun = v.bg ++ bs) (r : Tr core m s' E s'') :
    Tr core (m + 1) (at9 (T ++ [.c k fr]) W D v) (bs.map (fun b => (v.n + 1, b)) ++ E) s'' := .c rfl hw hs hb r
theorem tr1e {core : Core9} {T : List Tk9} {W : List Val9} {D : Int} {v : Var9} {t : Tk9} {s' s'' : St9} {bs : List Nat} {m : Nat} {E : List (Nat × Nat)} (ht : ∀ k fr, t ≠ .c k fr) (hw : Wk core t (at9 T W D v) s') (hs : s'.steps = v.n) (hb : s'.begun = v.bg ++ bs) (r : Tr core m s' E s'') :
    Tr core (m + 1) (at9 (T ++ [t]) W D v) (bs.map (fun b => (v.n, b)) ++ E) s'' := .e rfl ht hw hs hb r
section
variable {core : Core9} {D : Int} {fr : List Val9} {v v' v1 v2 : Var9} {E E1 E2 : List (Nat × Nat)} {x y : Val9}
theorem BS.unit : BS core D .unit fr v [] { v with n := v.n + 1 } .unit := by
  refine ⟨Nat.le_succ _, fun T W => ⟨1, by show 1 ≤ 4 * (v.n + 1 - v.n); omega, ?_⟩⟩
  exact tr1c (bs := []) (E := []) .unit rfl (List.append_nil _).symm .nil
theorem BS.loc {r : List Val9} : BS core D .loc (x :: r) v [] { v with n := v.n + 1 } x := by
  refine ⟨Nat.le_succ _, fun T W => ⟨1, by show 1 ≤ 4 * (v.n + 1 - v.n); omega, ?_⟩⟩
  exact tr1c (bs := []) (E := []) .loc rfl (List.append_nil _).symm .nil
theorem BS.thn {a b : C9} (ha : BS core D a fr { v with n := v.n + 1 } E1 v1 x) (hb : BS core D b fr v1 E2 v2 y) : BS core D (.thn a b) fr v (E1 ++ E2) v2 y := by
  obtain ⟨l1, h1⟩ := ha
  obtain ⟨l2, h2⟩ := hb
  have l1' : v.n + 1 ≤ v1.n := l1
  refine ⟨by omega, fun T W => ?_⟩
  obtain ⟨m1, b1, t1⟩ := h1 (T ++ [.e (.thn a b) fr]) W
  obtain ⟨m2, b2, t2⟩ := h2 T W
  have b1' : m1 ≤ 4 * (v1.n - (v.n + 1)) := b1
  have e1 : Tr core (m2 + 1) (at9 (T ++ [.e (.thn a b) fr]) (W ++ [x]) D v1) E2 (at9 T (W ++ [y]) D v2) := tr1e (bs := []) (fun _ _ z => by cases z) (.eThn rfl) rfl (List.append_nil _).symm t2
  have e2 := t1.trans e1
  have e3 : at9 (T ++ [.e (.thn a b) fr] ++ [.c a fr]) W D { v with n := v.n + 1 } = { at9 T W D { v with n := v.n + 1 } with tasks := T ++ [.e (.thn a b) fr, .c a fr] } := by
    show (⟨_, _, _, _, _, _⟩ : St9) = ⟨_, _, _, _, _, _⟩
    rw [List.append_assoc]
    rfl
  rw [e3] at e2
  exact ⟨_, by omega, tr1c (bs := []) .thn rfl (List.append_nil _).symm e2⟩
/-- a body: begun in the depth D + 1, left behind -/
theorem tr_body {c : C9} {ws : List Val9} {T : List Tk9} {W : List Val9} (h : BS core (D + 1) c ws v E v' x) : ∃ m, m ≤ 4 * (v'.n - v.n) + 1 ∧ Tr core m (at9 (T ++ [.lev, .c c ws]) W (D + 1) v) E (at9 T (W ++ [x]) D v') := by
  obtain ⟨m, hm, t⟩ := h.2 (T ++ [.lev]) W
  have e1 : Tr core 1 (at9 (T ++ [.lev]) (W ++ [x]) (D + 1) v') [] (at9 T (W ++ [x]) D v') := by
    have k := tr1e (core := core) (T := T) (W := W ++ [x]) (D := D + 1) (v := v') (t := .lev) (bs := []) (E := []) (fun _ _ z => by cases z) .lev rfl (List.append_nil _).symm (.nil)
    have e : ({ at9 T (W ++ [x]) (D + 1) v' with depth := (at9 T (W ++ [x]) (D + 1) v').depth - 1 } : St9) = at9 T (W ++ [x]) D v' := by
      have hd : (at9 T (W ++ [x]) (D + 1) v').depth - 1 = D := by
        show D + 1 - 1 = D
        omega
      rw [hd]
      rfl
    rw [e] at k
    exact k
  have e2 := t.trans e1
  rw [List.append_nil, show T ++ [Tk9.lev] ++ [.c c ws] = T ++ [.lev, .c c ws] by rw [List.append_assoc]; rfl] at e2
  exact ⟨m + 1, by omega, e2⟩
theorem assoc2 {T : List Tk9} {a b : Tk9} : T ++ [a] ++ [b] = T ++ [a, b] := by
  rw [List.append_assoc]
  rfl
theorem BS.dir {a c : C9} {n : Nat} (ha : BS core D a fr { v with n := v.n + 1 } E1 v1 x) (hb : core.bods[n]? = some (1, c)) (hd : D ≠ 6000) (hbody : BS core (D + 1) c [x] { v1 with bg := v1.bg ++ [n] } E2 v2 y) : BS core D (.dir n a) fr v (E1 ++ (v1.n, n) :: E2) v2 y := by
  have l1 : v.n + 1 ≤ v1.n := ha.1
  have l2 : v1.n ≤ v2.n := hbody.1
  refine ⟨by omega, fun T W => ?_⟩
  obtain ⟨m1, b1, t1⟩ := ha.2 (T ++ [.e (.dir n a) fr]) W
  obtain ⟨m2, b2, t2⟩ := tr_body (T := T) (W := W) hbody
  have b1' : m1 ≤ 4 * (v1.n - (v.n + 1)) := b1
  have b2' : m2 ≤ 4 * (v2.n - v1.n) + 1 := b2
  have e1 := tr1e (core := core) (T := T) (W := W ++ [x]) (D := D) (v := v1) (t := .e (.dir n a) fr) (bs := [n]) (fun _ _ z => by cases z) (.eDir rfl hb hd) rfl rfl t2
  have e2 := t1.trans e1
  rw [assoc2] at e2
  exact ⟨_, by omega, tr1c (bs := []) .dir rfl (List.append_nil _).symm e2⟩
theorem BS.snd {a c : C9} {z : Str} {n t : Nat} {tb : Tab9} (ha : BS core D a fr { v with n := v.n + 1 } E1 v1 (.obj t)) (ht : core.tabs[t]? = some tb) (hz : valV (tb.rows.map rowK) (Sum.inr z : Key) = some (.int (n : Int))) (hb : core.bods[n]? = some (1, c)) (hd : D ≠ 6000)
    (hbody : BS core (D + 1) c [.obj t] { v1 with bg := v1.bg ++ [n] } E2 v2 y) : BS core D (.snd a z) fr v (E1 ++ (v1.n, n) :: E2) v2 y := by
  have l1 : v.n + 1 ≤ v1.n := ha.1
  have l2 : v1.n ≤ v2.n := hbody.1
  refine ⟨by omega, fun T W => ?_⟩
  obtain ⟨m1, b1, t1⟩ := ha.2 (T ++ [.e (.snd a z) fr]) W
  obtain ⟨m2, b2, t2⟩ := tr_body (T := T) (W := W) hbody
  have b1' : m1 ≤ 4 * (v1.n - (v.n + 1)) := b1
  have b2' : m2 ≤ 4 * (v2.n - v1.n) + 1 := b2
  have e1 := tr1e (core := core) (T := T) (W := W ++ [.obj t]) (D := D) (v := v1) (t := .e (.snd a z) fr) (bs := [n]) (fun _ _ z => by cases z) (.eSnd rfl ht hz hb hd) rfl rfl t2
  have e2 := t1.trans e1
  rw [assoc2] at e2
  exact ⟨_, by omega, tr1c (bs := []) .snd rfl (List.append_nil _).symm e2⟩
theorem BS.mak {c : C9} {t : Nat} {tb : Tab9} (ht : core.tabs[t]? = some tb) (hb : core.bods[tb.begin]? = some (1, c)) (hd : D ≠ 6000) (hbody : BS core (D + 1) c [.obj t] ⟨v.n + 1, v.on, v.bg ++ [tb.begin]⟩ E2 v2 y) : BS core D (.mak t) fr v ((v.n + 1, tb.begin) :: E2) v2 (.obj t) := by
  have l2 : v.n + 1 ≤ v2.n := hbody.1
  refine ⟨by omega, fun T W => ?_⟩
  obtain ⟨m2, b2, t2⟩ := tr_body (T := T ++ [.swp t]) (W := W) hbody
  have b2' : m2 ≤ 4 * (v2.n - (v.n + 1)) + 1 := b2
  have e0 := tr1e (core := core) (T := T) (W := W ++ [y]) (D := D) (v := v2) (t := .swp t) (bs := []) (E := []) (fun _ _ z => by cases z) (.swp rfl) rfl (List.append_nil _).symm .nil
  have e1 := tr1e (core := core) (T := T) (W := W) (D := D) (v := { v with n := v.n + 1 }) (t := .e (.mak t) fr) (bs := [tb.begin]) (fun _ _ z => by cases z) (.eMak ht hb hd) rfl rfl (t2.trans e0)
  have e2 := tr1c (core := core) (T := T) (W := W) (D := D) (v := v) (k := .mak t) (fr := fr) (bs := []) .mak rfl (List.append_nil _).symm e1
  rw [show E2 ++ (List.map (fun b => (v2.n, b)) ([] : List Nat) ++ []) = E2 from List.append_nil _] at e2
  exact ⟨m2 + (0 + 1) + 1 + 1, by omega, e2⟩
theorem BS.sglD {i : Nat} (h : v.on[i]? = some (.done x)) : BS core D (.sgl i) fr v [] { v with n := v.n + 1 } x := by
  refine ⟨Nat.le_succ _, fun T W => ⟨1, by show 1 ≤ 4 * (v.n + 1 - v.n); omega, ?_⟩⟩
  exact tr1c (bs := []) (E := []) (.sglD h) rfl (List.append_nil _).symm .nil
theorem BS.sglF {i n : Nat} {lb : Str} {c : C9} (h : v.on[i]? = some .fresh) (h1 : core.sgls[i]? = some (n, lb)) (hb : core.bods[n]? = some (0, c)) (hd : D ≠ 6000) (hbody : BS core (D + 1) c [] ⟨v.n + 1, v.on.set i .way, v.bg ++ [n]⟩ E2 v2 y) : BS core D (.sgl i) fr v ((v.n + 1, n) :: E2) { v2 with on := v2.on.set i (.done y) } y := by
  have l2 : v.n + 1 ≤ v2.n := hbody.1
  refine ⟨by show v.n ≤ v2.n; omega, fun T W => ?_⟩
  obtain ⟨m2, b2, t2⟩ := tr_body (T := T ++ [.kep i]) (W := W) hbody
  have b2' : m2 ≤ 4 * (v2.n - (v.n + 1)) + 1 := b2
  have e0 := tr1e (core := core) (T := T) (W := W ++ [y]) (D := D) (v := v2) (t := .kep i) (bs := []) (E := []) (fun _ _ z => by cases z) (.kep rfl) rfl (List.append_nil _).symm .nil
  have e2 := tr1c (core := core) (T := T) (W := W) (D := D) (v := v) (k := .sgl i) (fr := fr) (bs := [n]) (.sglF h h1 hb hd) rfl rfl (t2.trans e0)
  rw [show E2 ++ (List.map (fun b => (v2.n, b)) ([] : List Nat) ++ []) = E2 from List.append_nil _] at e2
  exact ⟨m2 + (0 + 1) + 1, by show m2 + (0 + 1) + 1 ≤ 4 * (v2.n - v.n); omega, e2⟩
end
end K9
end
section
set_option Elab.async false
set_option linter.all false
set_option maxRecDepth 100000
set_option maxHeartbeats 4000000
namespace K9
open PySem PySem.Spec PyProof.Rows L2
section
variable {many k : Nat} {css : List (List Call9)}
theorem rmap {α : Type} (f : Nat → α) {n i : Nat} (h : i < n) : ((List.range n).map f)[i]? = some (f i) := by
  rw [List.getElem?_map, List.getElem?_range h]
  rfl
theorem bod0 : (core9 many css).bods[0]? = some (0, cOf many (.mak many) (css.getD 0 [])) := rfl
theorem bodK (h1 : 1 ≤ k) (h2 : k ≤ many) : (core9 many css).bods[k]? = some (1, cOf many .loc (css.getD k [])) := by
  show ([(0, cOf many (.mak many) (css.getD 0 []))] ++ (List.range many).map (bodA many css) ++ (List.range many).map (bodB many) ++ [((1 : Nat), C9.unit)])[k]? = _
  rw [List.getElem?_append_left (by simp; omega), List.getElem?_append_left (by simp; omega), List.getElem?_append_right (by simp; omega)]
  show ((List.range many).map (bodA many css))[k - 1]? = _
  rw [rmap _ (by omega)]
  unfold bodA
  rw [show k - 1 + 1 = k by omega]
theorem bodM (h1 : 1 ≤ k) (h2 : k ≤ many) : (core9 many css).bods[many + k]? = some (0, .dir k (.mak many)) := by
  show ([(0, cOf many (.mak many) (css.getD 0 []))] ++ (List.range many).map (bodA many css) ++ (List.range many).map (bodB many) ++ [((1 : Nat), C9.unit)])[many + k]? = _
  rw [List.getElem?_append_left (by simp; omega), List.getElem?_append_right (by simp; omega)]
  have hl : ([((0 : Nat), cOf many (.mak many) (css.getD 0 []))] ++ (List.range many).map (bodA many css)).length = many + 1 := by simp
  rw [hl, show many + k - (many + 1) = k - 1 by omega]
  rw [rmap _ (by omega)]
  unfold bodB
  rw [show k - 1 + 1 = k by omega]
theorem bodE : (core9 many css).bods[2 * many + 1]? = some (1, .unit) := by
  show ([(0, cOf many (.mak many) (css.getD 0 []))] ++ (List.range many).map (bodA many css) ++ (List.range many).map (bodB many) ++ [((1 : Nat), C9.unit)])[2 * many + 1]? = _
  rw [List.getElem?_append_right (by simp; omega)]
  have hl : ([((0 : Nat), cOf many (.mak many) (css.getD 0 []))] ++ (List.range many).map (bodA many css) ++ (List.range many).map (bodB many)).length = 2 * many + 1 := by simp; omega
  rw [hl, Nat.sub_self]
  rfl
theorem bodLen : (core9 many css).bods.length = 2 * many + 2 := by
  show ([(0, cOf many (.mak many) (css.getD 0 []))] ++ (List.range many).map (bodA many css) ++ (List.range many).map (bodB many) ++ [((1 : Nat), C9.unit)]).length = _
  simp
  omega
theorem tabK (h1 : 1 ≤ k) (h2 : k ≤ many) : (core9 many css).tabs[k - 1]? = some ⟨"T", false, sends9 many, k⟩ := by
  show ((List.range many).map (tabA many) ++ [(⟨"E", true, sends9 many, 2 * many + 1⟩ : Tab9)])[k - 1]? = _
  rw [List.getElem?_append_left (by simp; omega), rmap _ (by omega)]
  unfold tabA
  rw [show k - 1 + 1 = k by omega]
theorem tabE : (core9 many css).tabs[many]? = some ⟨"E", true, sends9 many, 2 * many + 1⟩ := by
  show ((List.range many).map (tabA many) ++ [(⟨"E", true, sends9 many, 2 * many + 1⟩ : Tab9)])[many]? = _
  rw [List.getElem?_append_right (by simp)]
  simp
theorem sglK (h1 : 1 ≤ k) (h2 : k ≤ many) : (core9 many css).sgls[k - 1]? = some (many + k, ("s" : Str)) := by
  show (sgl9 many ++ sgl9 many)[k - 1]? = _
  unfold sgl9
  rw [List.getElem?_append_left (by simp; omega), rmap _ (by omega)]
  rw [show k - 1 + 1 = k by omega]
theorem sglM (h1 : 1 ≤ k) (h2 : k ≤ many) : (core9 many css).sgls[many + k - 1]? = some (many + k, ("s" : Str)) := by
  show (sgl9 many ++ sgl9 many)[many + k - 1]? = _
  unfold sgl9
  rw [List.getElem?_append_right (by simp; omega)]
  rw [show many + k - 1 - ((List.range many).map fun i => (many + (i + 1), ("s" : Str))).length = k - 1 by simp; omega, rmap _ (by omega)]
  rw [show k - 1 + 1 = k by omega]
theorem sglLen : (core9 many css).sgls.length = 2 * many := by
  show (sgl9 many ++ sgl9 many).length = _
  unfold sgl9
  simp
  omega
theorem tabLen : (core9 many css).tabs.length = many + 1 := by
  show ((List.range many).map (tabA many) ++ [(⟨"E", true, sends9 many, 2 * many + 1⟩ : Tab9)]).length = _
  simp
/-- the sends' row -/
theorem sendsAt : ∀ m, m ≤ 6 → ∀ k, 1 ≤ k → k ≤ m → valV ((sends9 m).map rowK) (Sum.inr (lab9 k) : Key) = some (.int (k : Int)) := by
  intro m hm k h1 h2
  have key : ∀ m < 7, ∀ k < 7, 1 ≤ k → k ≤ m → valV ((sends9 m).map rowK) (Sum.inr (lab9 k) : Key) = some (.int (k : Int)) := by decide +kernel
  exact key m (by omega) k (by omega) h1 h2
theorem sendsOk : ∀ m, m ≤ 6 → (∀ r ∈ sends9 m, (r.1.length ≤ 80 ∧ (∀ c ∈ r.1.cps.toList, 32 ≤ c ∧ c ≤ 126) ∧ r.1 ≠ "") ∧ 1 ≤ r.2 ∧ r.2 ≤ m) ∧ ((sends9 m).map (·.1)).Nodup := by
  intro m hm
  have key : ∀ m < 7, (∀ r ∈ sends9 m, (r.1.length ≤ 80 ∧ (∀ c ∈ r.1.cps.toList, 32 ≤ c ∧ c ≤ 126) ∧ r.1 ≠ "") ∧ 1 ≤ r.2 ∧ r.2 ≤ m) ∧ ((sends9 m).map (·.1)).Nodup := by decide +kernel
  exact key m (by omega)
def ascB (zs : List Str) : Bool := (zs.zip zs.tail).all fun p => decide (p.1.cps.toList < p.2.cps.toList)
theorem asc_of {zs : List Str} (h : ascB zs = true) : Asc zs := fun i x y e1 e2 => by
  unfold ascB at h
  rw [List.all_eq_true] at h
  have hm : (x, y) ∈ zs.zip zs.tail := by
    refine List.mem_of_getElem? (i := i) ?_
    rw [List.getElem?_zip_eq_some]
    exact ⟨e1, by rw [List.getElem?_tail]; exact e2⟩
  exact of_decide_eq_true (h _ hm)
theorem sendsAsc : ∀ m, m ≤ 6 → Asc ((sends9 m).map (·.1)) := fun m hm => asc_of (by
  have key : ∀ m < 7, ascB ((sends9 m).map (·.1)) = true := by decide +kernel
  exact key m (by omega))
theorem okLab {z : Str} (h : z.length ≤ 80 ∧ (∀ c ∈ z.cps.toList, 32 ≤ c ∧ c ≤ 126) ∧ z ≠ "") : OkLabel z := ⟨⟨h.1, h.2.1⟩, h.2.2⟩
theorem labOk (h1 : 1 ≤ k) (h2 : k ≤ 6) : OkLabel (lab9 k) := by
  have key : ∀ k < 7, (lab9 k).length ≤ 80 ∧ (∀ c ∈ (lab9 k).cps.toList, 32 ≤ c ∧ c ≤ 126) ∧ lab9 k ≠ "" := by decide +kernel
  exact okLab (key k (by omega))
theorem okc (core : Core9) (p : Nat) (here : C9) (hh : OkC core p here) (hd : ∀ j, 1 ≤ j → j ≤ many → HasP core 1 j) (ht : many ≤ core.tabs.length) (hs : 2 * many ≤ core.sgls.length) (hm : many ≤ 6) : ∀ cs : List Call9, (∀ c ∈ cs, 1 ≤ c.2 ∧ c.2 ≤ many) → OkC core p (cOf many here cs)
  | [], _ => trivial
  | (wy, j) :: cs, h => by
    have hj := h _ (List.mem_cons_self)
    have j1 : 1 ≤ j := hj.1
    have j2 : j ≤ many := hj.2
    refine ⟨?_, okc core p here hh hd ht hs hm cs fun c hc => h c (List.mem_cons_of_mem _ hc)⟩
    cases wy with
    | dir => exact ⟨hd j j1 j2, hh⟩
    | snd => exact ⟨labOk j1 (by omega), hh⟩
    | mak => show j - 1 < _; omega
    | sgl => show j - 1 < _; omega
    | oth => show many + j - 1 < _; omega
theorem deepC (here : C9) (h1 : here.deep ≤ 1) : ∀ cs : List Call9, (cOf many here cs).deep ≤ 3 + cs.length
  | [] => by show 1 ≤ 3; decide
  | (wy, j) :: cs => by
    have ih := deepC here h1 cs
    show 1 + max (one9 many here (wy, j)).deep (cOf many here cs).deep ≤ 3 + (cs.length + 1)
    have e : (one9 many here (wy, j)).deep ≤ 2 := by
      cases wy with
      | dir => show 1 + here.deep ≤ 2; omega
      | snd => show 1 + here.deep ≤ 2; omega
      | mak => show 1 ≤ 2; decide
      | sgl => show 1 ≤ 2; decide
      | oth => show 1 ≤ 2; decide
    omega
theorem sizeC (here : C9) (h1 : here.size ≤ 1) : ∀ cs : List Call9, (cOf many here cs).size ≤ 1 + 3 * cs.length
  | [] => by show 1 ≤ 1; decide
  | (wy, j) :: cs => by
    have ih := sizeC here h1 cs
    show 1 + (one9 many here (wy, j)).size + (cOf many here cs).size ≤ 1 + 3 * (cs.length + 1)
    have e : (one9 many here (wy, j)).size ≤ 2 := by
      cases wy with
      | dir => show 1 + here.size ≤ 2; omega
      | snd => show 1 + here.size ≤ 2; omega
      | mak => show 1 ≤ 2; decide
      | sgl => show 1 ≤ 2; decide
      | oth => show 1 ≤ 2; decide
    omega
theorem wf9 (h1 : 1 ≤ many) (hm : many ≤ 6) (hl : css.length = many + 1) (hin : ∀ cs ∈ css, cs.length ≤ 100 ∧ ∀ c ∈ cs, 1 ≤ c.2 ∧ c.2 ≤ many) : WF (core9 many css) := by
  have hp : ∀ j, 1 ≤ j → j ≤ many → HasP (core9 many css) 1 j := fun j a b => ⟨_, bodK a b, rfl⟩
  have hget : ∀ i, (css.getD i []).length ≤ 100 ∧ ∀ c ∈ css.getD i [], 1 ≤ c.2 ∧ c.2 ≤ many := fun i => by
    rw [List.getD_eq_getElem?_getD]
    cases e : css[i]? with
    | none => exact ⟨Nat.zero_le _, fun c h => by cases h⟩
    | some cs => exact hin cs (List.mem_of_getElem? e)
  have so := sendsOk many hm
  have rows : ∀ z ∈ sends9 many, OkLabel z.1 ∧ HasP (core9 many css) 1 z.2 := fun z hz => ⟨okLab (so.1 z hz).1, hp _ (so.1 z hz).2.1 (so.1 z hz).2.2⟩
  have few : (sends9 many).length ≤ 60 := by unfold sends9; simp; omega
  have okT : OkLabel ("T" : Str) := okLab (by decide +kernel)
  have okE : OkLabel ("E" : Str) := okLab (by decide +kernel)
  have okS : OkLabel ("s" : Str) := okLab (by decide +kernel)
  have tl : many ≤ (core9 many css).tabs.length := by rw [tabLen]; omega
  have sl : 2 * many ≤ (core9 many css).sgls.length := by rw [sglLen]; exact Nat.le_refl _
  refine ⟨by rw [tabLen]; omega, by rw [bodLen]; omega, by rw [sglLen]; omega, fun b hb => ?_, ⟨_, bod0, rfl⟩, fun t ht => ?_, fun s hs => ?_⟩
  · rcases List.mem_append.mp hb with hb | hb
    · rcases List.mem_append.mp hb with hb | hb
      · rcases List.mem_append.mp hb with hb | hb
        · rw [List.mem_singleton] at hb
          subst hb
          have g := hget 0
          have d := deepC (many := many) (.mak many) (Nat.le_refl _) (css.getD 0 [])
          have z := sizeC (many := many) (.mak many) (Nat.le_refl _) (css.getD 0 [])
          exact ⟨Nat.zero_le _, okc _ 0 (.mak many) (by show many < _; rw [tabLen]; omega) hp tl sl hm _ g.2, by show (cOf many (.mak many) (css.getD 0 [])).deep ≤ 200; omega, by show (cOf many (.mak many) (css.getD 0 [])).size ≤ 10000; omega⟩
        · obtain ⟨i, _, rfl⟩ := List.mem_map.mp hb
          have g := hget (i + 1)
          have d := deepC (many := many) .loc (Nat.le_refl _) (css.getD (i + 1) [])
          have z := sizeC (many := many) .loc (Nat.le_refl _) (css.getD (i + 1) [])
          exact ⟨Nat.le_refl _, okc _ 1 .loc rfl hp tl sl hm _ g.2, by show (cOf many .loc (css.getD (i + 1) [])).deep ≤ 200; omega, by show (cOf many .loc (css.getD (i + 1) [])).size ≤ 10000; omega⟩
      · obtain ⟨i, hi, rfl⟩ := List.mem_map.mp hb
        have hi' := List.mem_range.mp hi
        exact ⟨Nat.zero_le _, ⟨hp _ (by omega) (by omega), by show many < _; rw [tabLen]; omega⟩, by show 1 + 1 ≤ 200; decide, by show 1 + 1 ≤ 10000; decide⟩
    · rw [List.mem_singleton] at hb
      subst hb
      exact ⟨Nat.le_refl _, trivial, by show 1 ≤ 200; decide, by show 1 ≤ 10000; decide⟩
  · rcases List.mem_append.mp ht with ht | ht
    · obtain ⟨i, hi, rfl⟩ := List.mem_map.mp ht
      have hi' := List.mem_range.mp hi
      exact ⟨okT, few, rows, sendsAsc many hm, so.2, hp _ (by show 1 ≤ i + 1; omega) (by show i + 1 ≤ many; omega)⟩
    · rw [List.mem_singleton] at ht
      subst ht
      exact ⟨okE, few, rows, sendsAsc many hm, so.2, ⟨_, bodE, rfl⟩⟩
  · have key : ∀ s ∈ sgl9 many, OkLabel s.2 ∧ HasP (core9 many css) 0 s.1 := fun s hs => by
      obtain ⟨i, hi, rfl⟩ := List.mem_map.mp hs
      have hi' := List.mem_range.mp hi
      exact ⟨okS, _, bodM (by omega) (by omega), rfl⟩
    rcases List.mem_append.mp hs with hs | hs
    · exact key s hs
    · exact key s hs
end
end K9
end
section
set_option Elab.async false
set_option linter.all false
set_option maxRecDepth 100000
set_option maxHeartbeats 4000000
namespace K9
open PySem PySem.Spec PyProof.Rows L2
/-! the law's walk, as a function -/
structure W9 where
  s : Nat
  ev : List (Nat × Nat)
  dn : List Call9
def W9.step (w : W9) : W9 := { w with s := w.s + 1 }
def W9.enter (w : W9) (n : Nat) : W9 := { w with ev := w.ev ++ [(w.s, n)] }
def W9.fresh (w : W9) (many : Nat) : W9 := (w.step.enter (2 * many + 1)).step
def Way9.isS : Way9 → Bool
  | .sgl => true | .oth => true | _ => false
def callF (many : Nat) (rec : Nat → W9 → W9) (j : Nat) (w : W9) (c : Call9) : W9 :=
  let w := w.step.step
  if c.1.isS then
    if c ∈ w.dn then w
    else
      let w := rec c.2 ((((w.enter (many + c.2)).step).fresh many).enter c.2)
      { w with dn := w.dn ++ [c] }
  else if c.1 = .mak then rec c.2 (w.enter c.2)
  else rec c.2 ((if j = 0 then w.fresh many else w.step).enter c.2)
def listF (many : Nat) (rec : Nat → W9 → W9) (j : Nat) (w : W9) (cs : List Call9) : W9 := (cs.foldl (callF many rec j) w).step
def walkF (many : Nat) (css : List (List Call9)) : Nat → Nat → W9 → W9
  | 0, _, w => w
  | d + 1, j, w => listF many (walkF many css d) j w (css.getD j [])
/-- the place of a single -/
def idx9 (many : Nat) : Way9 → Nat → Nat
  | .oth, k => many + k - 1
  | _, k => k - 1
/-- the singles of numbers above j are fresh, or done as told -/
def On9 (many j : Nat) (on : List Kp9) (dn : List Call9) : Prop := ∀ (wy : Way9) (k : Nat), wy.isS = true → j < k → k ≤ many →
  if (wy, k) ∈ dn then ∃ x, on[idx9 many wy k]? = some (.done x) else on[idx9 many wy k]? = some .fresh
/-- those of numbers up to j stay -/
def Keep9 (many j : Nat) (on on' : List Kp9) (dn dn' : List Call9) : Prop := ∀ (wy : Way9) (k : Nat), wy.isS = true → 1 ≤ k → k ≤ j → k ≤ many → on'[idx9 many wy k]? = on[idx9 many wy k]? ∧ ((wy, k) ∈ dn' ↔ (wy, k) ∈ dn)
theorem idx_inj {many : Nat} {wy wy' : Way9} {k k' : Nat} (h : wy.isS = true) (h' : wy'.isS = true) (a : 1 ≤ k) (b : k ≤ many) (a' : 1 ≤ k') (b' : k' ≤ many) (e : idx9 many wy k = idx9 many wy' k') : wy = wy' ∧ k = k' := by
  cases wy <;> cases wy' <;> simp [Way9.isS] at h h' <;> simp [idx9] at e <;> first | exact ⟨rfl, by omega⟩ | (exfalso; omega)
/-- the frame of body j -/
def FrOk (many j : Nat) (fr : List Val9) : Prop := j = 0 ∨ ∃ t, fr = [.obj t] ∧ t ≤ many
def here9 (many j : Nat) : C9 := if j = 0 then .mak many else .loc
/-- what a body does: with the walk w, from v on -/
def Body9 (many : Nat) (css : List (List Call9)) (d j : Nat) : Prop := ∀ (D : Int) (fr : List Val9) (w : W9) (on : List Kp9) (bg : List Nat), D + 2 * (many - j : Nat) ≤ 5000 → FrOk many j fr → On9 many j on w.dn → on.length = 2 * many →
  ∃ E on' w', walkF many css d j w = w' ∧ w'.ev = w.ev ++ E ∧ On9 many j on' w'.dn ∧ Keep9 many j on on' w.dn w'.dn ∧ on'.length = 2 * many ∧
    BS (core9 many css) D (cOf many (here9 many j) (css.getD j [])) fr ⟨w.s, on, bg⟩ E ⟨w'.s, on', bg ++ E.map (·.2)⟩ .unit
section
variable {many : Nat} {css : List (List Call9)}
/-- making the E thing -/
theorem mkE {D : Int} {fr : List Val9} {s : Nat} {on : List Kp9} {bg : List Nat} (hD : D ≠ 6000) : BS (core9 many css) D (.mak many) fr ⟨s, on, bg⟩ [(s + 1, 2 * many + 1)] ⟨s + 2, on, bg ++ [2 * many + 1]⟩ (.obj many) :=
  BS.mak (tb := ⟨"E", true, sends9 many, 2 * many + 1⟩) tabE bodE hD BS.unit
/-- what stands for here in a body's c -/
theorem hereBS {D : Int} {fr : List Val9} {j s : Nat} {on : List Kp9} {bg : List Nat} (hD : D ≠ 6000) (hf : FrOk many j fr) : ∃ t E, t ≤ many ∧ E = (if j = 0 then [(s + 1, 2 * many + 1)] else []) ∧ BS (core9 many css) D (here9 many j) fr ⟨s, on, bg⟩ E ⟨if j = 0 then s + 2 else s + 1, on, bg ++ E.map (·.2)⟩ (.obj t) := by
  unfold here9
  by_cases c : j = 0
  · subst c
    exact ⟨many, _, Nat.le_refl _, rfl, mkE hD⟩
  · rcases hf with h | ⟨t, rfl, ht⟩
    · exact (c h).elim
    · simp only [if_neg c]
      refine ⟨t, [], ht, rfl, ?_⟩
      show BS (core9 many css) D .loc [.obj t] ⟨s, on, bg⟩ [] ⟨s + 1, on, bg ++ []⟩ (.obj t)
      rw [List.append_nil]
      exact BS.loc
theorem tabAt {t : Nat} (h : t ≤ many) : ∃ tb, (core9 many css).tabs[t]? = some tb ∧ tb.rows = sends9 many := by
  by_cases c : t = many
  · subst c
    exact ⟨_, tabE, rfl⟩
  · have := tabK (css := css) (many := many) (k := t + 1) (by omega) (by omega)
    exact ⟨_, this, rfl⟩
theorem on_of {j k : Nat} {on on' : List Kp9} {dn dn' : List Call9} (h : On9 many j on dn) (hk : On9 many k on' dn') (kp : Keep9 many k on on' dn dn') (hjk : j < k) : On9 many j on' dn' := fun wy i hs h1 h2 => by
  by_cases c : k < i
  · exact hk wy i hs c h2
  · have := kp wy i hs (by omega) (by omega) h2
    rw [this.1]
    have z := h wy i hs h1 h2
    by_cases m : (wy, i) ∈ dn
    · rw [if_pos m] at z
      rw [if_pos (this.2.mpr m)]
      exact z
    · rw [if_neg m] at z
      rw [if_neg fun q => m (this.2.mp q)]
      exact z
theorem keep_of {j k : Nat} {on on' : List Kp9} {dn dn' : List Call9} (kp : Keep9 many k on on' dn dn') (hjk : j < k) : Keep9 many j on on' dn dn' := fun wy i hs h1 h2 h3 => kp wy i hs h1 (by omega) h3
/-- a call of a body's c -/
theorem callBS {d j k : Nat} {wy : Way9} (hm : many ≤ 6) (hj : j < k) (hk : k ≤ many) (rec : Body9 many css d k) {D : Int} {fr : List Val9} {w : W9} {on : List Kp9} {bg : List Nat} (hD : D + 2 * (many - j : Nat) ≤ 5000) (hf : FrOk many j fr) (ho : On9 many j on w.dn) (hl : on.length = 2 * many) :
    ∃ E on' w' x, callF many (walkF many css d) j w (wy, k) = w' ∧ w'.ev = w.ev ++ E ∧ On9 many j on' w'.dn ∧ Keep9 many j on on' w.dn w'.dn ∧ on'.length = 2 * many ∧
      BS (core9 many css) D (one9 many (here9 many j) (wy, k)) fr ⟨w.s + 1, on, bg⟩ E ⟨w'.s, on', bg ++ E.map (·.2)⟩ x := by
  have k1 : 1 ≤ k := by omega
  have hD6 : D ≠ 6000 := by omega
  have hDk : (D + 1) + 2 * (many - k : Nat) ≤ 5000 := by omega
  have hok : On9 many k on w.dn := fun wy i hs h1 h2 => ho wy i hs (by omega) h2
  have hbk := bodK (css := css) k1 hk
  have hh : here9 many k = .loc := if_neg (by omega)
  -- a body begun in the depth D + 1 from some state
  have body : ∀ (t s : Nat) (D' : Int) (on : List Kp9) (dn : List Call9) (ev : List (Nat × Nat)) (bg : List Nat), t ≤ many → D' + 2 * (many - k : Nat) ≤ 5000 → On9 many k on dn → on.length = 2 * many → ∃ E on' w', walkF many css d k ⟨s, ev, dn⟩ = w' ∧ w'.ev = ev ++ E ∧ On9 many k on' w'.dn ∧ Keep9 many k on on' dn w'.dn ∧ on'.length = 2 * many ∧
      BS (core9 many css) D' (cOf many .loc (css.getD k [])) [.obj t] ⟨s, on, bg⟩ E ⟨w'.s, on', bg ++ E.map (·.2)⟩ .unit := fun t s D' on dn ev bg ht hD' h h' => by
    have r := rec D' [.obj t] ⟨s, ev, dn⟩ on bg hD' (.inr ⟨t, rfl, ht⟩) h h'
    rw [hh] at r
    exact r
  have single : ∀ wy : Way9, wy.isS = true → one9 many (here9 many j) (wy, k) = .sgl (idx9 many wy k) → (core9 many css).sgls[idx9 many wy k]? = some (many + k, ("s" : Str)) → ∃ E on' w' x, callF many (walkF many css d) j w (wy, k) = w' ∧ w'.ev = w.ev ++ E ∧ On9 many j on' w'.dn ∧ Keep9 many j on on' w.dn w'.dn ∧ on'.length = 2 * many ∧
      BS (core9 many css) D (one9 many (here9 many j) (wy, k)) fr ⟨w.s + 1, on, bg⟩ E ⟨w'.s, on', bg ++ E.map (·.2)⟩ x := fun wy hs h1 hsg => by
    have z := ho wy k hs hj hk
    rw [h1]
    by_cases m : (wy, k) ∈ w.dn
    · rw [if_pos m] at z
      obtain ⟨x, hx⟩ := z
      refine ⟨[], on, w.step.step, x, ?_, (List.append_nil _).symm, ho, fun _ _ _ _ _ _ => ⟨rfl, Iff.rfl⟩, hl, ?_⟩
      · unfold callF
        have m' : (wy, k) ∈ w.step.step.dn := m
        simp [hs, m']
      · show BS _ _ _ _ _ _ ⟨w.s + 1 + 1, on, bg ++ []⟩ _
        rw [List.append_nil]
        exact BS.sglD (v := ⟨w.s + 1, on, bg⟩) hx
    · rw [if_neg m] at z
      have hidx : idx9 many wy k < on.length := (List.getElem?_eq_some_iff.mp z).1
      have hok1 : On9 many k (on.set (idx9 many wy k) .way) w.dn := fun wy' i hs' a b => by
        rw [List.getElem?_set_ne (fun e => by have := (idx_inj hs hs' k1 hk (by omega) b e).2; omega)]
        exact hok wy' i hs' a b
      obtain ⟨E, on2, w2, e1, e2, e3, e4, e5, e6⟩ := body many (w.s + 5) (D + 1 + 1) (on.set (idx9 many wy k) .way) w.dn (w.ev ++ [(w.s + 2, many + k), (w.s + 4, 2 * many + 1), (w.s + 5, k)]) (bg ++ [many + k] ++ [2 * many + 1] ++ [k]) (Nat.le_refl _) (by omega) hok1 (by rw [List.length_set]; exact hl)
      have hidx2 : idx9 many wy k < on2.length := by rw [e5, ← hl]; exact hidx
      have other : ∀ (wy' : Way9) (i : Nat), wy'.isS = true → 1 ≤ i → i ≤ many → (wy', i) ≠ (wy, k) → idx9 many wy k ≠ idx9 many wy' i := fun wy' i hs' a b hne e => by
        have := idx_inj hs hs' k1 hk a b e
        exact hne (by rw [this.1, this.2])
      refine ⟨(w.s + 2, many + k) :: (w.s + 4, 2 * many + 1) :: (w.s + 5, k) :: E, on2.set (idx9 many wy k) (.done .unit), { w2 with dn := w2.dn ++ [(wy, k)] }, .unit, ?_, ?_, fun wy' i hs' a b => ?_, fun wy' i hs' a b c => ?_, by rw [List.length_set]; exact e5, ?_⟩
      · rw [← e1]
        unfold callF
        have m' : (wy, k) ∉ w.step.step.dn := m
        simp [hs, m', W9.fresh, W9.enter, W9.step]
        exact fun h => (m h).elim
      · show w2.ev = _
        rw [e2]
        simp
      · show if (wy', i) ∈ w2.dn ++ [(wy, k)] then _ else _
        by_cases q : (wy', i) = (wy, k)
        · cases q
          rw [if_pos (List.mem_append_right _ (List.mem_singleton.mpr rfl))]
          exact ⟨_, List.getElem?_set_self hidx2⟩
        · rw [List.getElem?_set_ne (other wy' i hs' (by omega) b q)]
          have mm : ((wy', i) ∈ w2.dn ++ [(wy, k)]) ↔ (wy', i) ∈ w2.dn := ⟨fun h => (List.mem_append.mp h).elim id fun h => (q (List.mem_singleton.mp h)).elim, fun h => List.mem_append_left _ h⟩
          have z2 : if (wy', i) ∈ w2.dn then ∃ x, on2[idx9 many wy' i]? = some (.done x) else on2[idx9 many wy' i]? = some .fresh := by
            by_cases ki : k < i
            · exact e3 wy' i hs' ki b
            · have kp := e4 wy' i hs' (by omega) (by omega) b
              rw [kp.1, List.getElem?_set_ne (other wy' i hs' (by omega) b q)]
              have z0 := ho wy' i hs' a b
              by_cases m0 : (wy', i) ∈ w.dn
              · rw [if_pos m0] at z0
                rw [if_pos (kp.2.mpr m0)]
                exact z0
              · rw [if_neg m0] at z0
                rw [if_neg fun h => m0 (kp.2.mp h)]
                exact z0
          by_cases m2 : (wy', i) ∈ w2.dn
          · rw [if_pos m2] at z2
            rw [if_pos (mm.mpr m2)]
            exact z2
          · rw [if_neg m2] at z2
            rw [if_neg fun h => m2 (mm.mp h)]
            exact z2
      · have q : (wy', i) ≠ (wy, k) := fun e => by cases e; omega
        rw [List.getElem?_set_ne (other wy' i hs' a c q)]
        have kp := e4 wy' i hs' a (by omega) c
        rw [kp.1, List.getElem?_set_ne (other wy' i hs' a c q)]
        refine ⟨rfl, ?_⟩
        show (wy', i) ∈ w2.dn ++ [(wy, k)] ↔ _
        rw [← kp.2]
        exact ⟨fun h => (List.mem_append.mp h).elim id fun h => (q (List.mem_singleton.mp h)).elim, fun h => List.mem_append_left _ h⟩
      · have hbm := bodM (css := css) k1 hk
        have q1 : BS (core9 many css) (D + 1) (.mak many) [] ⟨w.s + 3, on.set (idx9 many wy k) .way, bg ++ [many + k]⟩ [(w.s + 4, 2 * many + 1)] ⟨w.s + 5, on.set (idx9 many wy k) .way, bg ++ [many + k] ++ [2 * many + 1]⟩ (.obj many) := mkE (by omega)
        have q2 := BS.dir (n := k) (fr := []) (v := ⟨w.s + 2, on.set (idx9 many wy k) .way, bg ++ [many + k]⟩) (v1 := ⟨w.s + 5, on.set (idx9 many wy k) .way, bg ++ [many + k] ++ [2 * many + 1]⟩) (x := .obj many) q1 hbk (by omega) e6
        have q3 := BS.sglF (i := idx9 many wy k) (n := many + k) (fr := fr) (v := ⟨w.s + 1, on, bg⟩) z hsg hbm hD6 q2
        have eb : bg ++ [many + k] ++ [2 * many + 1] ++ [k] ++ E.map (·.2) = bg ++ ((w.s + 2, many + k) :: (w.s + 4, 2 * many + 1) :: (w.s + 5, k) :: E).map (·.2) := by simp
        rw [eb] at q3
        exact q3
  obtain ⟨t, E0, ht, hE0, hB⟩ := hereBS (css := css) (D := D) (fr := fr) (j := j) (s := w.s + 2) (on := on) (bg := bg) hD6 hf
  cases wy with
  | dir =>
    obtain ⟨E, on', w', e1, e2, e3, e4, e5, e6⟩ := body t (if j = 0 then w.s + 2 + 2 else w.s + 2 + 1) (D + 1) on w.dn (w.ev ++ E0 ++ [(if j = 0 then w.s + 2 + 2 else w.s + 2 + 1, k)]) (bg ++ E0.map (·.2) ++ [k]) ht hDk hok hl
    refine ⟨E0 ++ (if j = 0 then w.s + 2 + 2 else w.s + 2 + 1, k) :: E, on', w', .unit, ?_, ?_, on_of ho e3 e4 hj, keep_of e4 hj, e5, ?_⟩
    · rw [← e1]
      unfold callF
      simp only [Way9.isS, Bool.false_eq_true, if_false, reduceCtorEq]
      congr 1
      by_cases c : j = 0
      · subst c
        rw [hE0]
        simp [W9.fresh, W9.enter, W9.step]
      · rw [hE0]
        simp [c, W9.enter, W9.step]
    · rw [e2]
      simp
    · have q := BS.dir (n := k) (v := ⟨w.s + 1, on, bg⟩) (v1 := ⟨if j = 0 then w.s + 2 + 2 else w.s + 2 + 1, on, bg ++ E0.map (·.2)⟩) (x := .obj t) hB hbk hD6 e6
      have eb : bg ++ E0.map (·.2) ++ [k] ++ E.map (·.2) = bg ++ (E0 ++ (if j = 0 then w.s + 2 + 2 else w.s + 2 + 1, k) :: E).map (·.2) := by simp
      rw [eb] at q
      exact q
  | snd =>
    obtain ⟨tb, htb, hrows⟩ := tabAt (css := css) ht
    obtain ⟨E, on', w', e1, e2, e3, e4, e5, e6⟩ := body t (if j = 0 then w.s + 2 + 2 else w.s + 2 + 1) (D + 1) on w.dn (w.ev ++ E0 ++ [(if j = 0 then w.s + 2 + 2 else w.s + 2 + 1, k)]) (bg ++ E0.map (·.2) ++ [k]) ht hDk hok hl
    refine ⟨E0 ++ (if j = 0 then w.s + 2 + 2 else w.s + 2 + 1, k) :: E, on', w', .unit, ?_, ?_, on_of ho e3 e4 hj, keep_of e4 hj, e5, ?_⟩
    · rw [← e1]
      unfold callF
      simp only [Way9.isS, Bool.false_eq_true, if_false, reduceCtorEq]
      congr 1
      by_cases c : j = 0
      · subst c
        rw [hE0]
        simp [W9.fresh, W9.enter, W9.step]
      · rw [hE0]
        simp [c, W9.enter, W9.step]
    · rw [e2]
      simp
    · have hz : valV (tb.rows.map rowK) (Sum.inr (lab9 k) : Key) = some (.int (k : Int)) := by rw [hrows]; exact sendsAt many hm k k1 hk
      have q := BS.snd (n := k) (t := t) (v := ⟨w.s + 1, on, bg⟩) (v1 := ⟨if j = 0 then w.s + 2 + 2 else w.s + 2 + 1, on, bg ++ E0.map (·.2)⟩) hB htb hz hbk hD6 e6
      have eb : bg ++ E0.map (·.2) ++ [k] ++ E.map (·.2) = bg ++ (E0 ++ (if j = 0 then w.s + 2 + 2 else w.s + 2 + 1, k) :: E).map (·.2) := by simp
      rw [eb] at q
      exact q
  | mak =>
    have htk := tabK (css := css) k1 hk
    obtain ⟨E, on', w', e1, e2, e3, e4, e5, e6⟩ := body (k - 1) (w.s + 2) (D + 1) on w.dn (w.ev ++ [(w.s + 2, k)]) (bg ++ [k]) (by omega) hDk hok hl
    refine ⟨(w.s + 2, k) :: E, on', w', .obj (k - 1), ?_, ?_, on_of ho e3 e4 hj, keep_of e4 hj, e5, ?_⟩
    · rw [← e1]
      unfold callF
      simp [Way9.isS, W9.enter, W9.step]
    · rw [e2]
      simp
    · have q := BS.mak (t := k - 1) (fr := fr) (v := ⟨w.s + 1, on, bg⟩) htk hbk hD6 e6
      have eb : bg ++ [k] ++ E.map (·.2) = bg ++ ((w.s + 2, k) :: E).map (·.2) := by simp
      rw [eb] at q
      exact q
  | sgl => exact single .sgl rfl rfl (sglK k1 hk)
  | oth => exact single .oth rfl rfl (sglM k1 hk)
theorem keep_trans {j : Nat} {on on' on'' : List Kp9} {dn dn' dn'' : List Call9} (a : Keep9 many j on on' dn dn') (b : Keep9 many j on' on'' dn' dn'') : Keep9 many j on on'' dn dn'' := fun wy i h1 h2 h3 h4 =>
  ⟨(b wy i h1 h2 h3 h4).1.trans (a wy i h1 h2 h3 h4).1, (b wy i h1 h2 h3 h4).2.trans (a wy i h1 h2 h3 h4).2⟩
/-- a body's whole c -/
theorem listBS {d j : Nat} (hm : many ≤ 6) (rec : ∀ k, j < k → k ≤ many → Body9 many css d k) {D : Int} {fr : List Val9} (hD : D + 2 * (many - j : Nat) ≤ 5000) (hf : FrOk many j fr) : ∀ (cs : List Call9), (∀ c ∈ cs, j < c.2 ∧ c.2 ≤ many) → ∀ (w : W9) (on : List Kp9) (bg : List Nat), On9 many j on w.dn → on.length = 2 * many →
    ∃ E on' w', listF many (walkF many css d) j w cs = w' ∧ w'.ev = w.ev ++ E ∧ On9 many j on' w'.dn ∧ Keep9 many j on on' w.dn w'.dn ∧ on'.length = 2 * many ∧
      BS (core9 many css) D (cOf many (here9 many j) cs) fr ⟨w.s, on, bg⟩ E ⟨w'.s, on', bg ++ E.map (·.2)⟩ .unit
  | [], _, w, on, bg, ho, hl => by
    refine ⟨[], on, _, rfl, (List.append_nil _).symm, ho, fun _ _ _ _ _ _ => ⟨rfl, Iff.rfl⟩, hl, ?_⟩
    show BS _ _ .unit _ _ _ ⟨w.s + 1, on, bg ++ []⟩ _
    rw [List.append_nil]
    exact BS.unit
  | (wy, k) :: cs, hin, w, on, bg, ho, hl => by
    have hc := hin _ (List.mem_cons_self)
    obtain ⟨E1, on1, w1, x, a1, a2, a3, a4, a5, a6⟩ := callBS (bg := bg) hm hc.1 hc.2 (rec k hc.1 hc.2) hD hf ho hl (wy := wy)
    obtain ⟨E2, on2, w2, b1, b2, b3, b4, b5, b6⟩ := listBS hm rec hD hf cs (fun c h => hin c (List.mem_cons_of_mem _ h)) w1 on1 (bg ++ E1.map (·.2)) a3 a5
    refine ⟨E1 ++ E2, on2, w2, ?_, by rw [b2, a2, List.append_assoc], b3, keep_trans a4 b4, b5, ?_⟩
    · show listF many (walkF many css d) j (callF many (walkF many css d) j w (wy, k)) cs = w2
      rw [a1]
      exact b1
    · rw [List.map_append, ← List.append_assoc]
      exact BS.thn (v := ⟨w.s, on, bg⟩) a6 b6
theorem body9 (hm : many ≤ 6) (hcs : ∀ j, ∀ c ∈ css.getD j [], j < c.2 ∧ c.2 ≤ many) : ∀ d j, many - j < d → j ≤ many → Body9 many css d j
  | 0, j, h, _ => absurd h (Nat.not_lt_zero _)
  | d + 1, j, h, hj => fun D fr w on bg hD hf ho hl => by
    exact listBS hm (fun k h1 h2 => body9 hm hcs d k (by omega) h2) hD hf (css.getD j []) (hcs j) w on bg ho hl
end
end K9
end
section
set_option Elab.async false
set_option linter.all false
set_option maxRecDepth 100000
set_option maxHeartbeats 4000000
namespace K9
open PySem PySem.Spec PyProof.Rows L2
/-! how long the walk is; the whole run -/
def cost9 : Nat → Nat
  | 0 => 0
  | d + 1 => 1 + 2 * (5 + cost9 d)
section
variable {many : Nat} {css : List (List Call9)}
theorem call_cost {d j C : Nat} (hrec : ∀ k w, j < k → (walkF many css d k w).s ≤ w.s + C) {w : W9} {c : Call9} (hc : j < c.2) : (callF many (walkF many css d) j w c).s ≤ w.s + (5 + C) := by
  unfold callF
  obtain ⟨wy, k⟩ := c
  have h := fun w => hrec k w hc
  by_cases hs : wy.isS = true
  · simp only [hs, if_true]
    by_cases m : (wy, k) ∈ w.step.step.dn
    · rw [if_pos m]
      show w.s + 1 + 1 ≤ _
      omega
    · rw [if_neg m]
      have := h ((((w.step.step.enter (many + k)).step).fresh many).enter k)
      have e : ((((w.step.step.enter (many + k)).step).fresh many).enter k).s = w.s + 5 := rfl
      show (walkF many css d k _).s ≤ _
      omega
  · simp only [hs, if_false, Bool.false_eq_true]
    by_cases q : wy = .mak
    · rw [if_pos q]
      have := h (w.step.step.enter k)
      have e : (w.step.step.enter k).s = w.s + 2 := rfl
      omega
    · rw [if_neg q]
      have := h ((if j = 0 then w.step.step.fresh many else w.step.step.step).enter k)
      have e : ((if j = 0 then w.step.step.fresh many else w.step.step.step).enter k).s ≤ w.s + 4 := by
        by_cases z : j = 0
        · rw [if_pos z]
          exact Nat.le_refl _
        · rw [if_neg z]
          show w.s + 3 ≤ _
          omega
      omega
theorem list_cost {d j C : Nat} (hrec : ∀ k w, j < k → (walkF many css d k w).s ≤ w.s + C) : ∀ (cs : List Call9) (w : W9), (∀ c ∈ cs, j < c.2) → (listF many (walkF many css d) j w cs).s ≤ w.s + (1 + cs.length * (5 + C))
  | [], w, _ => by
    show w.s + 1 ≤ _
    omega
  | c :: cs, w, h => by
    have h1 := call_cost hrec (w := w) (h c (List.mem_cons_self))
    have h2 := list_cost hrec cs (callF many (walkF many css d) j w c) fun c hc => h c (List.mem_cons_of_mem _ hc)
    have e : listF many (walkF many css d) j w (c :: cs) = listF many (walkF many css d) j (callF many (walkF many css d) j w c) cs := rfl
    rw [e, List.length_cons, Nat.succ_mul]
    omega
theorem walk_cost (hcs : ∀ j, ∀ c ∈ css.getD j [], j < c.2 ∧ c.2 ≤ many) (h2 : ∀ j, 1 ≤ j → (css.getD j []).length ≤ 2) : ∀ d j (w : W9), 1 ≤ j → (walkF many css d j w).s ≤ w.s + cost9 d
  | 0, j, w, _ => Nat.le_refl _
  | d + 1, j, w, hj => by
    have h := list_cost (many := many) (css := css) (d := d) (j := j) (C := cost9 d) (fun k w hk => walk_cost hcs h2 d k w (by omega)) (css.getD j []) w fun c hc => (hcs j c hc).1
    have l := h2 j hj
    have m := Nat.mul_le_mul_right (5 + cost9 d) l
    show (listF many (walkF many css d) j w (css.getD j [])).s ≤ w.s + (1 + 2 * (5 + cost9 d))
    omega
/-- the whole walk -/
def walk0 (many : Nat) (css : List (List Call9)) : W9 := walkF many css (many + 1) 0 ⟨0, [(0, 0)], []⟩
structure CallsOk (many : Nat) (css : List (List Call9)) : Prop where
  m1 : 1 ≤ many
  m6 : many ≤ 6
  len : css.length = many + 1
  num : ∀ j, ∀ c ∈ css.getD j [], j < c.2 ∧ c.2 ≤ many
  two : ∀ j, 1 ≤ j → (css.getD j []).length ≤ 2
  five : (css.getD 0 []).length ≤ 5
theorem walk0_cost (ok : CallsOk many css) : 1 ≤ (walk0 many css).s ∧ (walk0 many css).s ≤ 4000 := by
  have h := list_cost (many := many) (css := css) (d := many) (j := 0) (C := cost9 many) (fun k w hk => walk_cost ok.num ok.two many k w hk) (css.getD 0 []) ⟨0, [(0, 0)], []⟩ fun c hc => (ok.num 0 c hc).1
  have m := Nat.mul_le_mul_right (5 + cost9 many) ok.five
  have c : cost9 many ≤ 693 := by
    have key : ∀ m < 7, cost9 m ≤ 693 := by decide
    exact key many (by have := ok.m6; omega)
  refine ⟨?_, ?_⟩
  · exact Nat.succ_le_succ (Nat.zero_le (List.foldl (callF many (walkF many css many) 0) ⟨0, [(0, 0)], []⟩ (css.getD 0 [])).s)
  · have e : (walk0 many css).s = (listF many (walkF many css many) 0 ⟨0, [(0, 0)], []⟩ (css.getD 0 [])).s := rfl
    have z : (⟨0, [(0, 0)], []⟩ : W9).s = 0 := rfl
    rw [e]
    rw [z] at h
    omega
/-- what the law asks of the program -/
theorem goes9 (ok : CallsOk many css) (bound : Nat) (hb : bound ≤ 100000) : ∃ sf, Goes (core9 many css) bound sf (decide ((walk0 many css).s ≤ bound)) ∧ sf.begun = within bound (walk0 many css).ev := by
  have cst := walk0_cost ok
  have onA : On9 many 0 (List.replicate (2 * many) .fresh) [] := fun wy k hs h1 h2 => by
    rw [if_neg (by intro h; cases h)]
    rw [List.getElem?_replicate_of_lt]
    cases wy <;> simp [idx9, Way9.isS] at * <;> omega
  obtain ⟨E, on', w', e1, e2, e3, e4, e5, e6⟩ := body9 ok.m6 ok.num (many + 1) 0 (by omega) (Nat.zero_le _) 0 [] ⟨0, [(0, 0)], []⟩ (List.replicate (2 * many) .fresh) [0] (by have := ok.m6; omega) (.inl rfl) onA (by simp)
  have ew : walk0 many css = w' := e1
  rw [ew] at cst ⊢
  obtain ⟨m, hm, tr⟩ := e6.2 [.lev] []
  have hm' : m ≤ 4 * (w'.s - 0) := hm
  have tl := tr1e (core := core9 many css) (T := []) (W := [Val9.unit]) (D := 0) (v := ⟨w'.s, on', [0] ++ E.map (·.2)⟩) (t := .lev) (bs := []) (E := []) (fun _ _ z => by cases z) .lev rfl (List.append_nil _).symm .nil
  have all := tr.trans tl
  rw [show E ++ (List.map (fun b => (w'.s, b)) ([] : List Nat) ++ []) = E from List.append_nil _] at all
  obtain ⟨n, sf, r1, r2, r3⟩ := runs_of all rfl bound (Nat.zero_le _) (by show 2 + 3 * (m + (0 + 1)) ≤ 100000; omega) (by show 0 + (m + (0 + 1)) ≤ 100000; omega) (by show 1 + (m + (0 + 1)) ≤ 100000; omega)
  have ebeg : sf.begun = within bound w'.ev := by
    rw [r2, e2]
    show [0] ++ within bound E = within bound ([((0 : Nat), (0 : Nat))] ++ E)
    rw [within_app]
    have z : within bound [((0 : Nat), (0 : Nat))] = [0] := by simp [within]
    rw [z]
  refine ⟨sf, ⟨?_, hb, ⟨n, cOf many (.mak many) (css.getD 0 []), bod0, ?_⟩, fun h => ?_⟩, ebeg⟩
  · refine wf9 ok.m1 ok.m6 ok.len fun cs hcs => ?_
    obtain ⟨i, hi⟩ := List.getElem?_of_mem hcs
    have e : css.getD i [] = cs := by rw [List.getD_eq_getElem?_getD, hi]; rfl
    rw [← e]
    refine ⟨?_, fun c hc => ⟨by have := (ok.num i c hc).1; omega, (ok.num i c hc).2⟩⟩
    by_cases z : i = 0
    · rw [z]
      have := ok.five
      omega
    · have := ok.two i (by omega)
      omega
  · have es : (core9 many css).sgls.length = 2 * many := sglLen
    unfold st1
    rw [es]
    exact r1
  · rw [r3 (of_decide_eq_true h)]
    rfl
end
end K9
end
section
set_option Elab.async false
set_option linter.all false
set_option maxRecDepth 100000
set_option maxHeartbeats 4000000
namespace K9
open PySem PySem.Spec PyProof.Rows L2
/-! the law's walk: it stays small -/
def WOk (c : Nat) (w : W9) : Prop := w.ev.length ≤ w.s + 1 ∧ w.dn.length + c ≤ w.ev.length
theorem WOk.less {a b : Nat} {w : W9} (h : WOk a w) (k : b ≤ a) : WOk b w := ⟨h.1, by have := h.2; omega⟩
theorem WOk.step {c : Nat} {w : W9} (h : WOk c w) : WOk c w.step := ⟨by have := h.1; show w.ev.length ≤ w.s + 1 + 1; omega, h.2⟩
/-- steps that are ahead of the begins -/
def WOs (k c : Nat) (w : W9) : Prop := w.ev.length + k ≤ w.s + 1 ∧ w.dn.length + c ≤ w.ev.length
theorem WOs.step {k c : Nat} {w : W9} (h : WOs k c w) : WOs (k + 1) c w.step := ⟨by have := h.1; show w.ev.length + (k + 1) ≤ w.s + 1 + 1; omega, h.2⟩
theorem WOs.enter {k c n : Nat} {w : W9} (h : WOs (k + 1) c w) : WOs k (c + 1) (w.enter n) := by
  refine ⟨?_, ?_⟩
  · have := h.1
    show (w.ev ++ [(w.s, n)]).length + k ≤ w.s + 1
    rw [List.length_append, List.length_singleton]
    omega
  · have := h.2
    show w.dn.length + (c + 1) ≤ (w.ev ++ [(w.s, n)]).length
    rw [List.length_append, List.length_singleton]
    omega
theorem WOs.fresh {k c many : Nat} {w : W9} (h : WOs k c w) : WOs (k + 1) (c + 1) (w.fresh many) := h.step.enter.step
theorem WOs.ok {k c : Nat} {w : W9} (h : WOs k c w) : WOk c w := ⟨by have := h.1; omega, h.2⟩
theorem WOk.s0 {c : Nat} {w : W9} (h : WOk c w) : WOs 0 c w := h
/-- what the walk within keeps -/
def RecOk (rec : Nat → W9 → W9) : Prop := ∀ k w, w.s ≤ (rec k w).s ∧ ∀ c, WOk c w → WOk c (rec k w)
section
variable {many : Nat} {rec : Nat → W9 → W9}
theorem callF_ok (hr : RecOk rec) (j : Nat) (w : W9) (c : Call9) : w.s ≤ (callF many rec j w c).s ∧ ∀ n, WOk n w → WOk n (callF many rec j w c) := by
  unfold callF
  obtain ⟨wy, k⟩ := c
  by_cases hs : wy.isS = true
  · simp only [hs, if_true]
    by_cases m : (wy, k) ∈ w.step.step.dn
    · rw [if_pos m]
      exact ⟨by show w.s ≤ w.s + 1 + 1; omega, fun n h => h.step.step⟩
    · rw [if_neg m]
      have q := hr k ((((w.step.step.enter (many + k)).step).fresh many).enter k)
      refine ⟨?_, fun n h => ?_⟩
      · have e : ((((w.step.step.enter (many + k)).step).fresh many).enter k).s = w.s + 5 := rfl
        show w.s ≤ (rec k _).s
        omega
      · have z := q.2 (n + 3) (h.s0.step.step.enter.step.fresh.enter.ok)
        refine ⟨z.1, ?_⟩
        have := z.2
        show ((rec k _).dn ++ [(wy, k)]).length + n ≤ (rec k _).ev.length
        rw [List.length_append, List.length_singleton]
        omega
  · simp only [hs, if_false, Bool.false_eq_true]
    by_cases q : wy = .mak
    · rw [if_pos q]
      have z := hr k (w.step.step.enter k)
      have e : (w.step.step.enter k).s = w.s + 2 := rfl
      exact ⟨by omega, fun n h => z.2 n (h.s0.step.step.enter.ok.less (Nat.le_succ _))⟩
    · rw [if_neg q]
      have z := hr k ((if j = 0 then w.step.step.fresh many else w.step.step.step).enter k)
      by_cases y : j = 0
      · rw [if_pos y] at z ⊢
        have e : ((w.step.step.fresh many).enter k).s = w.s + 4 := rfl
        exact ⟨by omega, fun n h => z.2 n (h.s0.step.step.fresh.enter.ok.less (by omega))⟩
      · rw [if_neg y] at z ⊢
        have e : ((w.step.step.step).enter k).s = w.s + 3 := rfl
        exact ⟨by omega, fun n h => z.2 n (h.s0.step.step.step.enter.ok.less (by omega))⟩
theorem fold_ok (hr : RecOk rec) (j : Nat) : ∀ (cs : List Call9) (w : W9), w.s ≤ (cs.foldl (callF many rec j) w).s ∧ ∀ n, WOk n w → WOk n (cs.foldl (callF many rec j) w)
  | [], w => ⟨Nat.le_refl _, fun _ h => h⟩
  | c :: cs, w => by
    have a := callF_ok (many := many) hr j w c
    have b := fold_ok hr j cs (callF many rec j w c)
    exact ⟨Nat.le_trans a.1 b.1, fun n h => b.2 n (a.2 n h)⟩
theorem walkF_ok {css : List (List Call9)} : ∀ d, RecOk (walkF many css d)
  | 0 => fun k w => ⟨Nat.le_refl _, fun _ h => h⟩
  | d + 1 => fun k w => by
    have q := fold_ok (many := many) (walkF_ok (css := css) d) k (css.getD k []) w
    exact ⟨Nat.le_succ_of_le q.1, fun n h => (q.2 n h).step⟩
end
/-! the calls on the heap -/
def CallsAt (H : Hp) (cl : Addr) (css : List (List Call9)) : Prop := ∃ lv, H cl = some (.lst lv) ∧ At IsCalls H css lv
theorem run_ne {α : Type} {R : Hp → α → V → Prop} {H : Hp} {xs : List α} {lv : List V} {r a : Addr} {s : Nat} {ev : List (Nat × Nat)} {dn : List Call9} (hR : ∀ x v, R H x v → ∃ b, v = .ref b) (rr : RunAt H r s ev dn) (ha : H a = some (.lst lv)) (h : At R H xs lv) : a ≠ r := fun e => by
  obtain ⟨le, lev, ld, ldv, h1, _⟩ := rr
  rw [e, h1] at ha
  have e2 : [V.int s, .ref le, .ref ld] = lv := HO.lst.inj (Option.some.inj ha)
  subst e2
  obtain ⟨x, _, hx⟩ := h.2 0 (.int s) rfl
  obtain ⟨b, z⟩ := hR _ _ hx
  cases z
theorem RunAt.tu {H H' : Hp} {r : Addr} {s : Nat} {ev : List (Nat × Nat)} {dn : List Call9} (rr : RunAt H r s ev dn) (k : Fk r H H') : Tu H H' := by
  obtain ⟨le, lev, ld, ldv, h1, _⟩ := rr
  exact Fk.tu k h1
theorem IsCalls.fk {H H' : Hp} {r : Addr} {s : Nat} {ev : List (Nat × Nat)} {dn : List Call9} (rr : RunAt H r s ev dn) (k : Fk r H H') {cs : List Call9} {v : V} (h : IsCalls H cs v) : IsCalls H' cs v := by
  obtain ⟨b, us, e, h1, h2⟩ := h
  exact ⟨b, us, e, k _ _ (run_ne (fun _ _ h => let ⟨a, e, _⟩ := h; ⟨a, e⟩) rr h1 h2) h1, h2.mono fun _ _ => IsCall.mono (rr.tu k)⟩
theorem CallsAt.fk {H H' : Hp} {r cl : Addr} {s : Nat} {ev : List (Nat × Nat)} {dn : List Call9} {css : List (List Call9)} (rr : RunAt H r s ev dn) (k : Fk r H H') (h : CallsAt H cl css) : CallsAt H' cl css := by
  obtain ⟨lv, h1, h2⟩ := h
  exact ⟨lv, k _ _ (run_ne (fun _ _ h => let ⟨a, _, e, _⟩ := h; ⟨a, e⟩) rr h1 h2) h1, h2.mono fun _ _ => IsCalls.fk rr k⟩
/-! ("single", n) in run[2] -/
def callD (c : Call9) : PyData := .tuple [.str c.1.s, .int c.2]
theorem way_inj {a b : Way9} (h : a.s = b.s) : a = b := by
  revert h
  cases a <;> cases b <;> decide
theorem callD_eqv (c d : Call9) : PyData.eqv (callD c) (callD d) = decide (c = d) := by
  obtain ⟨a, i⟩ := c
  obtain ⟨b, j⟩ := d
  have e : PyData.eqv (callD (a, i)) (callD (b, j)) = ((a.s == b.s) && (((i : Int) == (j : Int)) && true)) := by simp only [callD, PyData.eqv, PyData.eqvAll]
  rw [e]
  by_cases h1 : a = b
  · by_cases h2 : i = j
    · rw [h1, h2]
      simp
    · have q : ((i : Int) == (j : Int)) = false := beq_eq_false_iff_ne.mpr (by omega)
      rw [q, Bool.false_and, Bool.and_false, decide_eq_false fun z => h2 (Prod.mk.inj z).2]
  · have q : (a.s == b.s) = false := beq_eq_false_iff_ne.mpr fun z => h1 (way_inj z)
    rw [q, Bool.false_and, decide_eq_false fun z => h1 (Prod.mk.inj z).1]
theorem callD_any (c : Call9) : ∀ dn : List Call9, ((dn.map callD).any fun z => PyData.eqv z (callD c)) = decide (c ∈ dn)
  | [] => by simp
  | d :: dn => by
    rw [List.map_cons, List.any_cons, callD_eqv, callD_any c dn]
    by_cases h : d = c
    · subst h
      simp
    · rw [decide_eq_false h, Bool.false_or]
      have z : c ≠ d := fun e => h e.symm
      simp [z]
theorem way_ok (a : Way9) : PyData.strOk a.s = true := by
  cases a <;> decide +kernel
theorem callD_shaped (c : Call9) : SeqAt.shaped (callD c) = true := by
  have hd : (callD c).depth = 1 := by simp [callD, PyData.depth, PyData.depthAll]
  have hl : (callD c).canLay0 = true := by simp [callD, PyData.canLay0, PyData.canLayAll0, way_ok]
  show ((callD c).canLay0 && decide ((callD c).depth ≤ 64)) = true
  rw [Bool.and_eq_true]
  exact ⟨hl, decide_eq_true (by omega)⟩
theorem callDs_lay : ∀ dn : List Call9, PyData.canLayAll0 (dn.map callD) = true
  | [] => by simp [PyData.canLayAll0]
  | c :: dn => by
    have hl : (callD c).canLay0 = true := by simp [callD, PyData.canLay0, PyData.canLayAll0, way_ok]
    simp [PyData.canLayAll0, hl, callDs_lay dn]
theorem callDs_depth : ∀ dn : List Call9, PyData.depthAll (dn.map callD) ≤ 1
  | [] => by simp [PyData.depthAll]
  | c :: dn => by
    have h1 := callDs_depth dn
    have h2 : (callD c).depth = 1 := by simp [callD, PyData.depth, PyData.depthAll]
    simp only [List.map_cons, PyData.depthAll]
    omega
theorem callDs_shaped (dn : List Call9) : SeqAt.shaped (.list (dn.map callD)) = true := by
  have h1 := callDs_depth dn
  have h2 : PyData.depth (.list (dn.map callD)) ≤ 64 := by
    simp only [PyData.depth]
    omega
  show (PyData.canLay0 (.list (dn.map callD)) && decide (PyData.depth (.list (dn.map callD)) ≤ 64)) = true
  rw [Bool.and_eq_true]
  exact ⟨by simp only [PyData.canLay0]; exact callDs_lay dn, decide_eq_true h2⟩
theorem At.dp {α : Type} {R : Hp → α → V → Prop} {K : PySem.W.Frag} {H : Hp} {f : α → PyData} (hR : ∀ x v, R H x v → Dp K H v (f x)) : ∀ {xs : List α} {vs : List V}, At R H xs vs → DpAll K H vs (xs.map f)
  | [], [], _ => .nil
  | [], v :: vs, h => by have := h.1; simp at this
  | x :: xs, [], h => by have := h.1; simp at this
  | x :: xs, v :: vs, h => by
    obtain ⟨y, e, hy⟩ := h.2 0 v rfl
    have e2 : x = y := Option.some.inj e
    subst e2
    refine .cons (hR _ _ hy) (At.dp hR ⟨Nat.succ.inj h.1, fun i u e => ?_⟩)
    obtain ⟨z, e3, hz⟩ := h.2 (i + 1) u e
    exact ⟨z, e3, hz⟩
theorem call_dp {K : PySem.W.Frag} {H : Hp} (c : Call9) (v : V) (h : IsCall H c v) : Dp K H v (callD c) := by
  obtain ⟨a, rfl, ha⟩ := h
  exact .tup (SqT.of ha) (.cons (.str _) (.cons (.int _) .nil))
end K9
end
section
set_option Elab.async false
set_option linter.all false
set_option maxRecDepth 100000
set_option maxHeartbeats 4000000
namespace K9
open PySem PySem.Spec PyProof.Rows L2
theorem sc__law_walk : FnScope ["_law_run", "_law_calls_here", "_law_many", "_law_number", "_law_way", "_law_other"] ["_law_run", "_law_calls_here", "_law_many", "_law_number"] (defScope s__law_walk) := ⟨rfl, rfl, rfl, by decide +kernel, rfl, by decide +kernel, by decide +kernel⟩
theorem units65 {k : Nat} {A : Around} (r : Room k A) : A.units + 65 < cLine := by
  have := r.un
  omega
theorem RunAt.same {H H' : Hp} {r : Addr} {s : Nat} {ev : List (Nat × Nat)} {dn : List Call9} (e : Same H H') (h : RunAt H r s ev dn) : RunAt H' r s ev dn := by
  obtain ⟨le, lev, ld, ldv, h1, m1, m2, h2, a2, h3, a3⟩ := h
  exact ⟨le, lev, ld, ldv, e _ _ h1, m1, m2, e _ _ h2, a2.mono fun _ _ => IsEv.mono (Tu.same e), e _ _ h3, a3.mono fun _ _ => IsCall.mono (Tu.same e)⟩
theorem WOk.zero {c : Nat} {w : W9} (h : WOk c w) : WOk 0 w := h.less (Nat.zero_le _)
abbrev RW (H : Hp) (r : Addr) (w : W9) : Prop := RunAt H r w.s w.ev w.dn
def spWalk (d : Nat) : Sp := fun vs H Q _ => ∃ (r cl : Addr) (w : W9) (css : List (List Call9)) (many j : Nat), vs = [.ref r, .ref cl, .int many, .int j] ∧ RW H r w ∧ CallsAt H cl css ∧ css.length = many + 1 ∧ many ≤ 6 ∧ j ≤ many ∧ many - j < d ∧
  (∀ j, ∀ c ∈ css.getD j [], j < c.2 ∧ c.2 ≤ many) ∧ WOk 0 w ∧ (walkF many css d j w).s ≤ 50000 ∧ ∀ H', Fk r H H' → RW H' r (walkF many css d j w) → Q .non H'
section
variable {P : Program} {w : World} {K : PySem.W.Frag} {mg : Str → Option Value} {base : Heap} {f : Addr} {fd : FuncData}
theorem ok_walk (F : Fun K "_law_walk" "_law_walk" s__law_walk f fd) (hg : mg "_law_walk" = some (.ref f)) (hk : PySem.W.keepIn K (.ref f) = true) (hb : Binds K fd ["_law_run", "_law_calls_here", "_law_many", "_law_number"] [])
    (D1 : Dn P w K mg base CX0 "_law_step" 1 1 spStep) (D2 : Dn P w K mg base CX0 "_law_enter" 1 2 spEnter) (D3 : Dn P w K mg base CX0 "_law_fresh" 2 2 spFresh) :
    ∀ d, FnOk P w K mg base CX0 (d + 3) f fd ["_law_run", "_law_calls_here", "_law_many", "_law_number"] (spWalk d)
  | 0 => by
    refine F.ok sc__law_walk (fun vs H Q E h => ?_) (fun cdv A outer s H vs Q E hr h => ?_)
    · obtain ⟨r, cl, w, css, many, j, rfl, _⟩ := h
      rfl
    · obtain ⟨r, cl, w, css, many, j, rfl, _, _, _, _, _, h, _⟩ := h
      exact absurd h (Nat.not_lt_zero _)
  | d + 1 => by
    have D4 : Dn P w K mg base CX0 "_law_walk" (d + 3) 4 (spWalk d) := ⟨f, fd, _, rfl, hg, hk, hb, ok_walk F hg hk hb D1 D2 D3 d⟩
    refine F.ok sc__law_walk (fun vs H Q E h => ?_) (fun cdv A outer s H vs Q E hr h => ?_)
    · obtain ⟨r, cl, w, css, many, j, rfl, _⟩ := h
      rfl
    · obtain ⟨r, cl, w0, css, many, j, rfl, hR, hC, hlen, hm, hj, hd, hnum, hW, hS, q⟩ := h
      refine ⟨_, (pss_cons (ps_for PassesOwn.never rfl (pi_list (pe_ix ix_list (pv 1) (pv 3) (fun _ _ => rfl))) (pg_tup rfl (pgs_cons (pg_name (i := 4) sc__law_walk.nd rfl (.inl rfl)) (pgs_cons (pg_name (i := 5) sc__law_walk.nd rfl (.inl rfl)) pgs_nil))) (pss_cons (ps_expr (pe_dn D1 (hr.mono (by omega)) pass0 (pa_cons (pv 0) pa_nil)))
      (pss_cons (ps_expr (pe_dn D1 (hr.mono (by omega)) pass0 (pa_cons (pv 0) pa_nil)))
      (pss_cons (ps_if (pt_cmpR op_in_seq (pv 4) (pe_tup (pa_cons pe_str (pa_cons pe_str pa_nil))) (by with_unfolding_all rfl)) (pss_cons (ps_if (pt_cmpR (op_inD (units65 hr)) (pe_tup (pa_cons (pv 4) (pa_cons (pv 5) pa_nil))) (pe_ix ix_list (pv 0) pe_int (fun _ _ => rfl)) (by with_unfolding_all rfl)) (pss_one ps_continue) pss_nil)
      (pss_cons (ps_expr (pe_dn D2 (hr.mono (by omega)) pass0 (pa_cons (pv 0) (pa_cons (pe_op op_add (pv 2) (pv 5)) pa_nil))))
      (pss_cons (ps_expr (pe_dn D1 (hr.mono (by omega)) pass0 (pa_cons (pv 0) pa_nil)))
      (pss_one (ps_expr (pe_dn D3 (hr.mono (by omega)) pass0 (pa_cons (pv 0) (pa_cons (pv 2) pa_nil)))))))) (pss_one (ps_if (PW.pt (pw_and (pt_cmpR op_ne (pv 4) pe_str (nomark _)) (pw_and1 (pt_cmpR op_eq (pv 3) pe_int (nomark _))))) (pss_one (ps_expr (pe_dn D3 (hr.mono (by omega)) pass0 (pa_cons (pv 0) (pa_cons (pv 2) pa_nil))))) (pss_one (ps_if (pt_cmpR op_ne (pv 4) pe_str (nomark _)) (pss_one (ps_expr (pe_dn D1 (hr.mono (by omega)) pass0 (pa_cons (pv 0) pa_nil)))) pss_nil)))))
      (pss_cons (ps_expr (pe_dn D2 (hr.mono (by omega)) pass0 (pa_cons (pv 0) (pa_cons (pv 5) pa_nil))))
      (pss_cons (ps_expr (pe_dn D4 (hr.mono (by omega)) pass0 (pa_cons (pv 0) (pa_cons (pv 1) (pa_cons (pv 2) (pa_cons (pv 5) pa_nil))))))
      (pss_one (ps_if (pt_cmpR op_in_seq (pv 4) (pe_tup (pa_cons pe_str (pa_cons pe_str pa_nil))) (by with_unfolding_all rfl)) (pss_one (ps_asg (pe_op op_cat (pe_ix ix_list (pv 0) pe_int (fun _ _ => rfl)) (pe_lst (pa_cons (pe_tup (pa_cons (pv 4) (pa_cons (pv 5) pa_nil))) pa_nil))) (pg_sub (pv 0) pe_int set_list))) pss_nil))))))))
      (pss_one (ps_expr (pe_dn D1 (hr.mono (by omega)) pass0 (pa_cons (pv 0) pa_nil))))), ?_⟩
      obtain ⟨lv, hcl, hA⟩ := id hC
      have hj' : j < css.length := by omega
      obtain ⟨cv, hcv, b, us, rfl, hb1, hb2⟩ := hA.get (List.getElem?_eq_getElem hj')
      have ej : css.getD j [] = css[j] := by rw [List.getD_eq_getElem?_getD, List.getElem?_eq_getElem hj']; rfl
      rw [← ej] at hb2
      generalize hcs : css.getD j [] = cs at *
      have hrec : RecOk (walkF many css d) := walkF_ok d
      have wf : walkF many css (d + 1) j w0 = (cs.foldl (callF many (walkF many css d) j) w0).step := by
        show listF many (walkF many css d) j w0 (css.getD j []) = _
        rw [hcs]
        rfl
      have bne : b ≠ r := run_ne (fun _ _ h => let ⟨a, e, _⟩ := h; ⟨a, e⟩) hR hb1 hb2
      refine ⟨_, rfl, _, rfl, cl, lv, _, .ref b, rfl, rfl, SqL.of hcl, atI_nat hcv, b, rfl, ⟨_, SqL.of hb1⟩, for_it (walk_list (xs := us)) (fun i σ H3 => ∃ u4 u5, σ = [some (.ref r), some (.ref cl), some (.int many), some (.int j), u4, u5] ∧ Fk r H H3 ∧ RW H3 r ((cs.take i).foldl (callF many (walkF many css d) j) w0)) ⟨_, _, rfl, Fk.same (Same.refl _), hR⟩ (fun i σ H3 _ h3 => ?_) (fun i x σ H3 H4 hi h3 hy => ?_) (fun σ H3 h3 => ?_)⟩
      · obtain ⟨_, _, _, k3, _⟩ := h3
        exact SqL.of (k3 _ _ bne hb1)
      · obtain ⟨u4, u5, rfl, kH, r3⟩ := h3
        obtain ⟨rfl, hx⟩ := hy
        obtain ⟨⟨wy, k⟩, hc, ca, rfl, hca⟩ := hb2.2 i x hx
        have hfold : (cs.take (i + 1)).foldl (callF many (walkF many css d) j) w0 = callF many (walkF many css d) j ((cs.take i).foldl (callF many (walkF many css d) j) w0) (wy, k) := by
          rw [List.take_succ, hc, List.foldl_append]
          rfl
        have hWk : WOk 0 ((cs.take i).foldl (callF many (walkF many css d) j) w0) := (fold_ok hrec j (cs.take i) w0).2 0 hW
        have hbnd : (callF many (walkF many css d) j ((cs.take i).foldl (callF many (walkF many css d) j) w0) (wy, k)).s ≤ 50000 := by
          have z := (fold_ok (many := many) hrec j (cs.drop (i + 1)) ((cs.take (i + 1)).foldl (callF many (walkF many css d) j) w0)).1
          rw [← List.foldl_append, List.take_append_drop, hfold] at z
          rw [wf] at hS
          have hS' : (cs.foldl (callF many (walkF many css d) j) w0).s + 1 ≤ 50000 := hS
          omega
        have hk := hnum j (wy, k) (by rw [hcs]; exact List.mem_of_getElem? hc)
        have hk1 : j < k := hk.1
        have hk2 : k ≤ many := hk.2
        generalize (cs.take i).foldl (callF many (walkF many css d) j) w0 = w at *
        have hups := (callF_ok (many := many) hrec j w (wy, k)).1
        refine ⟨ca, _, rfl, SqT.of (kH _ _ (fun e => by
          obtain ⟨le, lev, ld, ldv, z, _⟩ := hR
          rw [e, z] at hca
          cases hca) hca), rfl, _, _, rfl, _, _, rfl, rfl, ?_⟩
        refine ⟨_, rfl, r, _, _, _, rfl, r3, fun H1 k01 r1 => ?_⟩
        refine ⟨_, rfl, r, _, _, _, rfl, r1, fun H2 k02 r2 => ?_⟩
        have k34 := k01.trans k02
        have k12 : Fk r H2 H2 := Fk.same (Same.refl _)
        cases wy with
        | dir =>
          refine ⟨_, rfl, (by show 2 ≤ sizeLine; decide), fun t1 n1 => ⟨t1, _, rfl, .inr (SqT.of upd_same), rfl, rfl, _, rfl, iteF ?_⟩⟩
          have f1 := same_new (o := .tup [V.str "single", V.str "other"]) n1
          have p1 := RunAt.same f1 r2
          generalize upd H2 t1 (.tup [V.str "single", V.str "other"]) = H3a at f1 p1 ⊢
          have k1' := k12.trans (Fk.same f1)
          have evl : w.ev.length ≤ w.s + 1 := hWk.1
          by_cases hj0 : j = 0
          · subst hj0
            have ec : callF many (walkF many css d) 0 w (.dir, k) = walkF many css d k ((w.step.step.fresh many).enter k) := rfl
            refine ⟨_, rfl, rfl, _, rfl, iteT ⟨_, rfl, rfl, _, rfl, iteT ?_⟩⟩
            refine ⟨_, rfl, _, rfl, r, _, _, _, many, rfl, p1, by omega, fun H5 k5 r5 => ?_⟩
            have z5 : (w.step.step.fresh many).ev.length ≤ 100000 := by show (w.ev ++ [(_, _)]).length ≤ _; rw [List.length_append, List.length_singleton]; omega
            replace k5 := k1'.trans k5
            have oE : WOk 0 ((w.step.step.fresh many).enter k) := hWk.s0.step.step.fresh.enter.ok.zero
            have okb : (walkF many css d k ((w.step.step.fresh many).enter k)).s ≤ 50000 := by
              have z := hbnd
              rw [ec] at z
              exact z
            refine ⟨_, rfl, _, rfl, r, _, _, _, k, rfl, r5, z5, fun H8 k8 r8 => ?_⟩
            have k28 := k5.trans k8
            refine ⟨_, rfl, _, rfl, _, rfl, _, rfl, r, cl, (w.step.step.fresh many).enter k, css, many, k, rfl, r8, CallsAt.fk hR (kH.trans (k34.trans k28)) hC, hlen, hm, hk2, by omega, hnum, oE, okb, fun H9 k9 r9 => ?_⟩
            have k29 := k28.trans k9
            refine ⟨_, rfl, (by show 2 ≤ sizeLine; decide), fun t3 n3 => ⟨t3, _, rfl, .inr (SqT.of upd_same), rfl, rfl, _, rfl, iteF ?_⟩⟩
            have f3 := same_new (o := .tup [V.str "single", V.str "other"]) n3
            have p3 := RunAt.same f3 r9
            refine ⟨_, _, rfl, kH.trans (k34.trans (k29.trans (Fk.same f3))), ?_⟩
            rw [hfold, ec]
            exact p3
          · have ec : callF many (walkF many css d) j w (.dir, k) = walkF many css d k ((w.step.step.step).enter k) := by
              unfold callF
              simp only [Way9.isS, Bool.false_eq_true, if_false, reduceCtorEq, hj0]
            refine ⟨_, rfl, rfl, _, rfl, iteT ⟨_, rfl, rfl, _, rfl, ite2 (fun e => absurd (V.int.inj (of_decide_eq_true e)) (by omega)) (fun _ => ?_)⟩⟩
            refine ⟨_, rfl, rfl, _, rfl, iteT ?_⟩
            refine ⟨_, rfl, r, _, _, _, rfl, p1, fun H5 k5 r5 => ?_⟩
            have z5 : (w.step.step.step).ev.length ≤ 100000 := by show w.ev.length ≤ _; omega
            replace k5 := k1'.trans k5
            have oE : WOk 0 ((w.step.step.step).enter k) := hWk.s0.step.step.step.enter.ok.zero
            have okb : (walkF many css d k ((w.step.step.step).enter k)).s ≤ 50000 := by
              have z := hbnd
              rw [ec] at z
              exact z
            refine ⟨_, rfl, _, rfl, r, _, _, _, k, rfl, r5, z5, fun H8 k8 r8 => ?_⟩
            have k28 := k5.trans k8
            refine ⟨_, rfl, _, rfl, _, rfl, _, rfl, r, cl, (w.step.step.step).enter k, css, many, k, rfl, r8, CallsAt.fk hR (kH.trans (k34.trans k28)) hC, hlen, hm, hk2, by omega, hnum, oE, okb, fun H9 k9 r9 => ?_⟩
            have k29 := k28.trans k9
            refine ⟨_, rfl, (by show 2 ≤ sizeLine; decide), fun t3 n3 => ⟨t3, _, rfl, .inr (SqT.of upd_same), rfl, rfl, _, rfl, iteF ?_⟩⟩
            have f3 := same_new (o := .tup [V.str "single", V.str "other"]) n3
            have p3 := RunAt.same f3 r9
            refine ⟨_, _, rfl, kH.trans (k34.trans (k29.trans (Fk.same f3))), ?_⟩
            rw [hfold, ec]
            exact p3
        | snd =>
          refine ⟨_, rfl, (by show 2 ≤ sizeLine; decide), fun t1 n1 => ⟨t1, _, rfl, .inr (SqT.of upd_same), rfl, rfl, _, rfl, iteF ?_⟩⟩
          have f1 := same_new (o := .tup [V.str "single", V.str "other"]) n1
          have p1 := RunAt.same f1 r2
          generalize upd H2 t1 (.tup [V.str "single", V.str "other"]) = H3a at f1 p1 ⊢
          have k1' := k12.trans (Fk.same f1)
          have evl : w.ev.length ≤ w.s + 1 := hWk.1
          by_cases hj0 : j = 0
          · subst hj0
            have ec : callF many (walkF many css d) 0 w (.snd, k) = walkF many css d k ((w.step.step.fresh many).enter k) := rfl
            refine ⟨_, rfl, rfl, _, rfl, iteT ⟨_, rfl, rfl, _, rfl, iteT ?_⟩⟩
            refine ⟨_, rfl, _, rfl, r, _, _, _, many, rfl, p1, by omega, fun H5 k5 r5 => ?_⟩
            have z5 : (w.step.step.fresh many).ev.length ≤ 100000 := by show (w.ev ++ [(_, _)]).length ≤ _; rw [List.length_append, List.length_singleton]; omega
            replace k5 := k1'.trans k5
            have oE : WOk 0 ((w.step.step.fresh many).enter k) := hWk.s0.step.step.fresh.enter.ok.zero
            have okb : (walkF many css d k ((w.step.step.fresh many).enter k)).s ≤ 50000 := by
              have z := hbnd
              rw [ec] at z
              exact z
            refine ⟨_, rfl, _, rfl, r, _, _, _, k, rfl, r5, z5, fun H8 k8 r8 => ?_⟩
            have k28 := k5.trans k8
            refine ⟨_, rfl, _, rfl, _, rfl, _, rfl, r, cl, (w.step.step.fresh many).enter k, css, many, k, rfl, r8, CallsAt.fk hR (kH.trans (k34.trans k28)) hC, hlen, hm, hk2, by omega, hnum, oE, okb, fun H9 k9 r9 => ?_⟩
            have k29 := k28.trans k9
            refine ⟨_, rfl, (by show 2 ≤ sizeLine; decide), fun t3 n3 => ⟨t3, _, rfl, .inr (SqT.of upd_same), rfl, rfl, _, rfl, iteF ?_⟩⟩
            have f3 := same_new (o := .tup [V.str "single", V.str "other"]) n3
            have p3 := RunAt.same f3 r9
            refine ⟨_, _, rfl, kH.trans (k34.trans (k29.trans (Fk.same f3))), ?_⟩
            rw [hfold, ec]
            exact p3
          · have ec : callF many (walkF many css d) j w (.snd, k) = walkF many css d k ((w.step.step.step).enter k) := by
              unfold callF
              simp only [Way9.isS, Bool.false_eq_true, if_false, reduceCtorEq, hj0]
            refine ⟨_, rfl, rfl, _, rfl, iteT ⟨_, rfl, rfl, _, rfl, ite2 (fun e => absurd (V.int.inj (of_decide_eq_true e)) (by omega)) (fun _ => ?_)⟩⟩
            refine ⟨_, rfl, rfl, _, rfl, iteT ?_⟩
            refine ⟨_, rfl, r, _, _, _, rfl, p1, fun H5 k5 r5 => ?_⟩
            have z5 : (w.step.step.step).ev.length ≤ 100000 := by show w.ev.length ≤ _; omega
            replace k5 := k1'.trans k5
            have oE : WOk 0 ((w.step.step.step).enter k) := hWk.s0.step.step.step.enter.ok.zero
            have okb : (walkF many css d k ((w.step.step.step).enter k)).s ≤ 50000 := by
              have z := hbnd
              rw [ec] at z
              exact z
            refine ⟨_, rfl, _, rfl, r, _, _, _, k, rfl, r5, z5, fun H8 k8 r8 => ?_⟩
            have k28 := k5.trans k8
            refine ⟨_, rfl, _, rfl, _, rfl, _, rfl, r, cl, (w.step.step.step).enter k, css, many, k, rfl, r8, CallsAt.fk hR (kH.trans (k34.trans k28)) hC, hlen, hm, hk2, by omega, hnum, oE, okb, fun H9 k9 r9 => ?_⟩
            have k29 := k28.trans k9
            refine ⟨_, rfl, (by show 2 ≤ sizeLine; decide), fun t3 n3 => ⟨t3, _, rfl, .inr (SqT.of upd_same), rfl, rfl, _, rfl, iteF ?_⟩⟩
            have f3 := same_new (o := .tup [V.str "single", V.str "other"]) n3
            have p3 := RunAt.same f3 r9
            refine ⟨_, _, rfl, kH.trans (k34.trans (k29.trans (Fk.same f3))), ?_⟩
            rw [hfold, ec]
            exact p3
        | mak =>
          refine ⟨_, rfl, (by show 2 ≤ sizeLine; decide), fun t1 n1 => ⟨t1, _, rfl, .inr (SqT.of upd_same), rfl, rfl, _, rfl, iteF ?_⟩⟩
          have f1 := same_new (o := .tup [V.str "single", V.str "other"]) n1
          have p1 := RunAt.same f1 r2
          generalize upd H2 t1 (.tup [V.str "single", V.str "other"]) = H3a at f1 p1 ⊢
          have k1' := k12.trans (Fk.same f1)
          have evl : w.ev.length ≤ w.s + 1 := hWk.1
          have ec : callF many (walkF many css d) j w (.mak, k) = walkF many css d k ((w.step.step).enter k) := rfl
          refine ⟨_, rfl, rfl, _, rfl, iteF ⟨_, rfl, rfl, _, rfl, iteF ?_⟩⟩
          have z5 : (w.step.step).ev.length ≤ 100000 := by show w.ev.length ≤ _; omega
          have k5 := k1'
          have r5 := p1
          have oE : WOk 0 ((w.step.step).enter k) := hWk.s0.step.step.enter.ok.zero
          have okb : (walkF many css d k ((w.step.step).enter k)).s ≤ 50000 := by
            have z := hbnd
            rw [ec] at z
            exact z
          refine ⟨_, rfl, _, rfl, r, _, _, _, k, rfl, r5, z5, fun H8 k8 r8 => ?_⟩
          have k28 := k5.trans k8
          refine ⟨_, rfl, _, rfl, _, rfl, _, rfl, r, cl, (w.step.step).enter k, css, many, k, rfl, r8, CallsAt.fk hR (kH.trans (k34.trans k28)) hC, hlen, hm, hk2, by omega, hnum, oE, okb, fun H9 k9 r9 => ?_⟩
          have k29 := k28.trans k9
          refine ⟨_, rfl, (by show 2 ≤ sizeLine; decide), fun t3 n3 => ⟨t3, _, rfl, .inr (SqT.of upd_same), rfl, rfl, _, rfl, iteF ?_⟩⟩
          have f3 := same_new (o := .tup [V.str "single", V.str "other"]) n3
          have p3 := RunAt.same f3 r9
          refine ⟨_, _, rfl, kH.trans (k34.trans (k29.trans (Fk.same f3))), ?_⟩
          rw [hfold, ec]
          exact p3
        | sgl =>
          refine ⟨_, rfl, (by show 2 ≤ sizeLine; decide), fun t1 n1 => ⟨t1, _, rfl, .inr (SqT.of upd_same), rfl, rfl, _, rfl, iteT ?_⟩⟩
          have f1 := same_new (o := .tup [V.str "single", V.str "other"]) n1
          have p1 := RunAt.same f1 r2
          generalize upd H2 t1 (.tup [V.str "single", V.str "other"]) = H3a at f1 p1 ⊢
          have k1' := k12.trans (Fk.same f1)
          refine ⟨_, rfl, _, rfl, (by show 2 ≤ sizeLine; decide), fun t2 n2 => ?_⟩
          have f2 := same_new (o := .tup [V.str (Way9.sgl, k).1.s, V.int ((Way9.sgl, k).2 : Int)]) n2
          have g2 : upd H3a t2 (.tup [V.str (Way9.sgl, k).1.s, V.int ((Way9.sgl, k).2 : Int)]) t2 = some (.tup [V.str (Way9.sgl, k).1.s, V.int ((Way9.sgl, k).2 : Int)]) := upd_same
          have p2 := RunAt.same f2 p1
          have k2' := k1'.trans (Fk.same f2)
          generalize upd H3a t2 (.tup [V.str (Way9.sgl, k).1.s, V.int ((Way9.sgl, k).2 : Int)]) = H4a at f2 g2 p2 k2' ⊢
          obtain ⟨le, lev, ld, ldv, h1, m1, m2, h2, a2, h3, a3⟩ := id p2
          refine ⟨_, rfl, r, _, _, .ref ld, rfl, rfl, SqL.of h1, rfl, callD (.sgl, k), (w.dn).map callD, call_dp (.sgl, k) _ ⟨t2, rfl, g2⟩, .lst (SqL.of h3) (At.dp call_dp a3), callD_shaped _, callDs_shaped _, _, rfl, ?_⟩
          rw [callD_any]
          by_cases hin : (Way9.sgl, k) ∈ w.dn
          · have ec : callF many (walkF many css d) j w (.sgl, k) = w.step.step := by
              unfold callF
              have hin' : (Way9.sgl, k) ∈ w.step.step.dn := hin
              simp only [Way9.isS, if_true]
              rw [if_pos hin']
            rw [decide_eq_true hin]
            refine iteT ?_
            refine ⟨_, _, rfl, kH.trans (k34.trans k2'), ?_⟩
            rw [hfold, ec]
            exact p2
          · have ec : callF many (walkF many css d) j w (.sgl, k) = { walkF many css d k ((((w.step.step.enter (many + k)).step).fresh many).enter k) with dn := (walkF many css d k ((((w.step.step.enter (many + k)).step).fresh many).enter k)).dn ++ [(.sgl, k)] } := by
              unfold callF
              have hin' : (Way9.sgl, k) ∉ w.step.step.dn := hin
              simp only [Way9.isS, if_true]
              rw [if_neg hin']
            rw [decide_eq_false hin]
            refine iteF ?_
            have okb : (walkF many css d k ((((w.step.step.enter (many + k)).step).fresh many).enter k)).s ≤ 50000 := by
              have z := hbnd
              rw [ec] at z
              exact z
            have up := (hrec k ((((w.step.step.enter (many + k)).step).fresh many).enter k)).1
            have w5 : ((((w.step.step.enter (many + k)).step).fresh many).enter k).s = w.s + 5 := rfl
            have okE : WOk 3 ((((w.step.step.enter (many + k)).step).fresh many).enter k) := (hWk.s0.step.step.enter.step.fresh.enter.ok)
            have evl : w.ev.length ≤ w.s + 1 := hWk.1
            have hz0 : w.ev.length ≤ 100000 := by omega
            refine ⟨_, rfl, _, rfl, _, rfl, _, _, rfl, rfl, r, w.s + 2, w.ev, w.dn, many + k, rfl, p2, hz0, fun H5 k5 r5 => ?_⟩
            refine ⟨_, rfl, r, _, _, _, rfl, r5, fun H6 k6 r6 => ?_⟩
            refine ⟨_, rfl, _, rfl, r, _, _, _, many, rfl, r6, by rw [List.length_append, List.length_singleton]; omega, fun H7 k7 r7 => ?_⟩
            have k27 := ((k2'.trans k5).trans k6).trans k7
            refine ⟨_, rfl, _, rfl, r, _, _, _, k, rfl, r7, by rw [List.length_append, List.length_append, List.length_singleton, List.length_singleton]; omega, fun H8 k8 r8 => ?_⟩
            have k28 := k27.trans k8
            refine ⟨_, rfl, _, rfl, _, rfl, _, rfl, r, cl, (((w.step.step.enter (many + k)).step).fresh many).enter k, css, many, k, rfl, r8, CallsAt.fk hR (kH.trans (k34.trans k28)) hC, hlen, hm, hk2, by omega, hnum, okE.less (Nat.zero_le _), okb, fun H9 k9 r9 => ?_⟩
            have okF := (hrec k ((((w.step.step.enter (many + k)).step).fresh many).enter k)).2 3 okE
            generalize hw9 : walkF many css d k ((((w.step.step.enter (many + k)).step).fresh many).enter k) = w9 at *
            have k29 := k28.trans k9
            refine ⟨_, rfl, (by show 2 ≤ sizeLine; decide), fun t3 n3 => ⟨t3, _, rfl, .inr (SqT.of upd_same), rfl, rfl, _, rfl, iteT ?_⟩⟩
            have f3 := same_new (o := .tup [V.str "single", V.str "other"]) n3
            have p3 := RunAt.same f3 r9
            generalize upd H9 t3 (.tup [V.str "single", V.str "other"]) = H10 at f3 p3 ⊢
            have k2a := k29.trans (Fk.same f3)
            obtain ⟨le', lev', ld', ldv', h1', m1', m2', h2', a2', h3', a3'⟩ := id p3
            refine ⟨_, rfl, r, _, _, .ref ld', rfl, rfl, SqL.of h1', rfl, ?_⟩
            refine ⟨_, rfl, _, rfl, (by show 2 ≤ sizeLine; decide), fun t nt => ⟨(by show 1 ≤ sizeLine; decide), fun l nl => ?_⟩⟩
            have e1 := same_new (o := .tup [V.str (Way9.sgl, k).1.s, V.int ((Way9.sgl, k).2 : Int)]) nt
            have g1 : upd H10 t (.tup [V.str (Way9.sgl, k).1.s, V.int ((Way9.sgl, k).2 : Int)]) t = some (.tup [V.str (Way9.sgl, k).1.s, V.int ((Way9.sgl, k).2 : Int)]) := upd_same
            generalize upd H10 t (.tup [V.str (Way9.sgl, k).1.s, V.int ((Way9.sgl, k).2 : Int)]) = H11 at e1 g1 nl ⊢
            have e2 := same_new (o := .lst [V.ref t]) nl
            have g2 : upd H11 l (.lst [V.ref t]) l = some (.lst [V.ref t]) := upd_same
            generalize upd H11 l (.lst [V.ref t]) = H12 at e2 g2 ⊢
            have s2 := e1.trans e2
            have dl : ldv'.length ≤ 100000 := by
              rw [a3'.1]
              have := okF.1
              have := okF.2
              omega
            refine ⟨ld', l, ldv', _, rfl, rfl, s2 _ _ h3', g2, Nat.le_trans (Nat.add_le_add_right dl 1) (by decide), fun l2 nl2 => ?_⟩
            have e3 := same_new (o := .lst (ldv' ++ [V.ref t])) nl2
            have g3 : upd H12 l2 (.lst (ldv' ++ [V.ref t])) l2 = some (.lst (ldv' ++ [V.ref t])) := upd_same
            generalize upd H12 l2 (.lst (ldv' ++ [V.ref t])) = H13 at e3 g3 ⊢
            have s3 := s2.trans e3
            have l2r : l2 ≠ r := fun e => by rw [e, s2 _ _ h1'] at nl2; cases nl2
            refine ⟨_, rfl, r, _, 2, 2, rfl, rfl, s3 _ _ h1', rfl, ?_⟩
            have tu : ∀ {o}, Tu H13 (upd H13 r o) := Tu.at (s3 _ _ h1')
            refine ⟨_, _, rfl, kH.trans (k34.trans (k2a.trans ((Fk.same s3).trans Fk.put))), ?_⟩
            rw [hfold, ec]
            refine ⟨le', lev', l2, ldv' ++ [.ref t], upd_same, m1', l2r, (upd_ne m1').trans (s3 _ _ h2'), a2'.mono fun _ _ => IsEv.mono ((Tu.same s3).trans tu), (upd_ne l2r).trans g3, ?_⟩
            exact ((a3'.mono fun _ _ => IsCall.mono (Tu.same s3)).app (At.one (x := (Way9.sgl, k)) ⟨t, rfl, e3 _ _ (e2 _ _ g1)⟩)).mono fun _ _ => IsCall.mono tu
        | oth =>
          refine ⟨_, rfl, (by show 2 ≤ sizeLine; decide), fun t1 n1 => ⟨t1, _, rfl, .inr (SqT.of upd_same), rfl, rfl, _, rfl, iteT ?_⟩⟩
          have f1 := same_new (o := .tup [V.str "single", V.str "other"]) n1
          have p1 := RunAt.same f1 r2
          generalize upd H2 t1 (.tup [V.str "single", V.str "other"]) = H3a at f1 p1 ⊢
          have k1' := k12.trans (Fk.same f1)
          refine ⟨_, rfl, _, rfl, (by show 2 ≤ sizeLine; decide), fun t2 n2 => ?_⟩
          have f2 := same_new (o := .tup [V.str (Way9.oth, k).1.s, V.int ((Way9.oth, k).2 : Int)]) n2
          have g2 : upd H3a t2 (.tup [V.str (Way9.oth, k).1.s, V.int ((Way9.oth, k).2 : Int)]) t2 = some (.tup [V.str (Way9.oth, k).1.s, V.int ((Way9.oth, k).2 : Int)]) := upd_same
          have p2 := RunAt.same f2 p1
          have k2' := k1'.trans (Fk.same f2)
          generalize upd H3a t2 (.tup [V.str (Way9.oth, k).1.s, V.int ((Way9.oth, k).2 : Int)]) = H4a at f2 g2 p2 k2' ⊢
          obtain ⟨le, lev, ld, ldv, h1, m1, m2, h2, a2, h3, a3⟩ := id p2
          refine ⟨_, rfl, r, _, _, .ref ld, rfl, rfl, SqL.of h1, rfl, callD (.oth, k), (w.dn).map callD, call_dp (.oth, k) _ ⟨t2, rfl, g2⟩, .lst (SqL.of h3) (At.dp call_dp a3), callD_shaped _, callDs_shaped _, _, rfl, ?_⟩
          rw [callD_any]
          by_cases hin : (Way9.oth, k) ∈ w.dn
          · have ec : callF many (walkF many css d) j w (.oth, k) = w.step.step := by
              unfold callF
              have hin' : (Way9.oth, k) ∈ w.step.step.dn := hin
              simp only [Way9.isS, if_true]
              rw [if_pos hin']
            rw [decide_eq_true hin]
            refine iteT ?_
            refine ⟨_, _, rfl, kH.trans (k34.trans k2'), ?_⟩
            rw [hfold, ec]
            exact p2
          · have ec : callF many (walkF many css d) j w (.oth, k) = { walkF many css d k ((((w.step.step.enter (many + k)).step).fresh many).enter k) with dn := (walkF many css d k ((((w.step.step.enter (many + k)).step).fresh many).enter k)).dn ++ [(.oth, k)] } := by
              unfold callF
              have hin' : (Way9.oth, k) ∉ w.step.step.dn := hin
              simp only [Way9.isS, if_true]
              rw [if_neg hin']
            rw [decide_eq_false hin]
            refine iteF ?_
            have okb : (walkF many css d k ((((w.step.step.enter (many + k)).step).fresh many).enter k)).s ≤ 50000 := by
              have z := hbnd
              rw [ec] at z
              exact z
            have up := (hrec k ((((w.step.step.enter (many + k)).step).fresh many).enter k)).1
            have w5 : ((((w.step.step.enter (many + k)).step).fresh many).enter k).s = w.s + 5 := rfl
            have okE : WOk 3 ((((w.step.step.enter (many + k)).step).fresh many).enter k) := (hWk.s0.step.step.enter.step.fresh.enter.ok)
            have evl : w.ev.length ≤ w.s + 1 := hWk.1
            have hz0 : w.ev.length ≤ 100000 := by omega
            refine ⟨_, rfl, _, rfl, _, rfl, _, _, rfl, rfl, r, w.s + 2, w.ev, w.dn, many + k, rfl, p2, hz0, fun H5 k5 r5 => ?_⟩
            refine ⟨_, rfl, r, _, _, _, rfl, r5, fun H6 k6 r6 => ?_⟩
            refine ⟨_, rfl, _, rfl, r, _, _, _, many, rfl, r6, by rw [List.length_append, List.length_singleton]; omega, fun H7 k7 r7 => ?_⟩
            have k27 := ((k2'.trans k5).trans k6).trans k7
            refine ⟨_, rfl, _, rfl, r, _, _, _, k, rfl, r7, by rw [List.length_append, List.length_append, List.length_singleton, List.length_singleton]; omega, fun H8 k8 r8 => ?_⟩
            have k28 := k27.trans k8
            refine ⟨_, rfl, _, rfl, _, rfl, _, rfl, r, cl, (((w.step.step.enter (many + k)).step).fresh many).enter k, css, many, k, rfl, r8, CallsAt.fk hR (kH.trans (k34.trans k28)) hC, hlen, hm, hk2, by omega, hnum, okE.less (Nat.zero_le _), okb, fun H9 k9 r9 => ?_⟩
            have okF := (hrec k ((((w.step.step.enter (many + k)).step).fresh many).enter k)).2 3 okE
            generalize hw9 : walkF many css d k ((((w.step.step.enter (many + k)).step).fresh many).enter k) = w9 at *
            have k29 := k28.trans k9
            refine ⟨_, rfl, (by show 2 ≤ sizeLine; decide), fun t3 n3 => ⟨t3, _, rfl, .inr (SqT.of upd_same), rfl, rfl, _, rfl, iteT ?_⟩⟩
            have f3 := same_new (o := .tup [V.str "single", V.str "other"]) n3
            have p3 := RunAt.same f3 r9
            generalize upd H9 t3 (.tup [V.str "single", V.str "other"]) = H10 at f3 p3 ⊢
            have k2a := k29.trans (Fk.same f3)
            obtain ⟨le', lev', ld', ldv', h1', m1', m2', h2', a2', h3', a3'⟩ := id p3
            refine ⟨_, rfl, r, _, _, .ref ld', rfl, rfl, SqL.of h1', rfl, ?_⟩
            refine ⟨_, rfl, _, rfl, (by show 2 ≤ sizeLine; decide), fun t nt => ⟨(by show 1 ≤ sizeLine; decide), fun l nl => ?_⟩⟩
            have e1 := same_new (o := .tup [V.str (Way9.oth, k).1.s, V.int ((Way9.oth, k).2 : Int)]) nt
            have g1 : upd H10 t (.tup [V.str (Way9.oth, k).1.s, V.int ((Way9.oth, k).2 : Int)]) t = some (.tup [V.str (Way9.oth, k).1.s, V.int ((Way9.oth, k).2 : Int)]) := upd_same
            generalize upd H10 t (.tup [V.str (Way9.oth, k).1.s, V.int ((Way9.oth, k).2 : Int)]) = H11 at e1 g1 nl ⊢
            have e2 := same_new (o := .lst [V.ref t]) nl
            have g2 : upd H11 l (.lst [V.ref t]) l = some (.lst [V.ref t]) := upd_same
            generalize upd H11 l (.lst [V.ref t]) = H12 at e2 g2 ⊢
            have s2 := e1.trans e2
            have dl : ldv'.length ≤ 100000 := by
              rw [a3'.1]
              have := okF.1
              have := okF.2
              omega
            refine ⟨ld', l, ldv', _, rfl, rfl, s2 _ _ h3', g2, Nat.le_trans (Nat.add_le_add_right dl 1) (by decide), fun l2 nl2 => ?_⟩
            have e3 := same_new (o := .lst (ldv' ++ [V.ref t])) nl2
            have g3 : upd H12 l2 (.lst (ldv' ++ [V.ref t])) l2 = some (.lst (ldv' ++ [V.ref t])) := upd_same
            generalize upd H12 l2 (.lst (ldv' ++ [V.ref t])) = H13 at e3 g3 ⊢
            have s3 := s2.trans e3
            have l2r : l2 ≠ r := fun e => by rw [e, s2 _ _ h1'] at nl2; cases nl2
            refine ⟨_, rfl, r, _, 2, 2, rfl, rfl, s3 _ _ h1', rfl, ?_⟩
            have tu : ∀ {o}, Tu H13 (upd H13 r o) := Tu.at (s3 _ _ h1')
            refine ⟨_, _, rfl, kH.trans (k34.trans (k2a.trans ((Fk.same s3).trans Fk.put))), ?_⟩
            rw [hfold, ec]
            refine ⟨le', lev', l2, ldv' ++ [.ref t], upd_same, m1', l2r, (upd_ne m1').trans (s3 _ _ h2'), a2'.mono fun _ _ => IsEv.mono ((Tu.same s3).trans tu), (upd_ne l2r).trans g3, ?_⟩
            exact ((a3'.mono fun _ _ => IsCall.mono (Tu.same s3)).app (At.one (x := (Way9.oth, k)) ⟨t, rfl, e3 _ _ (e2 _ _ g1)⟩)).mono fun _ _ => IsCall.mono tu
      · obtain ⟨u4, u5, rfl, kH, r3⟩ := h3
        rw [hb2.1, List.take_length] at r3
        refine ⟨_, rfl, r, _, _, _, rfl, r3, fun H1 k01 r1 => ?_⟩
        refine q H1 (kH.trans k01) ?_
        rw [wf]
        exact r1
end
end K9
end
section
set_option Elab.async false
set_option linter.all false
set_option maxRecDepth 100000
set_option maxHeartbeats 4000000
namespace K9
open PySem PySem.Spec PyProof.Rows L2
theorem sc__law_right : FnScope ["_law_feed_here", "_law_many", "_law_calls_here", "_law_run", "_law_core_here", "_law_bound", "_law_found", "_law_due", "_law_ending", "_law_at", "_law_number"] ["_law_feed_here"] (defScope s__law_right) := ⟨rfl, rfl, rfl, by decide +kernel, rfl, by decide +kernel, by decide +kernel⟩
theorem FnOk.exN {P : Program} {w : World} {K : PySem.W.Frag} {mg : Str → Option Value} {base : Heap} {CX : CXT} {k : Nat} {f : Addr} {fd : FuncData} {ps : List Str} {sp : Nat → Sp} (n : Nat) (h : ∀ d, d ≤ n → FnOk P w K mg base CX k f fd ps (sp d)) :
    FnOk P w K mg base CX k f fd ps (fun vs H Q E => ∃ d, d ≤ n ∧ sp d vs H Q E) :=
  ⟨fun vs H Q E ⟨d, hd, q⟩ => (h d hd).len vs H Q E q, fun A outer s H args us vs Q E hr he hb hv ⟨d, hd, q⟩ => (h d hd).run A outer s H args us vs Q E hr he hb hv q⟩
theorem At.imp {α : Type} {R R' : Hp → α → V → Prop} {H H' : Hp} {xs : List α} {vs : List V} (h : At R H xs vs) (m : ∀ x v, R H x v → R' H' x v) : At R' H' xs vs := ⟨h.1, fun i v e => let ⟨x, e2, hx⟩ := h.2 i v e; ⟨x, e2, m x v hx⟩⟩
/-- a list of calls at a place that is not among some -/
def IsCallsN (p l0 : Addr) (H : Hp) (cs : List Call9) (v : V) : Prop := ∃ b us, v = .ref b ∧ b ≠ p ∧ b ≠ l0 ∧ H b = some (.lst us) ∧ At IsCall H cs us
theorem IsCallsN.fk {p l0 : Addr} {H H' : Hp} {xs : List V} (hp : H p = some (.lst xs)) (k : Fk p H H') {cs : List Call9} {v : V} (h : IsCallsN p l0 H cs v) : IsCallsN p l0 H' cs v := by
  obtain ⟨b, us, e, n1, n2, h1, h2⟩ := h
  exact ⟨b, us, e, n1, n2, k _ _ n1 h1, h2.mono fun _ _ => IsCall.mono (Fk.tu k hp)⟩
theorem IsCallsN.put {p l0 : Addr} {H : Hp} {xs : List V} {o : HO} (hl : H l0 = some (.lst xs)) {cs : List Call9} {v : V} (h : IsCallsN p l0 H cs v) : IsCallsN p l0 (upd H l0 o) cs v := by
  obtain ⟨b, us, e, n1, n2, h1, h2⟩ := h
  exact ⟨b, us, e, n1, n2, (upd_ne n2).trans h1, h2.mono fun _ _ => IsCall.mono (Tu.at hl)⟩
theorem IsCallsN.to {p l0 : Addr} {H : Hp} {cs : List Call9} {v : V} (h : IsCallsN p l0 H cs v) : IsCalls H cs v := by
  obtain ⟨b, us, e, n1, n2, h1, h2⟩ := h
  exact ⟨b, us, e, h1, h2⟩
/-- the calls of the bodies so far -/
def Drawn (many : Nat) (css : List (List Call9)) : Prop := ∀ (j : Nat) (cs : List Call9), css[j]? = some cs → cs.length ≤ 2 ∧ ∀ c ∈ cs, j < c.2 ∧ c.2 ≤ many
theorem Drawn.nil {many : Nat} : Drawn many [] := fun j cs e => by simp at e
theorem Drawn.snoc {many : Nat} {css : List (List Call9)} {cs : List Call9} (h : Drawn many css) (h2 : cs.length ≤ 2) (hc : ∀ c ∈ cs, css.length < c.2 ∧ c.2 ≤ many) : Drawn many (css ++ [cs]) := fun j ds e => by
  by_cases z : j < css.length
  · rw [List.getElem?_append_left z] at e
    exact h j ds e
  · rw [List.getElem?_append_right (by omega)] at e
    have j0 : j = css.length := by
      by_cases y : j - css.length = 0
      · omega
      · rw [List.getElem?_eq_none (by show 1 ≤ _; omega)] at e
        cases e
    subst j0
    rw [Nat.sub_self] at e
    cases e
    exact ⟨h2, hc⟩
theorem Drawn.ok {m : Nat} {c0 : List Call9} {css : List (List Call9)} {cs : List Call9} (h : Drawn (m + 1) (c0 :: css)) (hl : (c0 :: css).length = m + 1 + 1) (hm : m < 6) (h2 : cs.length ≤ 2) (hc : ∀ c ∈ cs, 1 ≤ c.2 ∧ c.2 ≤ m + 1) : CallsOk (m + 1) ((c0 ++ cs ++ [(.dir, 1)]) :: css) := by
  have at0 := h 0 c0 rfl
  refine ⟨by omega, by omega, hl, fun j => ?_, fun j hj => ?_, ?_⟩
  · cases j with
    | zero =>
      intro c hc'
      have hc2 : c ∈ c0 ++ cs ++ [(.dir, 1)] := hc'
      rcases List.mem_append.mp hc2 with z | z
      · rcases List.mem_append.mp z with z | z
        · exact at0.2 c z
        · have := hc c z
          exact ⟨by omega, this.2⟩
      · rw [List.mem_singleton] at z
        subst z
        exact ⟨by show 0 < 1; omega, by show 1 ≤ m + 1; omega⟩
    | succ j =>
      intro c hc'
      have hc2 : c ∈ css.getD j [] := hc'
      rw [List.getD_eq_getElem?_getD] at hc2
      cases e : css[j]? with
      | none => rw [e] at hc2; cases hc2
      | some ds =>
        rw [e] at hc2
        exact (h (j + 1) ds e).2 c hc2
  · cases j with
    | zero => omega
    | succ j =>
      show (css.getD j []).length ≤ 2
      rw [List.getD_eq_getElem?_getD]
      cases e : css[j]? with
      | none => exact Nat.zero_le _
      | some ds => exact (h (j + 1) ds e).1
  · show (c0 ++ cs ++ [(Way9.dir, 1)]).length ≤ 5
    rw [List.length_append, List.length_append, List.length_singleton]
    have := at0.1
    omega
theorem ints_dp {K : PySem.W.Frag} {H : Hp} : ∀ ns : List Nat, DpAll K H (ns.map fun n : Nat => V.int (n : Int)) (ns.map fun n : Nat => PyData.int (n : Int))
  | [] => .nil
  | n :: ns => .cons (.int _) (ints_dp ns)
theorem ints_sh (ns : List Nat) : SeqAt.shaped (.list (ns.map fun n : Nat => PyData.int (n : Int))) = true := by
  have h := PySem.W.shaped_ints (ns.map fun n : Nat => (n : Int))
  rw [List.map_map] at h
  exact h
theorem ints_eq (ns : List Nat) : PyData.eqv (.list (ns.map fun n : Nat => PyData.int (n : Int))) (.list (ns.map fun n : Nat => PyData.int (n : Int))) = true := SeqAt.eqv_refl _ (SeqAt.canLay_of_shaped (ints_sh ns))
theorem out_sh (b : Bool) : SeqAt.shaped (.tuple [.str (outW b).1, .str (outW b).2, .list []]) = true := by
  cases b <;> decide +kernel
theorem out_eq (b : Bool) : PyData.eqv (.tuple [.str (outW b).1, .str (outW b).2, .list []]) (.tuple [.str (outW b).1, .str (outW b).2, .list []]) = true := SeqAt.eqv_refl _ (SeqAt.canLay_of_shaped (out_sh b))
theorem FeedOk.lst {H : Hp} {p : Addr} {n : Int} (h : FeedOk H p n) : ∃ xs, H p = some (.lst xs) := let ⟨_, _, _, h1, _⟩ := h; ⟨_, h1⟩
theorem within_snoc (b : Nat) (E : List (Nat × Nat)) (e : Nat × Nat) : within b (E ++ [e]) = within b E ++ (if e.1 ≤ b then [e.2] else []) := by
  rw [within_app]
  congr 1
  unfold within
  by_cases h : e.1 ≤ b
  · rw [if_pos h]
    simp [h]
  · rw [if_neg h]
    simp [h]
theorem within_len (b : Nat) (E : List (Nat × Nat)) : (within b E).length ≤ E.length := by
  unfold within
  rw [List.length_map]
  exact List.length_filter_le _ _
theorem tyL9 {K : PySem.W.Frag} {H : Hp} {a : Addr} {xs : List V} (h : H a = some (.lst xs)) : TyX K H (.ref a) (.type "list") := .base (.lst h)
def spWalk7 : Sp := fun vs H Q E => ∃ d, d ≤ 7 ∧ spWalk d vs H Q E
def spRight : Sp := fun vs H Q _ => ∃ (p : Addr), vs = [.ref p] ∧ FeedOk H p 0 ∧ ∀ H', Fk p H H' → Q (.bl true) H'
section
variable {P : Program} {w : World} {K : PySem.W.Frag} {mg : Str → Option Value} {base : Heap} {f : Addr} {fd : FuncData}
theorem ok_right (F : Fun K "_law_right" "_law_right" s__law_right f fd) (B : Blt mg) (D1 : Dn P w K mg base CX0 "_law_draw" 1 2 spDrawN) (D2 : Dn P w K mg base CX0 "_law_calls" 3 3 spCalls) (D3 : Dn P w K mg base CX0 "_law_walk" 10 4 spWalk7)
    (D4 : Dn P w K mg base CX0 "_law_core" 2 2 spCoreL) (D5 : Dn P w K mg base CX0 "begun_bodies" 9 2 spBegunBodies) (D6 : Dn P w K mg base CX0 "run_core" 9 2 spRunCore) :
    FnOk P w K mg base CX0 11 f fd ["_law_feed_here"] spRight := by
  refine F.ok sc__law_right (fun vs H Q E h => ?_) (fun cdv A outer s H vs Q E hr h => ?_)
  · obtain ⟨p, rfl, _⟩ := h
    rfl
  · obtain ⟨p, rfl, hF, q⟩ := h
    refine ⟨_, (pss_cons (ps_set (i := 1) sc__law_right.nd rfl (.inr rfl) (pe_op op_add pe_int (pe_dn D1 (hr.mono (by decide)) pass0 (pa_cons (pv 0) (pa_cons pe_int pa_nil)))))
      (pss_cons (ps_setLc (i := 2) (own := [("_law_at", 9)]) (g := (gName 9)) (tt := tYes) rfl sc__law_right.nd rfl rfl (sw_true rfl rfl rfl (by decide +kernel)) (pi_range1 rfl B.range (pa_cons (pe_op op_add (pv 1) pe_int) pa_nil)) (blkOk_by (N := ["_law_feed_here", "_law_many", "_law_calls_here", "_law_run", "_law_core_here", "_law_bound", "_law_found", "_law_due", "_law_ending", "_law_at", "_law_number"]) (sc := defScope s__law_right) (by decide +kernel)) (fun _ _ _ _ _ => (pg_name (i := 9) sc__law_right.nd rfl (.inl rfl))) (fun _ _ _ _ _ => pts_nil) (fun _ _ _ _ _ => (pe_dn D2 (hr.mono (by decide)) pass0 (pa_cons (pv 0) (pa_cons (pv 1) (pa_cons (pe_op op_add pe_int (pv 9)) pa_nil))))))
      (pss_cons (ps_asg (pe_op op_cat (pe_op op_cat (pe_ix ix_list (pv 2) pe_int (fun _ _ => rfl)) (pe_dn D2 (hr.mono (by decide)) pass0 (pa_cons (pv 0) (pa_cons (pv 1) (pa_cons pe_int pa_nil))))) (pe_lst (pa_cons (pe_tup (pa_cons pe_str (pa_cons pe_int pa_nil))) pa_nil))) (pg_sub (pv 2) pe_int set_list))
      (pss_cons (ps_set (i := 3) sc__law_right.nd rfl (.inl rfl) (pe_lst (pa_cons pe_int (pa_cons (pe_lst (pa_cons (pe_tup (pa_cons pe_int (pa_cons pe_int pa_nil))) pa_nil)) (pa_cons (pe_lst pa_nil) pa_nil)))))
      (pss_cons (ps_expr (pe_dn D3 (hr.mono (by decide)) pass0 (pa_cons (pv 3) (pa_cons (pv 2) (pa_cons (pv 1) (pa_cons pe_int pa_nil))))))
      (pss_cons (ps_set (i := 4) sc__law_right.nd rfl (.inl rfl) (pe_dn D4 (hr.mono (by decide)) pass0 (pa_cons (pv 2) (pa_cons (pv 1) pa_nil))))
      (pss_cons (ps_for PassesOwn.never rfl (pi_list (pe_lst (pa_cons pe_int (pa_cons (pe_ix ix_list (pv 3) pe_int (fun _ _ => rfl)) (pa_cons (pe_op op_sub (pe_ix ix_list (pv 3) pe_int (fun _ _ => rfl)) pe_int) (pa_cons pe_int (pa_cons (pe_dn D1 (hr.mono (by decide)) pass0 (pa_cons (pv 0) (pa_cons (pe_ix ix_list (pv 3) pe_int (fun _ _ => rfl)) pa_nil))) (pa_cons (pe_dn D1 (hr.mono (by decide)) pass0 (pa_cons (pv 0) (pa_cons (pe_ix ix_list (pv 3) pe_int (fun _ _ => rfl)) pa_nil))) (pa_cons pe_int pa_nil))))))))) (pg_name (i := 5) sc__law_right.nd rfl (.inr rfl)) (pss_cons (ps_set (i := 6) sc__law_right.nd rfl (.inl rfl) (pe_dn D5 (hr.mono (by decide)) pass0 (pa_cons (pv 4) (pa_cons (pv 5) pa_nil))))
      (pss_cons (ps_setLc (i := 7) (own := [("_law_at", 9), ("_law_number", 10)]) (g := (gTup K 2 (gCons (gName 9) (gCons (gName 10) gNil)))) rfl sc__law_right.nd rfl rfl (sw_true rfl rfl rfl (by decide +kernel)) (pi_list (pe_ix ix_list (pv 3) pe_int (fun _ _ => rfl))) (blkOk_by (N := ["_law_feed_here", "_law_many", "_law_calls_here", "_law_run", "_law_core_here", "_law_bound", "_law_found", "_law_due", "_law_ending", "_law_at", "_law_number"]) (sc := defScope s__law_right) (by decide +kernel)) (fun _ _ _ _ _ => (pg_tup rfl (pgs_cons (pg_name (i := 9) sc__law_right.nd rfl (.inl rfl)) (pgs_cons (pg_name (i := 10) sc__law_right.nd rfl (.inl rfl)) pgs_nil)))) (fun _ _ _ _ _ => (pts_one (pt_cmpR op_le (pv 9) (pv 5) (nomark _)))) (fun _ _ _ _ _ => (pv 10)))
      (pss_cons (ps_if (PW.pt (pw_or (pt_not (pt_val (pe_callB call_isi (by rfl) B.isinstance (by decide +kernel) (pa_cons (pv 6) (pa_cons (pe_bltn (v := .ty "list") (u := .type "list") rfl B.list (by decide +kernel) rfl) pa_nil))))) (pw_or1 (pt_cmpR (op_neD hr.units) (pv 6) (pv 7) (nomark _))))) (pss_one (ps_ret pe_bl)) pss_nil)
      (pss_cons (ps_expr (pe_bm PySem.F.plainAttrs_list PySem.F.slot_list_append PySem.F.type_list_append mt_append (pv 6) (pa_cons pe_int pa_nil)))
      (Evl.pss_cut (ps_set (i := 8) sc__law_right.nd rfl (.inl rfl) (pe_ifExp (pt_cmpR op_ge (pv 5) (pe_ix ix_list (pv 3) pe_int (fun _ _ => rfl)) (nomark _)) (pe_tup (pa_cons pe_str (pa_cons pe_str (pa_cons (pe_lst pa_nil) pa_nil)))) (pe_tup (pa_cons pe_str (pa_cons pe_str (pa_cons (pe_lst pa_nil) pa_nil))))))
      (pss_one (ps_if (PW.pt (pw_or (pt_cmpR (op_neD hr.units) (pe_dn D6 (hr.mono (by decide)) pass0 (pa_cons (pv 4) (pa_cons (pv 5) pa_nil))) (pv 8) (nomark _)) (pw_or1 (pt_cmpR (op_neD hr.units) (pe_dn D5 (hr.mono (by decide)) pass0 (pa_cons (pv 4) (pa_cons (pv 5) pa_nil))) (pv 7) (nomark _))))) (pss_one (ps_ret pe_bl)) pss_nil))))))))
      (pss_one (ps_ret pe_bl))))))))), ?_⟩
    refine ⟨_, rfl, p, 6, 0, rfl, by decide, by decide, hF, by decide, fun r0 H1 a0 a1 k1 nn1 hF1 => ?_⟩
    obtain ⟨m, rfl⟩ := Int.eq_ofNat_of_zero_le a0
    have m6 : m < 6 := by omega
    have em : (1 : Int) + (m : Int) = ((m + 1 : Nat) : Int) := by omega
    refine ⟨_, _, rfl, rfl, ?_⟩
    show gName 1 (V.int ((1 : Int) + (m : Int))) _ _ _
    rw [em]
    refine ⟨_, rfl, _, _, rfl, rfl, _, rfl, by omega, by omega, fun l0 hl0 => lc_it (walk_range (lo := 0) (n := (((m + 1 : Nat) : Int) + 1).toNat)) (fun i G => Fk p H1 G ∧ FeedOk G p (1 + 7 * (i : Int)) ∧ ∃ acc css, G l0 = some (.lst acc) ∧ css.length = i ∧ At (IsCallsN p l0) G css acc ∧ Drawn (m + 1) css) ?_ (fun _ _ _ _ => trivial) (fun i x G G' hi h3 hy => ?_) (fun G h3 => ?_)⟩
    · have e1 := same_new (o := .lst []) hl0
      exact ⟨Fk.same e1, (hF1.same e1).mono (by omega), [], [], upd_same, rfl, At.nil, Drawn.nil⟩
    · obtain ⟨kG, fG, acc, css, hacc, hlen, hA, hDr⟩ := h3
      obtain ⟨rfl, rfl⟩ := hy
      have hi' : i < m + 2 := by omega
      have l0p : l0 ≠ p := fun e => by
        obtain ⟨xs, hp⟩ := hF1.lst
        rw [← e, hl0] at hp
        cases hp
      refine ⟨rfl, ?_⟩
      refine ⟨_, rfl, _, rfl, _, rfl, _, _, rfl, rfl, p, m + 1, 1 + (0 + i), _, rfl, by omega, fG, by omega, fun G2 l cs us k2 nl lp f2 hl2 hcs len2 inn => ?_⟩
      obtain ⟨xs, hp⟩ := fG.lst
      have lg := k2 _ _ l0p hacc
      have ll : l ≠ l0 := fun e => by rw [e, hacc] at nl; cases nl
      refine ⟨acc, lg, by rw [hA.1, hlen]; exact Nat.lt_of_lt_of_le hi' (Nat.le_trans (by omega : m + 2 ≤ 8) (by decide)), ?_⟩
      refine ⟨fun q o hq e => (upd_ne (ne_of_none e hl0)).trans (k2 q o hq (kG q o hq e)), (f2.put l0p.symm).mono (by omega), acc ++ [.ref l], css ++ [cs], upd_same, by rw [List.length_append, List.length_singleton, hlen], ?_, ?_⟩
      · have a2 : At (IsCallsN p l0) G2 css acc := hA.mono fun _ _ h => h.fk hp k2
        have b2 : IsCallsN p l0 G2 cs (.ref l) := ⟨l, us, rfl, lp, ll, hl2, hcs⟩
        exact (a2.app (At.one b2)).mono fun _ _ h => h.put lg
      · refine hDr.snoc len2 fun c hc => ?_
        have := inn c hc
        exact ⟨by omega, this.2⟩
    · obtain ⟨kG, fG, acc, css, hacc, hlen, hA, hDr⟩ := h3
      have en : ((((m + 1 : Nat) : Int)) + 1).toNat = m + 2 := by omega
      rw [en] at hlen fG
      obtain ⟨c0, csr, rfl⟩ : ∃ c0 csr, css = c0 :: csr := by
        cases css with
        | nil => cases hlen
        | cons a b => exact ⟨a, b, rfl⟩
      obtain ⟨v0, hv0, b0, us0, e0, n01, n02, hb0, hA0⟩ := hA.get (i := 0) (x := c0) rfl
      subst e0
      obtain ⟨accr, rfl⟩ : ∃ accr, acc = .ref b0 :: accr := by
        cases acc with
        | nil => cases hv0
        | cons a b => cases hv0; exact ⟨b, rfl⟩
      obtain ⟨xs, hp⟩ := fG.lst
      have l0p : l0 ≠ p := fun e => by
        obtain ⟨xs, hp⟩ := hF1.lst
        rw [← e, hl0] at hp
        cases hp
      refine ⟨_, rfl, l0, _, 0, .ref b0, rfl, rfl, SqL.of hacc, atI_nat (j := 0) rfl, _, rfl, _, rfl, p, m + 1, 1, _, rfl, by omega, fG, by omega, fun G2 l cs us k2 nl lp f2 hl2 hcs len2 inn => ?_⟩
      have hacc2 := k2 _ _ l0p hacc
      have ll : l ≠ l0 := fun e => by rw [e, hacc] at nl; cases nl
      have hb02 := k2 _ _ n01 hb0
      have len0 := (hDr 0 c0 rfl).1
      refine ⟨b0, l, us0, us, rfl, rfl, hb02, hl2, by rw [hA0.1, hcs.1]; exact Nat.le_trans (by omega : c0.length + cs.length ≤ 4) (by decide), fun q1 nq1 => ?_⟩
      have z1 := same_new (o := .lst (us0 ++ us)) nq1
      have gq1 : upd G2 q1 (.lst (us0 ++ us)) q1 = some (.lst (us0 ++ us)) := upd_same
      generalize upd G2 q1 (.lst (us0 ++ us)) = G3 at z1 gq1 ⊢
      refine ⟨(by show 2 ≤ sizeLine; decide), fun tt nt => ⟨(by show 1 ≤ sizeLine; decide), fun lq nlq => ?_⟩⟩
      have z2 := same_new (o := .tup [V.str "direct", V.int 1]) nt
      have gt : upd G3 tt (.tup [V.str "direct", V.int 1]) tt = some (.tup [V.str "direct", V.int 1]) := upd_same
      generalize upd G3 tt (.tup [V.str "direct", V.int 1]) = G4 at z2 gt nlq ⊢
      have z3 := same_new (o := .lst [V.ref tt]) nlq
      have glq : upd G4 lq (.lst [V.ref tt]) lq = some (.lst [V.ref tt]) := upd_same
      generalize upd G4 lq (.lst [V.ref tt]) = G5 at z3 glq ⊢
      have z25 := (z1.trans z2).trans z3
      refine ⟨q1, lq, us0 ++ us, _, rfl, rfl, z3 _ _ (z2 _ _ gq1), glq, by rw [List.length_append, hA0.1, hcs.1]; exact Nat.le_trans (by show c0.length + cs.length + 1 ≤ 5; omega) (by decide), fun q2 nq2 => ?_⟩
      have z4 := same_new (o := .lst ((us0 ++ us) ++ [V.ref tt])) nq2
      have gq2 : upd G5 q2 (.lst ((us0 ++ us) ++ [V.ref tt])) q2 = some (.lst ((us0 ++ us) ++ [V.ref tt])) := upd_same
      generalize upd G5 q2 (.lst ((us0 ++ us) ++ [V.ref tt])) = G6 at z4 gq2 ⊢
      have z26 := z25.trans z4
      have hacc6 := z26 _ _ hacc2
      refine ⟨_, rfl, l0, _, 0, 0, rfl, rfl, hacc6, Evl.ixN_nat (j := 0) (Nat.succ_pos _), ?_⟩
      have q2l : q2 ≠ l0 := fun e => by rw [e, z25 _ _ hacc2] at nq2; cases nq2
      have tu7 : Tu G6 (upd G6 l0 (.lst (V.ref q2 :: accr))) := Tu.at hacc6
      have tu26 : Tu G2 G6 := Tu.same z26
      have hA7 : At IsCalls (upd G6 l0 (.lst (V.ref q2 :: accr))) ((c0 ++ cs ++ [(.dir, 1)]) :: csr) (.ref q2 :: accr) := by
        have hA2 : At (IsCallsN p l0) G2 (c0 :: csr) (.ref b0 :: accr) := hA.mono fun _ _ h => h.fk hp k2
        have hA8 : At IsCalls (upd G6 l0 (.lst (V.ref q2 :: accr))) (c0 :: csr) (.ref b0 :: accr) := hA2.imp fun _ _ h => by
          obtain ⟨b, us, e, n1, n2, h1, h2⟩ := h
          exact ⟨b, us, e, (upd_ne n2).trans (z26 _ _ h1), h2.mono fun _ _ => IsCall.mono (tu26.trans tu7)⟩
        refine ⟨hA8.1, fun i v e => ?_⟩
        cases i with
        | zero =>
          cases e
          refine ⟨_, rfl, q2, _, rfl, (upd_ne q2l).trans gq2, ?_⟩
          have a0 : At IsCall G2 c0 us0 := hA0.mono fun _ _ => IsCall.mono (Fk.tu k2 hp)
          have a1 : At IsCall (upd G6 l0 (.lst (V.ref q2 :: accr))) (c0 ++ cs) (us0 ++ us) := (a0.app hcs).mono fun _ _ => IsCall.mono (tu26.trans tu7)
          exact a1.app (At.one ⟨tt, rfl, tu7 _ _ (z4 _ _ (z3 _ _ gt))⟩)
        | succ i => exact hA8.2 (i + 1) v e
      have g7 : upd G6 l0 (.lst (V.ref q2 :: accr)) l0 = some (.lst (V.ref q2 :: accr)) := upd_same
      have f7 : FeedOk (upd G6 l0 (.lst (V.ref q2 :: accr))) p (1 + 7 * ((m + 2 : Nat) : Int) + 7) := (f2.same z26).put l0p.symm
      have k7 : Fk p H1 (upd G6 l0 (.lst (V.ref q2 :: accr))) := fun q o hq e => (upd_ne (ne_of_none e hl0)).trans (z26 _ _ (k2 q o hq (kG q o hq e)))
      have okc : CallsOk (m + 1) ((c0 ++ cs ++ [(.dir, 1)]) :: csr) := hDr.ok hlen m6 len2 fun c hc => inn c hc
      generalize (c0 ++ cs ++ [(Way9.dir, 1)]) :: csr = css at hA7 okc
      generalize hH7 : upd G6 l0 (.lst (V.ref q2 :: accr)) = H7 at hA7 g7 f7 k7 ⊢
      generalize (V.ref q2 :: accr) = lv at hA7 g7
      have ck : CallsAt H7 l0 css := ⟨lv, g7, hA7⟩
      -- the run
      have hH7' : upd G6 l0 (HO.lst (List.set (V.ref b0 :: accr) 0 (V.ref q2))) = H7 := hH7
      rw [hH7']
      refine ⟨(by show 2 ≤ sizeLine; decide), fun t8 n8 => ⟨(by show 1 ≤ sizeLine; decide), fun le nle => ⟨Nat.zero_le _, fun ld nld => ⟨(by show 3 ≤ sizeLine; decide), fun r nr => ?_⟩⟩⟩⟩
      have y1 := same_new (o := .tup [V.int 0, V.int 0]) n8
      have g8 : upd H7 t8 (.tup [V.int 0, V.int 0]) t8 = some (.tup [V.int 0, V.int 0]) := upd_same
      generalize upd H7 t8 (.tup [V.int 0, V.int 0]) = H8 at y1 g8 nle nld nr ⊢
      have y2 := same_new (o := .lst [V.ref t8]) nle
      have gle : upd H8 le (.lst [V.ref t8]) le = some (.lst [V.ref t8]) := upd_same
      generalize upd H8 le (.lst [V.ref t8]) = H9 at y2 gle nld nr ⊢
      have y3 := same_new (o := .lst []) nld
      have gld : upd H9 ld (.lst []) ld = some (.lst []) := upd_same
      generalize upd H9 ld (.lst []) = H10 at y3 gld nr ⊢
      have y4 := same_new (o := .lst [V.int 0, V.ref le, V.ref ld]) nr
      have gr : upd H10 r (.lst [V.int 0, V.ref le, V.ref ld]) r = some (.lst [V.int 0, V.ref le, V.ref ld]) := upd_same
      have ler : le ≠ r := ne_of_none (y3 _ _ gle) nr
      have ldr : ld ≠ r := ne_of_none gld nr
      have y34 := y3.trans y4
      have y24 := y2.trans y34
      have y14 := y1.trans y24
      have rr : RW (upd H10 r (.lst [V.int 0, V.ref le, V.ref ld])) r ⟨0, [(0, 0)], []⟩ := ⟨le, [.ref t8], ld, [], gr, ler, ldr, y34 _ _ gle, At.one ⟨t8, rfl, y24 _ _ g8⟩, y4 _ _ gld, At.nil⟩
      have r7 : H7 r = none := by
        cases e : H7 r with
        | none => rfl
        | some o => rw [y3 _ _ (y2 _ _ (y1 _ _ e))] at nr; cases nr
      generalize upd H10 r (.lst [V.int 0, V.ref le, V.ref ld]) = H11 at y14 rr ⊢
      have cost := walk0_cost okc
      refine ⟨_, rfl, _, rfl, _, rfl, m + 2, by omega, r, l0, ⟨0, [(0, 0)], []⟩, css, m + 1, 0, rfl, rr, CallsAt.fk rr (Fk.same (Same.refl _)) (let ⟨lv, a, b⟩ := ck; ⟨lv, y14 _ _ a, b.mono fun _ _ => IsCalls.same y14⟩), okc.len, okc.m6, Nat.zero_le _, by omega, okc.num, ⟨by decide, by decide⟩, Nat.le_trans cost.2 (by decide), fun H12 k12 r12 => ?_⟩
      have ck12 : CallsAt H12 l0 css := CallsAt.fk rr k12 (let ⟨lv, a, b⟩ := ck; ⟨lv, y14 _ _ a, b.mono fun _ _ => IsCalls.same y14⟩)
      have s712 : Same H7 H12 := fun q o e => k12 _ _ (ne_of_none e r7) (y14 _ _ e)
      have f12 := f7.same s712
      have r12' : RW H12 r (walk0 (m + 1) css) := r12
      clear r12
      have hev : (walk0 (m + 1) css).ev.length ≤ 4001 := by
        have z := ((walkF_ok (many := m + 1) (css := css) (m + 1 + 1) 0 ⟨0, [(0, 0)], []⟩).2 0 ⟨by decide, by decide⟩).1
        have z2 : (walk0 (m + 1) css).ev.length ≤ (walk0 (m + 1) css).s + 1 := z
        have := cost.2
        omega
      generalize hw : walk0 (m + 1) css = wf at r12' cost hev
      obtain ⟨lv2, hl2', hA12⟩ := ck12
      refine ⟨_, rfl, _, rfl, l0, lv2, css, m + 1, rfl, hl2', hA12, okc.len, okc.m6, fun cs hcs => ?_, fun H13 v s13 hcore => ?_⟩
      · obtain ⟨i, hi⟩ := List.getElem?_of_mem hcs
        have e : css.getD i [] = cs := by rw [List.getD_eq_getElem?_getD, hi]; rfl
        rw [← e]
        refine ⟨?_, fun c hc => ⟨by have := (okc.num i c hc).1; omega, by have := (okc.num i c hc).2; have := okc.m6; omega⟩⟩
        by_cases z : i = 0
        · rw [z]
          have := okc.five
          omega
        · have := okc.two i (by omega)
          omega
      have r13 := RunAt.same s13 r12'
      have f13 := f12.same s13
      obtain ⟨le', lev, ld', ldv, hr13, ler', ldr', hle, hAe, _⟩ := id r13
      have rp : r ≠ p := fun e => by
        obtain ⟨xs, z⟩ := f7.lst
        rw [e, z] at r7
        cases r7
      have lep : le' ≠ p := fun e => by
        obtain ⟨x, y, c, z, _⟩ := f13
        rw [e, z] at hle
        have e2 : [V.int x, V.int y, V.int c] = lev := HO.lst.inj (Option.some.inj hle)
        subst e2
        obtain ⟨_, _, b, z2, _⟩ := hAe.2 0 (.int x) rfl
        cases z2
      refine ⟨_, rfl, r, _, 0, _, rfl, rfl, SqL.of hr13, atI_nat (j := 0) rfl, _, rfl, r, _, 0, _, rfl, rfl, SqL.of hr13, atI_nat (j := 0) rfl, _, _, rfl, rfl, ?_⟩
      refine ⟨_, rfl, _, rfl, r, _, 0, _, rfl, rfl, SqL.of hr13, atI_nat (j := 0) rfl, p, wf.s, _, rfl, by have := cost.1; omega, by have := cost.2; omega, f13, by omega, fun d1 H14 d10 d11 k14 nn14 f14 => ?_⟩
      refine ⟨_, rfl, _, rfl, r, _, 0, _, rfl, rfl, SqL.of (k14 _ _ rp hr13), atI_nat (j := 0) rfl, p, wf.s, _, rfl, by have := cost.1; omega, by have := cost.2; omega, f14, by omega, fun d2 H15 d20 d21 k15 nn15 f15 => ?_⟩
      have k1315 := k14.trans k15
      refine ⟨(by show 7 ≤ sizeLine; decide), fun lb nlb => ?_⟩
      have sb := same_new (o := .lst [V.int 100000, V.int (wf.s : Int), V.int ((wf.s : Int) - 1), V.int 0, V.int d1, V.int d2, V.int 1]) nlb
      have glb : upd H15 lb (.lst [V.int 100000, V.int (wf.s : Int), V.int ((wf.s : Int) - 1), V.int 0, V.int d1, V.int d2, V.int 1]) lb = some (.lst [V.int 100000, V.int (wf.s : Int), V.int ((wf.s : Int) - 1), V.int 0, V.int d1, V.int d2, V.int 1]) := upd_same
      have hmem : ∀ x ∈ [V.int 100000, V.int (wf.s : Int), V.int ((wf.s : Int) - 1), V.int 0, V.int d1, V.int d2, V.int 1], ∃ b : Nat, x = .int (b : Int) ∧ b ≤ 100000 := fun x hx => by
        have c1 := cost.1
        have c2 := cost.2
        have key : ∀ z : Int, 0 ≤ z → z ≤ 100000 → ∃ b : Nat, V.int z = .int (b : Int) ∧ b ≤ 100000 := fun z z0 z1 => by
          obtain ⟨b, rfl⟩ := Int.eq_ofNat_of_zero_le z0
          exact ⟨b, rfl, by omega⟩
        simp only [List.mem_cons, List.not_mem_nil, or_false] at hx
        rcases hx with rfl | rfl | rfl | rfl | rfl | rfl | rfl <;> exact key _ (by omega) (by omega)
      generalize [V.int 100000, V.int (wf.s : Int), V.int ((wf.s : Int) - 1), V.int 0, V.int d1, V.int d2, V.int 1] = bounds at sb glb hmem ⊢
      have kb : Fk p H13 (upd H15 lb (.lst bounds)) := k1315.trans (Fk.same sb)
      have k1b : Fk p H (upd H15 lb (.lst bounds)) := ((k1.trans k7).trans (Fk.same (s712.trans s13))).trans kb
      generalize upd H15 lb (.lst bounds) = Hb at sb glb kb k1b ⊢
      have tub : Tu H13 Hb := by
        obtain ⟨xs, z⟩ := f13.lst
        exact Fk.tu kb z
      have hrb := kb _ _ rp hr13
      have hleb := kb _ _ lep hle
      have hAeb : At IsEv Hb wf.ev lev := hAe.mono fun _ _ => IsEv.mono tub
      have hcb := hcore.mono tub
      refine ⟨lb, rfl, ⟨_, SqL.of glb⟩, for_it (walk_list (xs := bounds)) (fun i σ G => ∃ u5 u6 u7 u8, σ = [some (.ref p), some (.int ((m + 1 : Nat) : Int)), some (.ref l0), some (.ref r), some v, u5, u6, u7, u8, none, none] ∧ Same Hb G) ⟨_, _, _, _, rfl, Same.refl _⟩ (fun i σ G _ h3 => ?_) (fun i x σ G G' hi h3 hy => ?_) (fun σ G h3 => ?_)⟩
      · obtain ⟨_, _, _, _, _, s3⟩ := h3
        exact SqL.of (s3 _ _ glb)
      · obtain ⟨u5, u6, u7, u8, rfl, s3⟩ := h3
        obtain ⟨rfl, hx⟩ := hy
        obtain ⟨b, rfl, hb⟩ := hmem x (List.mem_of_getElem? hx)
        obtain ⟨sf, go, beg⟩ := goes9 okc b hb
        rw [hw] at go beg
        refine ⟨_, rfl, _, rfl, _, v, b, sf, _, rfl, hcb.mono (Tu.same s3), go, fun G1 p1 s1 np1 hp1 => ?_⟩
        rw [beg] at hp1
        have s31 := s3.trans s1
        refine ⟨_, rfl, r, _, 1, .ref le', rfl, rfl, SqL.of (s31 _ _ hrb), atI_nat (j := 1) rfl, le', rfl, ⟨_, SqL.of (s31 _ _ hleb)⟩, fun D hD => lc_it (walk_list (xs := lev)) (fun i G2 => Same G1 G2 ∧ G2 D = some (.lst ((within b (wf.ev.take i)).map fun n : Nat => V.int (n : Int)))) ⟨same_new hD, upd_same⟩ (fun i G2 _ h => SqL.of (h.1 _ _ (s31 _ _ hleb))) (fun i x G2 G3 hi h3 hy => ?_) (fun G2 h3 => ?_)⟩
        · obtain ⟨sG, hG⟩ := h3
          obtain ⟨rfl, hx⟩ := hy
          obtain ⟨e, he, a, rfl, ha⟩ := hAeb.2 i x hx
          have htk : wf.ev.take (i + 1) = wf.ev.take i ++ [e] := by
            rw [List.take_succ, he]
            rfl
          refine ⟨a, _, rfl, SqT.of (sG _ _ (s31 _ _ ha)), rfl, _, _, rfl, _, _, rfl, rfl, rfl, ?_⟩
          refine ⟨_, rfl, _, rfl, _, _, rfl, rfl, _, rfl, ite2 (fun c => ?_) (fun c => ?_)⟩
          · have c' : e.1 ≤ b := by have := of_decide_eq_true c; omega
            refine ⟨_, rfl, _, hG, ?_, fro hD sG, ?_⟩
            · rw [List.length_map]
              have l1 := within_len b (wf.ev.take i)
              rw [List.length_take] at l1
              exact Nat.lt_of_le_of_lt (by omega : _ ≤ 4001) (by decide)
            · rw [upd_same, htk, within_snoc, if_pos c', List.map_append]
              rfl
          · have c' : ¬ e.1 ≤ b := fun z => c (decide_eq_true (by omega))
            refine ⟨sG, ?_⟩
            rw [hG, htk, within_snoc, if_neg c', List.append_nil]
        · obtain ⟨sG, hG⟩ := h3
          rw [hAeb.1, List.take_length] at hG
          have hp2 := sG _ _ hp1
          refine ⟨_, rfl, _, _, _, _, true, rfl, .ty _, tyL9 hp2, kit_ty (by decide +kernel), _, rfl, iteF ?_⟩
          refine ⟨_, rfl, _, rfl, _, _, .lst (SqL.of hp2) (ints_dp _), .lst (SqL.of hG) (ints_dp _), ints_sh _, ints_sh _, _, rfl, ?_⟩
          rw [ints_eq]
          refine iteF ?_
          refine ⟨_, rfl, .inl ⟨rfl, _, SqL.of hp2⟩, p1, _, _, rfl, rfl, hp2, ?_, ?_⟩
          · rw [List.length_map]
            have l1 := within_len b wf.ev
            exact Nat.lt_of_le_of_lt (by omega : _ ≤ 4001) (by decide)
          have sA := fro (o := .lst ((within b wf.ev).map (fun n : Nat => V.int (n : Int)) ++ [V.int 0])) np1 (s1.trans sG)
          have pD : p1 ≠ D := fun e => by rw [← e, hp1] at hD; cases hD
          have hD2 : upd G2 p1 (.lst ((within b wf.ev).map (fun n : Nat => V.int (n : Int)) ++ [V.int 0])) D = some (.lst ((within b wf.ev).map fun n : Nat => V.int (n : Int))) := (upd_ne pD.symm).trans hG
          generalize upd G2 p1 (.lst ((within b wf.ev).map (fun n : Nat => V.int (n : Int)) ++ [V.int 0])) = G4 at sA hD2 ⊢
          have s34 := s3.trans sA
          refine ⟨fun σ' G5 => ∃ t l, σ' = [some (.ref p), some (.int ((m + 1 : Nat) : Int)), some (.ref l0), some (.ref r), some v, some (.int (b : Int)), some (.ref p1), some (.ref D), some (.ref t), none, none] ∧ Same G4 G5 ∧ G5 t = some (.tup [.str (outW (decide (wf.s ≤ b))).1, .str (outW (decide (wf.s ≤ b))).2, .ref l]) ∧ G5 l = some (.lst []), ?_, ?_⟩
          · refine ⟨_, rfl, _, rfl, r, _, 0, _, rfl, rfl, SqL.of (s34 _ _ hrb), atI_nat (j := 0) rfl, _, _, rfl, rfl, _, rfl, ite2 (fun c => ?_) (fun c => ?_)⟩
            · have c' : wf.s ≤ b := by have := of_decide_eq_true c; omega
              refine ⟨Nat.zero_le _, fun l nl => ⟨(by show 3 ≤ sizeLine; decide), fun t nt => ⟨t, l, rfl, (same_new nl).trans (same_new nt), ?_, ?_⟩⟩⟩
              · rw [upd_same, decide_eq_true c']
                rfl
              · exact same_new nt _ _ upd_same
            · have c' : ¬ wf.s ≤ b := fun z => c (decide_eq_true (by omega))
              refine ⟨Nat.zero_le _, fun l nl => ⟨(by show 3 ≤ sizeLine; decide), fun t nt => ⟨t, l, rfl, (same_new nl).trans (same_new nt), ?_, ?_⟩⟩⟩
              · rw [upd_same, decide_eq_false c']
                rfl
              · exact same_new nt _ _ upd_same
          · rintro σ' G5 ⟨t, l, rfl, s5, ht, hl⟩
            have s35 := s34.trans s5
            refine ⟨_, rfl, _, rfl, _, v, b, sf, _, rfl, hcb.mono (Tu.same s35), go, fun G6 t6 l6 s6 ht6 hl6 _ _ => ?_⟩
            refine ⟨_, rfl, _, _, .tup (SqT.of ht6) (.cons (.str _) (.cons (.str _) (.cons (.lst (SqL.of hl6) .nil) .nil))), .tup (SqT.of (s6 _ _ ht)) (.cons (.str _) (.cons (.str _) (.cons (.lst (SqL.of (s6 _ _ hl)) .nil) .nil))), out_sh _, out_sh _, _, rfl, ?_⟩
            rw [out_eq]
            refine iteF ?_
            have s36 := s35.trans s6
            refine ⟨_, rfl, _, rfl, _, v, b, sf, _, rfl, hcb.mono (Tu.same s36), go, fun G7 p7 s7 np7 hp7 => ?_⟩
            rw [beg] at hp7
            refine ⟨_, rfl, _, _, .lst (SqL.of hp7) (ints_dp _), .lst (SqL.of (s7 _ _ (s6 _ _ (s5 _ _ hD2)))) (ints_dp _), ints_sh _, ints_sh _, _, rfl, ?_⟩
            rw [ints_eq]
            refine iteF ?_
            exact ⟨_, _, _, _, rfl, s36.trans s7⟩
      · obtain ⟨u5, u6, u7, u8, rfl, s3⟩ := h3
        exact q G (k1b.trans (Fk.same s3))
end
end K9
end
section
set_option Elab.async false
set_option linter.all false
set_option maxRecDepth 100000
set_option maxHeartbeats 4000000
namespace K9
open PySem PySem.Spec PyProof.Rows L2
/-! super().__init__() of a written class over a written one -/
structure CtI (P : Program) (K : PySem.W.Frag) (CT f fT : Addr) (fd : FuncData) : Prop where
  fn : ∃ (oc : Value) (od : Option Addr) (kV doc pm : Value) (an : Option Addr) (cda : Addr) (ct : Value) (cc : Addr) (osl : Array (Option Value)),
    fd = PySem.W.ksFn "__init__" "CoreTeller.__init__" (defArgs s_CoreTeller_init) (defBody s_CoreTeller_init) (defScope s_CoreTeller_init) .none kV doc pm an (.ref cda) ct cc ∧ K.lookup f = some ⟨oc, od, .func fd, osl⟩ ∧ PySem.W.codeIn K (.ref cda) "CoreTeller.__init__" = true ∧
    (∃ ccl cdd vs ccs file tf, K.lookup cda = some ⟨ccl, cdd, .fields vs, ccs⟩ ∧ vs[2]? = some (.str file tf) ∧ ((P.main.file : Str) == file) = true) ∧ (∃ cl cld csl, K.lookup cc = some ⟨cl, cld, .cell (some (.ref CT)), csl⟩)
  sup : PySem.W.ks_superIn K CT CT "__init__" = some (some (.ref fT))
  isC : PySem.W.mroIn K CT (.ref CT) = some true
  any : PySem.W.nsIn K PySem.cStatics "thirdparty.any" = some none
  top : (P.main.scope.names.lookup ("super" : Str)).isSome = false
  tT : PySem.W.typeIn K (.ref fT) = some (.type "function")
  fnT : PySem.W.fnIn K fT = true
theorem nsc_ct : NdefX.NScope ["self", "machine", "__class__"] ["self", "machine"] ["__class__"] (defScope s_CoreTeller_init) := NdefX.nscope_by (by decide +kernel)
section
variable {P : Program} {w : World} {K : PySem.W.Frag} {mg : Str → Option Value} {base : Heap} {f fT CT : Addr} {fd fdT : FuncData} {psT : List Str}
theorem ok_ctinit (F : CtI P K CT f fT fd) (D : ClsF K CT ["kept", "machine"]) (B : Blt mg) (T : FnOk P w K mg base CX0 1 fT fdT psT (spTInit CT)) (hT : Binds K fdT psT []) : FnOk P w K mg base CX0 2 f fd ["self", "machine"] (spCtInit CT) := by
  refine ⟨fun vs H Q E h => ?_, fun A outer s H args us vs Q E hr e0 hb r h => ?_⟩
  · obtain ⟨m, dx, v, rfl, _⟩ := h
    rfl
  obtain ⟨oc, od, kV, doc, pm, an, cda, ct, cc, osl, rfl, lk, hcd, ⟨ccl, cdd, cvs, ccs, file, tf, hcode, hvs, hfile⟩, ⟨cl, cld, csl, hcell⟩⟩ := F.fn
  obtain ⟨m, dx, v, rfl, hm, q⟩ := h
  have KX : K.In s.heap := e0.mod.kin.keeps fun b o e => (e0.bs b o e).1
  have lim : s.heap.NoLimit := e0.mod.nolimit.keeps fun b o e => (e0.bs b o e).1
  have noH : ∀ {b : Addr} {o : Obj}, K.lookup b = some o → H b = none := fun {b o} e => (e0.bs b o (e0.mod.kin _ _ e)).2
  have hl : ([V.ref m, v] : List V).length = (["self", "machine"] : List Str).length := rfl
  have e00 := e0
  have r0 := r
  cases r with
  | cons ra rt =>
  rename_i ua ut
  cases rt with
  | cons rb rn =>
  rename_i ub un
  cases rn
  obtain rfl : ua = Value.ref m := ra
  let NFc : NdefX.NF := ⟨"__init__", "CoreTeller.__init__", defArgs s_CoreTeller_init, defBody s_CoreTeller_init, defScope s_CoreTeller_init, [("__class__", cc)], cda⟩
  have Ce : NdefX.CellsAt NFc.cl ["__class__"] [none] s.heap H := by
    refine ⟨rfl, fun y c e => ?_, fun x y c e1 e2 => ?_, fun i y e => ?_⟩
    · have e' : ([("__class__", cc)] : List (Str × Addr)).lookup y = some c := e
      have ec : c = cc := by
        have z := PySem.mem_of_lookup e'
        rw [List.mem_singleton] at z
        cases z
        rfl
      subst ec
      exact ⟨noH hcell, _, ⟨_, KX _ _ hcell, rfl⟩⟩
    · have z1 := PySem.mem_of_lookup (show ([("__class__", cc)] : List (Str × Addr)).lookup x = some c from e1)
      have z2 := PySem.mem_of_lookup (show ([("__class__", cc)] : List (Str × Addr)).lookup y = some c from e2)
      rw [List.mem_singleton] at z1 z2
      cases z1
      cases z2
      rfl
    · cases i with
      | zero =>
        cases e
        exact ⟨cc, rfl, fun v e => by cases e⟩
      | succ i => simp at e
  refine PySem.ks_codeAny_call_defAt (body := defBody s_CoreTeller_init) (binds := (["self", "machine"] : List Str).zip [Value.ref m, ub]) hr.depth (KX _ _ lk) rfl lim (PySem.W.codeRec_of KX hcd) rfl hb (fun y hy => ?_) (fun y hy => ?_) (fun h₁ hns kp => ?_) rfl rfl rfl
  · exact nsc_ct.nocell y hy
  · simp only [List.zip_cons_cons, List.zip_nil_left, List.mem_cons, List.not_mem_nil, or_false] at hy
    rcases hy with rfl | rfl <;> rfl
  have I : Inv (NdefX.ncx CX0 P w K mg base ["self", "machine", "__class__"] NFc f A outer s H E) [] (NdefX.startF ["self", "machine", "__class__"] [V.ref m, v] [none]) H { s with heap := h₁, toks := s.toks + ((["self", "machine"] : List Str).zip [Value.ref m, ub]).length } :=
    NdefX.inv_startN (ps := ["self", "machine"]) (fr := ["__class__"]) nsc_ct hr.hd e0 hl r0 Ce hns kp
  let X := NdefX.ncx CX0 P w K mg base ["self", "machine", "__class__"] NFc f A outer s H E
  have KX1 : K.In h₁ := KX.keeps kp
  obtain ⟨oD, hD1, cdD, hcl, hD2⟩ : ∃ oD, h₁.get? CT = some oD ∧ ∃ cdD, PySem.W.clsIn K CT = some cdD ∧ oD.data = .cls cdD := by
    have z := F.sup
    unfold PySem.W.ks_superIn at z
    cases e : PySem.W.clsIn K CT with
    | none => rw [e] at z; cases z
    | some cd =>
      have e' := e
      unfold PySem.W.clsIn at e'
      split at e'
      · rename_i c d cd' sl ho
        cases e'
        exact ⟨_, KX1 _ _ ho, _, rfl, rfl⟩
      · cases e'
  have hml : H CT = none := by
    have z := hcl
    unfold PySem.W.clsIn at z
    split at z
    · rename_i c d cd' sl ho
      exact noH ho
    · cases z
  have hmC : m ≠ CT := fun e => by rw [e, hml] at hm; cases hm
  obtain ⟨-, -, -, hx1, -⟩ := I.hok m _ hm
  have hx1 : h₁.get? m = some (PySem.W.instObj CT dx) := hx1
  have hks : (defScope s_CoreTeller_init).names.lookup ("super" : Str) = some .globalImplicit := by decide +kernel
  have hkc : (defScope s_CoreTeller_init).names.lookup ("__class__" : Str) = some .free := by decide +kernel
  have hfs : (defScope s_CoreTeller_init).names.lookup ("self" : Str) = some .local := by decide +kernel
  have hs1 : ((["self", "machine"] : List Str).zip [Value.ref m, ub]).reverse.lookup ("self" : Str) = some (.ref m) := rfl
  obtain ⟨mb, hmb, hmb2⟩ := e0.mod.blt
  have kb : ∀ b o, base.get? b = some o → h₁.get? b = some o := fun b o e => kp _ _ (e0.bs b o e).1
  refine PySem.ks_wpAt_execs_cons (PySem.ks_wpAt_Expr_any (PySem.ks_wpAt_MethodCall ?_ (OwnX.mc_eq rfl (by decide +kernel))) (by first | rfl | with_unfolding_all rfl) (by first | rfl | with_unfolding_all rfl))
  refine PySem.ks_wpAt_super_base (env := PySem.W.ksEnv "CoreTeller.__init__" (defScope s_CoreTeller_init) s.heap.objs.size f (.ref cda) cc) hks hkc (by decide) rfl (KX1 _ _ lk) rfl rfl rfl (KX1 _ _ hcode) rfl hvs hfile F.top ?_
  refine PySem.W.ks_loadName_global rfl hks (PySem.Calls.loadGlobal_builtin (env := PySem.W.ksEnv "CoreTeller.__init__" (defScope s_CoreTeller_init) s.heap.objs.size f (.ref cda) cc) (e0.mod.glob.keeps kb) B.super (hmb.keeps kb) ((hmb2 _ (by decide)).trans (by decide +kernel)) ⟨rfl, ?_⟩)
  refine wpAny_loadName_free rfl hkc rfl ⟨_, KX1 _ _ hcell, rfl⟩ ?_
  refine wpAny_loadName_local rfl hfs hns hs1 ?_
  refine PySem.ks_wpAny_isType_cls hD1 hD2 ⟨rfl, ?_⟩
  refine PySem.ks_wpAny_call_super hD1 hD2 hx1 rfl (fun c e => by cases e) (PySem.W.looks_mroIn KX1 F.isC) (fun h2 e2 k2 => ?_)
  have KX2 : K.In h2 := KX1.keeps k2
  have I2 := I.kept (t' := s.toks + ((["self", "machine"] : List Str).zip [Value.ref m, ub]).length) k2
  have hsup := F.sup
  unfold PySem.W.ks_superIn at hsup
  rw [hcl] at hsup
  obtain ⟨of, hof, hofc⟩ : ∃ of, h2.get? fT = some of ∧ of.cls = .type "function" := by
    have ht' : (K.lookup fT).map (·.cls) = some (.type "function") := F.tT
    cases z : K.lookup fT with
    | none => rw [z] at ht'; cases ht'
    | some of => rw [z] at ht'; exact ⟨of, KX2 _ _ z, Option.some.inj ht'⟩
  refine PySem.ks_wpAny_getMethod_super e2 (PySem.W.looks_opaque KX2 F.any) (l₀ := cdD.mro) ?_ rfl KX2 hsup hof hofc hmC (by decide) ?_
  · exact fun A Q E s k q => wpAny_bind ((PySem.W.looks_clsIn KX2 hcl) A _ E s k (wpAny_pure q))
  have I3 := ClX.met_new (g := fT) (C := m) I2
  have hq3 := ClX.pin_at I3
  refine PySem.W.callWith_M0 (first := []) (K := K) (g := fT) (self := .ref m) ⟨hq3, KX2.keeps fun b o e => Heap.get?_push_of_some _ e⟩ F.fnT ?_
  have hrX : Room 1 X.A := hr.deeper _
  have fin : ∀ {σ' : L2.St} {H' : Hp} {v : V} {u : Value} {s' : Shared}, Inv X [] σ' H' s' → L2.RelV v u → Q v H' → CE outer P w H s Q u s' :=
    fun {σ' H' v u s'} J rv q => ⟨v, H', J.os, J.bare, J.base, J.hok, rv, q⟩
  have run := ClX.run_cm (X := X) (E := E0) (FnOk.raw T hT .nil) hrX pass0 I3 (vs := []) .nil (Q := fun v H' => v = .non ∧ ∃ d, H d = none ∧ H' = upd (upd H d (.dK [])) m (.ins CT dx [("kept", .ref d)])) ⟨m, dx, rfl, hm, fun d hd => ⟨rfl, d, hd, rfl⟩⟩
  refine wpAny_mono run (fun u s' hs => ?_) fun e s' hs => hs
  obtain ⟨x, H', J, rx, rfl, d, hd, rfl⟩ := hs
  have hm' : upd (upd H d (.dK [])) m (.ins CT dx [("kept", .ref d)]) m = some (.ins CT dx [("kept", .ref d)]) := upd_same
  have st2 : PSs X ((defBody s_CoreTeller_init).drop 1) _ := (pss_one (ps_fld (pv 0) (pv 1) rfl))
  refine PySem.wpAt_of_wpAny ?_
  refine wpAny_mono (st2.run [] _ (NdefX.startF ["self", "machine", "__class__"] [V.ref m, v] [none]) _ { nx := fun _ H' => Q .non H', rt := Q } J ?_) (fun fl s'' hs => ?_) fun e s'' hs => hs
  · refine ⟨_, rfl, _, rfl, m, CT, dx, _, rfl, hm', D.cls, D.no "machine" (by decide), (by show 1 < 1000; decide), ?_⟩
    have e : upd (upd (upd H d (.dK [])) m (.ins CT dx [("kept", .ref d)])) m (.ins CT dx (putF "machine" v [("kept", .ref d)])) = upd (upd H d (.dK [])) m (.ins CT dx [("kept", .ref d), ("machine", v)]) := by
      rw [upd_upd]
      rfl
    show Q .non _
    rw [e]
    exact q d hd
  · cases fl with
    | ret u =>
      obtain ⟨v, σ', H', J, rv, q⟩ := hs
      exact fin J rv q
    | next =>
      obtain ⟨σ', H', J, q⟩ := hs
      exact fin (v := V.non) (u := Value.none) J rfl q
    | brk =>
      obtain ⟨_, _, _, q⟩ := hs
      exact False.elim q
    | cont =>
      obtain ⟨_, _, _, q⟩ := hs
      exact False.elim q
end
end K9
end
section
set_option Elab.async false
set_option linter.all false
set_option maxRecDepth 100000
set_option maxHeartbeats 4000000
namespace K9
open PySem PySem.Spec PyProof.Rows L2
theorem sc_law : FnScope ["_law_script", "_law_k"] ["_law_script"] (defScope s_law) := ⟨rfl, rfl, rfl, by decide +kernel, rfl, by decide +kernel, by decide +kernel⟩
def spLaw9 (K : PySem.W.Frag) : Sp := fun vs H Q _ => ∃ (a : Addr) (ns : List Int), vs = [.ref a] ∧ SqL K H a (ns.map V.int) ∧ ns.length ≤ 63 ∧ ∀ H', Q (.bl true) H'
section
variable {P : Program} {w : World} {K : PySem.W.Frag} {mg : Str → Option Value} {base : Heap} {f : Addr} {fd : FuncData}
theorem ok_law9 (F : Fun K "law" "law" s_law f fd) (B : Blt mg) (D1 : Dn P w K mg base CX0 "_law_feed" 1 2 (spFeed K)) (D2 : Dn P w K mg base CX0 "_law_right" 11 1 spRight) : FnOk P w K mg base CX0 12 f fd ["_law_script"] (spLaw9 K) := by
  refine F.ok sc_law (fun vs H Q E h => ?_) (fun cdv A outer s H vs Q E hr h => ?_)
  · obtain ⟨a, ns, rfl, _⟩ := h
    rfl
  · obtain ⟨a, ns, rfl, hS, hl, q⟩ := h
    refine ⟨_, (pss_cons (ps_for PassesOwn.never rfl (pi_range1 rfl B.range (pa_cons (pe_callB (call_max2 rfl) (by rfl) B.max (by decide +kernel) (pa_cons pe_int (pa_cons (pe_callB (call_min2 rfl) (by rfl) B.min (by decide +kernel) (pa_cons (pe_callB call_len_seq (by rfl) B.len PySem.boot_len (pa_cons (pv 0) pa_nil)) (pa_cons pe_int pa_nil))) pa_nil))) pa_nil)) (pg_name (i := 1) sc_law.nd rfl (.inl rfl)) (pss_one (ps_if (pt_not (pt_val (pe_dn D2 (hr.mono (by decide)) pass0 (pa_cons (pe_dn D1 (hr.mono (by decide)) pass0 (pa_cons (pv 0) (pa_cons (pv 1) pa_nil))) pa_nil)))) (pss_one (ps_ret pe_bl)) pss_nil)))
      (pss_one (ps_ret pe_bl))), ?_⟩
    refine ⟨_, rfl, a, _, rfl, .inl hS, _, _, rfl, _, _, rfl, ?_⟩
    have hz : ∀ L : Int, (if (if (3 : Int) < L then 3 else L) > 1 then (if (3 : Int) < L then 3 else L) else 1) ≤ 3 ∧ 1 ≤ (if (if (3 : Int) < L then 3 else L) > 1 then (if (3 : Int) < L then 3 else L) else 1) := fun L => by
      split <;> (try split) <;> omega
    obtain ⟨z1, z2⟩ := hz ((ns.map V.int).length : Int)
    generalize (if (if (3 : Int) < ((ns.map V.int).length : Int) then 3 else ((ns.map V.int).length : Int)) > 1 then (if (3 : Int) < ((ns.map V.int).length : Int) then 3 else ((ns.map V.int).length : Int)) else 1) = z at z1 z2 ⊢
    refine ⟨_, rfl, by omega, by omega, for_it (walk_range (lo := 0) (n := z.toNat)) (fun i σ G => ∃ u, σ = [some (.ref a), u] ∧ Same H G) ⟨_, rfl, Same.refl _⟩ (fun _ _ _ _ _ => trivial) (fun i x σ G G' hi h3 hy => ?_) (fun σ G h3 => ?_)⟩
    · obtain ⟨u, rfl, s3⟩ := h3
      obtain ⟨rfl, rfl⟩ := hy
      refine ⟨_, rfl, _, rfl, a, ns, _, rfl, s3.seq hS, by omega, by omega, fun G2 p x y s2 np hx hy hp => ?_⟩
      refine ⟨p, rfl, ⟨x, y, 0, hp, hx, hy, Int.le_refl _, Int.le_refl _⟩, fun G3 k3 => ⟨_, rfl, iteF ?_⟩⟩
      exact ⟨_, rfl, fun q o e => k3 q o (ne_of_none (s3 q o e) np) (s2 q o (s3 q o e))⟩
    · obtain ⟨u, rfl, s3⟩ := h3
      exact q G
end
end K9
end
section
set_option Elab.async false
set_option linter.all false
set_option maxRecDepth 100000
set_option maxHeartbeats 4000000
namespace K9
open PySem PySem.Spec PyProof.Rows L2
theorem ktup_of {K : PySem.W.Frag} {a : Addr} {vs : List V} (h : tupAtB K a vs = true) : KTup K a vs := by
  unfold tupAtB at h
  cases q : K.lookup a with
  | none => rw [q] at h; cases h
  | some o =>
    obtain ⟨oc, od, dt, osl⟩ := o
    rw [q] at h
    cases oc with
    | type c =>
      cases dt with
      | seq its n =>
        obtain ⟨h1, h2⟩ := He.ba (show (decide (c = "tuple") && (decide (its.size ≤ sizeLine) && He.relAll vs its.toList)) = true from h)
        obtain ⟨h3, h4⟩ := He.ba h2
        exact ⟨_, its, n, q, congrArg Value.type (of_decide_eq_true h1), rfl, of_decide_eq_true h3, He.relAll_ok h4⟩
      | _ => cases h
    | _ => cases dt <;> cases h
theorem form_of {K : PySem.W.Frag} {d : Addr} {c : Str × List Str} (h : formB K d c = true) : ∃ a, KTup K a (c.2.map V.str) ∧ PySem.W.nsIn K d c.1 = some (some (.ref a)) := by
  unfold formB at h
  cases q : PySem.W.nsIn K d c.1 with
  | none => rw [q] at h; cases h
  | some o =>
    rw [q] at h
    cases o with
    | none => cases h
    | some v =>
      cases v with
      | ref a => exact ⟨a, ktup_of h, rfl⟩
      | _ => cases h
theorem excE_of {K : PySem.W.Frag} {C : Addr} (q : excEB K C = true) : ∃ nm qn N bs sn sub ab col dd k0 k1 k2 k3 k5, K.lookup C = some (excClassObj nm qn C N bs PySem.ESX.exTail true sn sub ab col dd k0 k1 k2 k3 k5 "Exception.__new__") := by
  unfold excEB at q
  split at q
  · rename_i dd cd sl ho
    split at q
    · rename_i C' bm k0 k1 k2 k3 n k5 hm hs
      simp only [Bool.and_eq_true, beq_iff_eq, Bool.not_eq_true', decide_eq_true_eq] at q
      obtain ⟨⟨⟨⟨rfl, rfl⟩, hdel⟩, hdc⟩, ht⟩ := q
      obtain ⟨nm, bs, mro, ns, qn, hd, sn, sub, ab, col, del⟩ := cd
      dsimp only at hm hdel hdc
      subst hm hdel hdc ht
      have hsl : sl = #[k0, k1, k2, k3, some (.builtin "Exception.__new__"), k5] := by
        obtain ⟨l⟩ := sl
        simp only at hs
        rw [hs]
      subst hsl
      exact ⟨_, _, _, _, _, _, _, _, _, _, _, _, _, _, ho⟩
    · cases q
  · cases q
theorem file_of {K : PySem.W.Frag} {cda : Addr} (h : fileB K cda = true) : ∃ ccl cdd vs ccs file tf, K.lookup cda = some ⟨ccl, cdd, .fields vs, ccs⟩ ∧ vs[2]? = some (.str file tf) ∧ ((P9.main.file : Str) == file) = true := by
  unfold fileB at h
  split at h
  · rename_i ccl cdd vs ccs z3
    split at h
    · rename_i file tf z4
      exact ⟨_, _, _, _, _, _, z3, z4, h⟩
    · cases h
  · cases h
theorem cls_of {K : PySem.W.Frag} {cc C : Addr} (h : clsB K cc C = true) : ∃ cl cld csl, K.lookup cc = some ⟨cl, cld, .cell (some (.ref C)), csl⟩ := by
  unfold clsB at h
  split at h
  · rename_i cl cld C' csl z3
    obtain rfl : C' = C := of_decide_eq_true h
    exact ⟨_, _, _, z3⟩
  · cases h
theorem cellV_of {K : PySem.W.Frag} {C : Addr} {q : Str} : ∀ {c : Value} {cl : List (Str × Addr)}, cellV K C q c cl = true → ∃ cda cc, c = .ref cda ∧ cl = [(("__class__" : Str), cc)] ∧ PySem.W.codeIn K (.ref cda) q = true ∧ fileB K cda = true ∧ clsB K cc C = true := by
  intro c cl h
  unfold cellV at h
  split at h
  · rename_i cda x cc
    obtain ⟨k1, h⟩ := He.ba h
    obtain ⟨k2, h⟩ := He.ba h
    obtain ⟨k3, k4⟩ := He.ba h
    obtain rfl : x = "__class__" := of_decide_eq_true k1
    exact ⟨cda, cc, rfl, rfl, k2, k3, k4⟩
  · cases h
theorem fc_of {K : PySem.W.Frag} {f C : Addr} {qual : Str} {st : Stmt} (e : fcOf K f = fcVal qual st) (h : cellB K f C qual = true) :
    ∃ (oc : Value) (od : Option Addr) (kV doc pm : Value) (an : Option Addr) (cda : Addr) (ct : Value) (cc : Addr) (osl : Array (Option Value)),
      K.lookup f = some ⟨oc, od, .func (PySem.W.ksFn "__init__" qual (defArgs st) (defBody st) (defScope st) .none kV doc pm an (.ref cda) ct cc), osl⟩ ∧ PySem.W.codeIn K (.ref cda) qual = true ∧
      (∃ ccl cdd vs ccs file tf, K.lookup cda = some ⟨ccl, cdd, .fields vs, ccs⟩ ∧ vs[2]? = some (.str file tf) ∧ ((P9.main.file : Str) == file) = true) ∧ (∃ cl cld csl, K.lookup cc = some ⟨cl, cld, .cell (some (.ref C)), csl⟩) := by
  unfold fcOf at e
  unfold cellB at h
  cases q : K.lookup f with
  | none => rw [q] at h; cases h
  | some o =>
    obtain ⟨oc, od, dt, osl⟩ := o
    rw [q] at e h
    cases dt with
    | func fd =>
      obtain ⟨n1, n2, n3, n4, n5, n6, n7, n8, n9, n10, n11, n12, n13, n14, n15⟩ := fd
      have e2 : (some (n1, n2, n3, n4, n5, n6, n8, n15) : FcV) = (some (("__init__" : Str), qual, defArgs st, FuncBody.stmts (defBody st), defScope st, mainGlobals, Value.none, builtinsNs) : FcV) := e
      simp only [Option.some.injEq, Prod.mk.injEq] at e2
      obtain ⟨h1, h2, h3, h4, h5, h6, h7, h8⟩ := e2
      subst h1 h2 h3 h4 h5 h6 h7 h8
      obtain ⟨cda, cc, z1, z2, k2, k3, k4⟩ := cellV_of (show cellV K C n2 n13 n7 = true from h)
      subst z1 z2
      exact ⟨oc, od, n9, n10, n11, n12, cda, n14, cc, osl, rfl, k2, file_of k3, cls_of k4⟩
    | _ => cases h
theorem fun_of {K : PySem.W.Frag} {x qual : Str} {st : Stmt} {f : Addr} (h : ∃ fd, FunD K x qual (defArgs st) (defBody st) (defScope st) [] [] f fd) : ∃ fd, Fun K x qual st f fd := by
  obtain ⟨fd, ⟨oc, od, dV, kV, doc, pm, an, cdv, ct, osl, rfl, lk, hcd, hd, hk⟩, kp⟩ := h
  rcases hd with ⟨_, rfl⟩ | ⟨z, _⟩
  · exact ⟨_, ⟨oc, od, kV, doc, pm, an, cdv, ct, osl, rfl, lk, hcd⟩, kp⟩
  · exact (z rfl).elim
end K9
end
section
set_option Elab.async false
set_option linter.all false
set_option maxRecDepth 100000
set_option maxHeartbeats 8000000
namespace K9
open PySem PySem.Spec PyProof.Rows L2
section
variable {P : Program} {w : World} {K : PySem.W.Frag} {mg : Str → Option Value} {base h : Heap}
theorem dn_mk {CX : CXT} {x y q : Str} {st : Stmt} {k n : Nat} {f : Addr} {fd : FuncData} {ps : List Str} {sp : Sp} (g : mg x = some (.ref f)) (F : Fun K y q st f fd) (b : Binds K fd ps []) (ok : FnOk P w K mg base CX k f fd ps sp) (hn : ps.length = n := by rfl) : Dn P w K mg base CX x k n sp := ⟨f, fd, ps, hn, g, F.kp, b, ok⟩
theorem mn_mk {CX : CXT} {C : Addr} {m : Str} {k n : Nat} {f : Addr} {fd : FuncData} {ps : List Str} {sp : Sp} (M : Meth K C m f) (b : Binds K fd ps []) (ok : FnOk P w K mg base CX k f fd ps sp) (hn : ps.length = n := by rfl) : Mn P w K mg base CX C m k n sp := ⟨f, fd, ps, hn, M, b, ok⟩
theorem kn_mk {CX : CXT} {C : Addr} {x : Str} {k n : Nat} {f : Addr} {fd : FuncData} {ps : List Str} {sp : Sp} (g : mg x = some (.ref C)) (M : Mk K C f) (b : Binds K fd ps []) (ok : FnOk P w K mg base CX k f fd ps sp) (hn : ps.length = n := by rfl) : Kn P w K mg base CX x C k n sp := ⟨f, fd, ps, hn, g, M, b, ok⟩
theorem kdct_of {w : World} {a : Addr} {kvs : List (Str × He.Dv)} {z x : Str} (D : ∃ es n, KDict K w a es n) (h : He.valsB K a kvs = true) (hq : (z, He.Dv.glo x) ∈ kvs) : KDct K w a z (.ref (He.ga K x)) := by
  obtain ⟨es, n, D⟩ := D
  obtain ⟨u, h1, h2⟩ := He.valsB_ok h hq
  exact ⟨es, n, u, D.at_, D.lit, h1, h2⟩
/-- what the head tells, by names -/
structure Tl (mg : Str → Option Value) (w : World) (K : PySem.W.Frag) : Prop where
  gl : ∀ x ∈ globs9, mg x = some (.ref (He.ga K x))
  fr : ∀ x ∈ frees9, mg x = none
  it : ∀ p ∈ ints9, ∃ t, mg p.1 = some (.int p.2 t)
  cl : ∀ x ∈ clss9, Cls K (He.ga K x) ∧ Mk K (He.ga K x) (He.ma K (He.ga K x) "__init__")
  cf : ∀ p ∈ noats9, ∀ f ∈ p.2, NoAttr K (He.ga K p.1) f
  me : ∀ p ∈ meths9, Meth K (He.ga K p.1) p.2 (He.ma K (He.ga K p.1) p.2)
theorem tl_of (X : K.In h) (G : h.Ns mainGlobals mg) (c : exL9 K = true) : Tl mg w K := by
  obtain ⟨h1, c⟩ := He.ba c
  obtain ⟨h2, c⟩ := He.ba c
  obtain ⟨h3, c⟩ := He.ba c
  obtain ⟨h4, c⟩ := He.ba c
  obtain ⟨h5, h6⟩ := He.ba c
  refine ⟨fun x hx => He.glo_ok X G (List.all_eq_true.mp h1 x hx), fun x hx => He.free_ok X G (List.all_eq_true.mp h2 x hx), fun p hp => He.int_ok X G (List.all_eq_true.mp h3 p hp), fun x hx => ?_, fun p hp f hf => He.noat_ok (List.all_eq_true.mp (List.all_eq_true.mp h5 p hp) f hf), fun p hp => He.meth_ok (List.all_eq_true.mp h6 p hp)⟩
  obtain ⟨a, b⟩ := He.ba (List.all_eq_true.mp h4 x hx)
  exact ⟨He.cls_ok a, He.mkr_ok b⟩
theorem clsf_of (T : Tl mg w K) (x : Str) (fs : List Str) (h1 : x ∈ clss9 := by decide) (h2 : (x, fs) ∈ noats9 := by decide) : ClsF K (He.ga K x) fs := ⟨(T.cl x h1).1, T.cf (x, fs) h2⟩
theorem blt_of (T : Tl mg w K) : Blt mg where
  isinstance := T.fr "isinstance" (by decide)
  int := T.fr "int" (by decide)
  bool := T.fr "bool" (by decide)
  str := T.fr "str" (by decide)
  tuple := T.fr "tuple" (by decide)
  len := T.fr "len" (by decide)
  all := T.fr "all" (by decide)
  zip := T.fr "zip" (by decide)
  list := T.fr "list" (by decide)
  reversed := T.fr "reversed" (by decide)
  range := T.fr "range" (by decide)
  max := T.fr "max" (by decide)
  min := T.fr "min" (by decide)
  sum := T.fr "sum" (by decide)
  super := T.fr "super" (by decide)
theorem glo_of (T : Tl mg w K) : Glo mg where
  TABLES_MOST := T.it ("TABLES_MOST", 60) (by decide)
  SINGLES_MOST := T.it ("SINGLES_MOST", 60) (by decide)
  BODIES_MOST := T.it ("BODIES_MOST", 600) (by decide)
  LOCALS_MOST := T.it ("LOCALS_MOST", 400) (by decide)
  CS_DEEP := T.it ("CS_DEEP", 240) (by decide)
  TEXT_MOST_coreform := T.it ("TEXT_MOST_coreform", 80) (by decide)
  TOLD_MOST := T.it ("TOLD_MOST", 200) (by decide)
  OBJECTS_DEEP := T.it ("OBJECTS_DEEP", 5) (by decide)
  UNDER_WAY_MOST := T.it ("UNDER_WAY_MOST", 6000) (by decide)
  CORE_MOST := T.it ("CORE_MOST", 100000) (by decide)
theorem own_ended (c : exE9 K = true) (e : fcOf K (fE9 K) = fcVal "Ended.__init__" s_Ended_init) : PySem.OwnY.OwnT P9 K "Ended.__init__" (He.ga K "Ended") (fE9 K) ∧ XfC K (He.ga K "Ended") ∧ PySem.W.typeIn K (.ref (He.ga K "Ended")) = some (.type "type") ∧ PySem.W.exmOne K (.ref (He.ga K "Ended")) (.ref (He.ga K "Ended")) = some true := by
  obtain ⟨c1, c⟩ := He.ba c
  obtain ⟨c2, c⟩ := He.ba c
  obtain ⟨c3, c⟩ := He.ba c
  obtain ⟨c4, c⟩ := He.ba c
  obtain ⟨c5, c⟩ := He.ba c
  obtain ⟨c6, c⟩ := He.ba c
  obtain ⟨c7, c⟩ := He.ba c
  obtain ⟨c8, c⟩ := He.ba c
  obtain ⟨c9, c⟩ := He.ba c
  obtain ⟨c10, c⟩ := He.ba c
  obtain ⟨c11, c⟩ := He.ba c
  obtain ⟨c12, c⟩ := He.ba c
  obtain ⟨c13, c⟩ := He.ba c
  obtain ⟨c14, c15⟩ := He.ba c
  have xf := xfB_ok c13
  refine ⟨⟨excE_of c1, He.eqO_ok c2, He.eqO_ok c3, He.eqO_ok c4, He.eqO_ok c5, of_decide_eq_true c6, c7, ?_, of_decide_eq_true c9, of_decide_eq_true c10, of_decide_eq_true c11, of_decide_eq_true c12, by first | rfl | decide +kernel, ?_, xf.exC, xf.ga, xf.gg, xf.hdC⟩, xf, of_decide_eq_true c14, of_decide_eq_true c15⟩
  · obtain ⟨oc, od, kV, doc, pm, an, cda, ct, cc, osl, a1, a2, a3, a4⟩ := fc_of e c8
    exact ⟨oc, od, kV, doc, pm, an, cda, ct, cc, osl, _, _, _, ⟨_, _, _, _, _, _, _, _, _, _, _, _, _, _, _, _, _, _, _⟩, a1, a2, by first | rfl | decide +kernel, a3, a4⟩
  · intro fd h s x v u
    obtain ⟨kV, doc, pm, an, cda, ct, cc, p1, p2, p3, z, rfl⟩ := h
    exact .of_eq rfl
theorem ct_of (c : exC9 K = true) (e : fcOf K (fC9 K) = fcVal "CoreTeller.__init__" s_CoreTeller_init) (ay : PySem.W.nsIn K PySem.cStatics "thirdparty.any" = some none) : ∃ fd, CtI P9 K (He.ga K "CoreTeller") (fC9 K) (He.ma K (He.ga K "Teller") "__init__") fd := by
  obtain ⟨c1, c⟩ := He.ba c
  obtain ⟨c2, c⟩ := He.ba c
  obtain ⟨c3, c⟩ := He.ba c
  obtain ⟨c4, c5⟩ := He.ba c
  obtain ⟨oc, od, kV, doc, pm, an, cda, ct, cc, osl, a1, a2, a3, a4⟩ := fc_of e c1
  exact ⟨_, ⟨oc, od, kV, doc, pm, an, cda, ct, cc, osl, rfl, a1, a2, a3, a4⟩, of_decide_eq_true c2, of_decide_eq_true c3, ay, by first | rfl | decide +kernel, of_decide_eq_true c4, c5⟩
theorem ct_binds {C f fT : Addr} {fd : FuncData} (F : CtI P9 K C f fT fd) : Binds K fd ["self", "machine"] [] := by
  obtain ⟨oc, od, kV, doc, pm, an, cda, ct, cc, osl, rfl, _⟩ := F.fn
  exact .all fun us hl => match us, hl with | [_, _], _ => rfl
/-- the law's promise -/
theorem all9 {fa : Addr} (X : K.In h) (G : h.Ns mainGlobals mg) (hfa : mg "law" = some (.ref fa)) (c : Says9 w K) :
    ∃ fd : FuncData, (∀ (s : Shared) (v : Value), BindsTo s fd ⟨[v], []⟩ [("_law_script", v)]) ∧ ∀ base : Heap, K.In base → base.Ns mainGlobals mg → FnOk P9 w K mg base CX0 12 fa fd ["_law_script"] (spLaw9 K) := by
  have cL := c.exL
  obtain ⟨cT, c1⟩ := He.ba c.ex
  obtain ⟨cI, c1⟩ := He.ba c1
  obtain ⟨cC, cE⟩ := He.ba c1
  have cd := He.SaysT.d c.t
  have T : Tl mg w K := tl_of X G cL
  have B := blt_of T
  have Gl := glo_of T
  have gl : ∀ x ∈ globs9, mg x = some (.ref (He.ga K x)) := T.gl
  have mk : ∀ x ∈ clss9, Mk K (He.ga K x) (He.ma K (He.ga K x) "__init__") := fun x hx => (T.cl x hx).2
  have me : ∀ p ∈ meths9, Meth K (He.ga K p.1) p.2 (He.ma K (He.ga K p.1) p.2) := T.me
  obtain ⟨tU, cT⟩ := He.ba cT
  obtain ⟨tC, cT⟩ := He.ba cT
  obtain ⟨tF, cT⟩ := He.ba cT
  obtain ⟨tB, tE⟩ := He.ba cT
  obtain ⟨i1, cI⟩ := He.ba cI
  obtain ⟨i2, cI⟩ := He.ba cI
  obtain ⟨i3, cI⟩ := He.ba cI
  obtain ⟨i4, cI⟩ := He.ba cI
  obtain ⟨i5, cI⟩ := He.ba cI
  obtain ⟨i6, i7⟩ := He.ba cI
  obtain ⟨OE, XE, tyE, exE⟩ := own_ended cE c.fE
  obtain ⟨fd_ct, F_ct⟩ := ct_of cC c.fC OE.any
  have b_ct := ct_binds F_ct
  have DF : ∃ es n, KDict K w (He.ga K "CFORMS") es n := He.SaysT.tab c.t 0 (t := (fun K => He.ga K "CFORMS", ks_CFORMS)) rfl
  have DB : ∃ es n, KDict K w (He.ga K "BEGINS") es n := He.SaysT.tab c.t 1 (t := (fun K => He.ga K "BEGINS", ks_BEGINS)) rfl
  have DE : ∃ es n, KDict K w (He.ga K "ENDS") es n := He.SaysT.tab c.t 2 (t := (fun K => He.ga K "ENDS", ks_ENDS)) rfl
  have fm : Forms K w (He.ga K "CFORMS") := ⟨DF, fun k => by
    have z := fun r (hr : r ∈ reps9) => form_of (List.all_eq_true.mp tF r hr)
    cases k with
    | unit => exact z ("unit", []) (by simp [reps9])
    | loc => exact z ("local", ["local"]) (by simp [reps9])
    | thn a b => exact z ("then", ["c", "c"]) (by simp [reps9])
    | dir n a => exact z ("direct", ["body", "cs"]) (by simp [reps9])
    | snd a s => exact z ("send", ["c", "selector", "cs"]) (by simp [reps9])
    | mak n => exact z ("make", ["table", "cs"]) (by simp [reps9])
    | sgl n => exact z ("single", ["single"]) (by simp [reps9])⟩
  obtain ⟨fd_is_integer, F_is_integer⟩ : ∃ fd, Fun K "is_integer" "is_integer" s_is_integer (He.fAd K ("is_integer", none)) fd := fun_of (cd.def_ 0 (d := d_is_integer) rfl)
  have b_is_integer := F_is_integer.binds (ps := ["thing"]) fun _ _ _ _ _ _ us hl => match us, hl with | [_], _ => rfl
  obtain ⟨fd_is_number, F_is_number⟩ : ∃ fd, Fun K "is_number" "is_number" s_is_number (He.fAd K ("is_number", none)) fd := fun_of (cd.def_ 1 (d := d_is_number) rfl)
  have b_is_number := F_is_number.binds (ps := ["thing", "bound"]) fun _ _ _ _ _ _ us hl => match us, hl with | [_, _], _ => rfl
  obtain ⟨fd_is_row, F_is_row⟩ : ∃ fd, Fun K "is_row" "is_row" s_is_row (He.fAd K ("is_row", none)) fd := fun_of (cd.def_ 2 (d := d_is_row) rfl)
  have b_is_row := F_is_row.binds (ps := ["thing", "many"]) fun _ _ _ _ _ _ us hl => match us, hl with | [_, _], _ => rfl
  obtain ⟨fd_is_text, F_is_text⟩ : ∃ fd, Fun K "is_text" "is_text" s_is_text (He.fAd K ("is_text", none)) fd := fun_of (cd.def_ 3 (d := d_is_text) rfl)
  have b_is_text := F_is_text.binds (ps := ["thing"]) fun _ _ _ _ _ _ us hl => match us, hl with | [_], _ => rfl
  obtain ⟨fd_is_label, F_is_label⟩ : ∃ fd, Fun K "is_label" "is_label" s_is_label (He.fAd K ("is_label", none)) fd := fun_of (cd.def_ 4 (d := d_is_label) rfl)
  have b_is_label := F_is_label.binds (ps := ["thing"]) fun _ _ _ _ _ _ us hl => match us, hl with | [_], _ => rfl
  obtain ⟨fd_are_ascending, F_are_ascending⟩ : ∃ fd, Fun K "are_ascending" "are_ascending" s_are_ascending (He.fAd K ("are_ascending", none)) fd := fun_of (cd.def_ 5 (d := d_are_ascending) rfl)
  have b_are_ascending := F_are_ascending.binds (ps := ["things"]) fun _ _ _ _ _ _ us hl => match us, hl with | [_], _ => rfl
  obtain ⟨fd_are_labels, F_are_labels⟩ : ∃ fd, Fun K "are_labels" "are_labels" s_are_labels (He.fAd K ("are_labels", none)) fd := fun_of (cd.def_ 6 (d := d_are_labels) rfl)
  have b_are_labels := F_are_labels.binds (ps := ["thing"]) fun _ _ _ _ _ _ us hl => match us, hl with | [_], _ => rfl
  obtain ⟨fd_cs_in, F_cs_in⟩ : ∃ fd, Fun K "cs_in" "cs_in" s_cs_in (He.fAd K ("cs_in", none)) fd := fun_of (cd.def_ 7 (d := d_cs_in) rfl)
  have b_cs_in := F_cs_in.binds (ps := ["c"]) fun _ _ _ _ _ _ us hl => match us, hl with | [_], _ => rfl
  obtain ⟨fd_CoreForm_init, F_CoreForm_init⟩ : ∃ fd, Fun K "__init__" "CoreForm.__init__" s_CoreForm_init (He.fAd K ("CoreForm", some "__init__")) fd := fun_of (cd.def_ 8 (d := d_CoreForm_init) rfl)
  have b_CoreForm_init := F_CoreForm_init.binds (ps := ["self", "thing"]) fun _ _ _ _ _ _ us hl => match us, hl with | [_, _], _ => rfl
  obtain ⟨fd_CoreForm_has_this, F_CoreForm_has_this⟩ : ∃ fd, Fun K "has_this" "CoreForm.has_this" s_CoreForm_has_this (He.fAd K ("CoreForm", some "has_this")) fd := fun_of (cd.def_ 9 (d := d_CoreForm_has_this) rfl)
  have b_CoreForm_has_this := F_CoreForm_has_this.binds (ps := ["self", "number"]) fun _ _ _ _ _ _ us hl => match us, hl with | [_, _], _ => rfl
  obtain ⟨fd_CoreForm_is_frame, F_CoreForm_is_frame⟩ : ∃ fd, Fun K "is_frame" "CoreForm.is_frame" s_CoreForm_is_frame (He.fAd K ("CoreForm", some "is_frame")) fd := fun_of (cd.def_ 10 (d := d_CoreForm_is_frame) rfl)
  have b_CoreForm_is_frame := F_CoreForm_is_frame.binds (ps := ["self", "body"]) fun _ _ _ _ _ _ us hl => match us, hl with | [_, _], _ => rfl
  obtain ⟨fd_CoreForm_is_single, F_CoreForm_is_single⟩ : ∃ fd, Fun K "is_single" "CoreForm.is_single" s_CoreForm_is_single (He.fAd K ("CoreForm", some "is_single")) fd := fun_of (cd.def_ 11 (d := d_CoreForm_is_single) rfl)
  have b_CoreForm_is_single := F_CoreForm_is_single.binds (ps := ["self", "single"]) fun _ _ _ _ _ _ us hl => match us, hl with | [_, _], _ => rfl
  obtain ⟨fd_CoreForm_are_rows, F_CoreForm_are_rows⟩ : ∃ fd, Fun K "are_rows" "CoreForm.are_rows" s_CoreForm_are_rows (He.fAd K ("CoreForm", some "are_rows")) fd := fun_of (cd.def_ 12 (d := d_CoreForm_are_rows) rfl)
  have b_CoreForm_are_rows := F_CoreForm_are_rows.binds (ps := ["self", "rows"]) fun _ _ _ _ _ _ us hl => match us, hl with | [_, _], _ => rfl
  obtain ⟨fd_CoreForm_is_table, F_CoreForm_is_table⟩ : ∃ fd, Fun K "is_table" "CoreForm.is_table" s_CoreForm_is_table (He.fAd K ("CoreForm", some "is_table")) fd := fun_of (cd.def_ 13 (d := d_CoreForm_is_table) rfl)
  have b_CoreForm_is_table := F_CoreForm_is_table.binds (ps := ["self", "table"]) fun _ _ _ _ _ _ us hl => match us, hl with | [_, _], _ => rfl
  obtain ⟨fd_BodyForm_bound_by, F_BodyForm_bound_by⟩ : ∃ fd, Fun K "bound_by" "BodyForm.bound_by" s_BodyForm_bound_by (He.fAd K ("BodyForm", some "bound_by")) fd := fun_of (cd.def_ 14 (d := d_BodyForm_bound_by) rfl)
  have b_BodyForm_bound_by := F_BodyForm_bound_by.binds (ps := ["self", "c"]) fun _ _ _ _ _ _ us hl => match us, hl with | [_, _], _ => rfl
  obtain ⟨fd_BodyForm_binds, F_BodyForm_binds⟩ : ∃ fd, Fun K "binds" "BodyForm.binds" s_BodyForm_binds (He.fAd K ("BodyForm", some "binds")) fd := fun_of (cd.def_ 15 (d := d_BodyForm_binds) rfl)
  have b_BodyForm_binds := F_BodyForm_binds.binds (ps := ["self", "names"]) fun _ _ _ _ _ _ us hl => match us, hl with | [_, _], _ => rfl
  obtain ⟨fd_BodyForm_has_many, F_BodyForm_has_many⟩ : ∃ fd, Fun K "has_many" "BodyForm.has_many" s_BodyForm_has_many (He.fAd K ("BodyForm", some "has_many")) fd := fun_of (cd.def_ 16 (d := d_BodyForm_has_many) rfl)
  have b_BodyForm_has_many := F_BodyForm_has_many.binds (ps := ["self", "c"]) fun _ _ _ _ _ _ us hl => match us, hl with | [_, _], _ => rfl
  obtain ⟨fd_BodyForm_fits, F_BodyForm_fits⟩ : ∃ fd, Fun K "fits" "BodyForm.fits" s_BodyForm_fits (He.fAd K ("BodyForm", some "fits")) fd := fun_of (cd.def_ 17 (d := d_BodyForm_fits) rfl)
  have b_BodyForm_fits := F_BodyForm_fits.binds (ps := ["self", "sort", "part"]) fun _ _ _ _ _ _ us hl => match us, hl with | [_, _, _], _ => rfl
  obtain ⟨fd_BodyForm_init, F_BodyForm_init⟩ : ∃ fd, Fun K "__init__" "BodyForm.__init__" s_BodyForm_init (He.fAd K ("BodyForm", some "__init__")) fd := fun_of (cd.def_ 18 (d := d_BodyForm_init) rfl)
  have b_BodyForm_init := F_BodyForm_init.binds (ps := ["self", "core", "body"]) fun _ _ _ _ _ _ us hl => match us, hl with | [_, _, _], _ => rfl
  obtain ⟨fd_BodyForm_add, F_BodyForm_add⟩ : ∃ fd, Fun K "add" "BodyForm.add" s_BodyForm_add (He.fAd K ("BodyForm", some "add")) fd := fun_of (cd.def_ 19 (d := d_BodyForm_add) rfl)
  have b_BodyForm_add := F_BodyForm_add.binds (ps := ["self", "c", "deep"]) fun _ _ _ _ _ _ us hl => match us, hl with | [_, _, _], _ => rfl
  obtain ⟨fd_BodyForm_is_c, F_BodyForm_is_c⟩ : ∃ fd, Fun K "is_c" "BodyForm.is_c" s_BodyForm_is_c (He.fAd K ("BodyForm", some "is_c")) fd := fun_of (cd.def_ 20 (d := d_BodyForm_is_c) rfl)
  have b_BodyForm_is_c := F_BodyForm_is_c.binds (ps := ["self", "c", "deep"]) fun _ _ _ _ _ _ us hl => match us, hl with | [_, _, _], _ => rfl
  obtain ⟨fd_BodyForm_holds, F_BodyForm_holds⟩ : ∃ fd, Fun K "holds" "BodyForm.holds" s_BodyForm_holds (He.fAd K ("BodyForm", some "holds")) fd := fun_of (cd.def_ 21 (d := d_BodyForm_holds) rfl)
  have b_BodyForm_holds := F_BodyForm_holds.binds (ps := ["self"]) fun _ _ _ _ _ _ us hl => match us, hl with | [_], _ => rfl
  obtain ⟨fd_CoreForm_holds, F_CoreForm_holds⟩ : ∃ fd, Fun K "holds" "CoreForm.holds" s_CoreForm_holds (He.fAd K ("CoreForm", some "holds")) fd := fun_of (cd.def_ 22 (d := d_CoreForm_holds) rfl)
  have b_CoreForm_holds := F_CoreForm_holds.binds (ps := ["self"]) fun _ _ _ _ _ _ us hl => match us, hl with | [_], _ => rfl
  obtain ⟨fd_is_core_form, F_is_core_form⟩ : ∃ fd, Fun K "is_core_form" "is_core_form" s_is_core_form (He.fAd K ("is_core_form", none)) fd := fun_of (cd.def_ 23 (d := d_is_core_form) rfl)
  have b_is_core_form := F_is_core_form.binds (ps := ["thing"]) fun _ _ _ _ _ _ us hl => match us, hl with | [_], _ => rfl
  obtain ⟨fd_need_core, F_need_core⟩ : ∃ fd, Fun K "need_core" "need_core" s_need_core (He.fAd K ("need_core", none)) fd := fun_of (cd.def_ 24 (d := d_need_core) rfl)
  have b_need_core := F_need_core.binds (ps := ["thing"]) fun _ _ _ _ _ _ us hl => match us, hl with | [_], _ => rfl
  obtain ⟨fd_need_count, F_need_count⟩ : ∃ fd, Fun K "need_count" "need_count" s_need_count (He.fAd K ("need_count", none)) fd := fun_of (cd.def_ 25 (d := d_need_count) rfl)
  have b_need_count := F_need_count.binds (ps := ["thing", "most"]) fun _ _ _ _ _ _ us hl => match us, hl with | [_, _], _ => rfl
  obtain ⟨fd_Frame_init, F_Frame_init⟩ : ∃ fd, Fun K "__init__" "Frame.__init__" s_Frame_init (He.fAd K ("Frame", some "__init__")) fd := fun_of (cd.def_ 26 (d := d_Frame_init) rfl)
  have b_Frame_init := F_Frame_init.binds (ps := ["self", "cells"]) fun _ _ _ _ _ _ us hl => match us, hl with | [_, _], _ => rfl
  obtain ⟨fd_Kept_init, F_Kept_init⟩ : ∃ fd, Fun K "__init__" "Kept.__init__" s_Kept_init (He.fAd K ("Kept", some "__init__")) fd := fun_of (cd.def_ 27 (d := d_Kept_init) rfl)
  have b_Kept_init := F_Kept_init.binds (ps := ["self", "label", "c", "frame"]) fun _ _ _ _ _ _ us hl => match us, hl with | [_, _, _, _], _ => rfl
  obtain ⟨fd_Instance_init, F_Instance_init⟩ : ∃ fd, Fun K "__init__" "Instance.__init__" s_Instance_init (He.fAd K ("Instance", some "__init__")) fd := fun_of (cd.def_ 28 (d := d_Instance_init) rfl)
  have b_Instance_init := F_Instance_init.binds (ps := ["self", "table"]) fun _ _ _ _ _ _ us hl => match us, hl with | [_, _], _ => rfl
  obtain ⟨fd_Machine_add, F_Machine_add⟩ : ∃ fd, Fun K "add" "Machine.add" s_Machine_add (He.fAd K ("Machine", some "add")) fd := fun_of (cd.def_ 29 (d := d_Machine_add) rfl)
  have b_Machine_add := F_Machine_add.binds (ps := ["self", "tasks"]) fun _ _ _ _ _ _ us hl => match us, hl with | [_, _], _ => rfl
  obtain ⟨fd_Machine_taken, F_Machine_taken⟩ : ∃ fd, Fun K "taken" "Machine.taken" s_Machine_taken (He.fAd K ("Machine", some "taken")) fd := fun_of (cd.def_ 30 (d := d_Machine_taken) rfl)
  have b_Machine_taken := F_Machine_taken.binds (ps := ["self", "many"]) fun _ _ _ _ _ _ us hl => match us, hl with | [_, _], _ => rfl
  obtain ⟨fd_Machine_instance, F_Machine_instance⟩ : ∃ fd, Fun K "instance" "Machine.instance" s_Machine_instance (He.fAd K ("Machine", some "instance")) fd := fun_of (cd.def_ 31 (d := d_Machine_instance) rfl)
  have b_Machine_instance := F_Machine_instance.binds (ps := ["self", "thing"]) fun _ _ _ _ _ _ us hl => match us, hl with | [_, _], _ => rfl
  obtain ⟨fd_Machine_begin, F_Machine_begin⟩ : ∃ fd, Fun K "begin" "Machine.begin" s_Machine_begin (He.fAd K ("Machine", some "begin")) fd := fun_of (cd.def_ 32 (d := d_Machine_begin) rfl)
  have b_Machine_begin := F_Machine_begin.binds (ps := ["self", "number", "worths"]) fun _ _ _ _ _ _ us hl => match us, hl with | [_, _, _], _ => rfl
  obtain ⟨fd_work_unit, F_work_unit⟩ : ∃ fd, Fun K "work_unit" "work_unit" s_work_unit (He.fAd K ("work_unit", none)) fd := fun_of (cd.def_ 33 (d := d_work_unit) rfl)
  have b_work_unit := F_work_unit.binds (ps := ["machine", "c", "frame"]) fun _ _ _ _ _ _ us hl => match us, hl with | [_, _, _], _ => rfl
  obtain ⟨fd_work_local, F_work_local⟩ : ∃ fd, Fun K "work_local" "work_local" s_work_local (He.fAd K ("work_local", none)) fd := fun_of (cd.def_ 34 (d := d_work_local) rfl)
  have b_work_local := F_work_local.binds (ps := ["machine", "c", "frame"]) fun _ _ _ _ _ _ us hl => match us, hl with | [_, _, _], _ => rfl
  obtain ⟨fd_work_one, F_work_one⟩ : ∃ fd, Fun K "work_one" "work_one" s_work_one (He.fAd K ("work_one", none)) fd := fun_of (cd.def_ 35 (d := d_work_one) rfl)
  have b_work_one := F_work_one.binds (ps := ["machine", "c", "frame"]) fun _ _ _ _ _ _ us hl => match us, hl with | [_, _, _], _ => rfl
  obtain ⟨fd_work_row, F_work_row⟩ : ∃ fd, Fun K "work_row" "work_row" s_work_row (He.fAd K ("work_row", none)) fd := fun_of (cd.def_ 36 (d := d_work_row) rfl)
  have b_work_row := F_work_row.binds (ps := ["machine", "c", "frame"]) fun _ _ _ _ _ _ us hl => match us, hl with | [_, _, _], _ => rfl
  obtain ⟨fd_work_send, F_work_send⟩ : ∃ fd, Fun K "work_send" "work_send" s_work_send (He.fAd K ("work_send", none)) fd := fun_of (cd.def_ 37 (d := d_work_send) rfl)
  have b_work_send := F_work_send.binds (ps := ["machine", "c", "frame"]) fun _ _ _ _ _ _ us hl => match us, hl with | [_, _, _], _ => rfl
  obtain ⟨fd_end_leave, F_end_leave⟩ : ∃ fd, Fun K "end_leave" "end_leave" s_end_leave (He.fAd K ("end_leave", none)) fd := fun_of (cd.def_ 38 (d := d_end_leave) rfl)
  have b_end_leave := F_end_leave.binds (ps := ["machine", "thing", "frame"]) fun _ _ _ _ _ _ us hl => match us, hl with | [_, _, _], _ => rfl
  obtain ⟨fd_end_swap, F_end_swap⟩ : ∃ fd, Fun K "end_swap" "end_swap" s_end_swap (He.fAd K ("end_swap", none)) fd := fun_of (cd.def_ 39 (d := d_end_swap) rfl)
  have b_end_swap := F_end_swap.binds (ps := ["machine", "thing", "frame"]) fun _ _ _ _ _ _ us hl => match us, hl with | [_, _, _], _ => rfl
  obtain ⟨fd_end_then, F_end_then⟩ : ∃ fd, Fun K "end_then" "end_then" s_end_then (He.fAd K ("end_then", none)) fd := fun_of (cd.def_ 40 (d := d_end_then) rfl)
  have b_end_then := F_end_then.binds (ps := ["machine", "c", "frame"]) fun _ _ _ _ _ _ us hl => match us, hl with | [_, _, _], _ => rfl
  obtain ⟨fd_end_direct, F_end_direct⟩ : ∃ fd, Fun K "end_direct" "end_direct" s_end_direct (He.fAd K ("end_direct", none)) fd := fun_of (cd.def_ 41 (d := d_end_direct) rfl)
  have b_end_direct := F_end_direct.binds (ps := ["machine", "c", "frame"]) fun _ _ _ _ _ _ us hl => match us, hl with | [_, _, _], _ => rfl
  obtain ⟨fd_end_send, F_end_send⟩ : ∃ fd, Fun K "end_send" "end_send" s_end_send (He.fAd K ("end_send", none)) fd := fun_of (cd.def_ 42 (d := d_end_send) rfl)
  have b_end_send := F_end_send.binds (ps := ["machine", "c", "frame"]) fun _ _ _ _ _ _ us hl => match us, hl with | [_, _, _], _ => rfl
  obtain ⟨fd_read_kept, F_read_kept⟩ : ∃ fd, Fun K "read_kept" "read_kept" s_read_kept (He.fAd K ("read_kept", none)) fd := fun_of (cd.def_ 43 (d := d_read_kept) rfl)
  have b_read_kept := F_read_kept.binds (ps := ["machine", "kept"]) fun _ _ _ _ _ _ us hl => match us, hl with | [_, _], _ => rfl
  obtain ⟨fd_work_single, F_work_single⟩ : ∃ fd, Fun K "work_single" "work_single" s_work_single (He.fAd K ("work_single", none)) fd := fun_of (cd.def_ 44 (d := d_work_single) rfl)
  have b_work_single := F_work_single.binds (ps := ["machine", "c", "frame"]) fun _ _ _ _ _ _ us hl => match us, hl with | [_, _, _], _ => rfl
  obtain ⟨fd_end_keep, F_end_keep⟩ : ∃ fd, Fun K "end_keep" "end_keep" s_end_keep (He.fAd K ("end_keep", none)) fd := fun_of (cd.def_ 45 (d := d_end_keep) rfl)
  have b_end_keep := F_end_keep.binds (ps := ["machine", "kept", "frame"]) fun _ _ _ _ _ _ us hl => match us, hl with | [_, _, _], _ => rfl
  obtain ⟨fd_end_make, F_end_make⟩ : ∃ fd, Fun K "end_make" "end_make" s_end_make (He.fAd K ("end_make", none)) fd := fun_of (cd.def_ 46 (d := d_end_make) rfl)
  have b_end_make := F_end_make.binds (ps := ["machine", "c", "frame"]) fun _ _ _ _ _ _ us hl => match us, hl with | [_, _, _], _ => rfl
  obtain ⟨fd_Machine_work, F_Machine_work⟩ : ∃ fd, Fun K "work" "Machine.work" s_Machine_work (He.fAd K ("Machine", some "work")) fd := fun_of (cd.def_ 47 (d := d_Machine_work) rfl)
  have b_Machine_work := F_Machine_work.binds (ps := ["self"]) fun _ _ _ _ _ _ us hl => match us, hl with | [_], _ => rfl
  obtain ⟨fd_Machine_init, F_Machine_init⟩ : ∃ fd, Fun K "__init__" "Machine.__init__" s_Machine_init (He.fAd K ("Machine", some "__init__")) fd := fun_of (cd.def_ 48 (d := d_Machine_init) rfl)
  have b_Machine_init := F_Machine_init.binds (ps := ["self", "core", "bound"]) fun _ _ _ _ _ _ us hl => match us, hl with | [_, _, _], _ => rfl
  obtain ⟨fd_Machine_outcome, F_Machine_outcome⟩ : ∃ fd, Fun K "outcome" "Machine.outcome" s_Machine_outcome (He.fAd K ("Machine", some "outcome")) fd := fun_of (cd.def_ 49 (d := d_Machine_outcome) rfl)
  have b_Machine_outcome := F_Machine_outcome.binds (ps := ["self"]) fun _ _ _ _ _ _ us hl => match us, hl with | [_], _ => rfl
  obtain ⟨fd_run_core, F_run_core⟩ : ∃ fd, Fun K "run_core" "run_core" s_run_core (He.fAd K ("run_core", none)) fd := fun_of (cd.def_ 50 (d := d_run_core) rfl)
  have b_run_core := F_run_core.binds (ps := ["core", "steps"]) fun _ _ _ _ _ _ us hl => match us, hl with | [_, _], _ => rfl
  obtain ⟨fd_begun_bodies, F_begun_bodies⟩ : ∃ fd, Fun K "begun_bodies" "begun_bodies" s_begun_bodies (He.fAd K ("begun_bodies", none)) fd := fun_of (cd.def_ 51 (d := d_begun_bodies) rfl)
  have b_begun_bodies := F_begun_bodies.binds (ps := ["core", "steps"]) fun _ _ _ _ _ _ us hl => match us, hl with | [_, _], _ => rfl
  obtain ⟨fd_told_plain, F_told_plain⟩ : ∃ fd, Fun K "told_plain" "told_plain" s_told_plain (He.fAd K ("told_plain", none)) fd := fun_of (cd.def_ 52 (d := d_told_plain) rfl)
  have b_told_plain := F_told_plain.binds (ps := ["thing"]) fun _ _ _ _ _ _ us hl => match us, hl with | [_], _ => rfl
  obtain ⟨fd_CoreTeller_told_other, F_CoreTeller_told_other⟩ : ∃ fd, Fun K "told_other" "CoreTeller.told_other" s_CoreTeller_told_other (He.fAd K ("CoreTeller", some "told_other")) fd := fun_of (cd.def_ 53 (d := d_CoreTeller_told_other) rfl)
  have b_CoreTeller_told_other := F_CoreTeller_told_other.binds (ps := ["self", "thing"]) fun _ _ _ _ _ _ us hl => match us, hl with | [_, _], _ => rfl
  obtain ⟨fd_CoreTeller_fields_of, F_CoreTeller_fields_of⟩ : ∃ fd, Fun K "fields_of" "CoreTeller.fields_of" s_CoreTeller_fields_of (He.fAd K ("CoreTeller", some "fields_of")) fd := fun_of (cd.def_ 54 (d := d_CoreTeller_fields_of) rfl)
  have b_CoreTeller_fields_of := F_CoreTeller_fields_of.binds (ps := ["self", "thing"]) fun _ _ _ _ _ _ us hl => match us, hl with | [_, _], _ => rfl
  obtain ⟨fd_Teller_told, F_Teller_told⟩ : ∃ fd, Fun K "told" "Teller.told" s_Teller_told (He.fAd K ("CoreTeller", some "told")) fd := fun_of (cd.def_ 55 (d := d_Teller_told) rfl)
  have b_Teller_told := F_Teller_told.binds (ps := ["self", "thing", "deep"]) fun _ _ _ _ _ _ us hl => match us, hl with | [_, _, _], _ => rfl
  obtain ⟨fd_Machine_told, F_Machine_told⟩ : ∃ fd, Fun K "told" "Machine.told" s_Machine_told (He.fAd K ("Machine", some "told")) fd := fun_of (cd.def_ 56 (d := d_Machine_told) rfl)
  have b_Machine_told := F_Machine_told.binds (ps := ["self", "thing"]) fun _ _ _ _ _ _ us hl => match us, hl with | [_, _], _ => rfl
  obtain ⟨fd_Teller_init, F_Teller_init⟩ : ∃ fd, Fun K "__init__" "Teller.__init__" s_Teller_init (He.fAd K ("Teller", some "__init__")) fd := fun_of (cd.def_ 57 (d := d_Teller_init) rfl)
  have b_Teller_init := F_Teller_init.binds (ps := ["self"]) fun _ _ _ _ _ _ us hl => match us, hl with | [_], _ => rfl
  obtain ⟨fd_law_feed, F_law_feed⟩ : ∃ fd, Fun K "_law_feed" "_law_feed" s__law_feed (He.fAd K ("_law_feed", none)) fd := fun_of (cd.def_ 58 (d := d_law_feed) rfl)
  have b_law_feed := F_law_feed.binds (ps := ["_law_script", "_law_k"]) fun _ _ _ _ _ _ us hl => match us, hl with | [_, _], _ => rfl
  obtain ⟨fd_law_draw, F_law_draw⟩ : ∃ fd, Fun K "_law_draw" "_law_draw" s__law_draw (He.fAd K ("_law_draw", none)) fd := fun_of (cd.def_ 59 (d := d_law_draw) rfl)
  have b_law_draw := F_law_draw.binds (ps := ["_law_feed_here", "_law_many"]) fun _ _ _ _ _ _ us hl => match us, hl with | [_, _], _ => rfl
  obtain ⟨fd_law_one, F_law_one⟩ : ∃ fd, Fun K "_law_one" "_law_one" s__law_one (He.fAd K ("_law_one", none)) fd := fun_of (cd.def_ 60 (d := d_law_one) rfl)
  have b_law_one := F_law_one.binds (ps := ["_law_feed_here", "_law_things"]) fun _ _ _ _ _ _ us hl => match us, hl with | [_, _], _ => rfl
  obtain ⟨fd_law_calls, F_law_calls⟩ : ∃ fd, Fun K "_law_calls" "_law_calls" s__law_calls (He.fAd K ("_law_calls", none)) fd := fun_of (cd.def_ 61 (d := d_law_calls) rfl)
  have b_law_calls := F_law_calls.binds (ps := ["_law_feed_here", "_law_many", "_law_least"]) fun _ _ _ _ _ _ us hl => match us, hl with | [_, _, _], _ => rfl
  obtain ⟨fd_law_c, F_law_c⟩ : ∃ fd, Fun K "_law_c" "_law_c" s__law_c (He.fAd K ("_law_c", none)) fd := fun_of (cd.def_ 62 (d := d_law_c) rfl)
  have b_law_c := F_law_c.binds (ps := ["_law_calls_here", "_law_many", "_law_here"]) fun _ _ _ _ _ _ us hl => match us, hl with | [_, _, _], _ => rfl
  obtain ⟨fd_law_core, F_law_core⟩ : ∃ fd, Fun K "_law_core" "_law_core" s__law_core (He.fAd K ("_law_core", none)) fd := fun_of (cd.def_ 63 (d := d_law_core) rfl)
  have b_law_core := F_law_core.binds (ps := ["_law_calls_here", "_law_many"]) fun _ _ _ _ _ _ us hl => match us, hl with | [_, _], _ => rfl
  obtain ⟨fd_law_step, F_law_step⟩ : ∃ fd, Fun K "_law_step" "_law_step" s__law_step (He.fAd K ("_law_step", none)) fd := fun_of (cd.def_ 64 (d := d_law_step) rfl)
  have b_law_step := F_law_step.binds (ps := ["_law_run"]) fun _ _ _ _ _ _ us hl => match us, hl with | [_], _ => rfl
  obtain ⟨fd_law_enter, F_law_enter⟩ : ∃ fd, Fun K "_law_enter" "_law_enter" s__law_enter (He.fAd K ("_law_enter", none)) fd := fun_of (cd.def_ 65 (d := d_law_enter) rfl)
  have b_law_enter := F_law_enter.binds (ps := ["_law_run", "_law_number"]) fun _ _ _ _ _ _ us hl => match us, hl with | [_, _], _ => rfl
  obtain ⟨fd_law_fresh, F_law_fresh⟩ : ∃ fd, Fun K "_law_fresh" "_law_fresh" s__law_fresh (He.fAd K ("_law_fresh", none)) fd := fun_of (cd.def_ 66 (d := d_law_fresh) rfl)
  have b_law_fresh := F_law_fresh.binds (ps := ["_law_run", "_law_many"]) fun _ _ _ _ _ _ us hl => match us, hl with | [_, _], _ => rfl
  obtain ⟨fd_law_walk, F_law_walk⟩ : ∃ fd, Fun K "_law_walk" "_law_walk" s__law_walk (He.fAd K ("_law_walk", none)) fd := fun_of (cd.def_ 67 (d := d_law_walk) rfl)
  have b_law_walk := F_law_walk.binds (ps := ["_law_run", "_law_calls_here", "_law_many", "_law_number"]) fun _ _ _ _ _ _ us hl => match us, hl with | [_, _, _, _], _ => rfl
  obtain ⟨fd_law_right, F_law_right⟩ : ∃ fd, Fun K "_law_right" "_law_right" s__law_right (He.fAd K ("_law_right", none)) fd := fun_of (cd.def_ 68 (d := d_law_right) rfl)
  have b_law_right := F_law_right.binds (ps := ["_law_feed_here"]) fun _ _ _ _ _ _ us hl => match us, hl with | [_], _ => rfl
  obtain ⟨fd_law, F_law⟩ : ∃ fd, Fun K "law" "law" s_law (He.fAd K ("law", none)) fd := fun_of (cd.def_ 69 (d := d_law) rfl)
  have b_law := F_law.binds (ps := ["_law_script"]) fun _ _ _ _ _ _ us hl => match us, hl with | [_], _ => rfl
  have e := hfa.symm.trans (gl "law" (by decide))
  cases e
  obtain ⟨oc_l, od_l, kV_l, doc_l, pm_l, an_l, cdv_l, ct_l, osl_l, rfl, lk_l, hcd_l⟩ := F_law.ex
  refine ⟨PySem.W.fnOf "law" "law" (defArgs s_law) (defBody s_law) (defScope s_law) .none kV_l doc_l pm_l an_l cdv_l ct_l, fun s v => .of_eq rfl, fun base _ _ => ?_⟩
  -- the form of a core
  have D_is_integer : Dn P9 w K mg base CX0 "is_integer" 1 1 spIsInt := dn_mk (gl _ (by decide)) F_is_integer b_is_integer (ok_is_integer F_is_integer B)
  have D_is_number : Dn P9 w K mg base CX0 "is_number" 2 2 spIsNum := dn_mk (gl _ (by decide)) F_is_number b_is_number (ok_is_number F_is_number ⟨D_is_integer⟩)
  have D_is_row : Dn P9 w K mg base CX0 "is_row" 1 2 (spIsRow K) := dn_mk (gl _ (by decide)) F_is_row b_is_row (ok_is_row F_is_row B)
  have D_is_text : Dn P9 w K mg base CX0 "is_text" 1 1 spIsText := dn_mk (gl _ (by decide)) F_is_text b_is_text (ok_is_text F_is_text B Gl)
  have D_is_label : Dn P9 w K mg base CX0 "is_label" 2 1 spIsLabel := dn_mk (gl _ (by decide)) F_is_label b_is_label (ok_is_label F_is_label B D_is_text)
  have D_are_labels : Dn P9 w K mg base CX0 "are_labels" 3 1 (spLabels K) := dn_mk (gl _ (by decide)) F_are_labels b_are_labels (ok_are_labels F_are_labels B D_is_label)
  have D_are_ascending : Dn P9 w K mg base CX0 "are_ascending" 1 1 (spAsc K) := dn_mk (gl _ (by decide)) F_are_ascending b_are_ascending (ok_are_ascending F_are_ascending B)
  have D_cs_in : Dn P9 w K mg base CX0 "cs_in" 1 1 spCsIn := dn_mk (gl _ (by decide)) F_cs_in b_cs_in (ok_cs_in F_cs_in B (gl _ (by decide)) fm)
  have fCF := clsf_of T "CoreForm" cfF
  have fBF := clsf_of T "BodyForm" bfF
  have fM := clsf_of T "Machine" mcF
  have fI := clsf_of T "Instance" ["table", "slots"]
  have fF := clsf_of T "Frame" ["cells"]
  have fK := clsf_of T "Kept" kpF
  have fT := clsf_of T "CoreTeller" ["kept", "machine"]
  have d2 : Ds2 P9 w K mg base (He.ga K "CoreForm") := ⟨D_is_row, D_is_number, D_is_label, D_are_labels, D_are_ascending, fCF, fCF.cls⟩
  have d3 : Ds3 P9 w K mg base (He.ga K "BodyForm") (He.ga K "CFORMS") := ⟨D_is_integer, D_is_number, D_is_label, D_are_ascending, D_is_text, D_cs_in, fBF, gl _ (by decide), fm⟩
  have M_has_this := mn_mk (me ("CoreForm", "has_this") (by decide)) b_CoreForm_has_this (ok_has_this F_CoreForm_has_this B d2)
  have M_is_frame := mn_mk (me ("CoreForm", "is_frame") (by decide)) b_CoreForm_is_frame (ok_is_frame F_CoreForm_is_frame B Gl d2)
  have M_is_single := mn_mk (me ("CoreForm", "is_single") (by decide)) b_CoreForm_is_single (ok_is_single F_CoreForm_is_single B d2)
  have M_are_rows := mn_mk (me ("CoreForm", "are_rows") (by decide)) b_CoreForm_are_rows (ok_are_rows F_CoreForm_are_rows B d2 M_has_this)
  have M_is_table := mn_mk (me ("CoreForm", "is_table") (by decide)) b_CoreForm_is_table (ok_is_table F_CoreForm_is_table B d2 M_has_this M_are_rows)
  have M_bound_by : Mn P9 w K mg base CX0 (He.ga K "BodyForm") "bound_by" 1 2 spBoundBy := mn_mk (me ("BodyForm", "bound_by") (by decide)) b_BodyForm_bound_by (ok_bound_by F_BodyForm_bound_by B)
  have M_binds := mn_mk (me ("BodyForm", "binds") (by decide)) b_BodyForm_binds (ok_binds F_BodyForm_binds B d3)
  have M_has_many := mn_mk (me ("BodyForm", "has_many") (by decide)) b_BodyForm_has_many (ok_has_many F_BodyForm_has_many B d3)
  have M_fits := mn_mk (me ("BodyForm", "fits") (by decide)) b_BodyForm_fits (ok_fits F_BodyForm_fits B d3 ⟨_, gl _ (by decide)⟩ ⟨_, gl _ (by decide)⟩)
  have M_add := mn_mk (me ("BodyForm", "add") (by decide)) b_BodyForm_add (ok_add F_BodyForm_add B d3 M_bound_by (gl "CLOSED" (by decide)) (ktup_of tC))
  have M_is_c := mn_mk (me ("BodyForm", "is_c") (by decide)) b_BodyForm_is_c (ok_is_c F_BodyForm_is_c B d3 M_bound_by M_binds M_has_many M_fits M_add)
  have M_bholds := mn_mk (me ("BodyForm", "holds") (by decide)) b_BodyForm_holds (ok_bf_holds F_BodyForm_holds B Gl d3 M_is_c)
  have K_BF : Kn P9 w K mg base CX0 "BodyForm" (He.ga K "BodyForm") 1 3 (spBfInit (He.ga K "BodyForm")) := kn_mk (gl _ (by decide)) (mk "BodyForm" (by decide)) b_BodyForm_init (ok_bf_init F_BodyForm_init B d3)
  have M_cholds := mn_mk (me ("CoreForm", "holds") (by decide)) b_CoreForm_holds (ok_cf_holds F_CoreForm_holds B Gl d2 M_is_frame M_is_table M_is_single fBF.cls K_BF M_bholds)
  have K_CF : Kn P9 w K mg base CX0 "CoreForm" (He.ga K "CoreForm") 1 2 (spCfInit (He.ga K "CoreForm")) := kn_mk (gl _ (by decide)) (mk "CoreForm" (by decide)) b_CoreForm_init (ok_cf_init F_CoreForm_init d2)
  have D_is_core_form : Dn P9 w K mg base CX0 "is_core_form" 7 1 spIsCore := dn_mk (gl _ (by decide)) F_is_core_form b_is_core_form (ok_is_core_form F_is_core_form fCF.cls K_CF M_cholds)
  have D_need_core : Dn P9 w K mg base CX0 "need_core" 8 1 spNeedCore := dn_mk (gl _ (by decide)) F_need_core b_need_core (ok_need_core F_need_core D_is_core_form)
  have D_need_count : Dn P9 w K mg base CX0 "need_count" 2 2 spNeedCount := dn_mk (gl _ (by decide)) F_need_count b_need_count (ok_need_count F_need_count D_is_integer)
  -- the machine
  let L : Cl9 := ⟨He.ga K "Machine", He.ga K "Instance", He.ga K "Frame", He.ga K "Kept", He.ga K "UNIT"⟩
  have dM : DsM K mg L := ⟨fM, fI, fF, fK, He.eqO_ok i1, He.eqO_ok i2, of_decide_eq_true i3, of_decide_eq_true i4, gl "Instance" (by decide), gl "UNIT" (by decide), ktup_of tU⟩
  have K_F : Kn P9 w K mg base CX0 "Frame" L.CF 1 2 (spFrInit L.CF) := kn_mk (gl _ (by decide)) (mk "Frame" (by decide)) b_Frame_init (ok_fr_init F_Frame_init dM)
  have K_K : Kn P9 w K mg base CX0 "Kept" L.CK 1 4 (spKpInit L.CK) := kn_mk (gl _ (by decide)) (mk "Kept" (by decide)) b_Kept_init (ok_kp_init F_Kept_init dM)
  have K_I : Kn P9 w K mg base CX0 "Instance" L.CI 1 2 (spInInit L.CI) := kn_mk (gl _ (by decide)) (mk "Instance" (by decide)) b_Instance_init (ok_in_init F_Instance_init dM)
  have M_madd : Mn P9 w K mg base CX0 L.CM "add" 1 2 (spAddM L) := mn_mk (me ("Machine", "add") (by decide)) b_Machine_add (ok_madd F_Machine_add B dM)
  have M_taken : Mn P9 w K mg base CX0 L.CM "taken" 1 2 (spTaken L) := mn_mk (me ("Machine", "taken") (by decide)) b_Machine_taken (ok_taken F_Machine_taken B dM)
  have M_inst : Mn P9 w K mg base CX0 L.CM "instance" 1 2 (spInstance L) := mn_mk (me ("Machine", "instance") (by decide)) b_Machine_instance (ok_instance F_Machine_instance B dM)
  have M_begin : Mn P9 w K mg base CX0 L.CM "begin" 3 3 (spBegin L) := mn_mk (me ("Machine", "begin") (by decide)) b_Machine_begin (ok_begin F_Machine_begin B Gl dM M_madd K_F)
  have dW : DsW P9 w K mg base L := ⟨dM, M_madd, M_taken, M_begin, M_inst, K_I⟩
  have D_read : Dn P9 w K mg base CX0 "read_kept" 1 2 (spReadKept L) := dn_mk (gl _ (by decide)) F_read_kept b_read_kept (ok_read_kept F_read_kept dW)
  have hB : ∀ {z x : Str} (hq : (z, He.Dv.glo x) ∈ vs_BEGINS), KDct K w (He.ga K "BEGINS") z (.ref (He.ga K x)) := fun hq => kdct_of DB tB hq
  have hE : ∀ {z x : Str} (hq : (z, He.Dv.glo x) ∈ vs_ENDS), KDct K w (He.ga K "ENDS") z (.ref (He.ga K x)) := fun hq => kdct_of DE tE hq
  have dL : DsL P9 w K mg base L (He.ga K "BEGINS") (He.ga K "ENDS") := by
    refine ⟨gl _ (by decide), gl _ (by decide), fM, ?_, ?_, ?_, ?_, ?_, ?_, ?_, ?_, ?_, ?_, ?_, ?_, ?_, ?_⟩
    · exact ⟨_, hB (x := "work_unit") (by simp [vs_BEGINS]), F_work_unit.kp, _, _, (ok_work_unit F_work_unit dW).mono (by decide), b_work_unit⟩
    · exact ⟨_, hB (x := "work_local") (by simp [vs_BEGINS]), F_work_local.kp, _, _, (ok_work_local F_work_local dW).mono (by decide), b_work_local⟩
    · exact ⟨_, hB (x := "work_one") (by simp [vs_BEGINS]), F_work_one.kp, _, _, (ok_work_one F_work_one dW).mono (by decide), b_work_one⟩
    · exact ⟨_, hB (x := "work_row") (by simp [vs_BEGINS]), F_work_row.kp, _, _, (ok_work_row F_work_row dW).mono (by decide), b_work_row⟩
    · exact ⟨_, hB (x := "work_send") (by simp [vs_BEGINS]), F_work_send.kp, _, _, (ok_work_send F_work_send dW).mono (by decide), b_work_send⟩
    · exact ⟨_, hB (x := "work_row") (by simp [vs_BEGINS]), F_work_row.kp, _, _, (ok_work_row F_work_row dW).mono (by decide), b_work_row⟩
    · exact ⟨_, hB (x := "work_single") (by simp [vs_BEGINS]), F_work_single.kp, _, _, (ok_work_single F_work_single dW D_read).mono (by decide), b_work_single⟩
    · exact ⟨_, hE (x := "end_then") (by simp [vs_ENDS]), F_end_then.kp, _, _, (ok_end_then F_end_then dW).mono (by decide), b_end_then⟩
    · exact ⟨_, hE (x := "end_direct") (by simp [vs_ENDS]), F_end_direct.kp, _, _, (ok_end_direct F_end_direct B dW).mono (by decide), b_end_direct⟩
    · exact ⟨_, hE (x := "end_send") (by simp [vs_ENDS]), F_end_send.kp, _, _, (ok_end_send F_end_send B dW).mono (by decide), b_end_send⟩
    · exact ⟨_, hE (x := "end_make") (by simp [vs_ENDS]), F_end_make.kp, _, _, (ok_end_make F_end_make B dW).mono (by decide), b_end_make⟩
    · exact ⟨_, hE (x := "end_swap") (by simp [vs_ENDS]), F_end_swap.kp, _, _, (ok_end_swap F_end_swap dW).mono (by decide), b_end_swap⟩
    · exact ⟨_, hE (x := "end_leave") (by simp [vs_ENDS]), F_end_leave.kp, _, _, (ok_end_leave F_end_leave dW).mono (by decide), b_end_leave⟩
    · exact ⟨_, hE (x := "end_keep") (by simp [vs_ENDS]), F_end_keep.kp, _, _, (ok_end_keep F_end_keep dW).mono (by decide), b_end_keep⟩
  have gE : mg "Ended" = some (.ref (He.ga K "Ended")) := gl _ (by decide)
  have M_work : Mn P9 w K mg base (L2.CX P9 w) L.CM "work" 5 1 (spWork L (He.ga K "Ended")) := mn_mk (me ("Machine", "work") (by decide)) b_Machine_work (ok_work F_Machine_work B dL OE gE tyE)
  -- what is told
  have dT : DsT P9 w K mg base L (He.ga K "CoreTeller") := ⟨fT, ktup_of tU, gl "Instance" (by decide), ⟨_, gl "Late" (by decide), of_decide_eq_true i6⟩, gl "Kept" (by decide), ⟨_, gl "CoreFun" (by decide), of_decide_eq_true i7⟩, of_decide_eq_true i5⟩
  have D_plain : Dn P9 w K mg base CX0 "told_plain" 1 1 (spPlain L) := dn_mk (gl _ (by decide)) F_told_plain b_told_plain (ok_told_plain F_told_plain B dT)
  have M_other : Mn P9 w K mg base CX0 (He.ga K "CoreTeller") "told_other" 2 2 (spOther L) := mn_mk (me ("CoreTeller", "told_other") (by decide)) b_CoreTeller_told_other (ok_told_other F_CoreTeller_told_other B dT D_plain)
  have M_fields : Mn P9 w K mg base CX0 (He.ga K "CoreTeller") "fields_of" 1 2 (spFields L) := mn_mk (me ("CoreTeller", "fields_of") (by decide)) b_CoreTeller_fields_of (ok_fields_of F_CoreTeller_fields_of B dT)
  have M_ttold : Mn P9 w K mg base CX0 (He.ga K "CoreTeller") "told" 3 3 (spTTold L (He.ga K "CoreTeller")) := mn_mk (me ("CoreTeller", "told") (by decide)) b_Teller_told (ok_ttold F_Teller_told B Gl dT M_fields M_other)
  have K_CT : Kn P9 w K mg base CX0 "CoreTeller" (He.ga K "CoreTeller") 2 2 (spCtInit (He.ga K "CoreTeller")) := kn_mk (gl _ (by decide)) (mk "CoreTeller" (by decide)) b_ct (ok_ctinit F_ct fT B (ok_tinit F_Teller_init dT) b_Teller_init)
  have M_told : Mn P9 w K mg base CX0 L.CM "told" 5 2 (spTold L) := mn_mk (me ("Machine", "told") (by decide)) b_Machine_told ((ok_mtold F_Machine_told dT K_CT M_ttold).mono (by decide))
  have M_outcome : Mn P9 w K mg base CX0 L.CM "outcome" 6 1 (spOutcome L) := mn_mk (me ("Machine", "outcome") (by decide)) b_Machine_outcome (ok_outcome F_Machine_outcome B ⟨fM, M_begin, M_work, M_told, gE, XE, OE.noW, OE.noT, exE⟩)
  have K_M : Kn P9 w K mg base CX0 "Machine" L.CM 3 3 (spMcInit L) := kn_mk (gl _ (by decide)) (mk "Machine" (by decide)) b_Machine_init (ok_mc_init F_Machine_init B dM K_K)
  have dR : DsR P9 w K mg base L := ⟨fM, D_need_core, D_need_count, K_M, M_outcome⟩
  have D_run : Dn P9 w K mg base CX0 "run_core" 9 2 spRunCore := dn_mk (gl _ (by decide)) F_run_core b_run_core (ok_run_core F_run_core B Gl dR)
  have D_begun : Dn P9 w K mg base CX0 "begun_bodies" 9 2 spBegunBodies := dn_mk (gl _ (by decide)) F_begun_bodies b_begun_bodies (ok_begun_bodies F_begun_bodies B Gl dR)
  -- the law
  have D_feed : Dn P9 w K mg base CX0 "_law_feed" 1 2 (spFeed K) := dn_mk (gl _ (by decide)) F_law_feed b_law_feed (ok_feed F_law_feed B)
  have D_draw : Dn P9 w K mg base CX0 "_law_draw" 1 2 spDrawN := dn_mk (gl _ (by decide)) F_law_draw b_law_draw ((ok_draw F_law_draw B).imp draw_imp)
  have D_one : Dn P9 w K mg base CX0 "_law_one" 2 2 spOne := dn_mk (gl _ (by decide)) F_law_one b_law_one (ok_one F_law_one B D_draw)
  have D_calls : Dn P9 w K mg base CX0 "_law_calls" 3 3 spCalls := dn_mk (gl _ (by decide)) F_law_calls b_law_calls (ok_calls F_law_calls B D_draw D_one)
  have D_c : Dn P9 w K mg base CX0 "_law_c" 1 3 (spC K) := dn_mk (gl _ (by decide)) F_law_c b_law_c (ok_c F_law_c B)
  have D_core : Dn P9 w K mg base CX0 "_law_core" 2 2 spCoreL := dn_mk (gl _ (by decide)) F_law_core b_law_core (ok_core F_law_core B D_c)
  have D_step : Dn P9 w K mg base CX0 "_law_step" 1 1 spStep := dn_mk (gl _ (by decide)) F_law_step b_law_step (ok_step F_law_step)
  have D_enter : Dn P9 w K mg base CX0 "_law_enter" 1 2 spEnter := dn_mk (gl _ (by decide)) F_law_enter b_law_enter (ok_enter F_law_enter)
  have D_fresh : Dn P9 w K mg base CX0 "_law_fresh" 2 2 spFresh := dn_mk (gl _ (by decide)) F_law_fresh b_law_fresh (ok_fresh F_law_fresh D_step D_enter)
  have D_walk : Dn P9 w K mg base CX0 "_law_walk" 10 4 spWalk7 := dn_mk (gl _ (by decide)) F_law_walk b_law_walk (FnOk.exN 7 fun d hd => (ok_walk F_law_walk (gl _ (by decide)) F_law_walk.kp b_law_walk D_step D_enter D_fresh d).mono (by omega))
  have D_right : Dn P9 w K mg base CX0 "_law_right" 11 1 spRight := dn_mk (gl _ (by decide)) F_law_right b_law_right (ok_right F_law_right B D_draw D_calls D_walk D_core D_begun D_run)
  exact ok_law9 F_law B D_feed D_right
end
end K9
end
section
set_option Elab.async false
set_option linter.all false
set_option maxRecDepth 100000
open PySem PySem.W PySem.Calls PyProof.Rows
set_option maxHeartbeats 0 in
theorem PySem.Challenge.cw_linearmix_k69_bodies_begun_holds : PySem.Challenge.rw_linearmix_k69_bodies_begun.Holds := by
  w_on; o_law
  refine HandSHeadRun.head_any (r := K9.R9) (q := K9.qv9) (H := K9.hook9) (ob := K9.ob9) (M := 20000) (loose := K9.names9) (d := HandSHeadRun.topDef K9.R9.prog 108) (kwd := []) K9.ob9_eq
    (by kernel_rfl) (fun s => by kernel_rfl) K9.run9 (by kernel_rfl) (by kernel_rfl) (by kernel_rfl) (by rfl) (by first | assumption | decide +kernel) (by decide +kernel) ⟨rfl, rfl, rfl, rfl, rfl, by decide +kernel⟩ ?hw ?hc
  case hw => w_witness2
  case hc =>
    refine L2.walk_ofE (l := PySem.Challenge.rw_linearmix_k69_bodies_begun) (n := 63) (k := 12) (x := "_law_script") (CX := L2.CX0) rfl (by decide) (by kernel_rfl) ⟨rfl, by decide, by decide⟩ ?F (fun _ _ _ _ z => z)
    intro w mg fa h Y G hmg0
    obtain ⟨K, KX, c⟩ := Y
    have hmg : mg ("law" : PySem.Str) = some (.ref fa) := by
      have e : (HandSHeadRun.topDef K9.R9.prog 108).name = ("law" : PySem.Str) := by kernel_rfl
      rw [← e]
      exact hmg0
    obtain ⟨fd, hb, hF⟩ := K9.all9 (w := w) KX G hmg c
    exact ⟨K, fd, K9.spLaw9 K, KX, hb, fun H a ns hl _ hS => ⟨a, ns, rfl, hS, hl, fun _ => rfl⟩, hF⟩
end
