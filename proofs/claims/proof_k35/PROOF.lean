import PyProof.Rows.All
import Wide.All
import OpenK.AllK
import Wide.FinOn
import HandS.Base
import HandS.ForMost
import HandS.ForExc
import HandS.IsInst
import HandS.Zip
import HandS.Star
import HandS.Flow
import HandS.FStr
import HandS.TupAny
import HandS.Wide
import HandS.Conv
import HandS.ExcInit
import HandS.Steps
import HandS.Style
import HandS.ExcField
import HandS.ExcIs
import HandS.ExcValue
import HandS.Lambda
import PyProof.ReprRoads
import PyProof.ReprLen
import HandS.Strs
import HandS.SetFor
import HandS.SetKeys
import HandS.TupSets
import PyProof.SeqIndex
import PyProof.ListStr
import HandS.Defaults
import HandS.Head2
import HandS.HeadHook4
import HandS.HeadWalk
import KE.KStateDown
import HandS.TupMul
import KE.GoesMore
import KE.GoesEnum
import PyProof.Draws
import HandS.MakeKwOnly
import KE.GoesEnumKw
import PyProof.Rows.CallKwBuiltin
import HandS.DictComp
import HandS.ReplaceLit
import HandS.Sort
import PyProof.ListRange
import PyProof.EqKinds
import HandS.OwnEq
import PyProof.InstNe
import KE.KSortTupUse
import HandS.SortInts
import PyProof.SliceSyntax
import PyProof.EvalArms
import KE.IntTextLaws
import HandS.Replace
import HandS.More
import HandS.ListItems
import HandS.SortRule
import PySem.Challenge.RW_clankernel_k35_whole_ways
set_option Elab.async false
set_option linter.all false
set_option maxRecDepth 100000
set_option maxHeartbeats 8000000
/-! What serves every law: data on the heap, the pot, kept errors and lambdas, repr, the end. -/
namespace VG
open PySem PySem.Spec PyProof.Rows L2 LamX
section
variable {P : Program} {w : World} {K : PySem.W.Frag} {mg : Str → Option Value} {base : Heap}
end
section
variable {P : Program} {w : World} {K : PySem.W.Frag} {mg : Str → Option Value} {base : Heap}
end
section
variable {P : Program} {w : World} {K : PySem.W.Frag} {mg : Str → Option Value} {base : Heap}
end
section
variable {X : Cx} {pins : List (Addr × Obj)} {σ : L2.St} {H : Hp} {s : Shared}
variable {x n : Str} {c : Value} {i : Nat} {body suite : List Stmt} {b₀ : Stmt} {np pos pos' : Pos} {tb : WX → TS} {ts : Addr → Value → Option Addr → TS}
end
section
variable {X : Cx} {pins : List (Addr × Obj)} {σ : L2.St} {H : Hp} {s : Shared}
variable {HZ : Hp} {s1 : Shared}
end
section
variable {X : Cx} {pins : List (Addr × Obj)} {σ : L2.St} {H : Hp} {s : Shared}
end
section
variable {P : Program} {w : World} {K : PySem.W.Frag} {mg : Str → Option Value} {base : Heap}
end
section
variable {X : Cx} {k : Nat} {f : Addr} {fd : FuncData} {ps : List Str} {sp : Sp} {x : Str} {p pos : Pos} {e : Expr} {es : List Expr} {t : TA}
end
section
variable {P : Program} {w : World} {K : PySem.W.Frag} {mg : Str → Option Value} {base : Heap}
end
/-- data without dicts, of nesting at most k and weight at most m -/
def okN (k m : Nat) (d : PyData) : Prop := d.leavesShort 13 = true ∧ d.weight ≤ m ∧ d.showable = true ∧ d.depth ≤ k ∧ d.canLay0 = true
theorem okN.all {k m : Nat} : ∀ {ds : List PyData}, (∀ d ∈ ds, okN k m d) → PyData.leavesShortAll 13 ds = true ∧ PyData.weightAll ds ≤ (m + 1) * ds.length ∧ PyData.showableAll ds = true ∧ PyData.depthAll ds ≤ k ∧ PyData.canLayAll0 ds = true
  | [], _ => ⟨rfl, Nat.le_refl _, rfl, Nat.zero_le _, rfl⟩
  | d :: ds, h => by
    obtain ⟨i1, i2, i3, i4, i5⟩ := okN.all fun y hy => h y (List.mem_cons_of_mem _ hy)
    obtain ⟨j1, j2, j3, j4, j5⟩ := h d List.mem_cons_self
    refine ⟨?_, ?_, ?_, ?_, ?_⟩
    · simp only [PyData.leavesShortAll, j1, i1, Bool.and_self]
    · simp only [PyData.weightAll, List.length_cons, Nat.mul_add, Nat.mul_one]
      omega
    · simp only [PyData.showableAll, j3, i3, Bool.and_self]
    · simp only [PyData.depthAll]
      omega
    · simp only [PyData.canLayAll0, j5, i5, Bool.and_self]
theorem okN.int {i : Int} (h0 : -100000 ≤ i) (h1 : i ≤ 1000000) : okN 0 50 (.int i) := by
  have ht : (Str.ofString (toString i)).length ≤ 13 := by
    by_cases c : 0 ≤ i
    · exact Nat.le_trans (toString_length_le (k := 7) c (by decide) (by omega)) (by decide)
    · obtain ⟨n, rfl⟩ : ∃ n : Nat, i = Int.negSucc n := by
        cases i with
        | ofNat n => exact absurd (Int.natCast_nonneg n) c
        | negSucc n => exact ⟨n, rfl⟩
      have hn : (n + 1 : Int) < 10 ^ 6 := by omega
      have e : toString (Int.negSucc n) = "-" ++ toString (n + 1) := rfl
      have t := toString_length_le (v := ((n + 1 : Nat) : Int)) (k := 6) (by omega) (by decide) (by exact_mod_cast hn)
      have len : ∀ a b : String, (Str.ofString (a ++ b)).length = (Str.ofString a).length + (Str.ofString b).length := fun a b => by
        show (Str.ofString (a ++ b)).cps.size = (Str.ofString a).cps.size + (Str.ofString b).cps.size
        rw [Str.ofString_eq_toList, Str.ofString_eq_toList, Str.ofString_eq_toList]
        simp [String.toList_append]
      rw [e, len]
      have h1' : (Str.ofString "-").length = 1 := by decide
      have t' : (Str.ofString (toString (n + 1))).length ≤ 6 := t
      omega
  have hl : i.natAbs.log2 ≤ 20 := by
    by_cases z : i.natAbs = 0
    · rw [z]; decide
    · exact Nat.le_of_lt_succ ((Nat.log2_lt z).mpr (by omega))
  refine ⟨by simp only [PyData.leavesShort, decide_eq_true_eq]; exact ht, ?_, ?_, Nat.le_refl 0, rfl⟩
  · simp only [PyData.weight]
    split <;> omega
  · simp only [PyData.showable, decide_eq_true_eq]
    omega
section
variable {P : Program} {w : World} {K : PySem.W.Frag} {mg : Str → Option Value} {base : Heap}
end
section
variable {P : Program} {w : World} {K : PySem.W.Frag} {mg : Str → Option Value} {base : Heap}
end
/-- an error's class -/
def oexB (K : PySem.W.Frag) (C : Addr) : Bool := match K.lookup C with
  | some ⟨.type c, _, .cls cd, sl⟩ => decide (c = "type") && (match cd.mro, sl.toList with
    | .ref D :: bm, [_, _, _, _, some (.builtin n), _] => decide (D = C) && (decide (n = "ValueError.__new__") && (!cd.hasDel && (cd.hasDict && PySem.HandSPX.refsVE bm)))
    | _, _ => false)
  | _ => false
/-- all that is asked of an error's class -/
def errB (K : PySem.W.Frag) (C fI CS : Addr) : Bool := oexB K C && (decide (PySem.W.findIn K (.ref C) "__setattr__" = some (some (.builtin "object.__setattr__"))) && (decide (PySem.W.typeIn K (.ref C) = some (.type "type")) && (PySem.W.keepIn K (.ref C) &&
  (decide (PySem.W.findIn K (.ref C) "__init__" = some (some (.ref fI))) && (decide (PySem.W.typeIn K (.ref fI) = some (.type "function")) && (decide (PySem.W.findIn K (.ref C) "value" = some none) && (xfB K C && decide (PySem.W.exmOne K (.ref C) (.ref CS) = some true))))))))
end VG



set_option maxRecDepth 100000
set_option maxHeartbeats 8000000
/-! isinstance(e, C), e a caught and kept error of an own class, C that class or another one; t.index of flat things. -/
namespace VG
open PySem PySem.Spec PySem.Calls PyProof.Rows L2 LamX
def isCB (K : PySem.W.Frag) (D : Addr) : Bool := xfB K D && (decide (PySem.W.findIn K (.ref D) "__class__" = some (some (.builtin "object.__class__"))) && (decide (PySem.W.specialIn K (.builtin "object.__class__") "__get__" = some (some (.builtin "getset_descriptor.__get__"))) &&
  (decide (PySem.W.takesIn K (.builtin "object.__class__") = some true) && decide (PySem.W.mroIn K D (.type "object") = some true))))
section
variable {K : PySem.W.Frag} {D x : Addr} {ob : Obj} {od : Option Obj}
end
end VG



set_option maxRecDepth 100000
set_option maxHeartbeats 8000000
/-! K35: the text by places; what laws share. -/
namespace K35
open PySem PySem.Spec PyProof.Rows L2 LamX VG
def topS (i : Nat) : Stmt := PySem.Challenge.pw_clankernel_k35_whole_ways.main.body.getD i (.Pass ⟨0, 0, 0, 0⟩)
abbrev sNumberOf : Stmt := topS 2
abbrev sNumberIn : Stmt := topS 3
abbrev sNumberTold : Stmt := topS 4
abbrev sTaskRow : Stmt := topS 15
abbrev sStands : Stmt := topS 16
abbrev sClan : Stmt := topS 13
abbrev sBeneath : Stmt := topS 14
abbrev sStraight : Stmt := topS 18
abbrev sNextStop : Stmt := topS 19
abbrev sWay : Stmt := topS 20
abbrev sWaySort : Stmt := topS 21
abbrev sPasses : Stmt := topS 22
abbrev sMetBy : Stmt := topS 23
abbrev sCheckTasks : Stmt := topS 24
abbrev sPot : Stmt := topS 26
abbrev sTake : Stmt := topS 27
abbrev sOf : Stmt := topS 28
abbrev sCells : Stmt := topS 29
abbrev sHeard : Stmt := topS 30
abbrev sOdd : Stmt := topS 31
abbrev sIsInt : Stmt := topS 32
abbrev sHouseText : Stmt := topS 33
abbrev sHouseUp : Stmt := topS 34
abbrev sHouseBeneath : Stmt := topS 35
abbrev sHouseClan : Stmt := topS 36
abbrev sHouseMade : Stmt := topS 39
abbrev sHouseDrawn : Stmt := topS 40
abbrev sHouseStraight : Stmt := topS 37
abbrev sHouseWay : Stmt := topS 38
abbrev sSort : Stmt := topS 41
abbrev sWayRight : Stmt := topS 42
abbrev sIsRaised : Stmt := topS 43
abbrev sRefused : Stmt := topS 44
abbrev sTwo : Stmt := topS 45
abbrev sRight : Stmt := topS 46
abbrev sLaw : Stmt := topS 47
section
variable {P : Program} {w : World} {K : PySem.W.Frag} {mg : Str → Option Value} {base : Heap}
end
abbrev sInit : Stmt := inClass (topS 6) 0
section
variable {P : Program} {w : World} {K : PySem.W.Frag} {mg : Str → Option Value} {base : Heap}
end
section
variable {X : Cx}
end
section
variable {P : Program} {w : World} {K : PySem.W.Frag} {mg : Str → Option Value} {base : Heap}
end
section
variable {P : Program} {w : World} {K : PySem.W.Frag} {mg : Str → Option Value} {base : Heap}
end
section
variable {X : Cx} {pins : List (Addr × Obj)} {σ : L2.St} {H : Hp} {s : Shared}
end
section
variable {P : Program} {w : World} {K : PySem.W.Frag} {mg : Str → Option Value} {base : Heap}
end
section
variable {P : Program} {w : World} {K : PySem.W.Frag} {mg : Str → Option Value} {base : Heap}
end
abbrev sClansI : Stmt := inClass (topS 12) 0
abbrev sClansEq : Stmt := inClass (topS 12) 1
abbrev sClansLen : Stmt := inClass (topS 12) 2
abbrev sClansHas : Stmt := inClass (topS 12) 3
abbrev sChief : Stmt := inClass (topS 12) 4
abbrev sHasBorder : Stmt := inClass (topS 12) 5
abbrev sCheckTask : Stmt := inClass (topS 12) 9
abbrev sTasksBeneath : Stmt := inClass (topS 12) 10
end K35



set_option maxRecDepth 100000
set_option maxHeartbeats 2000000
/-! k35: rows of tasks. -/
namespace K35
open PySem PySem.Spec PyProof.Rows L2 LamX VG TL
abbrev Row := Int × Option Int × Bool
section
variable {P : Program} {w : World} {K : PySem.W.Frag} {mg : Str → Option Value} {base : Heap}
end
end K35



set_option maxRecDepth 100000
set_option maxHeartbeats 4000000
/-! k35: the law's drawn house. -/
namespace K35
open PySem PySem.Spec PyProof.Rows L2 LamX VG TL
def Rise (rs : List Row) : Prop := (rs.map (·.1)).Pairwise (· < ·)
section
variable {P : Program} {w : World} {K : PySem.W.Frag} {mg : Str → Option Value} {base : Heap}
end
end K35



set_option maxRecDepth 100000
set_option maxHeartbeats 4000000
/-! k35: trees. -/
namespace K35
open PySem PySem.Spec PyProof.Rows L2 LamX VG TL
/-- rows in their sequence: each but the first one has a chief ahead -/
structure Tree (rs : List Row) : Prop where
  rise : Rise rs
  few : rs.length ≤ 6
  hd : ∃ r0 rest, rs = r0 :: rest ∧ r0.2.1 = none ∧ ∀ r ∈ rest, ∃ c, r.2.1 = some c ∧ c < r.1 ∧ c ∈ rs.map (·.1)
theorem Tree.chief {rs : List Row} (t : Tree rs) {r : Row} (hr : r ∈ rs) {c : Int} (h : r.2.1 = some c) : c < r.1 ∧ ∃ q ∈ rs, q.1 = c := by
  obtain ⟨r0, rest, rfl, h0, hh⟩ := t.hd
  rcases List.mem_cons.mp hr with rfl | hr
  · rw [h0] at h; cases h
  · obtain ⟨c', h1, h2, h3⟩ := hh r hr
    rw [h1] at h
    cases h
    obtain ⟨q, hq, e⟩ := List.mem_map.mp h3
    exact ⟨h2, q, hq, e⟩
end K35



set_option maxRecDepth 100000
set_option maxHeartbeats 16000000
/-! k35: the end. -/
namespace K35
open PySem PySem.Spec PyProof.Rows L2 LamX VG
def dd (x : Str) (st : Stmt) : He.DefD := ⟨(x, none), x, x, defArgs st, defBody st, defScope st, [], []⟩
def dIni (C : Str) : He.DefD := ⟨(C, some "__init__"), "__init__", "CoreError.__init__", defArgs sInit, defBody sInit, defScope sInit, [], []⟩
def fns : List He.DefD := [dd "number_of" sNumberOf, dd "number_in" sNumberIn, dd "number_told" sNumberTold, dd "clan" sClan, dd "beneath" sBeneath, dd "task_row" sTaskRow, dd "_stands_behind" sStands, dd "straight" sStraight, dd "next_stop" sNextStop, dd "way" sWay, dd "way_sort" sWaySort, dd "passes" sPasses, dd "met_by" sMetBy, dd "_check_tasks" sCheckTasks, dd "_law_pot" sPot, dd "_law_take" sTake, dd "_law_of" sOf, dd "_law_cells" sCells, dd "_law_heard" sHeard, dd "_law_odd" sOdd, dd "_law_is_int" sIsInt, dd "_law_house_text" sHouseText, dd "_law_house_up" sHouseUp, dd "_law_house_beneath" sHouseBeneath, dd "_law_house_clan" sHouseClan, dd "_law_house_is_straight" sHouseStraight, dd "_law_house_way" sHouseWay, dd "_law_house_made" sHouseMade, dd "_law_house_drawn" sHouseDrawn, dd "_law_sort" sSort, dd "_law_is_way_right" sWayRight, dd "_law_is_raised" sIsRaised, dd "_law_are_refused" sRefused, dd "_law_two" sTwo, dd "_law_right" sRight, dd "law" sLaw, dIni "BadClans", dIni "NoTask", ⟨("Clans", some "__init__"), "__init__", "Clans.__init__", defArgs sClansI, defBody sClansI, defScope sClansI, [], []⟩, ⟨("Clans", some "__eq__"), "__eq__", "Clans.__eq__", defArgs sClansEq, defBody sClansEq, defScope sClansEq, [], []⟩, ⟨("Clans", some "__len__"), "__len__", "Clans.__len__", defArgs sClansLen, defBody sClansLen, defScope sClansLen, [], []⟩, ⟨("Clans", some "__contains__"), "__contains__", "Clans.__contains__", defArgs sClansHas, defBody sClansHas, defScope sClansHas, [], []⟩, ⟨("Clans", some "chief"), "chief", "Clans.chief", defArgs sChief, defBody sChief, defScope sChief, [], []⟩, ⟨("Clans", some "has_border"), "has_border", "Clans.has_border", defArgs sHasBorder, defBody sHasBorder, defScope sHasBorder, [], []⟩, ⟨("Clans", some "check_task"), "check_task", "Clans.check_task", defArgs sCheckTask, defBody sCheckTask, defScope sCheckTask, [], []⟩, ⟨("Clans", some "tasks_beneath"), "tasks_beneath", "Clans.tasks_beneath", defArgs sTasksBeneath, defBody sTasksBeneath, defScope sTasksBeneath, [], []⟩]
def noB (K : PySem.W.Frag) (C : Addr) (f : Str) : Bool := decide (PySem.W.findIn K (.ref C) f = some none)
def clB (K : PySem.W.Frag) (C f : Addr) : Bool :=
  (PySem.W.plainGet K C Str.empty && (PySem.W.hasDictIn K C && (PySem.W.plainOver K C && decide (PySem.W.findIn K (.ref C) "__setattr__" = some (some (.builtin "object.__setattr__")))))) &&
  ((noB K C "text" && (noB K C "fresh" && (noB K C "rows" && (noB K C "tasks" && (noB K C "chiefs" && (noB K C "borders")))))) &&
  (PySem.W.makesIn K C && (decide (PySem.W.findIn K (.ref C) "__init__" = some (some (.ref f))) && (PySem.W.isFn K (.ref f) && PySem.W.keepIn K (.ref C)))))
def cfB (K : PySem.W.Frag) (C : Addr) : Bool :=
  decide (PySem.W.findIn K (.ref C) "__ne__" = some (some (.builtin "object.__ne__"))) && (decide (PySem.W.mroIn K C (.type "object") = some true) && (decide (PySem.W.findIn K (.ref C) "__class__" = some (some (.builtin "object.__class__"))) &&
  (decide (PySem.W.specialIn K (.builtin "object.__class__") "__get__" = some (some (.builtin "getset_descriptor.__get__"))) && (decide (PySem.W.takesIn K (.builtin "object.__class__") = some true) && (decide (PySem.W.kitOne K (.ref C) (.ref C) = some true) &&
  (["NoneType", "bool", "int", "str", "list", "tuple", "dict"].all fun T => decide (PySem.W.kitOne K (.type T) (.ref C) = some false)))))))
def meB (K : PySem.W.Frag) (C : Addr) (m : Str) (f : Addr) : Bool := decide (PySem.W.findIn K (.ref C) m = some (some (.ref f))) && (PySem.W.isFn K (.ref f) && PySem.W.keepIn K (.ref f))
def fas : List He.Fa := [.glo "number_of", .glo "number_in", .glo "number_told", .glo "clan", .glo "beneath", .glo "task_row", .glo "_stands_behind", .glo "straight", .glo "next_stop", .glo "way", .glo "way_sort", .glo "passes", .glo "met_by", .glo "_check_tasks", .glo "_law_pot", .glo "_law_take", .glo "_law_of", .glo "_law_cells", .glo "_law_heard", .glo "_law_odd", .glo "_law_is_int", .glo "_law_house_text", .glo "_law_house_up", .glo "_law_house_beneath", .glo "_law_house_clan", .glo "_law_house_is_straight", .glo "_law_house_way", .glo "_law_house_made", .glo "_law_house_drawn", .glo "_law_sort", .glo "_law_is_way_right", .glo "_law_is_raised", .glo "_law_are_refused", .glo "_law_two", .glo "_law_right", .glo "law", .glo "CoreError", .glo "BadClans", .glo "NoTask", .glo "Clans", .int "MOST_TASKS" 6, .int "LAST_NUMBER" 999, .free "abs", .free "all", .free "any", .free "bool", .free "dict", .free "enumerate", .free "int", .free "isinstance", .free "len", .free "list", .free "max", .free "min", .free "range", .free "repr", .free "set", .free "sorted", .free "str", .free "sum", .free "tuple", .free "type"]
def tbs : List He.Tab := []
def rfd1 : He.Defn := ("_law_are_refused", none)
def rfd2 : He.Defn := ("_law_two", none)
def cds : List He.Defn := [rfd1, rfd2]
def kiB (K : PySem.W.Frag) (a b : Addr) (r : Bool) : Bool := decide (PySem.W.kitOne K (.ref a) (.ref b) = some r)
def er (K : PySem.W.Frag) (C : Str) : Bool := errB K (He.ga K C) (He.ma K (He.ga K C) "__init__") (He.ga K "CoreError") && isCB K (He.ga K C)
def exs (K : PySem.W.Frag) : Bool := er K "BadClans" && (er K "NoTask" && (kiB K (He.ga K "NoTask") (He.ga K "NoTask") true && (clB K (He.ga K "Clans") (He.ma K (He.ga K "Clans") "__init__") && (cfB K (He.ga K "Clans") && (meB K (He.ga K "Clans") "__eq__" (He.ma K (He.ga K "Clans") "__eq__") && (meB K (He.ga K "Clans") "__len__" (He.ma K (He.ga K "Clans") "__len__") && (meB K (He.ga K "Clans") "__contains__" (He.ma K (He.ga K "Clans") "__contains__") && (meB K (He.ga K "Clans") "chief" (He.ma K (He.ga K "Clans") "chief") && (meB K (He.ga K "Clans") "has_border" (He.ma K (He.ga K "Clans") "has_border") && (meB K (He.ga K "Clans") "check_task" (He.ma K (He.ga K "Clans") "check_task") && (meB K (He.ga K "Clans") "tasks_beneath" (He.ma K (He.ga K "Clans") "tasks_beneath") && (decide ((He.cT K rfd1).2 ≠ (He.cT K rfd2).2)))))))))))))
end K35



set_option maxRecDepth 100000
set_option maxHeartbeats 0
/-! k35: the top's run, and the law. -/
namespace K35
open PySem PySem.Spec PyProof.Rows L2 LamX VG
abbrev hook5 : PySem.W.Hook := He.hookX 5 fas fns tbs cds exs
def seen5 (s : PySem.W.SharedT) : He.AlX := He.obsX 5 fas fns tbs cds exs (HandSHeadRun.getT s)
def bound1 : List Str := ["number_of", "number_in", "number_told", "clan", "beneath", "task_row", "_stands_behind", "straight", "next_stop", "way", "way_sort", "passes"]
def bound2 : List Str := ["met_by", "_check_tasks", "_law_pot", "_law_take", "_law_of", "_law_cells", "_law_heard", "_law_odd", "_law_is_int", "_law_house_text", "_law_house_up", "_law_house_beneath"]
def bound3 : List Str := ["_law_house_clan", "_law_house_is_straight", "_law_house_way", "_law_house_made", "_law_house_drawn", "_law_sort", "_law_is_way_right", "_law_is_raised", "_law_are_refused", "_law_two", "_law_right", "law"]
def bound4 : List Str := ["CoreError", "BadClans", "NoTask", "Clans", "MOST_TASKS", "LAST_NUMBER", "_wall"]
def bound : List Str := bound1 ++ (bound2 ++ (bound3 ++ (bound4)))
abbrev RunTop (w : World) : Prop := HandSHeadRun.RunEq (PySem.W.OpenLaw.row PySem.Challenge.rw_clankernel_k35_whole_ways) (PySem.W.view (PySem.W.OpenLaw.row PySem.Challenge.rw_clankernel_k35_whole_ways).prog [47]) hook5 seen5 4000 bound w
theorem run_f (w : World) : RunTop (w.withFollow "special-get-raises" false) := by
  intro os
  kernel_rfl
theorem run_t (w : World) : RunTop (w.withFollow "special-get-raises" true) := by
  intro os
  kernel_rfl
theorem top_run (w : World) : RunTop w := PySem.W.byRow2 "special-get-raises" run_f run_t w
end K35



set_option maxRecDepth 100000
set_option maxHeartbeats 8000000
/-! What serves every law: data on the heap, the pot, kept errors and lambdas, repr, the end. -/
namespace VG
open PySem PySem.Spec PyProof.Rows L2 LamX
/-- a value of any kind: as Dp tells, or one of the dicts that are drawn -/
inductive Dk (K : PySem.W.Frag) (H : Hp) : V → PyData → Prop
  | dp {v : V} {d : PyData} : Dp K H v d → Dk K H v d
  | d0 {a : Addr} : H a = some (.dK []) → Dk K H (.ref a) (.dict [])
  | d1 {a : Addr} : H a = some (.dK [(.inr "a", .int 1)]) → Dk K H (.ref a) (.dict [(.str "a", .int 1)])
def tyName : PyData → String
  | .none => "NoneType"
  | .bool _ => "bool"
  | .int _ => "int"
  | .str _ => "str"
  | .list _ => "list"
  | .tuple _ => "tuple"
  | .dict _ => "dict"
theorem Dk.ty {K : PySem.W.Frag} {H : Hp} {v : V} {d : PyData} (h : Dk K H v d) : TyB K H v (tyName d) := by
  cases h with
  | dp h =>
    cases h with
    | non => exact .non
    | bl b => exact .bl b
    | int i => exact .int i
    | str x => exact .str x
    | lst hs _ => exact .lst hs
    | tup hs _ => exact .tup hs
  | d0 h => exact .dK h
  | d1 h => exact .dK h
theorem Same.seqT {K : PySem.W.Frag} {H H' : Hp} {a : Addr} {xs : List V} (e : Same H H') (h : SqT K H a xs) : SqT K H' a xs := by
  rcases h with (h | ⟨o, h⟩) | h
  · exact .inl (.inl (e _ _ h))
  · exact .inl (.inr ⟨o, e _ _ h⟩)
  · exact .inr h
mutual
theorem dp_same {K : PySem.W.Frag} {H H' : Hp} (e : Same H H') : ∀ (d : PyData) (v : V), Dp K H v d → Dp K H' v d
  | .none, _, h => by cases h; exact .non
  | .bool b, _, h => by cases h; exact .bl b
  | .int i, _, h => by cases h; exact .int i
  | .str x, _, h => by cases h; exact .str x
  | .list ds, _, h => by
    cases h with
    | lst hs ha => exact .lst (e.seq hs) (dpAll_same e ds _ ha)
  | .tuple ds, _, h => by
    cases h with
    | tup hs ha => exact .tup (Same.seqT e hs) (dpAll_same e ds _ ha)
  | .dict _, _, h => by cases h
theorem dpAll_same {K : PySem.W.Frag} {H H' : Hp} (e : Same H H') : ∀ (ds : List PyData) (vs : List V), DpAll K H vs ds → DpAll K H' vs ds
  | [], _, h => by cases h; exact .nil
  | d :: ds, _, h => by
    cases h with
    | cons h1 h2 => exact .cons (dp_same e d _ h1) (dpAll_same e ds _ h2)
end
theorem Dk.same {K : PySem.W.Frag} {H H' : Hp} (e : Same H H') {d : PyData} {v : V} (h : Dk K H v d) : Dk K H' v d := by
  cases h with
  | dp h => exact .dp (dp_same e _ _ h)
  | d0 h => exact .d0 (e _ _ h)
  | d1 h => exact .d1 (e _ _ h)
theorem same_upd {H : Hp} {p : Addr} {o : HO} (h : H p = none) : Same H (upd H p o) := fun b x e => by
  rw [upd_ne (ne_of_none e h)]
  exact e
def isW : PyData → Int → Int → Bool
  | .int i, lo, hi => decide (lo ≤ i) && decide (i ≤ hi)
  | _, _, _ => false
/-- a name of the module that holds an object -/
theorem pgr {X : Cx} {x : Str} {a : Addr} {pos : Pos} (hg : Gl X x) (hm : X.mg x = some (.ref a)) (hd : (x == ("__debug__" : Str)) = false := by decide) : PE X (.Name x pos) (tC (.ref a)) := pe_glob hg hm rfl hd
section
variable {P : Program} {w : World} {K : PySem.W.Frag} {mg : Str → Option Value} {base : Heap}
/-- a tuple of the written part -/
def KT (K : PySem.W.Frag) (a : Addr) (xs : List V) : Prop := ∃ (o : Obj) (its : Array Value) (n : Nat), K.lookup a = some o ∧ o.cls = .type "tuple" ∧ o.data = .seq its n ∧ its.size ≤ sizeLine ∧ Vals xs its.toList
theorem KT.sq {a : Addr} {xs : List V} (h : KT K a xs) {H : Hp} : SqT K H a xs := .inr h
end
theorem cut_take (xs : List V) (j : Nat) : cutV xs none (some (j : Int)) = xs.take j := by
  unfold cutV
  rw [HT.sIx_none, HT.sIx_nat, List.drop_zero, Nat.sub_zero]
  by_cases h : j ≤ xs.length
  · rw [Nat.min_eq_left h]
  · rw [Nat.min_eq_right (by omega), List.take_of_length_le (Nat.le_refl _), List.take_of_length_le (by omega)]
theorem isW_int {d : PyData} {lo hi : Int} (h : isW d lo hi = true) : ∃ i, d = .int i ∧ lo ≤ i ∧ i ≤ hi := by
  cases d with
  | int i =>
    simp [isW] at h
    exact ⟨i, rfl, h.1, h.2⟩
  | none => cases h
  | bool _ => cases h
  | str _ => cases h
  | list _ => cases h
  | tuple _ => cases h
  | dict _ => cases h
section
variable {P : Program} {w : World} {K : PySem.W.Frag} {mg : Str → Option Value} {base : Heap}
theorem dk_int {H : Hp} {v : V} {i : Int} (h : Dk K H v (.int i)) : v = .int i := by
  cases h with
  | dp h => cases h; rfl
theorem sqT_upd {H : Hp} {a p : Addr} {xs ys : List V} {o : HO} (h : SqT K H a xs) (hp : H p = some (.lst ys)) : SqT K (upd H p o) a xs := by
  rcases h with (h | ⟨u, h⟩) | h
  · exact .inl (.inl (by rw [upd_ne (ne_of h hp (by intro z; cases z))]; exact h))
  · exact .inl (.inr ⟨u, by rw [upd_ne (ne_of h hp (by intro z; cases z))]; exact h⟩)
  · exact .inr h
theorem Same.updNew {H H' : Hp} {p : Addr} {o : HO} (s : Same H H') (h : H p = none) : Same H (upd H' p o) := fun b x e => by
  rw [upd_ne (ne_of_none e h)]
  exact s b x e
end
/-- a comprehension over anything that yields n things -/
theorem lc_any {J : It} {n : Nat} {g : TG} {tt : TT} {te : TE} {vs : List Nat} {σ : L2.St} {H1 : Hp} {D : Addr} {Qd : Hp → Prop} (Pv : Nat → Hp → Prop) (h0 : Pv 0 (upd H1 D (.lst []))) (hgo : ∀ i H, i < n → Pv i H → J.go i H) (hst : ∀ H, Pv n H → J.stop n H)
    (hs : ∀ i x H H', i < n → Pv i H → J.yld i H x H' → g x (wipe σ vs) H' fun σ2 H2 => wipe σ2 vs = wipe σ vs ∧ tt σ2 H2 fun b H3 =>
      if b = true then te σ2 H3 fun y H4 => ∃ acc, H4 D = some (.lst acc) ∧ acc.length < sizeLine ∧ Pv (i + 1) (upd H4 D (.lst (acc ++ [y]))) else Pv (i + 1) H3) (hd : ∀ H, Pv n H → Qd H) :
    ∃ W : Nat → Nat → Hp → Prop, (∃ m, W 0 m (upd H1 D (.lst []))) ∧ ∀ i m H, W i m H →
      (J.stop i H ∧ Qd H) ∨ (J.go i H ∧ ∃ Nx : Hp → Prop, (∀ H', Nx H' → ∃ m', m' < m ∧ W (i + 1) m' H') ∧ ∀ x H', J.yld i H x H' → g x (wipe σ vs) H' fun σ2 H2 => wipe σ2 vs = wipe σ vs ∧ tt σ2 H2 fun b H3 =>
        if b = true then te σ2 H3 fun y H4 => ∃ acc, H4 D = some (.lst acc) ∧ acc.length < sizeLine ∧ Nx (upd H4 D (.lst (acc ++ [y]))) else Nx H3) := by
  refine ⟨fun i m H => i + m = n ∧ Pv i H, ⟨n, Nat.zero_add n, h0⟩, ?_⟩
  rintro i m H ⟨e, p⟩
  by_cases c : i < n
  · exact .inr ⟨hgo i H c p, Pv (i + 1), fun H' q => ⟨m - 1, by omega, by omega, q⟩, fun x H' y => hs i x H H' c p y⟩
  · obtain rfl : i = n := by omega
    exact .inl ⟨hst H p, hd H p⟩
/-- a loop over anything that yields n things -/
theorem for_any {J : It} {n : Nat} {g : TG} {tb : TS} {D : Ends} {σ : L2.St} {H : Hp} (Pv : Nat → L2.St → Hp → Prop) (h0 : Pv 0 σ H) (hgo : ∀ i σ H, i < n → Pv i σ H → J.go i H) (hst : ∀ σ H, Pv n σ H → J.stop n H)
    (hs : ∀ i x σ H H', i < n → Pv i σ H → J.yld i H x H' → g x σ H' fun σ2 H2 => tb { D with nx := Pv (i + 1), ct := Pv (i + 1), bk := D.nx } σ2 H2) (hd : ∀ σ H, Pv n σ H → D.nx σ H) :
    ∃ W : Nat → Nat → L2.St → Hp → Prop, (∃ m, W 0 m σ H) ∧ ∀ i m σ H, W i m σ H →
      (J.stop i H ∧ D.nx σ H) ∨ (J.go i H ∧ ∃ N : L2.St → Hp → Prop, (∀ σ' H', N σ' H' → ∃ m', m' < m ∧ W (i + 1) m' σ' H') ∧ ∀ x H', J.yld i H x H' → g x σ H' fun σ2 H2 => tb { D with nx := N, ct := N, bk := D.nx } σ2 H2) := by
  refine ⟨fun i m σ H => i + m = n ∧ Pv i σ H, ⟨n, Nat.zero_add n, h0⟩, ?_⟩
  rintro i m σ H ⟨e, p⟩
  by_cases c : i < n
  · exact .inr ⟨hgo i σ H c p, Pv (i + 1), fun σ' H' q => ⟨m - 1, by omega, by omega, q⟩, fun x H' y => hs i x σ H H' c p y⟩
  · obtain rfl : i = n := by omega
    exact .inl ⟨hst σ H p, hd σ H p⟩
theorem cut_drop (xs : List V) (j : Nat) : cutV xs (some (j : Int)) none = xs.drop j := by
  unfold cutV
  rw [HT.sIx_none, HT.sIx_nat]
  by_cases h : j ≤ xs.length
  · rw [Nat.min_eq_left h, List.take_of_length_le (by rw [List.length_drop]; omega)]
  · rw [Nat.min_eq_right (by omega), Nat.sub_self, List.take_zero, List.drop_eq_nil_of_le (by omega)]
/-- the heap without a -/
def wo (H : Hp) (a : Addr) : Hp := fun b => if b = a then none else H b
theorem wo_ne {H : Hp} {a b : Addr} (h : b ≠ a) : wo H a b = H b := if_neg h
theorem wo_same {H : Hp} {a : Addr} : wo H a a = none := if_pos rfl
theorem wo_le {H : Hp} {a : Addr} : Same (wo H a) H := fun b o e => by
  by_cases h : b = a
  · rw [h, wo_same] at e
    cases e
  · rw [wo_ne h] at e
    exact e
theorem wo_same_of {H H' : Hp} {a : Addr} (s : Same H H') : Same (wo H a) (wo H' a) := fun b o e => by
  by_cases h : b = a
  · rw [h, wo_same] at e
    cases e
  · rw [wo_ne h] at e ⊢
    exact s b o e
theorem wo_upd {H : Hp} {a : Addr} {o : HO} : wo (upd H a o) a = wo H a := by
  funext b
  by_cases h : b = a
  · rw [h, wo_same, wo_same]
  · rw [wo_ne h, wo_ne h, upd_ne h]
theorem wo_at {H : Hp} {a b : Addr} {o : HO} (h : H b = some o) (n : b ≠ a) : wo H a b = some o := by rw [wo_ne n]; exact h
/-- the law's pot: three numbers, the last one below a bound that grows -/
def Pot (H : Hp) (p : Addr) (n : Nat) : Prop := ∃ a b c : Int, H p = some (.lst [.int a, .int b, .int c]) ∧ 0 ≤ b ∧ b < 2305843009213693951 ∧ 0 ≤ c ∧ c ≤ n
theorem Pot.same {H H' : Hp} {p : Addr} {n : Nat} (h : Pot H p n) (s : Same H H') : Pot H' p n := by
  obtain ⟨a, b, c, e, r⟩ := h
  exact ⟨a, b, c, s _ _ e, r⟩
theorem Pot.mono {H : Hp} {p : Addr} {n m : Nat} (h : Pot H p n) (l : n ≤ m) : Pot H p m := by
  obtain ⟨a, b, c, e, r1, r2, r3, r4⟩ := h
  exact ⟨a, b, c, e, r1, r2, r3, by omega⟩
theorem op_powB {X : Cx} : OpR X (binaryOp .Pow) (rI (fun i j => 0 ≤ j ∧ (Builtin.Int.intBits i : Int) * j ≤ 2 ^ 27) fun i j => .int (i ^ j.toNat)) := opI fun i j t u Q s _ hc q => pow_int hc.1 hc.2 q
theorem Pot.ne {H : Hp} {p c : Addr} {n : Nat} (h : Pot H p n) (nc : H c = none) : c ≠ p := fun z => by
  obtain ⟨a, b, d, e, _⟩ := h
  rw [z, e] at nc
  cases nc
theorem Pot.upd {H : Hp} {p c : Addr} {n : Nat} {o : HO} (h : Pot H p n) (ne : c ≠ p) : Pot (upd H c o) p n := by
  obtain ⟨a, b, d, e, r⟩ := h
  exact ⟨a, b, d, by rw [upd_ne ne.symm]; exact e, r⟩
theorem Dk.tyx {K : PySem.W.Frag} {H : Hp} {v : V} {d : PyData} (h : Dk K H v d) : TyX K H v (.type (tyName d)) := by
  cases h with
  | dp h =>
    cases h with
    | non => exact .base .non
    | bl b => exact .base (.bl b)
    | int i => exact .base (.int i)
    | str x => exact .base (.str x)
    | lst hs _ =>
      rcases hs with (e | ⟨o, e⟩) | ⟨o, its, n, e, c, _⟩
      · exact .base (.lst e)
      · exact .base (.frz e)
      · exact .kList e c
    | tup hs _ =>
      rcases hs with (e | ⟨o, e⟩) | ⟨o, its, n, e, c, _⟩
      · exact .base (.tup e)
      · exact .fTuple e
      · exact .kTuple e c
  | d0 h => exact .base (.dK h)
  | d1 h => exact .base (.dK h)
theorem inV_strs (x : Str) : ∀ l : List Str, inV (.str x) (l.map V.str) = decide (x ∈ l)
  | [] => rfl
  | y :: l => by
    have ih := inV_strs x l
    unfold inV at ih ⊢
    rw [List.map_cons, List.any_cons, ih]
    show ((y == x) || _) = _
    by_cases h : y = x
    · subst h
      simp
    · have h' : ¬ x = y := fun z => h z.symm
      simp [h, h']
theorem wo_updNew {H H' : Hp} {p q : Addr} {o : HO} (s : Same (wo H p) (wo H' p)) (h : H q = none) : Same (wo H p) (wo (upd H' q o) p) := fun b x e => by
  have hb : b ≠ p := fun z => by rw [z, wo_same] at e; cases e
  have hq : b ≠ q := fun z => by rw [wo_ne hb, z, h] at e; cases e
  have := s b x e
  rw [wo_ne hb] at this ⊢
  rw [upd_ne hq]
  exact this
/-- what stands in the written part of an error's class -/
structure ErrC (K : PySem.W.Frag) (C fI : Addr) : Prop where
  oex : OexC K C
  iC : PySem.W.findIn K (.ref C) "__init__" = some (some (.ref fI))
  tI : PySem.W.typeIn K (.ref fI) = some (.type "function")
  noV : PySem.W.findIn K (.ref C) "value" = some none
section
variable {P : Program} {w : World} {K : PySem.W.Frag} {mg : Str → Option Value} {base : Heap}
def spInit (K : PySem.W.Frag) : Sp := fun vs H Q _ => ∃ (a C : Addr) (v : V), vs = [.ref a, v] ∧ H a = some (exo a C none) ∧ OexC K C ∧ PySem.W.findIn K (.ref C) "value" = some none ∧
  ∀ dx, H dx = none → dx ≠ a → Q .non (upd (upd H dx (exd dx [("value", v)])) a (exo a C (some dx)))
/-- the heap behind a made error: its own dict is new, nothing else -/
theorem err_heap {H : Hp} {a d C : Addr} {v : V} (ha : H a = none) (hne : d ≠ a) :
    upd (del (upd (upd (upd H a (exo a C none)) d (exd d [("value", v)])) a (exo a C (some d))) a) d (.xd [("value", v)]) = upd H d (.xd [("value", v)]) := by
  funext b
  by_cases hb : b = d
  · rw [hb, upd_same, upd_same]
  · rw [upd_ne hb, upd_ne hb]
    by_cases hc : b = a
    · rw [hc, del_same, ha]
    · rw [del_ne hc, upd_ne hc, upd_ne hb, upd_ne hc]
/-- what the making of C(v) asks -/
def Need (K : PySem.W.Frag) (C : Addr) (v : V) (H1 : Hp) (Q : XK) : Prop := [v].length ≤ 1000 ∧ ∀ a, H1 a = none → spInit K (.ref a :: ([v] ++ [])) (upd H1 a (exo a C none))
  (fun u H2 => u = .non ∧ ∃ (d : Addr) (fs : List (Str × V)), H2 a = some (exo a C (some d)) ∧ H2 d = some (exd d fs) ∧ H1 d = none ∧ Q (.ref C) (some d) (upd (del H2 a) d (.xd fs))) (fun _ _ _ => False)
theorem need_ok {C fI : Addr} {v : V} {H1 : Hp} {Q : XK} (T : ErrC K C fI) (h : ∀ d, H1 d = none → Q (.ref C) (some d) (upd H1 d (.xd [("value", v)]))) : Need K C v H1 Q := by
  refine ⟨by simp, fun a ha => ⟨a, C, v, rfl, upd_same, T.oex, T.noV, fun dx n ne => ⟨rfl, dx, [("value", v)], upd_same, ?_, ?_, ?_⟩⟩⟩
  · rw [upd_ne ne, upd_same]
  · rw [upd_ne ne] at n
    exact n
  · rw [upd_ne ne] at n
    rw [err_heap ha ne]
    exact h dx n
/-- raise C(e) -/
def tErr (K : PySem.W.Frag) (C : Addr) (W : WX) (te : TE) : TS := fun _ σ H => te σ H fun v H1 => Need K C v H1 fun cls d H' => W cls d σ H'
end
/-- the exception at a: of the class C, its fields in the dict at d -/
def ErrO (C d a : Addr) : HO := .ext fun h => ∃ (oe : Obj) (fv : Array Value), h.get? a = some oe ∧ Zc (.ref C) (some d) oe ∧ oe.data = .fields fv
theorem errO_ok {P : Program} {w : World} {H : Hp} {h : Heap} {a C d : Addr} {oe : Obj} {fv : Array Value} (e : h.get? a = some oe) (z : Zc (.ref C) (some d) oe) (f : oe.data = .fields fv) : ObjOk P w H h a (ErrO C d a) :=
  ⟨⟨oe, fv, e, z, f⟩, ⟨oe, e⟩, fun _ _ ⟨o1, f1, e1, r1⟩ k => ⟨o1, f1, k _ e1, r1⟩⟩
section
variable {X : Cx} {pins : List (Addr × Obj)} {σ : L2.St} {H : Hp} {s : Shared}
theorem err_get {a C d : Addr} (I : Inv X pins σ H s) (ha : H a = some (ErrO C d a)) : ∃ (oe : Obj) (fv : Array Value), s.heap.get? a = some oe ∧ Zc (.ref C) (some d) oe ∧ oe.data = .fields fv := (I.hok a _ ha).1
/-- from now on a is known -/
theorem track {a : Addr} {o : HO} (I : Inv X pins σ H s) (na : H a = none) (new : ∀ b ob, X.s_0.heap.get? b = some ob → X.H_0 b = none → b ∉ X.ex → b ≠ a) (nl : X.env.locals ≠ a) (nc : ∀ x c, X.env.cells.lookup x = some c → c ≠ a)
    (np : ∀ p ∈ X.pn ++ pins, p.1 ≠ a) (ok : ObjOk X.prog X.w (upd H a o) s.heap a o) : Inv X pins σ (upd H a o) s where
  ok := I.ok
  os := I.os
  bare := I.bare
  base := ⟨I.base.keep, I.base.slot, fun b ob e n hx => by rw [upd_ne (new b ob e n hx)]; exact I.base.free b ob e n hx, I.base.there, fun b xs e => by rw [upd_ne (ne_of_none (I.base.tups b xs e) na)]; exact I.base.tups b xs e,
    fun b ob u e => by rw [upd_ne (ne_of_none (I.base.frzs b ob u e) na)]; exact I.base.frzs b ob u e, fun b ps e => by
      obtain ⟨more, q⟩ := I.base.tbls b ps e
      exact ⟨more, by rw [upd_ne (ne_of_none q na)]; exact q⟩⟩
  loc := I.loc
  cell := I.cell
  free := by rw [upd_ne nl]; exact I.free
  freeC := fun x c e => by rw [upd_ne (nc x c e)]; exact I.freeC x c e
  pin := fun p hp => by
    obtain ⟨e1, e2, e3⟩ := I.pin p hp
    exact ⟨e1, by rw [upd_ne (np p hp)]; exact e2, e3⟩
  hok := I.hok.laidN (fun _ _ e => e) na ok
  len := I.len
/-- what 'except x as n: suite' makes of an exception of its own class: the caught one is known behind it -/
def wHeard (K : PySem.W.Frag) (c : Value) (i : Nat) (ts : Addr → Value → Option Addr → TS) (D : Ends) : WX := fun cls d σ H =>
  PySem.W.exmOne K cls c = some true ∧ ∃ (C dd : Addr), cls = .ref C ∧ d = some dd ∧ ∀ a, H a = none → ts a cls d { nx := fun σ' H' => H' a = none → D.nx (σ'.set i none) (upd H' a (ErrO C dd a)), rt := fun _ _ => False } (σ.set i (some (.ref a))) H
variable {x n : Str} {c : Value} {i : Nat} {body suite : List Stmt} {b₀ : Stmt} {np pos pos' : Pos} {tb : WX → TS} {ts : Addr → Value → Option Addr → TS}
theorem ps_heard (hs : X.stack = X.env :: X.outer) (hf : X.env.frame = some X.env.locals) (hN : X.N.Nodup) (hi : X.N[i]? = some n) (hln : X.env.kindOf n = some .local) (hc : Names X x c)
    (hb : ∀ (Wn : WX) (qn : List (Addr × Obj)) (xe : Value → Shared → Prop), Takes (X.tr qn xe) Wn → PassesOwn (model X.prog X.w) X.A X.env xe → PSs (X.tr qn xe) body (tb Wn))
    (hsu : ∀ (a : Addr) (oe : Obj) (cls : Value) (d : Option Addr) (qn : List (Addr × Obj)), Zc cls d oe → (∃ vs, oe.data = .fields vs) → PSs (X.suite a ((a, oe) :: qn)) (b₀ :: suite) (ts a cls d)) :
    PS X (.Try body [.ExceptHandler (some (.Name x np)) (some n) (b₀ :: suite) pos'] [] [] pos) (fun Dn σ H => tb (wHeard X.K c i ts Dn) Dn σ H) := by
  refine ⟨fun pins s σ H Dn I h => wpAny_Try_except ?_⟩
  have ok := I.ok
  have frames : X.A.frames = some (X.env :: X.outer) := by rw [ok.frames, hs]
  refine wpAny_mono ((hb (wHeard X.K c i ts Dn) (X.pn ++ pins) (fun e s₁ => wpAny (model X.prog X.w) X.A (noteFrame e X.env) (fun _ s₂ => wpAny (model X.prog X.w) X.A (setFlight e none) (fun _ s₃ =>
    wpAny (model X.prog X.w) X.A (handleBy e X.env [.ExceptHandler (some (.Name x np)) (some n) (b₀ :: suite) pos']) (SP X pins Dn) X.xe s₃) X.xe s₂) X.xe s₁) (fun u s' xx => ?_) PassesOwn.looking).run [] s σ H Dn (I.toTry _) h) (fun f s1 res => ?_) (fun e s1 he => he)
  · obtain ⟨a, B, s0E, pins', σ', H', cls, d, rfl, J', keeps_, grow, air, naa, osE, bareE, yes, C, dd, rfl, rfl, wish⟩ := xx
    have I0E : Inv X pins σ' H' s0E := J'.ofTry ok
    rw [show (X.tr (X.pn ++ pins) _).stack = X.env :: X.outer from hs] at air
    show wpAny (model X.prog X.w) X.A (noteFrame (.ref a) X.env) _ _ _
    refine Sky.land Zc.steady frames hf air fun hA fly3 more3 => ?_
    have Ba : B.get? a = none := fly3.2.1
    have IA : Inv X pins σ' H' { s' with heap := hA } := I0E.landed keeps_ fly3.1 (grow.trans more3) osE bareE
    obtain ⟨ob3, fv3, at3, zc3, dt3⟩ := fly3.there
    have ne0 : a ∉ frs (X.env :: X.outer) := fun hm => by
      obtain ⟨_, o', e', hnf⟩ := fly3.2.2.1.mem hm
      rw [at3] at e'; cases e'; exact hnf _ dt3
    have ne1 : a ≠ X.env.locals := fun z => ne0 (List.mem_filterMap.mpr ⟨X.env, List.mem_cons_self, by rw [hf, z]⟩)
    have ne2 : a ∉ X.fs := fun hm => by
      obtain ⟨e, he, q⟩ := List.mem_filterMap.mp hm
      exact ne0 (List.mem_filterMap.mpr ⟨e, List.mem_cons_of_mem _ he, q⟩)
    have noA : s0E.heap.get? a = none := by
      cases q : s0E.heap.get? a with
      | none => rfl
      | some o => exact absurd ((keeps_ a o q (by rw [hs]; exact ne0)).symm.trans Ba) (fun z => nomatch z)
    have newA : ∀ b ob, X.s_0.heap.get? b = some ob → X.H_0 b = none → b ∉ X.ex → b ≠ a := fun b ob e _ hx z => by
      obtain ⟨o', q⟩ := I0E.base.there b ob e hx
      rw [z, noA] at q; cases q
    have npA : ∀ p ∈ X.pn ++ pins, p.1 ≠ a := fun p hp z => by
      have q := (I0E.pin p hp).1
      rw [z, noA] at q; cases q
    have SA := IA.suite at3 dt3 naa ne1 ne2
    refine wpAny_handleBy_cons (codeAny_handlers_test ?_) (by intro q; cases q)
    have looks : PySem.W.Looks (model X.prog X.w) hA (typeOf (.ref a)) (.ref C) := fun A Q E s k q => wpAny_typeOf_ref (k _ _ at3) (by rw [zc3.1]; exact q)
    have meets_ := PySem.W.exm_one (M := model X.prog X.w) (IA.kIn) looks yes
    have tst : ∀ {Q : Value → Shared → Prop} {E : Value → Shared → Prop}, Q c { s' with heap := hA } → wpAny (model X.prog X.w) (X.A.mark (some (.ref a))) (eval (.Name x np) X.env) Q E { s' with heap := hA } := fun {Q E} q => by
      obtain ⟨g1, g2, g3 | ⟨g3, g4, g5⟩⟩ := hc
      · exact ld_glob (X := X.suite a ((a, ob3) :: (X.pn ++ pins))) SA g1 g3 q g2
      · exact ld_blt (X := X.suite a ((a, ob3) :: (X.pn ++ pins))) SA g1 g3 g4 q g5 g2
    refine tst (meets_.here (codeAny_handlers_suite_as (HandSPX.lands_againZ fly3 fun hB_ fly4 more4 => ?_)))
    have IB : Inv X pins σ' H' { s' with heap := hB_ } := I0E.landed keeps_ fly4.1 ((grow.trans more3).trans more4) osE bareE
    obtain ⟨ob4, fv4, at4, zc4, dt4⟩ := fly4.there
    refine store_ok (X := X.suite a ((a, ob4) :: (X.pn ++ pins))) (v := .ref a) (IB.suite at4 dt4 naa ne1 ne2) hN hi (.inl hln) rfl (fun sB SB => ?_) (.inr hln)
    refine wpAny_mono ((hsu a ob4 (.ref C) (some dd) (X.pn ++ pins) zc4 ⟨_, dt4⟩).run [] sB _ H' _ SB (wish a naa)) (fun f sC res => ?_) (fun _ _ z => False.elim z)
    cases f with
    | next =>
      obtain ⟨σ6, HC, SC, qC⟩ := res
      obtain ⟨p1, p2, p3, p4, p5⟩ := SC.pin (a, ob4) (List.mem_append_left _ List.mem_cons_self)
      have IC : Inv X pins σ6 HC sC := SC.unsuite ok
      have ID : Inv X pins σ6 (upd HC a (ErrO C dd a)) sC := track IC p2 newA ne1.symm (fun y c' e z => by
        obtain ⟨v, o, ho, hd⟩ := IC.cell y c' e
        rw [z, p1] at ho; cases ho; exact p5 _ hd) npA (errO_ok p1 zc4 dt4)
      exact gone_ok ID hN hi hln fun sE IE => ⟨_, _, IE, qC p2⟩
    | brk =>
      obtain ⟨_, _, _, qC⟩ := res
      exact qC.elim
    | cont =>
      obtain ⟨_, _, _, qC⟩ := res
      exact qC.elim
    | ret u =>
      obtain ⟨_, _, _, _, _, qC⟩ := res
      exact qC.elim
  · cases f with
    | next =>
      obtain ⟨σ', H', J', q⟩ := res
      exact wpAny_execs_nil ⟨σ', H', J'.ofTry ok, q⟩
    | brk => obtain ⟨σ', H', J', q⟩ := res; exact ⟨σ', H', J'.ofTry ok, q⟩
    | cont => obtain ⟨σ', H', J', q⟩ := res; exact ⟨σ', H', J'.ofTry ok, q⟩
    | ret u => obtain ⟨v, σ', H', J', r, q⟩ := res; exact ⟨v, σ', H', J'.ofTry ok, r, q⟩
/-- e.f, e a caught exception of an own class -/
def tErrF (K : PySem.W.Frag) (f : Str) (te : TE) : TE := fun σ H Q => te σ H fun x H1 => ∃ (a C d : Addr) (fs : List (Str × V)) (v : V), x = .ref a ∧ H1 a = some (ErrO C d a) ∧ XfC K C ∧ PySem.W.findIn K (.ref C) f = some none ∧ H1 d = some (.xd fs) ∧ fs.lookup f = some v ∧ Q v H1
theorem pe_errF {e : Expr} {te : TE} {pos : Pos} {f : Str} (he : PE X e te) (hb : attributeBase e f X.env (eval e X.env) = eval e X.env := by rfl) : PE X (.Attribute e f pos) (tErrF X.K f te) := by
  refine ⟨fun pp s σ H Q I h => attr_of hb (thn (he.run pp s σ H _ I h) fun u s1 hh => ?_)⟩
  obtain ⟨y, H1, I1, rxu, a, C, d, fs, v, rfl, ha, T, hno, hd, l, q⟩ := hh
  obtain rfl : u = Value.ref a := rxu
  obtain ⟨oe, fv, h1, hz, hfv⟩ := err_get I1 ha
  obtain ⟨mA, nsd, hr⟩ := (show ObjOk X.prog X.w H1 s1.heap d (.xd fs) from I1.hok d _ hd)
  obtain ⟨odd_, look_, lkd⟩ := lookIn_ns nsd
  obtain ⟨u2, atu, rvu⟩ := RelO.some_of (v := v) (o := mA f) (by rw [← l]; exact hr f)
  have J : PySem.W.InstAt s1.heap a oe C (some odd_) := ⟨h1, hz.1, by unfold PySem.W.notCls; rw [hfv] <;> rfl, by rw [hz.2]; exact look_⟩
  exact HandSPX.exc_get I1.kIn J T.ga T.gg T.exC (PySem.W.findObj_own T.hdC hno rfl (by rw [lkd, atu])) (handed_of rvu) ⟨v, H1, I1.tok _, rvu, q⟩
end
/-- a lambda's text -/
structure LamD where
  params : Arguments
  body : Expr
  scope : Scope
/-- the lambda at f: made in X -/
def LamO (X : Cx) (D : LamD) (f c' : Addr) : HO := .ext fun h => ∃ pm ctv : Value, h.get? f = some (PySem.W.kla_obj "<lambda>" (X.env.qual ++ "<lambda>") D.params D.body D.scope (cloFrom X.env.cells D.scope.names []) pm c' ctv)
/-- a known lambda and its code -/
def IsLam (X : Cx) (D : LamD) (f : Addr) (H : Hp) : Prop := ∃ c', H f = some (LamO X D f c') ∧ H c' = some (CodeO c' (X.env.qual ++ "<lambda>"))
theorem IsLam.ext {X : Cx} {D : LamD} {f : Addr} {H H' : Hp} (h : IsLam X D f H) (e : ExtN H H') : IsLam X D f H' := by
  obtain ⟨c', h1, h2⟩ := h
  exact ⟨c', e _ _ h1 (fun ps z => by unfold LamO at z; cases z), e _ _ h2 codeO_ne⟩
section
variable {X : Cx} {pins : List (Addr × Obj)} {σ : L2.St} {H : Hp} {s : Shared}
theorem lamO_ok {P : Program} {w : World} {H : Hp} {h : Heap} {D : LamD} {f c' : Addr} {pm ctv : Value} (e : h.get? f = some (PySem.W.kla_obj "<lambda>" (X.env.qual ++ "<lambda>") D.params D.body D.scope (cloFrom X.env.cells D.scope.names []) pm c' ctv)) : ObjOk P w H h f (LamO X D f c') :=
  ⟨⟨pm, ctv, e⟩, ⟨_, e⟩, fun _ _ ⟨a, b, e1⟩ k => ⟨a, b, k _ e1⟩⟩
/-- what the making asks: the maker's code object and table, the tables at hand -/
structure LamM (X : Cx) (T : List (Addr × Str)) (c P : Addr) : Prop where
  tb : TabB X.base X.mg c P
  code : X.env.code = .ref c
  mem : (P, X.env.qual ++ "<lambda>") ∈ T
  one : ∀ p ∈ T, p.1 = P → p.2 = X.env.qual ++ "<lambda>"
def tLamE (X : Cx) (T : List (Addr × Str)) (D : LamD) : TE := fun σ H Q => Tabs T H ∧ ∀ f H1, ExtN H H1 → Tabs T H1 → IsLam X D f H1 → H f = none → Q (.ref f) H1
theorem pe_lam {T : List (Addr × Str)} {c P : Addr} {params : Arguments} {body : Expr} {scope : Scope} {pos : Pos} (M : LamM X T c P) (L : LamS X.env.scope scope) (hdef : defaultsOf params X.env = ([], [])) : PE X (.Lambda params body scope pos) (tLamE X T ⟨params, body, scope⟩) := by
  refine ⟨fun pins s σ H Q I ⟨hT, q⟩ => ?_⟩
  obtain ⟨tbl, tblP, tri, all⟩ := hT _ M.mem
  have hP' : s.heap.get? P = some { cls := .none, data := .fields tbl } := I.hok P _ tblP
  have hcl := closure_ok (L.has I.ok)
  refine PySem.W.kla_eval hdef ?_
  cases hca : codeAmong pos tbl.toList with
  | some cv =>
    obtain ⟨c', rfl, hco⟩ := all pos cv hca
    refine PySem.W.kla_makeFunctionHit (mg := X.mg) (c := c) (P := P) (ps := tbl) hcl I.ok.glob (I.mod.glob.keeps I.bk) M.code (M.tb.code.keeps I.bk) hP' tri hca (M.tb.bm.keeps I.bk) fun ctv h' tk kept_ szle => ?_
    have I1 : Inv X pins σ H { s with heap := h', toks := tk } := I.kept kept_
    have nf : H h'.objs.size = none := I.hok.fresh szle
    have I2 := I1.laid (t' := tk) (o := LamO X ⟨params, body, scope⟩ h'.objs.size c') (h' := h'.push (PySem.W.kla_obj "<lambda>" (X.env.qual ++ "<lambda>") params body scope (cloFrom X.env.cells scope.names []) ((X.mg "__name__").getD .none) c' ctv)) (fun b o e => Heap.get?_push_of_some _ e) (Nat.le_refl _) (lamO_ok (D := ⟨params, body, scope⟩) (Heap.get?_push_size _ rfl))
    have e : ExtN H (upd H h'.objs.size (LamO X ⟨params, body, scope⟩ h'.objs.size c')) := fun b o z _ => by rw [upd_ne (ne_of_none z nf)]; exact z
    exact ⟨.ref h'.objs.size, _, I2, rfl, q _ _ e (hT.ext fun b o z => by rw [upd_ne (ne_of_none z nf)]; exact z) ⟨c', upd_same, e _ _ hco codeO_ne⟩ nf⟩
  | none =>
    refine PySem.W.kla_makeFunction (mg := X.mg) (c := c) (P := P) (ps := tbl) hcl I.ok.glob (I.mod.glob.keeps I.bk) M.code (M.tb.code.keeps I.bk) hP' tri hca M.tb.gP (M.tb.bm.keeps I.bk) fun c' ctv h' tk kept_ gec ltc rec_ htb => ?_
    obtain ⟨c2, oco, flds, t, ecode, hoc, dat, nmq⟩ := rec_
    cases ecode
    have szle : s.heap.objs.size ≤ h'.objs.size := Nat.le_trans gec (Nat.le_of_lt ltc)
    have nn : H c' = none := I.hok.fresh gec
    have I1 := inv_table (t' := tk) (more := #[rawInt pos.line, rawInt pos.col, .ref c']) (h' := h') I tblP (fun b o hb e => kept_ b o hb e) htb gec ⟨oco, flds, t, hoc, dat, nmq⟩
    have nP : h'.objs.size ≠ P := Nat.ne_of_gt (Nat.lt_of_lt_of_le (Heap.lt_size hP') szle)
    have nf0 : H h'.objs.size = none := I.hok.fresh szle
    have nf : upd (upd H P (.tbl (tbl ++ #[rawInt pos.line, rawInt pos.col, .ref c']))) c' (CodeO c' (X.env.qual ++ "<lambda>")) h'.objs.size = none := by rw [upd_ne (Nat.ne_of_gt ltc), upd_ne nP]; exact nf0
    have I2 := I1.laid (t' := tk) (o := LamO X ⟨params, body, scope⟩ h'.objs.size c') (h' := h'.push (PySem.W.kla_obj "<lambda>" (X.env.qual ++ "<lambda>") params body scope (cloFrom X.env.cells scope.names []) ((X.mg "__name__").getD .none) c' ctv)) (fun b o e => Heap.get?_push_of_some _ e) (Nat.le_refl _) (lamO_ok (D := ⟨params, body, scope⟩) (Heap.get?_push_size _ rfl))
    have e1 : ExtN H (upd (upd H P (.tbl (tbl ++ #[rawInt pos.line, rawInt pos.col, .ref c']))) c' (CodeO c' (X.env.qual ++ "<lambda>"))) := fun b o e n => by
      rw [upd_ne (ne_of_none e nn), upd_ne (fun z => n tbl (Option.some.inj (e.symm.trans (by rw [z]; exact tblP))))]
      exact e
    have T1 : Tabs T (upd (upd H P (.tbl (tbl ++ #[rawInt pos.line, rawInt pos.col, .ref c']))) c' (CodeO c' (X.env.qual ++ "<lambda>"))) := fun p hp => by
      have lst_ : (tbl ++ #[rawInt pos.line, rawInt pos.col, .ref c']).toList = tbl.toList ++ [rawInt pos.line, rawInt pos.col, .ref c'] := by simp
      by_cases hb : p.1 = P
      · rw [M.one p hp hb, hb]
        refine ⟨_, by rw [upd_ne (ne_of_none tblP nn), upd_same], by rw [lst_]; exact PySem.TriplesOk_snoc _ _ _ _ tri, fun p' cv hcv => ?_⟩
        rcases among_app _ tri (lst_ ▸ hcv) with z | z
        · obtain ⟨c0, a1, a2⟩ := all p' cv z
          exact ⟨c0, a1, e1 _ _ a2 codeO_ne⟩
        · exact ⟨c', z, upd_same⟩
      · obtain ⟨ps', a1, a2, a3⟩ := hT p hp
        refine ⟨ps', by rw [upd_ne (ne_of_none a1 nn), upd_ne hb]; exact a1, a2, fun p' cv hcv => ?_⟩
        obtain ⟨c0, b1, b2⟩ := a3 p' cv hcv
        exact ⟨c0, b1, e1 _ _ b2 codeO_ne⟩
    have keep : ∀ b o, upd (upd H P (.tbl (tbl ++ #[rawInt pos.line, rawInt pos.col, .ref c']))) c' (CodeO c' (X.env.qual ++ "<lambda>")) b = some o → upd (upd (upd H P (.tbl (tbl ++ #[rawInt pos.line, rawInt pos.col, .ref c']))) c' (CodeO c' (X.env.qual ++ "<lambda>"))) h'.objs.size (LamO X ⟨params, body, scope⟩ h'.objs.size c') b = some o := fun b o z => by
      rw [upd_ne (ne_of_none z nf)]; exact z
    exact ⟨.ref h'.objs.size, _, I2, rfl, q _ _ (e1.trans (ExtN.of keep)) (T1.ext keep) ⟨c', upd_same, keep _ _ upd_same⟩ nf0⟩
variable {HZ : Hp} {s1 : Shared}
/-- what the hearing makes of an error of the package, and of none -/
def HErr (K : PySem.W.Frag) (CS : Addr) (Q : VK) : XK := fun cls d H' => PySem.W.exmOne K cls (.ref CS) = some true ∧ ∃ (C dd : Addr), cls = .ref C ∧ d = some dd ∧
  ∀ a p, H' a = none → upd H' a (ErrO C dd a) p = none → Q (.ref p) (upd (upd H' a (ErrO C dd a)) p (.tup [.ref a, .non]))
def HBack (Q : VK) : VK := fun v H' => ∀ p, H' p = none → Q (.ref p) (upd H' p (.tup [.non, v]))
end
def isDict : PyData → Bool
  | .dict _ => true
  | _ => false
/-- data of a kind that can be shown, and compared -/
def okData (d : PyData) : Bool := d.leavesShort 13 && (decide (d.weight ≤ 2 ^ 20) && (d.showable && (decide (d.depth ≤ 8) && (d.canLay0 || isDict d))))
theorem okData.parts {d : PyData} (h : okData d = true) : d.leavesShort 13 = true ∧ d.weight ≤ 2 ^ 20 ∧ d.showable = true ∧ d.depth ≤ 8 ∧ (d.canLay0 = true ∨ isDict d = true) := by
  unfold okData at h
  simp only [Bool.and_eq_true, Bool.or_eq_true, decide_eq_true_eq] at h
  exact h
theorem okData.fits {d : PyData} (h : okData d = true) : d.shown.length ≤ sizeLine := PyData.shown_fits (B := 13) (by decide) (by decide) (okData.parts h).1 (okData.parts h).2.1
theorem okData.shaped {d : PyData} (h : okData d = true) : ∀ ds, d = .tuple ds → SeqAt.shaped d = true := fun ds e => by
  obtain ⟨_, _, _, h4, h5⟩ := okData.parts h
  subst e
  unfold SeqAt.shaped
  rw [Bool.and_eq_true, decide_eq_true_eq]
  exact ⟨h5.elim id (fun z => nomatch z), by omega⟩
mutual
theorem lay_noDict : ∀ d : PyData, d.canLay0 = true → d.hasDict = false
  | .none, _ => rfl
  | .bool _, _ => rfl
  | .int _, _ => rfl
  | .str _, _ => rfl
  | .list xs, h => by
    simp only [PyData.canLay0] at h
    simp only [PyData.hasDict]
    exact lay_noDictAll xs h
  | .tuple xs, h => by
    simp only [PyData.canLay0] at h
    simp only [PyData.hasDict]
    exact lay_noDictAll xs h
  | .dict _, h => by simp [PyData.canLay0] at h
theorem lay_noDictAll : ∀ ds : List PyData, PyData.canLayAll0 ds = true → PyData.hasDictAll ds = false
  | [], _ => rfl
  | d :: ds, h => by
    simp only [PyData.canLayAll0, Bool.and_eq_true] at h
    simp only [PyData.hasDictAll, lay_noDict d h.1, lay_noDictAll ds h.2, Bool.or_false]
end
section
variable {X : Cx} {pins : List (Addr × Obj)} {σ : L2.St} {H : Hp} {s : Shared}
theorem dk_reads (I : Inv X pins σ H s) {d : PyData} {v : V} {u : Value} (h : Dk X.K H v d) (r : RelV v u) : ∃ as, Reads s.heap u d as ∧ (d.hasDict = true → isDict d = true → sysModules ∉ as) := by
  cases h with
  | dp h =>
    obtain ⟨as, hr⟩ := Dp.reads I d v u h r
    refine ⟨as, hr, fun _ z => ?_⟩
    cases h <;> cases z
  | @d0 a h =>
    cases r
    obtain ⟨_, hsys, ws, rel, od, des, dep, ho, hex, hdat, _, hp, _⟩ := dk_of I.hok h
    cases rel
    have e : des = #[] := by
      cases des with | mk l => cases hp; rfl
    subst e
    refine ⟨_, Reads.dict (kvs := []) ho hex.1 hdat .nil .nil, fun _ _ hm => ?_⟩
    rcases List.mem_append.mp hm with hm | hm
    · rcases List.mem_cons.mp hm with rfl | hm
      · rw [beq_self_eq_true] at hsys; cases hsys
      · cases hm
    · cases hm
  | @d1 a h =>
    cases r
    obtain ⟨_, hsys, ws, rel, od, des, dep, ho, hex, hdat, _, hp, _⟩ := dk_of I.hok h
    cases rel with
    | @cons _ q _ _ h1 h2 =>
      cases h2
      obtain ⟨k, u⟩ := q
      obtain ⟨e1, e2⟩ := h1
      cases e1
      obtain ⟨t, rfl⟩ := e2
      cases des with
      | mk l =>
        cases hp with
        | @cons e _ es _ p1 p2 p3 =>
          cases p3
          obtain ⟨tk, ek⟩ := Value.isStrOf_shape (x := Str.ofString "a") (v := e.key) p1
          refine ⟨_, Reads.dict (kvs := [(.str "a", .int 1)]) ho hex.1 hdat (.cons (show Reads s.heap e.key (PyData.str "a") [] from by rw [ek]; exact .str _ _) .nil) (.cons (show Reads s.heap e.val (PyData.int 1) [] from by rw [p2]; exact .int _ _) .nil), fun _ _ hm => ?_⟩
          rcases List.mem_append.mp hm with hm | hm
          · rcases List.mem_cons.mp hm with rfl | hm
            · rw [beq_self_eq_true] at hsys; cases hsys
            · cases hm
          · cases hm
/-- repr(x), x data; nothing under way -/
def rRepr (K : PySem.W.Frag) : List V → Hp → VK → Prop := fun xs H Q => ∃ (v : V) (d : PyData), xs = [v] ∧ Dk K H v d ∧ okData d = true ∧ Q (.str d.shown) H
theorem call_repr (hg : X.A.guards = some []) (hu : X.A.units + 64 < cLine) : CallR X (.builtin "repr") (rRepr X.K) := by
  intro pins s σ H xs us Q I r h
  obtain ⟨v, d, rfl, hd, ho, q⟩ := h
  obtain ⟨u, rfl, rv⟩ := vals1 r
  obtain ⟨h1, h2, h3, h4, h5⟩ := okData.parts ho
  have fits := okData.fits ho
  obtain ⟨as, hr, hsys⟩ := dk_reads I hd rv
  have at_ref : ∀ a : Addr, u = .ref a → wpAny (model X.prog X.w) X.A (call (.builtin "repr") [u]) (EP X pins σ Q) X.xe s := fun a e => by
    subst e
    refine repr_of_reads' hr h3 (fun z => hsys z ?_) hg (by omega) (fun _ _ e => e) (fun h' w tk hk => ⟨.str d.shown, H, I.kept (t' := tk) hk, ⟨w, rfl⟩, q⟩) fits
    rcases h5 with c | c
    · rw [lay_noDict d c] at z; cases z
    · exact c
  cases hd with
  | d0 h => exact at_ref _ rv
  | d1 h => exact at_ref _ rv
  | dp hd =>
    cases hd with
    | lst _ _ => exact at_ref _ rv
    | tup _ _ => exact at_ref _ rv
    | non => cases rv; exact PySem.P.repr_of_none ⟨.str "None", H, I.tok _, ⟨_, rfl⟩, q⟩
    | bl b => cases rv; exact PySem.P.repr_of_bool ⟨.str (if b then "True" else "False"), H, I.tok _, ⟨_, by cases b <;> rfl⟩, by cases b <;> exact q⟩
    | int i =>
      obtain ⟨t, rfl⟩ := rv
      exact PySem.P.repr_of_int (by simpa [PyData.showable] using h3) ⟨.str (toString i), H, I.tok _, ⟨_, rfl⟩, q⟩
    | str x =>
      obtain ⟨t, rfl⟩ := rv
      exact PySem.P.repr_of_str ⟨.str (reprText x), H, I.tok _, ⟨_, rfl⟩, q⟩ fits
end
/-- as FnOk, of the rooms in which nothing guarded is under way -/
structure FnG (P : Program) (w : World) (K : PySem.W.Frag) (mg : Str → Option Value) (base : Heap) (k : Nat) (f : Addr) (fd : FuncData) (ps : List Str) (sp : Sp) : Prop where
  len : ∀ vs H Q E, sp vs H Q E → vs.length = ps.length
  run : ∀ (A : Around) (outer : List Env) (s : Shared) (H : Hp) (args : Args) (us : List Value) (vs : List V) (Q : VK), Room k A → A.guards = some [] → Env0 P w K mg base A outer s H → BindsTo s fd args (ps.zip us) → Vals vs us → sp vs H Q E0 →
    codeAny (model P w) A (.call (.ref f) args) (CR CX0 outer P w H s Q E0) s
section
variable {P : Program} {w : World} {K : PySem.W.Frag} {mg : Str → Option Value} {base : Heap}
theorem fnG_of {x qual : Str} {st : Stmt} {f : Addr} {fd : FuncData} {N ps : List Str} {k : Nat} {sp : Sp} (F : Fun K x qual st f fd) (S : FnScope N ps (defScope st)) (len : ∀ vs H Q E, sp vs H Q E → vs.length = ps.length)
    (hbody : ∀ (cdv : Value) (A : Around) (outer : List Env) (s : Shared) (H : Hp) (vs : List V) (Q : VK), Room k (A.deeper (envOfC qual (defScope st) s.heap.objs.size f cdv)) → (A.deeper (envOfC qual (defScope st) s.heap.objs.size f cdv)).guards = some [] → sp vs H Q E0 →
      ∃ t, PSs (cxOf CX0 P w K mg base N qual (defScope st) f cdv A outer s H E0).nox (defBody st) t ∧ t { nx := fun _ H' => Q .non H', rt := Q } (L2.start N vs) H) : FnG P w K mg base (k + 1) f fd ps sp := by
  obtain ⟨oc, od, kV, doc, pm, an, cdv, ct, osl, rfl, lk, hcd⟩ := F.ex
  refine ⟨len, fun A outer s H args us vs Q hr hg e0 hb r hsp => ?_⟩
  exact run_ofS lk hcd S hr e0 hb r (len _ _ _ _ hsp) fun hr' => by
    obtain ⟨t, h, q⟩ := hbody cdv A outer s H vs Q hr' hg hsp
    exact ⟨t, h.nox, q⟩
end
section
variable {X : Cx} {k : Nat} {f : Addr} {fd : FuncData} {ps : List Str} {sp : Sp} {x : Str} {p pos : Pos} {e : Expr} {es : List Expr} {t : TA}
theorem pe_callG (F : FnG X.prog X.w X.K X.mg X.base k f fd ps sp) (hr : Room k X.A) (gd : X.A.guards = some []) (hg : Gl X x) (hm : X.mg x = some (.ref f)) (hk : PySem.W.keepIn X.K (.ref f) = true) (hb : L2.Binds X.K fd ps [])
    (ha : PA X (e :: es) t) (hdb : (x == ("__debug__" : Str)) = false := by decide) (he : starEach (e :: es) X.env = (false, eval e X.env) :: starEach es X.env := by rfl) (hpl : (backTo pos (starEach es X.env)).any (·.1) = false := by rfl) :
    PE X (.Call (.Name x p) (e :: es) [] pos) (tCall sp [] E0 t) := by
  refine ⟨fun pins s σ H Q I h => wpAny_Call_Name_kw (ld_glob I hg hm ?_ hdb)⟩
  refine PySem.W.callWith_K (h₀ := X.base) I.ok.mod.kin hk (thn (ha.run pos pins s σ H _ I h) fun us s1 ⟨vs, H1, I1, r, q⟩ => ⟨I1.kIn, ?_⟩) he hpl
  have q' : sp vs H1 Q E0 := by
    have q0 : sp (vs ++ []) H1 Q E0 := q
    rw [List.append_nil] at q0
    exact q0
  have hl : us.length = ps.length := by rw [← r.length]; exact F.len _ _ _ _ q'
  have bt : BindsTo s1 fd ⟨us, []⟩ (ps.zip us) := by
    have z := hb s1 us I1.kIn (by rw [List.append_nil]; exact hl)
    rw [List.append_nil] at z
    exact z
  refine wpAny_call (codeAny_mono (F.run X.A X.stack s1 H1 ⟨us, []⟩ us vs Q hr gd I1.env0 bt r q') fun r s' hq => ?_)
  cases r with
  | error e => exact (show False from hq).elim
  | ok fl => cases fl with
    | ret u => exact I1.after hq
    | next => exact False.elim hq
    | brk => exact False.elim hq
    | cont => exact False.elim hq
end
/-- what stands in H', without what was a list in H -/
def nl (H H' : Hp) : Hp := fun b => match H b with
  | some (.lst _) => none
  | _ => H' b
theorem nl_not {H H' : Hp} {c : Addr} (h : ∀ xs, H c ≠ some (.lst xs)) : nl H H' c = H' c := by
  unfold nl
  split
  · exact absurd ‹_› (h _)
  · rfl
theorem nl_new {H H' : Hp} {c : Addr} (h : H c = none) : nl H H' c = H' c := nl_not fun xs z => by rw [h] at z; cases z
theorem nl_lst {H H' : Hp} {c : Addr} {xs : List V} (h : H c = some (.lst xs)) : nl H H' c = none := by
  unfold nl
  rw [h]
/-- what is found there was no list -/
theorem nl_out {H H' : Hp} {c : Addr} {o : HO} (h : nl H H' c = some o) : (∀ xs, H c ≠ some (.lst xs)) ∧ H' c = some o := by
  have a : ∀ xs, H c ≠ some (.lst xs) := fun xs z => by rw [nl_lst z] at h; cases h
  exact ⟨a, by rw [nl_not a] at h; exact h⟩
theorem nl_at {H H' : Hp} {p c : Addr} {o : HO} (g : Same (wo H p) (wo H' p)) (h : wo H' p c = some o) (no : ∀ xs, o ≠ .lst xs) : nl H H' c = some o := by
  have ne : c ≠ p := fun z => by rw [z, wo_same] at h; cases h
  rw [nl_not fun xs z => ?_]
  · exact wo_le _ _ h
  · have e := g _ _ (wo_at z ne)
    rw [h] at e
    exact no xs (Option.some.inj e)
theorem nl_wo {H H' : Hp} {p : Addr} (hp : ∃ xs, H p = some (.lst xs)) : Same (nl H H') (wo H' p) := fun b o e => by
  obtain ⟨xs, hp⟩ := hp
  obtain ⟨a, e⟩ := nl_out e
  exact wo_at e fun z => a xs (z ▸ hp)
theorem none_of {H H' : Hp} {c : Addr} (s : Same H H') (h : H' c = none) : H c = none := by
  cases e : H c with
  | none => rfl
  | some o =>
    have z := s _ _ e
    rw [h] at z
    cases z
theorem pot_lst {H : Hp} {p : Addr} {n : Nat} (h : Pot H p n) : ∃ xs, H p = some (.lst xs) := by
  obtain ⟨a, b, c, e, _⟩ := h
  exact ⟨_, e⟩
section
variable {P : Program} {w : World} {K : PySem.W.Frag} {mg : Str → Option Value} {base : Heap}
/-- all but the tables and the pot stay -/
def ExtP (p : Addr) (H H' : Hp) : Prop := ∀ b o, H b = some o → b ≠ p → (∀ ps, o ≠ .tbl ps) → H' b = some o
def CalG (P : Program) (w : World) (K : PySem.W.Frag) (mg : Str → Option Value) (base : Heap) (k : Nat) (x : Str) (ps : List Str) (sp : Sp) : Prop :=
  ∃ (f : Addr) (fd : FuncData), FnG P w K mg base k f fd ps sp ∧ PySem.W.keepIn K (.ref f) = true ∧ L2.Binds K fd ps [] ∧ mg x = some (.ref f)
theorem tabs_wo {T : List (Addr × Str)} {H H' : Hp} {p : Addr} (t : Tabs T H) (hp : ∃ xs, H p = some (.lst xs)) (s : Same (wo H p) (wo H' p)) : Tabs T H' := fun x hx => by
  obtain ⟨ps, h1, h2, h3⟩ := t x hx
  obtain ⟨xs, hl⟩ := hp
  refine ⟨ps, wo_le _ _ (s _ _ (wo_at h1 fun z => by rw [z, hl] at h1; cases h1)), h2, fun pos cv hc => ?_⟩
  obtain ⟨c, e1, e2⟩ := h3 pos cv hc
  exact ⟨c, e1, wo_le _ _ (s _ _ (wo_at e2 fun z => by rw [z, hl] at e2; unfold CodeO at e2; cases e2))⟩
end
/-- a def that may be called by its name -/
def Cal (P : Program) (w : World) (K : PySem.W.Frag) (mg : Str → Option Value) (base : Heap) (CX : CXT) (k : Nat) (x : Str) (ps : List Str) (sp : Sp) : Prop :=
  ∃ (f : Addr) (fd : FuncData), FnOk P w K mg base CX k f fd ps sp ∧ PySem.W.keepIn K (.ref f) = true ∧ L2.Binds K fd ps [] ∧ mg x = some (.ref f)
/-- what never raises passes -/
theorem passX {X : Cx} : Passes (L2.CX X.prog X.w) X E0 := fun _ _ _ _ _ _ _ ⟨_, _, _, _, _, _, _, _, _, _, _, _, h⟩ => h.elim
theorem okN.mono {k m k' m' : Nat} {d : PyData} (h : okN k m d) (hk : k ≤ k') (hm : m ≤ m') : okN k' m' d := ⟨h.1, Nat.le_trans h.2.1 hm, h.2.2.1, Nat.le_trans h.2.2.2.1 hk, h.2.2.2.2⟩
theorem okN.ok {k m : Nat} {d : PyData} (h : okN k m d) (hk : k ≤ 8) (hm : m ≤ 2 ^ 20) : okData d = true := by
  unfold okData
  simp only [Bool.and_eq_true, Bool.or_eq_true, decide_eq_true_eq]
  exact ⟨h.1, Nat.le_trans h.2.1 hm, h.2.2.1, Nat.le_trans h.2.2.2.1 hk, .inl h.2.2.2.2⟩
theorem okN.tup {k m : Nat} {ds : List PyData} (h : ∀ d ∈ ds, okN k m d) (hl : ds.length ≤ 8) : okN (k + 1) (8 * (m + 1)) (.tuple ds) := by
  obtain ⟨i1, i2, i3, i4, i5⟩ := okN.all h
  have : (m + 1) * ds.length ≤ (m + 1) * 8 := Nat.mul_le_mul_left _ hl
  refine ⟨by simpa [PyData.leavesShort] using i1, by simp only [PyData.weight]; omega, by simpa [PyData.showable] using i3, by simp only [PyData.depth]; omega, by simpa [PyData.canLay0] using i5⟩
theorem okN.lst {k m : Nat} {ds : List PyData} (h : ∀ d ∈ ds, okN k m d) (hl : ds.length ≤ 8) : okN (k + 1) (8 * (m + 1)) (.list ds) := by
  obtain ⟨i1, i2, i3, i4, i5⟩ := okN.all h
  have : (m + 1) * ds.length ≤ (m + 1) * 8 := Nat.mul_le_mul_left _ hl
  refine ⟨by simpa [PyData.leavesShort] using i1, by simp only [PyData.weight]; omega, by simpa [PyData.showable] using i3, by simp only [PyData.depth]; omega, by simpa [PyData.canLay0] using i5⟩
/-- texts that can be shown -/
def okS (n : Nat) (x : Str) : Prop := x.length ≤ n ∧ ∀ c ∈ x.cps.toList, c < 0x110000
theorem okS.ok {n : Nat} {x : Str} (h : okS n x) (hn : n ≤ 50) : okN 0 50 (.str x) := by
  refine ⟨?_, Nat.le_trans h.1 hn, rfl, Nat.le_refl 0, ?_⟩
  · simp only [PyData.leavesShort, List.all_eq_true, decide_eq_true_eq]
    exact fun c hc => Nat.lt_of_lt_of_le (h.2 c hc) (by decide)
  · simp only [PyData.canLay0, PyData.strOk]
    rw [← Array.all_toList, List.all_eq_true]
    exact fun c hc => decide_eq_true (h.2 c hc)
theorem catA_one {K : PySem.W.Frag} {H : Hp} {a b : Addr} {xs ys : List V} {Q : VK} (ha : SqT K H a xs) (hb : SqT K H b ys) (hl : xs.length + ys.length ≤ sizeLine) (q : ∀ c H', SqT K H' c (xs ++ ys) → Same H H' → Q (.ref c) H') : rCatA K (.ref a) (.ref b) H Q := by
  refine ⟨a, b, xs, ys, rfl, rfl, ha, hb, hl, fun e => ?_, fun _ e => ?_, fun _ _ p np => q p _ (SqT.of upd_same) (same_upd np)⟩
  · subst e
    exact q b H hb (Same.refl H)
  · subst e
    refine q a H ?_ (Same.refl H)
    rw [List.append_nil]
    exact ha
section
variable {P : Program} {w : World} {K : PySem.W.Frag} {mg : Str → Option Value} {base : Heap}
theorem sqL_extN {H H' : Hp} {c : Addr} {xs : List V} (h : SqL K H c xs) (e : ExtN H H') : SqL K H' c xs := by
  rcases h with (h | ⟨o, h⟩) | h
  · exact .inl (.inl (e _ _ h (fun ps z => by cases z)))
  · exact .inl (.inr ⟨o, e _ _ h (fun ps z => by cases z)⟩)
  · exact .inr h
theorem tabs_upd {T : List (Addr × Str)} {H : Hp} {D : Addr} {xs : List V} {o : HO} (t : Tabs T H) (hD : H D = some (.lst xs)) : Tabs T (upd H D o) := fun x hx => by
  obtain ⟨ps, h1, h2, h3⟩ := t x hx
  refine ⟨ps, by rw [upd_ne (fun z => by rw [z, hD] at h1; cases h1)]; exact h1, h2, fun pos cv hc => ?_⟩
  obtain ⟨c, e1, e2⟩ := h3 pos cv hc
  exact ⟨c, e1, by rw [upd_ne (fun z => by rw [z, hD] at e2; unfold CodeO at e2; cases e2)]; exact e2⟩
end
def lamsE : Expr → List LamD
  | .Lambda p b s _ => [⟨p, b, s⟩]
  | .Subscript o _ _ => lamsE o
  | .Call _ [e] _ _ => lamsE e
  | .List [e] _ => lamsE e
  | _ => []
/-- a callee's exception leaves the lambda -/
theorem passL {X : Cx} {A : Around} {outer : List Env} {s : Shared} {H : Hp} {E : XK} {scope : Scope} {f c' : Addr} : Passes (L2.CX X.prog X.w) (lamCx X A outer s H E scope f c') E :=
  passes_call (takes_of rfl rfl rfl rfl) fun _ _ _ _ h => h
section
variable {P : Program} {w : World} {K : PySem.W.Frag} {mg : Str → Option Value} {base : Heap}
theorem sqT_extN {H H' : Hp} {c : Addr} {xs : List V} (h : SqT K H c xs) (e : ExtN H H') : SqT K H' c xs := by
  rcases h with (h | ⟨o, h⟩) | h
  · exact .inl (.inl (e _ _ h (fun ps z => by cases z)))
  · exact .inl (.inr ⟨o, e _ _ h (fun ps z => by cases z)⟩)
  · exact .inr h
mutual
theorem dp_extN {H H' : Hp} (e : ExtN H H') : ∀ (d : PyData) (v : V), Dp K H v d → Dp K H' v d
  | .none, _, h => by cases h; exact .non
  | .bool _, _, h => by cases h; exact .bl _
  | .int _, _, h => by cases h; exact .int _
  | .str _, _, h => by cases h; exact .str _
  | .list ds, _, h => by
    cases h with
    | lst hs ha => exact .lst (sqL_extN hs e) (dpAll_extN e ds _ ha)
  | .tuple ds, _, h => by
    cases h with
    | tup hs ha => exact .tup (sqT_extN hs e) (dpAll_extN e ds _ ha)
  | .dict _, _, h => by cases h
theorem dpAll_extN {H H' : Hp} (e : ExtN H H') : ∀ (ds : List PyData) (vs : List V), DpAll K H vs ds → DpAll K H' vs ds
  | [], _, h => by cases h; exact .nil
  | d :: ds, _, h => by
    cases h with
    | cons h1 h2 => exact .cons (dp_extN e d _ h1) (dpAll_extN e ds _ h2)
end
theorem dk_extN {H H' : Hp} {v : V} {d : PyData} (h : Dk K H v d) (e : ExtN H H') : Dk K H' v d := by
  cases h with
  | dp h => exact .dp (dp_extN e _ _ h)
  | d0 h => exact .d0 (e _ _ h (fun ps z => by cases z))
  | d1 h => exact .d1 (e _ _ h (fun ps z => by cases z))
theorem none_ext {H H' : Hp} {c : Addr} (e : ExtN H H') (h : H' c = none) : ∀ o, H c = some o → ∃ ps, o = .tbl ps := fun o z => by
  cases o with
  | tbl ps => exact ⟨ps, rfl⟩
  | _ => exact absurd ((e _ _ z (fun ps y => by cases y)).symm.trans h) (fun y => nomatch y)
/-- what stood stays over a new list -/
theorem extN_upd {H H' : Hp} {c : Addr} {o : HO} (e : ExtN H H') (h : ∀ o, H c = some o → ∃ ps, o = .tbl ps) : ExtN H (upd H' c o) := fun b x z nt => by
  rw [upd_ne fun y => ?_]
  · exact e b x z nt
  · obtain ⟨ps, q⟩ := h x (y ▸ z)
    exact nt ps q
/-- a small value -/
def Atom (x : V) : Prop := (∃ i : Int, x = .int i ∧ -100000 ≤ i ∧ i ≤ 1000000) ∨ (∃ z : Str, x = .str z ∧ okS 20 z) ∨ ∃ b, x = .bl b
theorem Atom.data {H : Hp} {x : V} (h : Atom x) : ∃ d, Dp K H x d ∧ okN 0 50 d := by
  rcases h with ⟨i, rfl, h0, h1⟩ | ⟨z, rfl, hz⟩ | ⟨b, rfl⟩
  · exact ⟨_, .int i, okN.int h0 h1⟩
  · exact ⟨_, .str z, hz.ok (by omega)⟩
  · exact ⟨_, .bl b, rfl, by simp [PyData.weight], rfl, Nat.le_refl 0, rfl⟩
theorem atoms_data {H : Hp} : ∀ {xs : List V}, (∀ x ∈ xs, Atom x) → ∃ ds, DpAll K H xs ds ∧ (∀ d ∈ ds, okN 0 50 d) ∧ ds.length = xs.length
  | [], _ => ⟨[], .nil, fun d hd => (List.not_mem_nil hd).elim, rfl⟩
  | x :: xs, h => by
    obtain ⟨ds, h1, h2, h3⟩ := atoms_data (H := H) fun y hy => h y (List.mem_cons_of_mem _ hy)
    obtain ⟨d, g1, g2⟩ := (h x List.mem_cons_self).data (K := K) (H := H)
    exact ⟨d :: ds, .cons g1 h1, fun e he => (List.mem_cons.mp he).elim (fun z => z ▸ g2) (h2 e), by rw [List.length_cons, List.length_cons, h3]⟩
/-- data that may be shown -/
def Fit (K : PySem.W.Frag) (H : Hp) (x : V) : Prop := ∃ d, Dk K H x d ∧ okData d = true
theorem Fit.same {H H' : Hp} {x : V} (h : Fit K H x) (s : Same H H') : Fit K H' x := by
  obtain ⟨d, h1, h2⟩ := h
  exact ⟨d, Dk.same s h1, h2⟩
theorem Fit.tup {H : Hp} {c : Addr} {xs : List V} (h : SqT K H c xs) (ha : ∀ x ∈ xs, Atom x) (hl : xs.length ≤ 8) : Fit K H (.ref c) := by
  obtain ⟨ds, h1, h2, h3⟩ := atoms_data (K := K) (H := H) ha
  exact ⟨.tuple ds, .dp (.tup h h1), (okN.tup h2 (by omega)).ok (by omega) (by decide)⟩
theorem Fit.lst {H : Hp} {c : Addr} {xs : List V} (h : SqL K H c xs) (ha : ∀ x ∈ xs, Atom x) (hl : xs.length ≤ 8) : Fit K H (.ref c) := by
  obtain ⟨ds, h1, h2, h3⟩ := atoms_data (K := K) (H := H) ha
  exact ⟨.list ds, .dp (.lst h h1), (okN.lst h2 (by omega)).ok (by omega) (by decide)⟩
/-- a def whose code object is known -/
theorem fnG_code {x qual : Str} {st : Stmt} {f cc : Addr} {fd : FuncData} {N ps : List Str} {k : Nat} {sp : Sp} (F : Fun K x qual st f fd) (hcc : fd.code = .ref cc) (S : FnScope N ps (defScope st)) (len : ∀ vs H Q E, sp vs H Q E → vs.length = ps.length)
    (hbody : ∀ (A : Around) (outer : List Env) (s : Shared) (H : Hp) (vs : List V) (Q : VK), Room k (A.deeper (envOfC qual (defScope st) s.heap.objs.size f (.ref cc))) → (A.deeper (envOfC qual (defScope st) s.heap.objs.size f (.ref cc))).guards = some [] → sp vs H Q E0 →
      ∃ t, PSs (cxOf CX0 P w K mg base N qual (defScope st) f (.ref cc) A outer s H E0).nox (defBody st) t ∧ t { nx := fun _ H' => Q .non H', rt := Q } (L2.start N vs) H) : FnG P w K mg base (k + 1) f fd ps sp := by
  obtain ⟨oc, od, kV, doc, pm, an, cdv, ct, osl, rfl, lk, hcd⟩ := F.ex
  have e : cdv = .ref cc := hcc
  subst e
  refine ⟨len, fun A outer s H args us vs Q hr hg e0 hb r hsp => ?_⟩
  exact run_ofS lk hcd S hr e0 hb r (len _ _ _ _ hsp) fun hr' => by
    obtain ⟨t, h, q⟩ := hbody A outer s H vs Q hr' hg hsp
    exact ⟨t, h.nox, q⟩
end
theorem defFun {K : PySem.W.Frag} {x qual : Str} {st : Stmt} {f : Addr} {fd : FuncData} (F : FunD K x qual (defArgs st) (defBody st) (defScope st) [] [] f fd) : Fun K x qual st f fd := by
  obtain ⟨oc, od, dV, kV, doc, pm, an, cdv, ct, osl, h1, h2, h3, h4, _⟩ := F.ex
  rcases h4 with ⟨_, rfl⟩ | ⟨z, _⟩
  · exact ⟨⟨oc, od, kV, doc, pm, an, cdv, ct, osl, h1, h2, h3⟩, F.kp⟩
  · exact absurd rfl z
theorem oexB_ok {K : PySem.W.Frag} {C : Addr} (h : oexB K C = true) : ∃ nm q N bs bm sn sub ab col dd k0 k1 k2 k3 k5, K.lookup C = some (excClassObj nm q C N bs bm true sn sub ab col dd k0 k1 k2 k3 k5 "ValueError.__new__") ∧ PySem.HandSPX.refsVE bm = true := by
  unfold oexB at h
  split at h
  · rename_i c dd cd sl ho
    simp only [Bool.and_eq_true, decide_eq_true_eq] at h
    obtain ⟨rfl, h⟩ := h
    split at h
    · rename_i D bm k0 k1 k2 k3 n k5 hm hs
      simp only [Bool.and_eq_true, decide_eq_true_eq, Bool.not_eq_true'] at h
      obtain ⟨rfl, rfl, h3, h4, h5⟩ := h
      obtain ⟨nm, bs, mro, ns, qn, hd, sn, sub, ab, col, del⟩ := cd
      dsimp only at hm h3 h4
      subst hm h3 h4
      obtain ⟨l⟩ := sl
      dsimp only at hs
      subst hs
      exact ⟨nm, qn, ns, bs, bm, sn, sub, ab, col, dd, k0, k1, k2, k3, k5, ho, h5⟩
    · cases h
  · cases h
theorem errB_ok {K : PySem.W.Frag} {C fI CS : Addr} (h : errB K C fI CS = true) : ErrC K C fI ∧ XfC K C ∧ PySem.W.exmOne K (.ref C) (.ref CS) = some true := by
  unfold errB at h
  simp only [Bool.and_eq_true, decide_eq_true_eq] at h
  obtain ⟨h1, h2, h3, h4, h5, h6, h7, h8, h9⟩ := h
  have X := xfB_ok h8
  exact ⟨⟨⟨oexB_ok h1, h2, X.exC, h3, h4⟩, h5, h6, h7⟩, X, h9⟩
theorem FnG.lift {P : Program} {w : World} {K : PySem.W.Frag} {mg : Str → Option Value} {base : Heap} {j k : Nat} {f : Addr} {fd : FuncData} {ps : List Str} {sp : Sp} (F : FnG P w K mg base j f fd ps sp) (h : j ≤ k) : FnG P w K mg base k f fd ps sp :=
  ⟨F.len, fun A outer s H args us vs Q hr => F.run A outer s H args us vs Q (hr.mono h)⟩
end VG



set_option maxRecDepth 100000
set_option maxHeartbeats 8000000
/-! Rules of our own: enumerate of a tuple, keywords alone, count and index of texts, isinstance of a kept error. -/
namespace VG
open PySem PySem.Spec PyProof.Rows L2 LamX
/-! ### enumerate(t) -/
/-! ### f(k = v, ..), keywords alone -/
/-! ### xs.count(z), texts -/
end VG



set_option maxRecDepth 100000
set_option maxHeartbeats 8000000
/-! isinstance(e, C), e a caught and kept error of an own class, C that class or another one; t.index of flat things. -/
namespace VG
open PySem PySem.Spec PySem.Calls PyProof.Rows L2 LamX
/-- what an error's class tells, so that its instances answer isinstance -/
structure IsC (K : PySem.W.Frag) (D : Addr) : Prop where
  f : XfC K D
  a : PySem.W.findIn K (.ref D) "__class__" = some (some (.builtin "object.__class__"))
  g : PySem.W.specialIn K (.builtin "object.__class__") "__get__" = some (some (.builtin "getset_descriptor.__get__"))
  t : PySem.W.takesIn K (.builtin "object.__class__") = some true
  m : PySem.W.mroIn K D (.type "object") = some true
theorem isCB_ok {K : PySem.W.Frag} {D : Addr} (h : isCB K D = true) : IsC K D := by
  unfold isCB at h
  simp only [Bool.and_eq_true, decide_eq_true_eq] at h
  exact ⟨xfB_ok h.1, h.2.1, h.2.2.1, h.2.2.2.1, h.2.2.2.2⟩
section
variable {K : PySem.W.Frag} {D x : Addr} {ob : Obj} {od : Option Obj}
theorem IsC.cls (C : IsC K D) : ∃ cd, PySem.W.clsIn K D = some cd := by
  obtain ⟨cd, e, _⟩ := PySem.W.any_some C.f.hdC
  exact ⟨cd, e⟩
theorem IsC.bound (C : IsC K D) : PySem.W.findObj K D od "__class__" = some (.bind (.builtin "getset_descriptor.__get__") (.builtin "object.__class__")) := by
  obtain ⟨cd, e⟩ := C.cls
  unfold PySem.W.findObj
  simp only [e, C.a, C.g, C.t, Option.bind_some]
/-- e.__class__ -/
theorem IsC.ask {prog : Program} {w : World} {A : Around} {E : Value → Shared → Prop} {s : Shared} {Q : Option Value → Shared → Prop} (C : IsC K D) (kin : K.In s.heap) (J : PySem.W.InstAt s.heap x ob D od) (q : Q (some (.ref D)) { s with toks := s.toks + 1 }) :
    wpAny (model prog w) A (getAttr? (.ref x) "__class__") Q E s := by
  obtain ⟨hp, gs, dr, tk, os⟩ := s
  have ty := J.type (M := model prog w)
  have below : PySem.W.Looks (model prog w) hp (isInstance (.ref x) (.type "BaseException")) true := ty.andThen (PySem.W.looks_subIn kin C.f.exC)
  have far : (Value.builtin "BaseException.__getattribute__" == Value.builtin "object.__getattribute__") = false := by decide +kernel
  have far2 : (onTheHeap (Value.ref D) && Value.builtin "BaseException.__getattribute__" == Value.builtin "object.__getattribute__") = false := by rw [far]; rfl
  unfold getAttr? getAttrBy? getAttrBy
  refine wpAny_bind (wpAny_mkText (wpAny_bind (wpAny_attempt (wpAny_holding (wpAny_bind (ty.at (wpAny_bind ((PySem.W.looks_findIn (M := model prog w) kin C.f.ga).at ?_))))))))
  show wpAny _ _ (if (onTheHeap (Value.ref D) && Value.builtin "BaseException.__getattribute__" == Value.builtin "object.__getattribute__") = true then _ else _) _ _ _
  rw [far2, if_neg Bool.false_ne_true]
  unfold getAttrByItsOwn hookBefore
  refine wpAny_bind ?_
  rw [if_pos (show onTheHeap (Value.ref D) = true from rfl)]
  refine (PySem.W.looks_findIn (M := model prog w) kin C.f.gg).at (wpAny_bind (wpAny_attempt (wpAny_holding ?_)))
  unfold callGetattribute
  rw [show (false && onTheHeap (Value.builtin "BaseException.__getattribute__")) = false from rfl, if_neg Bool.false_ne_true]
  unfold boundAndCalled
  rw [PySem.F.excAttr_ValueError.ga.bind (.ref x)]
  refine wpAny_bind (wpAny_pure ?_)
  show wpAny _ _ (call (.builtin "BaseException.__getattribute__") [.ref x, .str "__class__" tk]) _ _ _
  refine wpAny_call (codeAny_call_builtin PySem.F.excAttr_ValueError.ga.plain PySem.F.entry_bexc_ga (@PySem.W.check_slot (model prog w) _ _ ⟨hp, gs, dr, tk + 1, os⟩ "BaseException.__getattribute__" "BaseException" "__getattribute__" (.ref x) [.str "__class__" tk] [] _ (by decide +kernel) (by decide +kernel) below (PySem.F.args_bexc_ga (.ref x) (.str "__class__" tk)) ?_))
  unfold Builtin.«object.__getattribute__»
  refine wpAny_bind (wpAny_of_eq (a := ((Value.ref x : Value), [Value.str "__class__" tk])) (by first | rfl | (simp only [slotArgs]; rfl)) (wpAny_bind (wpAny_pure (wpAny_bind (ty.at (wpAny_bind ((PySem.W.looks_find (M := model prog w) kin J C.bound).at ?_)))))))
  show wpAny _ _ (holding [Value.builtin "object.__class__"] (call (.builtin "getset_descriptor.__get__") [.builtin "object.__class__", .ref x, .ref D]) >>= ret) _ _ _
  refine wpAny_bind (wpAny_holding (wpAny_call (PySem.W.class_get (s := ⟨hp, gs, dr, tk + 1, os⟩) (ox := ob) (od := od) kin J C.m (wpAny_pure ?_))))
  show wpAny _ _ (handedOut (.ref D)) _ _ _
  rw [PySem.W.handedOut_of (v := .ref D) rfl]
  first
    | exact wpAny_pure (wpAny_pure q)
    | exact wpAny_pure q
    | exact wpAny_pure (wpAny_bind (wpAny_pure (wpAny_pure q)))
theorem IsC.kit (C : IsC K D) : PySem.W.KitX K (.ref x) (.ref D) (fun h => PySem.W.InstAt h x ob D od) where
  ty := fun _ _ _ J => J.type
  it := fun _ h kin _ => by
    obtain ⟨cd, e⟩ := C.cls
    unfold PySem.W.clsIn at e
    split at e
    · rename_i c1 d1 cd1 sl1 ho
      intro A' Q' E' s' k q
      unfold isType loadHead
      exact wpAny_bind (wpAny_loadPart (k _ _ (kin _ _ ho)) (wpAny_pure q))
    · cases e
  ne := fun h tp dd its n sl kin htp => by
    obtain ⟨cd, e⟩ := C.cls
    refine Bool.eq_false_iff.mpr fun z => ?_
    obtain rfl := Value.ref.inj (beq_iff_eq.mp z)
    unfold PySem.W.clsIn at e
    split at e
    · rename_i c1 d1 cd1 sl1 ho
      have y := (kin _ _ ho).symm.trans htp
      cases y
    · cases e
  ca := fun kin J k => C.ask kin J k
end
/-- isinstance(e, C) -/
def rIsErrB (K : PySem.W.Frag) : List V → Hp → VK → Prop := fun xs H Q => ∃ (a D C d : Addr) (fs : List (Str × V)) (b : Bool), xs = [.ref a, .ref C] ∧ H a = some (ErrO D d a) ∧ H d = some (.xd fs) ∧ IsC K D ∧ PySem.W.kitOne K (.ref D) (.ref C) = some b ∧ Q (.bl b) H
theorem call_isErrB {X : Cx} : CallR X (.builtin "isinstance") (rIsErrB X.K) := by
  intro pp s σ H xs vus Q I r h
  obtain ⟨a, D, C, d, fs, b, rfl, ha, hd, T, e, q⟩ := h
  obtain ⟨u1, u2, rfl, r1, r2⟩ := vals2 r
  cases r1; cases r2
  obtain ⟨oe, fv, h1, hz, hfv⟩ := err_get I ha
  obtain ⟨mA, nsd, hr⟩ := (show ObjOk X.prog X.w H s.heap d (.xd fs) from I.hok d _ hd)
  obtain ⟨odd_, look_, lkd⟩ := lookIn_ns nsd
  have J : PySem.W.InstAt s.heap a oe D (some odd_) := ⟨h1, hz.1, by unfold PySem.W.notCls; rw [hfv] <;> rfl, by rw [hz.2]; exact look_⟩
  exact PySem.W.kia_one T.kit I.kIn J e (fun z => nomatch z) fun tk => ⟨.bl b, H, I.kept (t' := tk) fun _ _ z => z, rfl, q⟩
end VG



set_option maxRecDepth 100000
set_option maxHeartbeats 8000000
/-! Rules of our own: enumerate of a text; d.update(e). -/
namespace VG
open PySem PySem.Spec PyProof.Rows L2 LamX
section
variable {X : Cx}
end
end VG



set_option maxRecDepth 100000
set_option maxHeartbeats 4000000
/-! enumerate(xs, start=k), walked. -/
namespace VG
open PySem PySem.Spec PyProof.Rows L2 LamX
section
variable {M : Model} {A : Around} {E : Value → Shared → Prop} {s : Shared} {env : Env}
theorem evalArgs_kwT {f : Value} {x : Sem Value} {rest : List (Bool × Sem Value)} {keywords : List (Option Str × Sem Value)} {Q : Args → Shared → Prop} (hall : keywords.all (·.1.isSome) = true)
    (h : wpAny M A (spliced ((false, x) :: rest)) (fun vs s₁ => wpAny M A (evalAll (keywords.map (·.2))) (fun kvs s₂ => Q ⟨vs, (keywords.filterMap (·.1)).zip kvs⟩ s₂) E s₁) E s) :
    wpAny M A (evalArgs f true ((false, x) :: rest) keywords) Q E s := evalArgs_kwB hall h
theorem callWith_typeK {pos : Pos} {T : String} {e : Expr} {rest : List Expr} {kws : List Keyword} {Q : Value → Shared → Prop}
    (h : wpAny M A (spliced (backTo pos (starEach (e :: rest) env))) (fun vs s₁ => wpAny M A (evalAll ((backToKw pos (keywordEach kws env)).map (·.2)))
      (fun kvs s₂ => wpAny M A (call (.type T) vs (((backToKw pos (keywordEach kws env)).filterMap (·.1)).zip kvs)) Q E s₂) E s₁) E s)
    (he : backTo pos (starEach (e :: rest) env) = (false, eval e env) :: backTo pos (starEach rest env))
    (hplain : ((backTo pos (starEach (e :: rest) env)).any (·.1) || (backToKw pos (keywordEach kws env)).any (·.1.isNone)) = false)
    (hall : (backToKw pos (keywordEach kws env)).all (·.1.isSome) = true) :
    wpAny M A (callWith pos (.type T) [] (backTo pos (starEach (e :: rest) env)) (backToKw pos (keywordEach kws env))) Q E s := by
  unfold callWith
  have h2 : wpAny M A (evalArgs (.type T) true (backTo pos (starEach (e :: rest) env)) (backToKw pos (keywordEach kws env))) (fun a s₁ => wpAny M A (call (.type T) ([] ++ a.pos) a.kw) Q E s₁) E s := by
    rw [he] at h ⊢
    exact evalArgs_kwT hall h
  refine wpAny_bind (wpAny_holding (wpAny_mono h2 (fun a s₁ h₁ => wpAny_bind (wpAny_standAt ?_)) fun _ _ x => x))
  simp only [hplain]
  refine wpAny_bind (wpAny_pure ?_)
  exact wpAny_bind (wpAny_mono h₁ (fun r s₂ hr => wpAny_bind (wpAny_holding (wpAny_point (wpAny_pure hr)))) fun _ _ x => x)
end
/-- the list at a as it stands at each turn, counted from k₀ on -/
def IteK (K : PySem.W.Frag) (a : Addr) (k₀ : Int) : It :=
  ⟨fun i H => ∃ (xs : List V) (x : V), SqL K H a xs ∧ xs[i]? = some x, fun i H v H' => ∃ T x, v = .ref T ∧ H T = none ∧ H' = upd H T (.tup [.int (k₀ + (i : Nat)), x]) ∧ ∀ xs, SqL K H a xs → xs[i]? = some x, fun i H => ∃ xs : List V, SqL K H a xs ∧ xs.length ≤ i⟩
theorem enum_not_list {h : Heap} {e it a : Addr} {c : Int} {old : Value} {its : Array Value} (he : IsEnum h e it c old) (ht : h.IsList a its) : e ≠ a := fun z => by
  obtain ⟨o, ho, hc, _⟩ := ht
  rw [← z] at ho
  have e2 := Option.some.inj (he.symm.trans ho)
  rw [← e2] at hc
  have hc' : ("enumerate" : String) = "list" := Value.type.inj hc
  exact absurd hc' (by decide)
theorem turn_enumK {P : Program} {w : World} {K : PySem.W.Frag} {elts : List Expr} {kk : Nat} {tpos : Pos} (a e it : Addr) (k₀ : Int) (hai : a ≠ it) :
    Turn P w K (.Tuple elts kk tpos) (IteK K a k₀) [e, it] e (fun i h => (∃ old, IsEnum h e it (k₀ + (i : Nat)) old) ∧ h.IsListIter it a i ∧ e ≠ it) where
  mem := by simp
  obj := fun i h st b hb => by
    obtain ⟨⟨old, he⟩, ⟨o, ho, hc, hd⟩, _⟩ := st
    rcases (show b = e ∨ b = it by simpa using hb) with rfl | rfl
    · exact ⟨_, he, fun v q => nomatch q⟩
    · exact ⟨o, ho, fun v q => by rw [hd] at q; cases q⟩
  keep := fun i h h' st k => let ⟨⟨old, he⟩, hi, hne⟩ := st; ⟨⟨old, k e (by simp) _ he⟩, hi.at fun o q => k it (by simp) o q, hne⟩
  item := by
    intro X hP hw hK hc i pins s σ H E I hf st hg
    subst hP hw hK
    obtain ⟨⟨old, he⟩, hit, hne⟩ := st
    obtain ⟨xs, x, hq, hx⟩ := hg
    obtain ⟨its, rv, p, hz⟩ := I.list hq
    obtain ⟨u, hu, ru⟩ := rv.get hx
    have hel : e < s.heap.objs.size := Heap.lt_size he
    have hil : it < s.heap.objs.size := by obtain ⟨_, q, _⟩ := hit; exact Heap.lt_size q
    have hea := enum_not_list he p.isList
    have hlt : i < its.toArray.size := by
      have := (List.getElem?_eq_some_iff.mp hu).1
      simpa using this
    refine wpAny_pyNext_enum_itemC (PySem.Draws.list (prog := X.prog) (w := X.w) (A := X.A.in1) (show X.A.in1.handled = none from I.ok.hd hc) it a hai its.toArray) he ⟨hit, p.isList⟩ hlt hne (by simp [hne, hea]) fun y h' tk hy ho st' hT hsz hk => ?_
    obtain rfl : u = y := by
      have hy' : its.toArray[i]? = some y := hy
      rw [List.getElem?_toArray, hu] at hy'
      exact Option.some.inj hy'
    refine ⟨_, rfl, wpAny_letOwnedTupleGo_enum (s := { s with heap := h', toks := tk + 1 }) ho fun h'' he' sb => ?_⟩
    have hT2 : h''.get? s.heap.objs.size = some { cls := .type "tuple", data := .seq #[.int (k₀ + (i : Nat)) tk, u] } := (sb.2 _ (Nat.ne_of_gt hel)).trans hT
    have fresh_ : ObjOk X.prog X.w (upd H s.heap.objs.size (.tup [.int (k₀ + (i : Nat)), x])) h'' s.heap.objs.size (.tup [.int (k₀ + (i : Nat)), x]) :=
      ⟨by show 2 ≤ sizeLine; decide, [.int (k₀ + (i : Nat)) tk, u], .cons ⟨_, rfl⟩ (.cons ru .nil), ⟨_, hT2, rfl, _, rfl⟩⟩
    have I1 : Inv X pins σ (upd H s.heap.objs.size (.tup [.int (k₀ + (i : Nat)), x])) { s with heap := h'', toks := tk + 1 } :=
      I.turnedNew (ch := [e, it]) (fun b o hb q => (sb.2 b (fun z => hb (by simp [z]))).trans (hk b o (fun z => hb (by simp [z])) (fun z => hb (by simp [z])) q)) hf (Nat.le_refl _) fresh_
    refine ⟨.ref s.heap.objs.size, _, I1, rfl, ⟨_, x, rfl, I.hok.fresh (Nat.le_refl _), rfl, fun ys hy => by rw [I.list_inj hy hq]; exact hx⟩, ⟨⟨u, ?_⟩, st'.1.at fun o q => (sb.2 it (Ne.symm hne)).trans q, hne⟩, fun b hb => ?_⟩
    · rw [show k₀ + ((i + 1 : Nat) : Int) = k₀ + (i : Nat) + 1 by omega]
      exact he'
    · have hb' : b < s.heap.objs.size := by
        rcases (show b = e ∨ b = it by simpa using hb) with rfl | rfl
        · exact hel
        · exact hil
      rw [upd_ne (Nat.ne_of_lt hb')]
      exact (hf b hb).1
  done := by
    intro X hP hw hK hc i pins s σ H E I hf st hg
    subst hP hw hK
    obtain ⟨⟨old, he⟩, hit, hne⟩ := st
    obtain ⟨xs, hq, hx⟩ := hg
    obtain ⟨its, rv, p, hz⟩ := I.list hq
    obtain ⟨f0, f1, f2, f3, f4, f5⟩ := hf it (by simp)
    have hl := rv.length
    have hnone : its.toArray[i]? = none := by simp; omega
    have hT : s.TypeIs (.ref e) "enumerate" := ⟨_, he, rfl⟩
    unfold pyNext
    refine wpAny_bind (wpAny_attempt (wpAny_callSpecial?_slot (name := Str.ofString "__next__") hT F.slot_enumerate_next (wpAny_call_entry F.slot_enumerate_next hT F.entry_enumerate_next ?_ (F.args_enumerate_next_1 _))))
    show wpAny _ _ (field (.ref e) 2 >>= _) _ _ _
    refine wpAny_bind (wpAny_field he rfl (x := .ref it) rfl ?_)
    refine wpAny_bind (PySem.wpAny_nextOf_list_end (I.ok.hd hc) hit p.isList hnone fun h' x eb hx' => ?_)
    obtain ⟨o, ho, hcl⟩ := hx'
    refine wpAny_bind (wpAny_isInstance (T := "StopIteration") (b := true) ⟨o, ho, hcl⟩ isSubtype_stop ?_)
    exact wpAny_pure ⟨rfl, I.turned (t' := s.toks) (fun b o hb q => eb b o hb q) f0 f1 f3 f4 f5⟩
  self := fun A i s Q E st h => let ⟨⟨_, he⟩, _⟩ := st; wpAny_pyIter_enum he h
def iEnumK (K : PySem.W.Frag) (ta tk : TA) : TI := fun σ H R => ta σ H fun vs H1 => ∃ a, vs = [.ref a] ∧ tk σ H1 fun zs H2 => ∃ k xs, zs = [.int k] ∧ SqL K H2 a xs ∧ -1000 ≤ k ∧ k ≤ 1000 ∧ R (IteK K a k) H2
theorem pi_enumK {X : Cx} {e : Expr} {ta tk : TA} {kws : List Keyword} {p pos tpos : Pos} {elts : List Expr} {kk : Nat} (hg : Gl X "enumerate") (hm : X.mg "enumerate" = none) (ha : PA X [e] ta) (hkw : PK X kws tk)
    (hs : backTo pos (starEach [e] X.env) = (false, eval e X.env) :: backTo pos (starEach [] X.env) := by rfl)
    (hpl : ((backTo pos (starEach [e] X.env)).any (·.1) || (backToKw pos (keywordEach kws X.env)).any (·.1.isNone)) = false := by rfl)
    (hall : (backToKw pos (keywordEach kws X.env)).all (·.1.isSome) = true := by rfl) (hks : (backToKw pos (keywordEach kws X.env)).filterMap (·.1) = [Str.ofString "start"] := by rfl) :
    PI X (.Tuple elts kk tpos) (.Call (.Name "enumerate" p) [e] kws pos) (iEnumK X.K ta tk) := by
  refine ⟨fun pins s σ H R I h => wpAny_Call_Name_kw (ld_blt I hg hm boot_enumerate (callWith_typeK (thn (ha.run pos pins s σ H _ I h) fun us s1 ⟨vs, H1, I1, r1, a, ex, q1⟩ => ?_) hs hpl hall))⟩
  subst ex
  cases r1 with
  | cons r rr =>
    cases rr
    cases r
    refine thn (hkw.run pos pins s1 σ H1 _ I1 q1) fun ws s2 ⟨zs, H2, I2, rz, k, xs, ez, hq, k0, k1, q⟩ => ?_
    subst ez
    rw [hks]
    cases rz with
    | cons rk rr =>
      cases rr
      obtain ⟨t, rfl⟩ := rk
      obtain ⟨its, rv, p', hz⟩ := I2.list hq
      have hla : a < s2.heap.objs.size := by obtain ⟨_, z, _⟩ := id p'.isList; exact Heap.lt_size z
      refine enum_begins_start (PySem.begins_list a its.toArray) p'.isList (by omega) (by omega) fun h' he hit hsz hk => wpAny_pyIter_enum he ?_
      have I3 : Inv X pins σ H2 { s2 with heap := h' } := I2.kept (t' := s2.toks) hk
      refine ⟨s2.heap.objs.size + 1, [s2.heap.objs.size + 1, s2.heap.objs.size], _, _, H2, rfl, I3, turn_enumK a (s2.heap.objs.size + 1) s2.heap.objs.size k (Nat.ne_of_lt hla), ⟨⟨.none, by rw [show k + ((0 : Nat) : Int) = k by omega]; exact he⟩, ⟨_, hit, rfl, rfl⟩, Nat.succ_ne_self _⟩, fun b hb => ?_, q⟩
      have hle : s2.heap.objs.size ≤ b := by
        rcases (show b = s2.heap.objs.size + 1 ∨ b = s2.heap.objs.size by simpa using hb) with rfl | rfl
        · exact Nat.le_add_right _ _
        · exact Nat.le_refl _
      exact I2.fpOk hle (I2.hok.fresh hle)
end VG



set_option maxRecDepth 100000
set_option maxHeartbeats 4000000
/-! A dict made by a comprehension over anything that yields n things. -/
namespace VG
open PySem PySem.Spec PyProof.Rows L2 LamX
theorem dc_any {J : It} {n : Nat} {g : TG} {tt : TT} {tk tv : TE} {vs : List Nat} {σ : L2.St} {H1 : Hp} {D : Addr} {Qd : Hp → Prop} (Pv : Nat → Hp → Prop) (h0 : Pv 0 (upd H1 D (.dK []))) (hgo : ∀ i H, i < n → Pv i H → J.go i H) (hst : ∀ H, Pv n H → J.stop n H)
    (hs : ∀ i x H H', i < n → Pv i H → J.yld i H x H' → g x (wipe σ vs) H' fun σ2 H2 => wipe σ2 vs = wipe σ vs ∧ tt σ2 H2 fun b H3 =>
      if b = true then tk σ2 H3 fun y H4 => tv σ2 H4 fun z H5 => ∃ kvs k, y = kV k ∧ H5 D = some (.dK kvs) ∧ kvs.length < sizeLine ∧ Pv (i + 1) (upd H5 D (.dK (putK kvs k z))) else Pv (i + 1) H3) (hd : ∀ H, Pv n H → Qd H) :
    ∃ W : Nat → Nat → Hp → Prop, (∃ m, W 0 m (upd H1 D (.dK []))) ∧ ∀ i m H, W i m H →
      (J.stop i H ∧ Qd H) ∨ (J.go i H ∧ ∃ Nx : Hp → Prop, (∀ H', Nx H' → ∃ m', m' < m ∧ W (i + 1) m' H') ∧ ∀ x H', J.yld i H x H' → g x (wipe σ vs) H' fun σ2 H2 => wipe σ2 vs = wipe σ vs ∧ tt σ2 H2 fun b H3 =>
        if b = true then tk σ2 H3 fun y H4 => tv σ2 H4 fun z H5 => ∃ kvs k, y = kV k ∧ H5 D = some (.dK kvs) ∧ kvs.length < sizeLine ∧ Nx (upd H5 D (.dK (putK kvs k z))) else Nx H3) := by
  refine ⟨fun i m H => i + m = n ∧ Pv i H, ⟨n, Nat.zero_add n, h0⟩, ?_⟩
  rintro i m H ⟨e, p⟩
  by_cases c : i < n
  · exact .inr ⟨hgo i H c p, Pv (i + 1), fun H' q => ⟨m - 1, by omega, by omega, q⟩, fun x H' y => hs i x H H' c p y⟩
  · obtain rfl : i = n := by omega
    exact .inl ⟨hst H p, hd H p⟩
/-! ### a value whose making leaves a token: what stands behind it may ask for one -/
section
variable {X : Cx} {a e o : Expr} {es : List Expr} {ta te to : TE} {tas : TA} {rest : List Stmt} {u : TS}
end
section
variable {X : Cx}
end
end VG



set_option maxRecDepth 100000
set_option maxHeartbeats 4000000
/-! Sets of whole numbers made of a tuple, ranges as values. -/
namespace VG
open PySem PySem.Spec PyProof.Rows L2 LamX
theorem sub_len {l : List Int} : ∀ {ns : List Int}, l.Nodup → (∀ x ∈ l, x ∈ ns) → l.length ≤ ns.length := by
  induction l with
  | nil => exact fun _ _ => Nat.zero_le _
  | cons a r ih =>
    intro ns nd h
    obtain ⟨h1, h2⟩ := List.nodup_cons.mp nd
    have ha := h a (List.mem_cons_self ..)
    have := ih (ns := ns.erase a) h2 fun x hx => (List.mem_erase_of_ne (by rintro rfl; exact h1 hx)).mpr (h x (List.mem_cons_of_mem _ hx))
    rw [List.length_erase_of_mem ha] at this
    have : 0 < ns.length := List.length_pos_of_mem ha
    rw [List.length_cons]
    omega
theorem set_count {l ns : List Int} (nd : l.Nodup) (h : ∀ k, k ∈ l ↔ k ∈ ns) : l.length ≤ ns.length ∧ (l.length < ns.length ↔ ¬ ns.Nodup) := by
  refine ⟨sub_len nd fun x hx => (h x).mp hx, fun hl hn => ?_, fun hn => ?_⟩
  · have := sub_len hn fun x hx => (h x).mpr hx
    omega
  · obtain ⟨a, ha⟩ : ∃ a, ¬ ns.count a ≤ 1 := Classical.byContradiction fun c => hn (List.nodup_iff_count.mpr fun a => Classical.byContradiction fun d => c ⟨a, d⟩)
    have h2 : a ∈ ns := List.count_pos_iff.mp (by omega)
    have h3 : 0 < (ns.erase a).count a := by rw [List.count_erase_self]; omega
    have := sub_len (l := l) (ns := ns.erase a) nd fun x hx => by
      by_cases e : x = a
      · rw [e]; exact List.count_pos_iff.mp h3
      · exact (List.mem_erase_of_ne e).mpr ((h x).mp hx)
    rw [List.length_erase_of_mem h2] at this
    have : 0 < ns.length := List.length_pos_of_mem h2
    omega
section
variable {X : Cx}
/-- len(s) of a set of ints -/
theorem call_lenSO : CallR X (.builtin "len") (fun xs H Q => ∃ (a : Addr) (S : Int → Bool) (n : Nat), xs = [.ref a] ∧ H a = some (SetO X.w a S n) ∧ Q (.int (n : Nat)) H) := by
  intro pins s σ H xs us Q I r h
  obtain ⟨a, S, n, rfl, ha, q⟩ := h
  obtain ⟨u, rfl, rx⟩ := vals1 r
  cases rx
  obtain ⟨o, es, ep, t, ho, hex, hd, hg, hnd, hm, hb, hf, hn, r1, r2⟩ := setO_get I ha
  have hsb : scanBound < 2 ^ 63 := by unfold scanBound; decide
  exact call_len_set ho hex hd hf (by omega) ⟨.int (n : Nat), H, I.tok _, ⟨_, by rw [hn]⟩, q⟩
end
end VG



set_option maxRecDepth 100000
set_option maxHeartbeats 4000000
/-! t[::-1] of a tuple: some of what stands in it. -/
namespace VG
open PySem PySem.Spec PyProof.Rows L2 HT LamX
section
variable {P : Program} {w : World} {A : Around} {E : Value → Shared → Prop} {s : Shared}
theorem tup_rev {t sl : Addr} {items : Array Value} {vs : Value} {Q : Value → Shared → Prop} (ht : IsTup s.heap t items) (hs : s.heap.IsSliceOf sl .none .none vs) (ps : IsPart vs (some (-1)))
    (h : Q (.ref s.heap.objs.size) { s with heap := s.heap.push { cls := .type "tuple", data := .seq ((List.range items.size).filterMap fun (k : Nat) => items[(((items.size : Int) - 1) + (k : Int) * (-1)).toNat]?).toArray } })
    (hsz : items.size ≤ sizeLine) : wpAny (model P w) A (getItem (.ref t) (.ref sl)) Q E s := by
  obtain ⟨os, hos, hcs, hds⟩ := id hs
  have T : s.TypeIs (.ref sl) "slice" := ⟨os, hos, hcs⟩
  have hz : sizeOk (.seq ((List.range items.size).filterMap fun (k : Nat) => items[(((items.size : Int) - 1) + (k : Int) * (-1)).toNat]?).toArray) := by
    show _ ≤ sizeLine
    rw [List.size_toArray]
    exact Nat.le_trans (List.length_filterMap_le _ _) (by rw [List.length_range]; exact hsz)
  unfold getItem
  try with_reducible refine wpAny_holding ?_
  first | refine wpAny_bind (wpAny_pure ?_) | skip
  refine wpAny_bind (wpAny_sequenceKey ht.typeIs (by decide) (wpAny_bind (wpAny_callSpecial?_slot (name := Str.ofString "__getitem__") ht.typeIs PyProof.Rows.slot_tuple_getitem (wpAny_call_entry PyProof.Rows.slot_tuple_getitem ht.typeIs PyProof.Rows.entry_tuple_getitem ?_ (PyProof.Rows.args_tuple_getitem _ _)))))
  show wpAny _ _ (Builtin.Tuple.tupleItemsOf (.ref t) >>= _) _ E s
  refine wpAny_bind (tupleItemsOf_ ht (wpAny_bind (wpAny_typeOf T ?_)))
  rw [if_pos (by decide)]
  refine wpAny_bind ?_
  unfold Builtin.Slice.sliceApplied; unfold Builtin.Slice.sliceFields
  refine wpAny_bind (wpAny_bind (wpAny_field hos hds (x := .none) rfl (wpAny_bind (wpAny_field hos hds (x := .none) rfl (wpAny_bind (wpAny_field hos hds (x := vs) rfl (wpAny_pure ?_)))))))
  refine wpAny_bind (slicePart_ ps ?_)
  show wpAny _ _ (if ((-1 : Int) == 0) = true then _ else _) _ E s
  rw [if_neg (by decide)]
  refine wpAny_bind (slicePart_ .none (wpAny_bind (slicePart_ .none (wpAny_bind (wpAny_pure ?_)))))
  show wpAny _ _ (match Builtin.Slice.sliceAdjust none none (-1) (items.size : Int) with | (lo, hi) => pure (lo, (-1 : Int), Builtin.Slice.slicePlaces lo hi (-1))) _ E s
  have ea : Builtin.Slice.sliceAdjust none none (-1) (items.size : Int) = ((items.size : Int) - 1, -1) := by
    unfold Builtin.Slice.sliceAdjust
    simp
  have ep : Builtin.Slice.slicePlaces ((items.size : Int) - 1) (-1) (-1) = items.size := by
    unfold Builtin.Slice.slicePlaces
    simp
    omega
  rw [ea]
  dsimp only
  rw [ep]
  refine wpAny_pure ?_
  dsimp only
  rw [if_neg (by simp)]
  first
    | exact wpAny_bind (m := Builtin.Tuple.tupleExact _) (wpAny_newObj_type (wpAny_pure ⟨_, rfl, wpAny_pure h⟩) hz)
    | exact wpAny_bind (m := Builtin.Tuple.tupleExact _) (wpAny_newObj_type (wpAny_bind (wpAny_pure (wpAny_pure ⟨_, rfl, wpAny_pure h⟩))) hz)
    | exact wpAny_bind (wpAny_bind (m := Builtin.Tuple.tupleExact _) (wpAny_newObj_type (wpAny_pure (wpAny_pure ⟨_, rfl, wpAny_pure h⟩)) hz))
    | exact wpAny_bind (wpAny_bind (m := Builtin.Tuple.tupleExact _) (wpAny_newObj_type (wpAny_pure ⟨_, rfl, wpAny_pure h⟩) hz))
end
section
variable {X : Cx}
end
end VG



set_option maxRecDepth 100000
set_option maxHeartbeats 2000000
/-! zip of a tuple and a list, walked. -/
namespace VG
open PySem PySem.Spec PyProof.Rows L2 RZ
section
variable {P : Program} {w : World} {A : Around} {E : Value → Shared → Prop} {s : Shared} {la lb ja jb : Addr} {xs ys : Array Value} {zp pI pO : Addr}
/-- an iterator at j: its n-th state, kept while what it stands on is kept; its items -/
structure Steps (P : Program) (w : World) (j : Addr) (own : List Addr) (J : Nat → Heap → Prop) (xs : Array Value) : Prop where
  keep : ∀ {n : Nat} {h h' : Heap}, J n h → (∀ c ∈ own, ∀ o, h.get? c = some o → h'.get? c = some o) → J n h'
  item : ∀ {A : Around} {E : Value → Shared → Prop} {s : Shared} {n : Nat} {x : Value} {Q : Value → Shared → Prop}, J n s.heap → xs[n]? = some x → (∀ h', J (n + 1) h' → Heap.SameBut j s.heap h' → Q x { s with heap := h' }) →
    wpAny (model P w) A (Builtin.SmallTypes.nextOf (.ref j)) Q E s
  stop : ∀ {A : Around} {E : Value → Shared → Prop} {s : Shared} {n : Nat} {Q : Value → Shared → Prop}, A.handled = none → J n s.heap → xs[n]? = none →
    (∀ h' e, Heap.ExtBut j s.heap h' → (∃ o, h'.get? e = some o ∧ o.cls = .type "StopIteration") → E (.ref e) { s with heap := h' }) → wpAny (model P w) A (Builtin.SmallTypes.nextOf (.ref j)) Q E s
variable {oa ob : List Addr} {J1 J2 : Nat → Heap → Prop} {n : Nat} {a b x y : Value}
end
end VG



set_option maxRecDepth 100000
set_option maxHeartbeats 4000000
/-! a dict is not a text; a value is told from a text. -/
namespace PySem.SeqAt
open AutoSeq1 (wpAny_loadPart')
open MeetsSeq
section
end
end PySem.SeqAt
namespace PySem.SeqAt
open AutoSeq1 (wpAny_loadPart')
open MeetsSeq
section
variable {A : Around} {s : Shared}
end
end PySem.SeqAt
namespace VG
open PySem PySem.Spec PyProof.Rows L2 LamX
/-- data, or a tuple of texts with one thing of any kind among them -/
inductive Dq (K : PySem.W.Frag) (H : Hp) : V → PyData → Prop
  | dk {v : V} {d : PyData} : Dk K H v d → okData d = true → Dq K H v d
  | one {a : Addr} {A B : List Str} {v : V} {d : PyData} : SqT K H a (A.map V.str ++ v :: B.map V.str) → Dk K H v d → okData d = true → (∀ z ∈ A ++ B, SeqAt.shaped (.str z) = true) → Dq K H (.ref a) (.tuple (A.map .str ++ d :: B.map .str))
theorem Dq.same {K : PySem.W.Frag} {H H' : Hp} (e : Same H H') {d : PyData} {v : V} (h : Dq K H v d) : Dq K H' v d := by
  cases h with
  | dk h o => exact .dk (Dk.same e h) o
  | one h1 h2 o c => exact .one (Same.seqT e h1) (Dk.same e h2) o c
end VG



set_option maxRecDepth 100000
set_option maxHeartbeats 8000000
/-! Lambdas that are handed from def to def: what calling one does, where its cells live. -/
namespace VG
open PySem PySem.Spec PyProof.Rows L2 LamX
/-- these cells stand in the heap, untracked, no frames -/
def Live (Γ : Addr → Option Obj) (h : Heap) (H : Hp) (fs : List Addr) : Prop := ∀ c o, Γ c = some o → h.get? c = some o ∧ H c = none ∧ c ∉ fs
/-- what Γ tells of the cells of X -/
structure Cap (X : Cx) (σ : L2.St) (Γ : Addr → Option Obj) : Prop where
  val : ∀ (i : Nat) (y : Str) (v : V), X.N[i]? = some y → σ[i]? = some (some v) → (X.env.scope.names.lookup y = some .cell ∨ X.env.scope.names.lookup y = some .free) → ∃ c o u, X.env.cells.lookup y = some c ∧ Γ c = some o ∧ o.data = .cell (some u) ∧ RelV v u
  all : ∀ y c, X.env.cells.lookup y = some c → ∃ o v, Γ c = some o ∧ o.data = .cell v
  inj : ∀ x y c, X.env.cells.lookup x = some c → X.env.cells.lookup y = some c → x = y
  has : ∀ x, (X.env.scope.names.lookup x = some .cell ∨ X.env.scope.names.lookup x = some .free) → ∃ c, X.env.cells.lookup x = some c
  len : σ.length = X.N.length
section
variable {X : Cx} {pins : List (Addr × Obj)} {σ : L2.St} {H : Hp} {s : Shared} {Γ : Addr → Option Obj}
theorem live_inv (I : Inv X pins σ H s) (hx : X.ex = []) (h : Live Γ X.s_0.heap X.H_0 X.fs) : Live Γ s.heap H (frs X.stack) := fun c o e => by
  obtain ⟨h1, h2, h3⟩ := h c o e
  have nx : c ∉ X.ex := by rw [hx]; simp
  refine ⟨I.base.keep c o h1 h2 h3 nx, I.base.free c o h1 h2 nx, fun hb => ?_⟩
  rcases List.mem_cons.mp (I.stkSub c hb) with z | z
  · exact absurd (Nat.lt_of_lt_of_le (Heap.lt_size h1) I.ok.above) (by rw [z]; exact Nat.lt_irrefl _)
  · exact h3 z
/-- the cells of X, as they stand -/
def cellsAt (X : Cx) (h : Heap) (c : Addr) : Option Obj := if (X.env.cells.any fun p => decide (p.2 = c) && decide (X.env.cells.lookup p.1 = some c)) = true then h.get? c else none
theorem cellsAt_of {y : Str} {c : Addr} {h : Heap} (e : X.env.cells.lookup y = some c) : cellsAt X h c = h.get? c := by
  unfold cellsAt
  rw [if_pos]
  refine List.any_eq_true.mpr ⟨(y, c), PySem.mem_of_lookup e, ?_⟩
  simp [e]
theorem cellsAt_is {c : Addr} {h : Heap} {o : Obj} (e : cellsAt X h c = some o) : (∃ y, X.env.cells.lookup y = some c) ∧ h.get? c = some o := by
  unfold cellsAt at e
  split at e
  · rename_i q
    obtain ⟨p, _, hp⟩ := List.any_eq_true.mp q
    simp only [Bool.and_eq_true, decide_eq_true_eq] at hp
    exact ⟨⟨p.1, hp.2⟩, e⟩
  · cases e
theorem cap_of (I : Inv X pins σ H s) : Cap X σ (cellsAt X s.heap) := by
  refine ⟨fun i y v e1 e2 e3 => ?_, fun y c e => ?_, I.ok.inj, I.ok.has, I.len⟩
  · obtain ⟨m, hn, hl⟩ := I.loc
    have hv : Vis X.env.scope y := e3.elim (fun z => .inr (.inl z)) fun z => .inr (.inr z)
    obtain ⟨u, r, q⟩ := hl i y v e1 e2 hv
    rcases q with ⟨k, _⟩ | ⟨_, c, e, o, ho, hd⟩
    · have k : X.env.scope.names.lookup y = some .local := k
      rcases e3 with z | z <;> rw [z] at k <;> cases k
    · exact ⟨c, o, u, e, by rw [cellsAt_of e]; exact ho, hd, r⟩
  · obtain ⟨v, o, ho, hd⟩ := I.cell y c e
    exact ⟨o, v, by rw [cellsAt_of e]; exact ho, hd⟩
theorem live_of (I : Inv X pins σ H s) (hf : X.fn = fun _ => true) : Live (cellsAt X s.heap) s.heap H (frs X.stack) := fun c o e => by
  obtain ⟨⟨y, hy⟩, ho⟩ := cellsAt_is e
  refine ⟨ho, I.freeC y c hy, fun hb => ?_⟩
  rcases List.mem_cons.mp (I.stkSub c hb) with z | z
  · exact I.cne y c hy z
  · obtain ⟨_, o2, h2, _⟩ := I.ok.funs.mem z
    exact absurd (Nat.lt_of_lt_of_le (Heap.lt_size h2) (I.ok.cab y c (by rw [hf]) hy)) (Nat.lt_irrefl _)
end
section
variable {X : Cx} {σ : L2.St} {HZ : Hp} {sZ : Shared} {Γ : Addr → Option Obj}
/-- a lambda's cells, where X's cells are known and live -/
theorem clo_in {sc : Scope} {y : Str} {c : Addr} (C : Cap X σ Γ) (L : LamS X.env.scope sc) (e : (cloFrom X.env.cells sc.names []).lookup y = some c) : X.env.cells.lookup y = some c := by
  rcases cloFrom_mem (PySem.mem_of_lookup e) with hm | ⟨h1, h2⟩
  · cases hm
  · obtain ⟨c1, hc⟩ := C.has y (L.free _ h1 rfl)
    have e2 : c = c1 := by
      rw [h2, hc] <;> rfl
    rw [e2, hc]
theorem clo_has {sc : Scope} {y : Str} (hl : sc.names.lookup y = some .free) : ∃ c, (cloFrom X.env.cells sc.names []).lookup y = some c :=
  mem_lookup (cloFrom_has (cells := X.env.cells) (acc := []) (PySem.mem_of_lookup hl))
theorem thk_inv {A : Around} {outer : List Env} {E : XK} {sc : Scope} {f c' : Addr} {hN : Heap} {tk : Nat} (C : Cap X σ Γ) (L : LamS X.env.scope sc) (e0 : Env0 X.prog X.w X.K X.mg X.base A outer sZ HZ) (hd : A.handled = none) (lv : Live Γ sZ.heap HZ (frs outer))
    (ns : hN.Ns sZ.heap.objs.size fun y => ([] : List (Str × Value)).reverse.lookup y) (kp : ∀ b o, sZ.heap.get? b = some o → hN.get? b = some o) : Inv (lamCx X A outer sZ HZ E sc f c') [] σ HZ { sZ with heap := hN, toks := tk } where
  ok := {
    mod := e0.mod
    kind := L.kind
    glob := rfl
    blt := rfl
    above := Nat.le_refl _
    inj := fun y z c a b => C.inj y z c (clo_in C L a) (clo_in C L b)
    has := fun y hy => by
      have hy : sc.names.lookup y = some .cell ∨ sc.names.lookup y = some .free := hy
      rcases hy with q | q
      · exact absurd rfl (L.own _ (PySem.mem_of_lookup q)).2
      · exact clo_has q
    cab := fun y c q _ => absurd (show false = true from q) (by simp)
    hd := fun _ => hd
    frames := Around.frames_deeper e0.frames
    stk := .inr ⟨rfl, rfl⟩
    exf := fun b q => absurd (show b ∈ ([] : List Addr) from q) (by simp)
    bs := e0.bs
    bsz := e0.bsz
    noex := fun b _ _ q => absurd (show b ∈ ([] : List Addr) from q) (by simp)
    exfs := fun b q => absurd (show b ∈ ([] : List Addr) from q) (by simp)
    funs := e0.funs
    frf := e0.frf }
  os := rfl
  bare := e0.bare
  base := Un.kept kp
  loc := ⟨_, ns, fun i y v a b q => by
    have q : Vis sc y := q
    rcases q with q | q | q
    · exact absurd rfl (L.own _ (PySem.mem_of_lookup q)).1
    · exact absurd rfl (L.own _ (PySem.mem_of_lookup q)).2
    · obtain ⟨c, o, u, h1, h2, h3, h4⟩ := C.val i y v a b (L.free _ (PySem.mem_of_lookup q) rfl)
      obtain ⟨d, hd2⟩ := clo_has (X := X) q
      have e2 := clo_in C L hd2
      rw [h1] at e2
      cases e2
      exact ⟨u, h4, .inr ⟨.inr q, c, hd2, o, kp _ _ (lv c o h2).1, h3⟩⟩⟩
  cell := fun y c e => by
    obtain ⟨o, v, h1, h2⟩ := C.all y c (clo_in C L e)
    exact ⟨v, o, kp _ _ (lv c o h1).1, h2⟩
  free := e0.hok.fresh (Nat.le_refl _)
  freeC := fun y c e => by
    obtain ⟨o, v, h1, _⟩ := C.all y c (clo_in C L e)
    exact (lv c o h1).2.1
  pin := fun q hq => absurd (show q ∈ ([] : List (Addr × Obj)) ++ [] from hq) (by simp)
  hok := e0.hok.kept kp
  len := C.len
end
/-- a thing that can be called without arguments: what it does at H, and at all that H grows to -/
def Thk (P : Program) (w : World) (K : PySem.W.Frag) (mg : Str → Option Value) (base : Heap) (Γ : Addr → Option Obj) (k : Nat) (f : Addr) (H : Hp) (tb : XK → Hp → VK → Prop) : Prop :=
  (∀ (H' : Hp) (h : Heap), ExtN H H' → HOk P w H' h → PySem.W.FnAt f h) ∧
  ∀ (A : Around) (outer : List Env) (s : Shared) (H' : Hp) (E : XK) (Q : VK), ExtN H H' → Room (k + 1) A → Env0 P w K mg base A outer s H' → Live Γ s.heap H' (frs outer) → tb E H' Q →
    codeAny (model P w) A (.call (.ref f) ⟨[], []⟩) (CR (L2.CX P w) outer P w H' s Q E) s
theorem Thk.ext {P : Program} {w : World} {K : PySem.W.Frag} {mg : Str → Option Value} {base : Heap} {Γ : Addr → Option Obj} {k : Nat} {f : Addr} {H H1 : Hp} {tb : XK → Hp → VK → Prop} (T : Thk P w K mg base Γ k f H tb) (e : ExtN H H1) : Thk P w K mg base Γ k f H1 tb :=
  ⟨fun H' h e1 ok => T.1 H' h (e.trans e1) ok, fun A outer s H' E Q e1 => T.2 A outer s H' E Q (e.trans e1)⟩
theorem Thk.imp {P : Program} {w : World} {K : PySem.W.Frag} {mg : Str → Option Value} {base : Heap} {Γ : Addr → Option Obj} {k : Nat} {f : Addr} {H : Hp} {tb tb' : XK → Hp → VK → Prop} (T : Thk P w K mg base Γ k f H tb) (h : ∀ E H' Q, ExtN H H' → tb' E H' Q → tb E H' Q) : Thk P w K mg base Γ k f H tb' :=
  ⟨T.1, fun A outer s H' E Q e hr e0 lv q => T.2 A outer s H' E Q e hr e0 lv (h E H' Q e q)⟩
section
variable {X : Cx} {pins : List (Addr × Obj)} {σ : L2.St} {H : Hp} {s : Shared} {Γ : Addr → Option Obj}
/-- a lambda that was made in X is such a thing -/
theorem thk_of {D : LamD} {f : Addr} {k : Nat} {tb : XK → TE} (hl : IsLam X D f H) (C : Cap X σ Γ) (L : LamS X.env.scope D.scope)
    (hbind : ∀ (pm cv ctv : Value), bindArgs (PySem.W.kla_fn "<lambda>" (X.env.qual ++ "<lambda>") D.params D.body D.scope (cloFrom X.env.cells D.scope.names []) pm cv ctv) ⟨[], []⟩ = pure [])
    (hbody : ∀ (A : Around) (outer : List Env) (s : Shared) (H : Hp) (E : XK) (c' : Addr), Room k (A.deeper (lamEnv X D.scope s.heap.objs.size f c')) → PE (lamCx X A outer s H E D.scope f c') D.body (tb E)) :
    Thk X.prog X.w X.K X.mg X.base Γ k f H (fun E => tb E σ) := by
  obtain ⟨c', hf, hc⟩ := hl
  have nt : ∀ {φ : Heap → Prop} (ps : Array Value), HO.ext φ ≠ .tbl ps := fun ps z => by cases z
  refine ⟨fun H' h e ok => ?_, fun A outer s H' E Q e hr e0 lv q => ?_⟩
  · obtain ⟨⟨pm, ctv, at_⟩, _, _⟩ := ok f _ (e _ _ hf nt)
    exact ⟨_, _, _, _, at_⟩
  · obtain ⟨⟨pm, ctv, at_⟩, _, _⟩ := e0.hok f _ (e _ _ hf nt)
    obtain ⟨⟨oc, fl, t, h1, h2, h3⟩, _, _⟩ := e0.hok c' _ (e _ _ hc nt)
    have lim : s.heap.NoLimit := e0.mod.nolimit.keeps fun b o z => (e0.bs b o z).1
    refine PySem.W.kla_callFunE hr.depth at_ rfl L.co L.gen rfl ⟨c', oc, fl, t, rfl, h1, h2, h3⟩ ?_
    rw [hbind]
    refine wpAny_pure (wpAny_newFunctionEnv (fun y hy => (L.own y hy).2) (fun y hy => absurd hy (by simp)) (fun hN ns sb => ⟨lim.fresh _ sb, ?_⟩) L.kind)
    show codeAny _ _ (.expr D.body (lamEnv X D.scope s.heap.objs.size f c')) _ _
    have J := thk_inv (E := E) (f := f) (c' := c') (tk := s.toks + ([] : List (Str × Value)).length) C L e0 hr.hd lv ns fun b o z => sb.extBut b o (Nat.ne_of_lt (Heap.lt_size z)) (Heap.get?_push_of_some _ z)
    refine PySem.W.kla_codeExpr (wpAny_mono ((hbody A outer s H' E c' (hr.deeper _)).run [] _ _ H' Q J q) (fun v s' z => ?_) fun _ _ z => z)
    obtain ⟨x, H2, J2, rv, q2⟩ := z
    exact ⟨x, H2, J2.os, J2.bare, J2.base, J2.hok, rv, q2⟩
/-- x(), such a thing in slot i -/
theorem pe_actC {k i : Nat} {a : Str} {W : WX} {pp1 pp2 : Pos} (tk : Takes X W) (hex : X.ex = []) (lv : Live Γ X.s_0.heap X.H_0 X.fs) (hr : Room (k + 1) X.A) (hN : X.N[i]? = some a) (hv : Vis X.env.scope a)
    (dbg : (a == ("__debug__" : Str)) = false := by decide) (cdc : (a == ("__classdict__" : Str)) = false := by decide) :
    PE X (.Call (.Name a pp1) [] [] pp2) (fun σZ HZ Q => ∃ f tb, σZ[i]? = some (some (.ref f)) ∧ Thk X.prog X.w X.K X.mg X.base Γ k f HZ tb ∧ tb (fun cls d H' => W cls d σZ H') HZ Q) := by
  refine ⟨fun pins s σ H Q I ⟨f, tb, slot, T, q⟩ => ?_⟩
  refine wpAny_Call_Name_kw (thn ((pe_var (pos := pp1) (i := i) hN hv dbg cdc).run pins s σ H (fun v H1 => v = .ref f ∧ H1 = H) I ⟨.ref f, slot, rfl, rfl⟩) fun u s1 ⟨v, H1, I1, r1, ev, eH⟩ => ?_)
  subst ev
  subst eH
  obtain rfl : u = Value.ref f := r1
  refine PySem.W.callWith_F0 (T.1 _ s1.heap (ExtN.refl _) I1.hok) ?_
  have go := T.2 X.A X.stack s1 _ (fun cls d H' => W cls d σ H') Q (ExtN.refl _) hr I1.env0 (live_inv I1 hex lv) q
  refine wpAny_call (codeAny_mono go fun r s2 hq => ?_)
  rcases r with e | fl
  · exact tk e s2 (XE.of_call I1 (fun cls d H' h => h) hq)
  · cases fl with
    | ret u => exact I1.after hq
    | next => exact False.elim hq
    | brk => exact False.elim hq
    | cont => exact False.elim hq
/-- what the hearing makes of such a thing -/
def THc (K : PySem.W.Frag) (CS : Addr) (tb : XK → Hp → VK → Prop) (H : Hp) (Q : VK) : Prop := ∀ (E : XK) (Q' : VK), (∀ cls d H', HErr K CS Q cls d H' → E cls d H') → (∀ v H', HBack Q v H' → Q' v H') → tb E H Q'
def tHeardC (X : Cx) (Γ : Addr → Option Obj) (k : Nat) (CS : Addr) (te : TE) : TE := fun σ H Q => te σ H fun v H1 => ∃ f tb, v = .ref f ∧ Thk X.prog X.w X.K X.mg X.base Γ k f H1 tb ∧ ∀ H2, Same H1 H2 → THc X.K CS tb H2 Q
end
/-- as FnG, where the cells that Γ tells are live -/
structure FnC (P : Program) (w : World) (K : PySem.W.Frag) (mg : Str → Option Value) (base : Heap) (Γ : Addr → Option Obj) (k : Nat) (f : Addr) (fd : FuncData) (ps : List Str) (sp : Sp) : Prop where
  len : ∀ vs H Q E, sp vs H Q E → vs.length = ps.length
  run : ∀ (A : Around) (outer : List Env) (s : Shared) (H : Hp) (args : Args) (us : List Value) (vs : List V) (Q : VK), Room k A → A.guards = some [] → Env0 P w K mg base A outer s H → Live Γ s.heap H (frs outer) → BindsTo s fd args (ps.zip us) → Vals vs us → sp vs H Q E0 →
    codeAny (model P w) A (.call (.ref f) args) (CR CX0 outer P w H s Q E0) s
section
variable {P : Program} {w : World} {K : PySem.W.Frag} {mg : Str → Option Value} {base : Heap} {Γ : Addr → Option Obj}
theorem FnC.mono {j k : Nat} {f : Addr} {fd : FuncData} {ps : List Str} {sp : Sp} (F : FnC P w K mg base Γ j f fd ps sp) (h : j ≤ k) : FnC P w K mg base Γ k f fd ps sp := ⟨F.len, fun A outer s H args us vs Q hr => F.run A outer s H args us vs Q (hr.mono h)⟩
theorem fnC_of {x qual : Str} {st : Stmt} {f : Addr} {fd : FuncData} {N ps : List Str} {k : Nat} {sp : Sp} (F : Fun K x qual st f fd) (S : FnScope N ps (defScope st)) (len : ∀ vs H Q E, sp vs H Q E → vs.length = ps.length)
    (hbody : ∀ (cdv : Value) (A : Around) (outer : List Env) (s : Shared) (H : Hp) (vs : List V) (Q : VK), Room k (A.deeper (envOfC qual (defScope st) s.heap.objs.size f cdv)) → (A.deeper (envOfC qual (defScope st) s.heap.objs.size f cdv)).guards = some [] → Live Γ s.heap H (frs outer) → sp vs H Q E0 →
      ∃ t, PSs (cxOf CX0 P w K mg base N qual (defScope st) f cdv A outer s H E0).nox (defBody st) t ∧ t { nx := fun _ H' => Q .non H', rt := Q } (L2.start N vs) H) : FnC P w K mg base Γ (k + 1) f fd ps sp := by
  obtain ⟨oc, od, kV, doc, pm, an, cdv, ct, osl, rfl, lk, hcd⟩ := F.ex
  refine ⟨len, fun A outer s H args us vs Q hr hg e0 lv hb r hsp => run_ofS lk hcd S hr e0 hb r (len _ _ _ _ hsp) fun hr' => ?_⟩
  obtain ⟨t, h, q⟩ := hbody cdv A outer s H vs Q hr' hg lv hsp
  exact ⟨t, h.nox, q⟩
end
def CalC (P : Program) (w : World) (K : PySem.W.Frag) (mg : Str → Option Value) (base : Heap) (k : Nat) (x : Str) (ps : List Str) (sp : (Addr → Option Obj) → Sp) : Prop :=
  ∃ f fd, (∀ Γ, FnC P w K mg base Γ k f fd ps (sp Γ)) ∧ PySem.W.keepIn K (.ref f) = true ∧ L2.Binds K fd ps [] ∧ mg x = some (.ref f)
section
variable {X : Cx} {k : Nat} {f : Addr} {fd : FuncData} {ps : List Str} {sp : (Addr → Option Obj) → Sp} {x : Str} {p pos : Pos} {e : Expr} {es : List Expr} {t : TA}
end
end VG



set_option maxRecDepth 100000
set_option maxHeartbeats 8000000
/-! == and != of an object whose class tells its own ==. -/
namespace VG
open PySem PySem.Spec PyProof.Rows L2 LamX
section
variable {X : Cx} {n : Nat} {C f : Addr} {fd : FuncData} {ps : List Str} {sp : Sp}
theorem own_call {A : Around} {pins : List (Addr × Obj)} {s : Shared} {σ : L2.St} {H : Hp} {a : Addr} {y : V} {u : Value} {Q : VK} (F : FnOk X.prog X.w X.K X.mg X.base CX0 n f fd ps sp) (hb : L2.Binds X.K fd ps []) (sb : Sub X n A) (I : Inv X pins σ H s) (ry : RelV y u)
    (h : sp [.ref a, y] H Q E0) : wpAny (model X.prog X.w) A (call (.ref f) [.ref a, u]) (EP X pins σ Q) X.xe s := by
  have e := I.env0
  have e0 : Env0 X.prog X.w X.K X.mg X.base A X.stack s H := ⟨by rw [sb.fr]; exact e.frames, e.mod, e.bs, e.bsz, e.funs, e.frf, e.hok, e.bare⟩
  have hl := F.len _ _ _ _ h
  have bt : BindsTo s fd ⟨[.ref a, u], []⟩ (ps.zip [.ref a, u]) := by
    have z := hb s [.ref a, u] I.kIn (by simpa using hl)
    simpa using z
  refine wpAny_call (codeAny_mono (F.run A X.stack s H ⟨[.ref a, u], []⟩ [.ref a, u] [.ref a, y] Q E0 sb.room e0 bt (.cons rfl (.cons ry .nil)) h) fun r s2 hq => ?_)
  rcases r with e | fl
  · exact (show False from hq).elim
  · cases fl with
    | ret w => exact I.after hq
    | next => exact False.elim hq
    | brk => exact False.elim hq
    | cont => exact False.elim hq
end
end VG
namespace VG
open PySem PySem.Spec PyProof.Rows L2 LamX
/-- a method of the class at C; the class itself, as one that makes -/
def CalM (P : Program) (w : World) (K : PySem.W.Frag) (mg : Str → Option Value) (base : Heap) (CX : CXT) (C : Addr) (m : Str) (k : Nat) (ps : List Str) (sp : Sp) : Prop :=
  ∃ f fd, FnOk P w K mg base CX k f fd ps sp ∧ Meth K C m f ∧ L2.Binds K fd ps []
def CalI (P : Program) (w : World) (K : PySem.W.Frag) (mg : Str → Option Value) (base : Heap) (CX : CXT) (C : Addr) (x : Str) (k : Nat) (ps : List Str) (sp : Sp) : Prop :=
  ∃ f fd, FnOk P w K mg base CX k f fd ps sp ∧ Mk K C f ∧ L2.Binds K fd ps [] ∧ mg x = some (.ref C)
end VG



set_option maxRecDepth 100000
set_option maxHeartbeats 4000000
/-! sorted of a list of one or two pairs of a text and a number. -/
namespace VG
open PySem PySem.Spec PyProof.Rows PyProof.Rows.G L2 LamX
def sh0 : Nat → Bool := fun i => i == 0
section
variable {X : Cx}
end
end VG



set_option maxRecDepth 100000
set_option maxHeartbeats 4000000
/-! An attribute as a target among others, a part of a list put anew, a method called by names alone. -/
namespace VG
open PySem PySem.Spec PyProof.Rows L2 LamX
section
variable {X : Cx} {CX : CXT} {k : Nat} {f C : Addr} {fd : FuncData} {ps ks : List Str} {sp : Sp} {E : XK} {x m n : Str} {p pos apos : Pos} {o lo hi : Expr} {kws : List Keyword} {ta tl tu : TE} {tk : TA} {g : List Value → List Value → List Value} {gV : List V → List V → List V}
end
end VG



set_option maxRecDepth 100000
set_option maxHeartbeats 4000000
/-! A set made of a list of whole numbers. -/
namespace VG
open PySem PySem.Spec PyProof.Rows L2 LamX
section
variable {P : Program} {w : World} {A : Around} {E : Value → Shared → Prop} {s : Shared} {l S : Addr} {items : Array Value} {ns : List Int}
end
section
variable {X : Cx}
end
end VG



set_option maxRecDepth 100000
set_option maxHeartbeats 4000000
/-! A tuple times a number of one or more. -/
namespace VG
open PySem PySem.Spec PyProof.Rows L2 LamX
/-! ### tuples whose object is known -/
/-- a tuple of the heap that has no dict of its own -/
def TupZ (H : Hp) (a : Addr) (xs : List V) : Prop := ∃ o : Obj, o.cls = .type "tuple" ∧ o.dict = none ∧ H a = some (.frz o (.tup xs))
theorem TupZ.seq {K : PySem.W.Frag} {H : Hp} {a : Addr} {xs : List V} (h : TupZ H a xs) : SqT K H a xs := let ⟨o, _, _, e⟩ := h; .inl (.inr ⟨o, e⟩)
theorem TupZ.same {H H' : Hp} {a : Addr} {xs : List V} (h : TupZ H a xs) (s : Same H H') : TupZ H' a xs := let ⟨o, c, d, e⟩ := h; ⟨o, c, d, s _ _ e⟩
section
variable {X : Cx} {es : List Expr} {t : TA} {pos : Pos}
end
end VG



set_option maxRecDepth 100000
set_option maxHeartbeats 8000000
/-! in and len of an object whose class tells its own. -/
namespace VG
open PySem PySem.Spec PyProof.Rows L2 LamX
/-- what an own `in` of the class at C is told -/
def rHas (K : PySem.W.Frag) (C : Addr) (sp : Sp) (neg : Bool) : R2 := fun x y H Q => ∃ a dx fs, y = .ref a ∧ H a = some (.ins C dx fs) ∧ sp [y, x] H (fun v H' => ∃ r, v = .bl r ∧ Q (.bl (if neg then !r else r)) H') E0
section
variable {X : Cx} {n : Nat} {C f : Addr} {fd : FuncData} {ps : List Str} {sp : Sp}
theorem unless_own {M : Model} {A : Around} {E : Value → Shared → Prop} {s : Shared} {K : PySem.W.Frag} {x : Addr} {ox : Obj} {od : Option Obj} {name : Str} {args : List Value} {refuse : Sem Value} {Q : Option Value → Shared → Prop} (X : K.In s.heap) (I : PySem.W.InstAt s.heap x ox C od)
    (hs : PySem.W.findIn K (.ref C) name = some (some (.ref f))) (hf : PySem.W.isFn K (.ref f) = true) (h : wpAny M A (call (.ref f) (.ref x :: args)) (fun v => Q (some v)) E s) : wpAny M A (callSpecialUnlessNone? (.ref x) name args refuse) Q E s := by
  unfold callSpecialUnlessNone? specialOf
  refine wpAny_bind (wpAny_bind (I.type.here ((PySem.W.looks_findIn X hs).here ?_)))
  refine wpAny_holding (wpAny_bind ((PySem.W.bind_fn X _ (beq_iff_eq.mp hf)).here ?_))
  show wpAny M A (if (Value.ref f == Value.none) = true then _ else _) Q E s
  rw [if_neg (by simp)]
  exact wpAny_bind (wpAny_mono h (fun v s' h' => wpAny_pure h') fun _ _ h' => h')
theorem contains_own {M : Model} {A : Around} {E : Value → Shared → Prop} {s : Shared} {K : PySem.W.Frag} {x : Addr} {ox : Obj} {od : Option Obj} {v : Value} {Q : Bool → Shared → Prop} (X : K.In s.heap) (I : PySem.W.InstAt s.heap x ox C od)
    (hs : PySem.W.findIn K (.ref C) "__contains__" = some (some (.ref f))) (hf : PySem.W.isFn K (.ref f) = true) (h : wpAny M A (call (.ref f) [.ref x, v]) (fun r s' => ∃ b, r = .bool b ∧ Q b s') E s) : wpAny M A (contains (.ref x) v) Q E s := by
  unfold contains
  refine wpAny_holding ?_
  rw [show stdlibNamesSay? (.ref x) v = none from rfl]
  refine wpAny_bind ?_
  unfold specialOf
  refine wpAny_bind (I.type.here ((PySem.W.looks_findIn X hs).here ?_))
  show wpAny M A (if (some (Value.ref f) == some Value.none) = true then _ else _) Q E s
  rw [if_neg (by simp)]
  refine wpAny_bind (unless_own X I hs hf (wpAny_mono h (fun r s' z => ?_) fun _ _ e => e))
  obtain ⟨b, rfl, q⟩ := z
  exact wpAny_truthy_bool q
theorem op_notInOwn (F : FnOk X.prog X.w X.K X.mg X.base CX0 n f fd ps sp) (hs : PySem.W.findIn X.K (.ref C) "__contains__" = some (some (.ref f))) (hf : PySem.W.isFn X.K (.ref f) = true) (hb : L2.Binds X.K fd ps []) (hr : Room n X.A) :
    OpR X (compareOp .NotIn) (rHas X.K C sp true) := by
  intro pins s σ H x y v u Q I rx ry h
  obtain ⟨a, dx, fs, rfl, ha, q⟩ := h
  cases ry
  obtain ⟨m, J, _⟩ := ins_get I.hok ha
  obtain ⟨od, J, _⟩ := J.look
  show wpAny (model X.prog X.w) X.A (do return .bool (!(← contains (.ref a) v))) (EP X pins σ Q) X.xe s
  refine wpAny_bind (contains_own I.kIn J hs hf (wpAny_mono (own_call F hb ⟨hr, rfl⟩ I rx q) (fun w s2 z => ?_) fun _ _ z => z))
  obtain ⟨v1, H1, I1, r1, r, rfl, q1⟩ := z
  exact ⟨r, r1, wpAny_pure ⟨.bl (!r), H1, I1, rfl, q1⟩⟩
end
end VG



set_option maxRecDepth 100000
set_option maxHeartbeats 8000000
/-! What is handed on, called inside a list comprehension. -/
namespace VG
open PySem PySem.Spec PyProof.Rows L2 LamX
section
variable {X : Cx} {sB : Shared} {HB : Hp} {scope : Scope} {ce : Env} {fp : List Addr}
/-- the iterator's own objects, in the block -/
theorem blk_fp {τ : L2.St} {G : Hp} {z : Shared} (J : Inv (X.blk sB HB scope ce fp) [] τ G z) (n : ∀ b ∈ fp, G b = none) : ∀ b ∈ fp, FpOk (X.blk sB HB scope ce fp) [] G b := by
  intro b hb
  have q := J.ok.exf b hb
  refine ⟨n b hb, q.1, J.ok.exfs b hb, Or.inl hb, ?_, ?_⟩
  · intro y c e
    exact q.2 y c e
  · intro p hp
    cases (show p ∈ ([] : List (Addr × Obj)) from hp)
/-- the laps of such a block -/
theorem blk_laps {tg iter elt : Expr} {pos : Pos} {it D : Addr} {tn : Nat → Heap → Prop} {J : It} {g : TG} {te : TE} {τ : L2.St} {W : Nat → Nat → Hp → Prop} {Z : Hp → Prop} {R : Result → Shared → Prop} {H₀ : Hp} {z₀ : Shared} {m₀ : Nat} {vs : List Nat} {σ : L2.St} (hτ : wipe σ vs = τ)
    (calm : X.calm = true) (T : Turn X.prog X.w X.K tg J fp it tn) (pg : PG (X.blk sB HB scope ce fp) tg g) (pe : PE (X.blk sB HB scope ce fp) elt te)
    (lap : ∀ i m G, W i m G → (J.stop i G ∧ Z G) ∨ (J.go i G ∧ ∃ Nx : Hp → Prop, (∀ G', Nx G' → ∃ m', m' < m ∧ W (i + 1) m' G') ∧ ∀ x G', J.yld i G x G' → g x τ G' fun σ2 G2 => wipe σ2 vs = τ ∧ te σ2 G2 fun y G4 => ∃ acc, G4 D = some (.lst acc) ∧ acc.length < sizeLine ∧ Nx (upd G4 D (.lst (acc ++ [y])))))
    (I₀ : Inv (X.blk sB HB scope ce fp) [] τ H₀ z₀) (t₀ : tn 0 z₀.heap) (n₀ : ∀ b ∈ fp, H₀ b = none) (w₀ : W 0 m₀ H₀)
    (post : ∀ z G, Inv (X.blk sB HB scope ce fp) [] τ G z → Z G → R (.ok .next) z) :
    codeAny (model X.prog X.w) X.A (.compLoop (.ListComp elt [⟨tg, iter, [], 0⟩] scope pos) 0 (.ref it) (.ref D) ce) R z₀ := by
  have hw : ∀ {σ2 : L2.St}, wipe σ2 vs = τ → τ.length = σ2.length ∧ ∀ (j : Nat) v, τ[j]? = some (some v) → σ2[j]? = some (some v) := by
    intro σ2 e
    refine ⟨?_, ?_⟩
    · rw [← e]
      exact wipe_length σ2 vs
    · intro j v k
      rw [← e] at k
      exact And.left (wipe_some k)
  refine compLoop_any (fun k z => ∃ i G, Inv (X.blk sB HB scope ce fp) [] τ G z ∧ (tn i z.heap ∧ ∀ b ∈ fp, G b = none) ∧ W i k G) ?_ m₀ ⟨0, H₀, I₀, ⟨t₀, n₀⟩, w₀⟩
  rintro k z1 ⟨i, G1, J1, ⟨t1, n1⟩, w1⟩
  rcases lap i k G1 w1 with ⟨halt, fine⟩ | ⟨more, Nx, smaller, does⟩
  · have end_ := T.done (X.blk sB HB scope ce fp) rfl rfl rfl calm i [] z1 τ G1 (fun _ _ => False) J1 (blk_fp J1 n1) t1 halt
    refine thnF end_ ?_
    rintro r z2 ⟨er, J2⟩
    subst er
    exact post z2 G1 J2 fine
  · have next_ := T.item (X.blk sB HB scope ce fp) rfl rfl rfl calm i [] z1 τ G1 (fun _ _ => False) J1 (blk_fp J1 n1) t1 more
    refine thnF next_ ?_
    rintro r z2 ⟨u, er, h2⟩
    subst er
    refine thnF h2 ?_
    rintro _ z3 ⟨x, G3, J3, r3, y3, t3, n3⟩
    have K3 := Inv.pinned J3 (blk_fp J3 n3) (T.obj _ _ t3)
    refine thnF (pg.run _ z3 _ G3 x u _ K3 r3 (does x G3 y3)) ?_
    rintro _ z4 ⟨σ4, G4, J4, e4, q4⟩
    refine wpAny_tests_nil ?_
    rw [if_pos rfl]
    refine thnF (pe.run _ z4 σ4 G4 _ J4 q4) ?_
    rintro y z5 ⟨yv, G5, J5, r5, acc, hD, hz, nx⟩
    refine app_ok (X := X.blk sB HB scope ce fp) J5 hD hz r5 ?_
    intro z6 J6
    obtain ⟨m', lt, w'⟩ := smaller _ nx
    obtain ⟨l4, v4⟩ := hw e4
    have still : ∀ b ∈ fp, ∀ o, z3.heap.get? b = some o → z6.heap.get? b = some o ∧ upd G5 D (.lst (acc ++ [yv])) b = none := by
      intro b hb o e
      have a := J6.pin (b, o) (List.mem_append_right _ (List.mem_append_right _ (mem_pinsAt hb e)))
      exact ⟨And.left a, And.left (And.right a)⟩
    refine ⟨m', lt, i + 1, _, Inv.weak (Inv.unpinned (pins := []) J6) l4 v4, ⟨T.keep _ _ _ t3 ?_, ?_⟩, w'⟩
    · intro b hb o e
      exact And.left (still b hb o e)
    · intro b hb
      obtain ⟨o, e, _⟩ := T.obj _ _ t3 b hb
      exact And.right (still b hb o e)
end
section
variable {X : Cx}
/-- as tLc, where the element may call what is kept in X's own cells -/
def tLcL (X : Cx) (wi : TI) (g : TG) (te : (Addr → Option Obj) → TE) (vs : List Nat) : TE := fun σ H Q => wi σ H fun J H1 => ∀ Γ, Cap X σ Γ → tLc (fun _ H2 R => R J H2) g tYes (te Γ) vs σ H1 Q
theorem pe_lcL {elt tg iter : Expr} {scope : Scope} {own : List (Str × Nat)} {pos : Pos} {wi : TI} {g : TG} {te : (Addr → Option Obj) → TE} (hc : X.calm = true) (hN : X.N.Nodup) (hi : PI X tg iter wi) (ok : BlkOk X.N X.env.scope scope own)
    (hg : ∀ (s : Shared) (H : Hp) (C : Addr) (cl : List (Str × Addr)) (fp : List Addr), PG (X.blk s H scope (compEnvC scope cl C X.env) fp) tg g)
    (he : ∀ (Γ : Addr → Option Obj) (s : Shared) (H : Hp) (C : Addr) (cl : List (Str × Addr)) (fp : List Addr), Live Γ s.heap H (frs X.stack) → (∀ c o, Γ c = some o → c ∉ fp) → PE (X.blk s H scope (compEnvC scope cl C X.env) fp) elt (te Γ))
    (hs : ∀ x, foldedSetIterable iter X.env x = pure x := by intro _; rfl) (hfn : X.fn = fun _ => true := by rfl) :
    PE X (.ListComp elt [⟨tg, iter, [], 0⟩] scope pos) (tLcL X wi g te (own.map (·.2))) := by
  refine ⟨?_⟩
  intro pins s σ H Q I h
  rw [eval_ListComp]
  have caught : ∀ y ∈ scope.names, y.2 = .free → ∃ c, X.env.cells.lookup y.1 = some c := by
    intro y hy e
    exact I.ok.has _ (ok.free y hy e)
  refine wpAny_comprehension_free (use := none) rfl hs (closure_ok caught) ok.kind (fun y hy e => (ok.uniq y hy).trans (congrArg some e)) ?_
  refine thn (hi.run pins s σ H _ I h) ?_
  rintro xv s1 hx
  refine thn hx ?_
  rintro itv s2 ⟨it, fp, tn, J, G, e, I2, T, t2, f2, q⟩
  subst e
  refine wpAny_newObj_type (newEnv_comp ?_) (Nat.zero_le _)
  generalize hD : s2.heap.objs.size = D
  have top : G D = none := I2.hok.fresh (Nat.le_of_eq hD)
  generalize hs3 : ({ s2 with heap := s2.heap.push { cls := .type "list", data := .seq ([] : List Value).toArray } } : Shared) = s3
  have heap3 : s3.heap = s2.heap.push { cls := .type "list", data := .seq ([] : List Value).toArray } := by
    subst hs3
    rfl
  have old : ∀ b o, s2.heap.get? b = some o → s3.heap.get? b = some o := by
    intro b o e
    rw [heap3]
    exact Heap.get?_push_of_some _ e
  have I3 : Inv X pins σ (upd G D (.lst [])) s3 := by
    rw [← hs3]
    refine I2.laid (t' := s2.toks) (fun b o => Heap.get?_push_of_some _) (Nat.le_of_eq hD) ⟨Nat.zero_le _, [], 0, .nil, ?_⟩
    rw [← hD]
    exact Heap.get?_push_size _ rfl
  have f3 : ∀ b ∈ fp, FpOk X pins (upd G D (.lst [])) b ∧ b < s3.heap.objs.size := by
    intro b hb
    obtain ⟨o, e, _⟩ := T.obj _ _ t2 b hb
    have lt := Heap.lt_size e
    have ne : b ≠ D := by
      rw [← hD]
      exact Nat.ne_of_lt lt
    refine ⟨⟨(upd_ne ne).trans (f2 b hb).1, (f2 b hb).2⟩, Heap.lt_size (old b o e)⟩
  have live := live_of I3 hfn
  have apart : ∀ c o, cellsAt X s3.heap c = some o → c ∉ fp := by
    intro c o e hb
    obtain ⟨⟨y, hy⟩, _⟩ := cellsAt_is e
    exact (f3 c hb).1.2.2.2.2.1 y c hy rfl
  obtain ⟨W, ⟨m₀, w₀⟩, lap⟩ := q _ (cap_of I3) D top
  have J4 := block_start I3 ok hN f3
  generalize hce : compEnvC scope (cellsFrom (s3.heap.objs.size + 1) scope.names (cloFrom X.env.cells scope.names [])) s3.heap.objs.size X.env = ce at J4
  have where_ : ce.locals = s3.heap.objs.size := by
    rw [← hce]
    rfl
  have pg := hg s3 (upd G D (.lst [])) s3.heap.objs.size (cellsFrom (s3.heap.objs.size + 1) scope.names (cloFrom X.env.cells scope.names [])) fp
  have pe := he _ s3 (upd G D (.lst [])) s3.heap.objs.size (cellsFrom (s3.heap.objs.size + 1) scope.names (cloFrom X.env.cells scope.names [])) fp live apart
  rw [hce] at pg pe
  have t4 : ∀ z : Heap, (∀ b o, s3.heap.get? b = some o → z.get? b = some o) → tn 0 z := by
    intro z kept
    refine T.keep _ _ _ t2 ?_
    intro b _ o e
    exact kept b o (old b o e)
  have loop := blk_laps (X := X) (D := D) (scope := scope) (pos := pos) (iter := iter) (R := compPost (model X.prog X.w) X.A X.xe none (fun v s' => ∃ x H', Inv X pins σ H' s' ∧ RelV x v ∧ Q x H') (.ref D) s3.heap.objs.size) rfl hc T pg pe (fun i m G' w => (lap i m G' w).imp id fun z => ⟨z.1, z.2.elim fun Nx z => ⟨Nx, z.1, fun x G2 y => z.2 x G2 y⟩⟩) J4
    (t4 _ fun b o e => pushCells_keeps _ _ _ _ (Heap.get?_push_of_some _ e)) (fun b hb => (f3 b hb).1.1) w₀ ?_
  · have t5 := t4 (pushCells (s3.heap.push { cls := .type "dict", data := .dict #[] }) scope.names) fun b o e => pushCells_keeps _ _ _ _ (Heap.get?_push_of_some _ e)
    subst hce
    exact codeAny_compStart_list loop (T.self X.A 0 _ _ _ t5 loop)
  · intro z G5 J5 fine
    have back : Inv X pins σ G5 z := I3.call' (ch := fp) J5.os J5.base J5.hok J5.bare fun b hb => ⟨(f3 b hb).1.2.2.2.1, (f3 b hb).1.2.1, (f3 b hb).1.2.2.2.2.1, (f3 b hb).1.2.2.2.2.2⟩
    have gone : G5 s3.heap.objs.size = none := by
      rw [← where_]
      exact J5.free
    obtain ⟨m, ns, _⟩ := J5.loc
    have ns : z.heap.Ns s3.heap.objs.size m := by
      rw [← where_]
      exact ns
    obtain ⟨p0, p1, p2, p3, p4, p5⟩ := I3.fpOk (Nat.le_refl _) gone
    refine ⟨m, ns, ?_⟩
    intro h2 sb
    refine ⟨.ref D, G5, back.turned (t' := z.toks) ?_ p0 p1 p3 p4 p5, rfl, fine⟩
    intro b o hb e
    exact (sb.2 b hb).trans e
/-- a call of a def of kind C in such a block -/
def tCallCB (Γ : Addr → Option Obj) (sp : (Addr → Option Obj) → Sp) (t : TA) : TE := fun σ H Q => t σ H fun vs H1 => sp Γ vs H1 Q E0
theorem live_blk {Γ : Addr → Option Obj} {pins : List (Addr × Obj)} {σ : L2.St} {H : Hp} {s : Shared} (I : Inv X pins σ H s) (nx : ∀ c o, Γ c = some o → c ∉ X.ex) (h : Live Γ X.s_0.heap X.H_0 X.fs) : Live Γ s.heap H (frs X.stack) := by
  intro c o e
  obtain ⟨there, free, out⟩ := h c o e
  refine ⟨I.base.keep c o there free out (nx c o e), I.base.free c o there free (nx c o e), ?_⟩
  intro hb
  rcases List.mem_cons.mp (I.stkSub c hb) with z | z
  · rw [z] at there
    exact Nat.lt_irrefl _ (Nat.lt_of_lt_of_le (Heap.lt_size there) I.ok.above)
  · exact out z
theorem pe_callCB {Γ : Addr → Option Obj} {k : Nat} {f : Addr} {fd : FuncData} {ps : List Str} {sp : (Addr → Option Obj) → Sp} {x : Str} {p pos : Pos} {e : Expr} {es : List Expr} {t : TA} (lv : Live Γ X.s_0.heap X.H_0 X.fs) (nx : ∀ c o, Γ c = some o → c ∉ X.ex)
    (F : ∀ Γ, FnC X.prog X.w X.K X.mg X.base Γ k f fd ps (sp Γ)) (hr : Room k X.A) (gd : X.A.guards = some []) (hg : Gl X x) (hm : X.mg x = some (.ref f)) (hk : PySem.W.keepIn X.K (.ref f) = true) (hb : L2.Binds X.K fd ps [])
    (ha : PA X (e :: es) t) (hdb : (x == ("__debug__" : Str)) = false := by decide) (he : starEach (e :: es) X.env = (false, eval e X.env) :: starEach es X.env := by rfl) (hpl : (backTo pos (starEach es X.env)).any (·.1) = false := by rfl) :
    PE X (.Call (.Name x p) (e :: es) [] pos) (tCallCB Γ sp t) := by
  refine ⟨fun pins s σ H Q I h => wpAny_Call_Name_kw (ld_glob I hg hm ?_ hdb)⟩
  refine PySem.W.callWith_K (h₀ := X.base) I.ok.mod.kin hk (thn (ha.run pos pins s σ H _ I h) ?_) he hpl
  rintro us s1 ⟨vs, H1, I1, r, q⟩
  refine ⟨I1.kIn, ?_⟩
  have hl : us.length = ps.length := r.length.symm.trans ((F Γ).len _ _ _ _ q)
  have bt : BindsTo s1 fd ⟨us, []⟩ (ps.zip us) := by
    have z := hb s1 us I1.kIn (by rw [List.append_nil]; exact hl)
    rwa [List.append_nil] at z
  refine wpAny_call (codeAny_mono ((F Γ).run X.A X.stack s1 H1 ⟨us, []⟩ us vs Q hr gd I1.env0 (live_blk I1 nx lv) bt r q) ?_)
  intro r s2 hq
  rcases r with e | fl
  · cases (show False from hq)
  · cases fl with
    | ret u => exact I1.after hq
    | next => cases (show False from hq)
    | brk => cases (show False from hq)
    | cont => cases (show False from hq)
end
end VG



set_option maxRecDepth 100000
set_option maxHeartbeats 2000000
/-! set(t) with how many it holds at least; t[::-1] as it is. -/
namespace VG
open PySem PySem.Spec PyProof.Rows L2
section
variable {X : Cx}
/-- set(t) of a tuple of ints, bounded from both sides -/
def rSetTB (K : PySem.W.Frag) (w : World) : List V → Hp → VK → Prop := fun xs H Q => ∃ (l : Addr) (ns : List Int), xs = [.ref l] ∧ SqT K H l (ns.map V.int) ∧ ns.length ≤ 4000 ∧
  ∀ (a : Addr) (c : Nat) (H' : Hp), H a = none → Same H H' → H' a = some (SetO w a (fun k => decide (k ∈ ns)) c) → (∀ L : List Int, L.Nodup → (∀ k ∈ L, k ∈ ns) → L.length ≤ c) → Q (.ref a) H'
theorem call_setTB (hc : X.calm = true) : CallR X (.type "set") (rSetTB X.K X.w) := by
  intro pins s σ H xs us Q I r h
  obtain ⟨l, ns, rfl, hq, hl, q⟩ := h
  obtain ⟨u, rfl, rx⟩ := vals1 r
  cases rx
  obtain ⟨its, rv, p, hz⟩ := I.tuple hq
  refine call_set_tupI ns (I.ok.hd hc) p (by simpa using RZ.intsAre_vals rv) (by unfold scanBound; omega) fun h' tk c hS hcl hk => ?_
  obtain ⟨o, es, ep, t, ho, hex, hd, hg, hnd, hm, hb, hf, hn, r1, r2⟩ := id hS
  have hcnt := set_count hnd fun k => (hm k).symm.trans (decide_eq_true_iff)
  rw [List.length_map, Array.length_toList, hn] at hcnt
  refine ⟨.ref _, _, I.laid (t' := tk) (o := SetO X.w s.heap.objs.size (fun k => decide (k ∈ ns)) c) hk (Nat.le_refl _) (setO_new hS), rfl, q _ c _ (I.hok.fresh (Nat.le_refl _)) (same_upd (I.hok.fresh (Nat.le_refl _))) upd_same fun L ndL hL => ?_⟩
  have h3 := sub_len ndL (ns := es.toList.map _) fun x hx => (hm x).mp (decide_eq_true (hL x hx))
  rw [List.length_map, show es.toList.length = es.size from Array.length_toList, hn] at h3
  exact h3
theorem fm_map {α β : Type} {f : α → Option β} {g : α → β} : ∀ {l : List α}, (∀ k ∈ l, f k = some (g k)) → l.filterMap f = l.map g
  | [], _ => rfl
  | a :: l, h => by
    rw [List.filterMap_cons, h a List.mem_cons_self, List.map_cons]
    show g a :: l.filterMap f = _
    rw [fm_map fun k hk => h k (List.mem_cons_of_mem _ hk)]
theorem vals_rev {xs : List V} {us : List Value} (r : Vals xs us) : Vals xs.reverse us.reverse := by
  induction r with
  | nil => exact .nil
  | cons a _ ih =>
    rw [List.reverse_cons, List.reverse_cons]
    exact ih.append (.cons a .nil)
theorem picks_rev (its : List Value) : ((List.range its.toArray.size).filterMap fun (k : Nat) => its.toArray[(((its.toArray.size : Int) - 1) + (k : Int) * (-1)).toNat]?) = its.reverse := by
  have e : ∀ k ∈ List.range its.length, its[(((its.length : Int) - 1) + (k : Int) * (-1)).toNat]? = some (its.reverse.getD k .none) := fun k hk => by
    have lt := List.mem_range.mp hk
    rw [show (((its.length : Int) - 1) + (k : Int) * (-1)).toNat = its.length - 1 - k from by omega, List.getD_eq_getElem?_getD, List.getElem?_reverse lt, List.getElem?_eq_getElem (by omega)]
    rfl
  simp only [List.size_toArray, List.getElem?_toArray]
  rw [fm_map e]
  refine List.ext_getElem (by rw [List.length_map, List.length_range, List.length_reverse]) fun i h1 h2 => ?_
  rw [List.getElem_map, List.getElem_range, List.getD_eq_getElem?_getD, List.getElem?_eq_getElem h2]
  rfl
/-- t[::-1] -/
def tRevX (K : PySem.W.Frag) (te : TE) : TE := fun σ H Q => te σ H fun x H1 => ∃ a xs, x = .ref a ∧ SqT K H1 a xs ∧ ∀ p, H1 p = none → Q (.ref p) (upd H1 p (.tup xs.reverse))
theorem pe_revX {e : Expr} {te : TE} {k : Nat} {p1 p2 p3 pos : Pos} (he : PE X e te) : PE X (.Subscript e (.Slice none none (some (.UnaryOp .USub (.Constant (.int 1) k p1) p2)) p3) pos) (tRevX X.K te) := by
  refine ⟨fun pins s σ H Q I h => Subscript_ (thn (he.run pins s σ H _ I h) fun v s1 ⟨x, H1, I1, r1, a, xs, ex, hx, q⟩ => ?_)⟩
  subst ex
  cases r1
  have hst : PO X (some (.UnaryOp .USub (.Constant (.int 1) k p1) p2)) (tPart (tUn (rU fun i => .int (-i)) (tC (.int 1)))) := po_some (pe_un un_neg pe_int)
  refine wpAny_Slice (thn (po_none.run pins s1 σ H1 (fun o H2 => o = none ∧ H2 = H1) I1 ⟨rfl, rfl⟩) fun vl s2 ⟨l, H2, I2, pl, el, e2⟩ => ?_)
  subst el e2
  refine thn (po_none.run pins s2 σ H2 (fun o H3 => o = none ∧ H3 = H2) I2 ⟨rfl, rfl⟩) fun vu s3 ⟨u, H3, I3, pu, eu, e3⟩ => ?_
  subst eu e3
  refine thn (hst.run pins s3 σ H3 (fun o H4 => o = some (-1) ∧ H4 = H3) I3 ⟨1, rfl, -1, rfl, rfl, rfl⟩) fun vs s4 ⟨o, H4, I4, ps, eo, e4⟩ => ?_
  subst eo e4
  cases pl; cases pu
  have I5 : Inv X pins σ H4 { s4 with heap := s4.heap.push { cls := .type "slice", data := .fields #[.none, .none, vs] } } := I4.kept (t' := s4.toks) fun b ob q => Heap.get?_push_of_some _ q
  obtain ⟨its, r, ht, hz⟩ := I5.tuple hx
  have hlen := r.length
  have y1 := vals_rev r
  rw [← picks_rev its] at y1
  show wpAny (model X.prog X.w) X.A (subscriptTail e (.Slice none none (some (.UnaryOp .USub (.Constant (.int 1) k p1) p2)) p3) (.ref a) (.ref s4.heap.objs.size)) (EP X pins σ Q) X.xe { s4 with heap := s4.heap.push { cls := .type "slice", data := .fields #[.none, .none, vs] } }
  refine tail_any (ops := [.ref a, .ref s4.heap.objs.size]) (IsTup.typeIs ht) (PyProof.Rows.slot_tuple_getitem.lookup) ?_ (by with_unfolding_all rfl)
  refine tup_rev ht (Heap.IsSliceOf.new _ _ _ vs) ps ?_ (by rw [List.size_toArray, ← hlen]; exact hz)
  refine ⟨.ref _, _, I5.laid (t' := s4.toks) (o := .tup xs.reverse) (fun b ob q => Heap.get?_push_of_some _ q) (Nat.le_refl _) ?_, rfl, q _ (I5.hok.fresh (Nat.le_refl _))⟩
  exact ⟨by rw [List.length_reverse]; exact hz, _, y1, IsTup.new _ _⟩
end
end VG



set_option maxRecDepth 100000
set_option maxHeartbeats 2000000
/-! A lambda that outlives the call that made it: its cells are tracked by what stands in them, and left untracked while it runs. -/
namespace VG
open PySem PySem.Spec PyProof.Rows L2 LamX
/-- the cells tracked -/
def adG (Γ : Addr → Option Obj) (H : Hp) : Hp := fun a => match Γ a with
  | some o => some (.ext fun h => h.get? a = some o)
  | none => H a
/-- the cells left out -/
def stG (Γ : Addr → Option Obj) (H : Hp) : Hp := fun a => match Γ a with
  | some _ => none
  | none => H a
def AdAt (Γ : Addr → Option Obj) (H : Hp) : Prop := ∀ a o, Γ a = some o → H a = some (.ext fun h => h.get? a = some o)
section
variable {P : Program} {w : World} {Γ : Addr → Option Obj} {H H' : Hp} {h : Heap}
theorem ad_some {a : Addr} {o : Obj} (e : Γ a = some o) : adG Γ H a = some (.ext fun h => h.get? a = some o) := by unfold adG; rw [e]
theorem ad_none {a : Addr} (e : Γ a = none) : adG Γ H a = H a := by unfold adG; rw [e]
theorem st_some {a : Addr} {o : Obj} (e : Γ a = some o) : stG Γ H a = none := by unfold stG; rw [e]
theorem st_none {a : Addr} (e : Γ a = none) : stG Γ H a = H a := by unfold stG; rw [e]
theorem st_of {a : Addr} (n : H a = none) : stG Γ H a = none := by
  cases e : Γ a with
  | none => rw [st_none e]; exact n
  | some o => exact st_some e
theorem st_is {a : Addr} {x : HO} (e : stG Γ H a = some x) : Γ a = none ∧ H a = some x := by
  cases g : Γ a with
  | none => rw [st_none g] at e; exact ⟨rfl, e⟩
  | some o => rw [st_some g] at e; cases e
theorem AdAt.out (A : AdAt Γ H) {a : Addr} {x : HO} (e : H a = some x) (n : ∀ φ, x ≠ .ext φ) : Γ a = none := by
  cases g : Γ a with
  | none => rfl
  | some o =>
    rw [A a o g] at e
    exact absurd (Option.some.inj e).symm (n _)
theorem AdAt.outN (A : AdAt Γ H) {a : Addr} (e : H a = none) : Γ a = none := by
  cases g : Γ a with
  | none => rfl
  | some o => rw [A a o g] at e; cases e
theorem AdAt.ext (A : AdAt Γ H) (e : ExtN H H') : AdAt Γ H' := fun a o g => e _ _ (A a o g) (fun ps z => by cases z)
theorem st_hok (A : AdAt Γ H) (x : HOk P w H h) : HOk P w (stG Γ H) h := fun a o e => by
  obtain ⟨_, e2⟩ := st_is e
  refine (x a o e2).stay (fun _ _ _ q => q) (fun b q => ?_) (fun b xs q => ?_)
  · rw [st_none (A.out q (fun φ z => by cases z))]; exact q
  · rw [st_none (A.out q (fun φ z => by cases z))]; exact q
theorem ad_hok (x : HOk P w H h) (n : ∀ a o, Γ a = some o → H a = none) (c : ∀ a o, Γ a = some o → h.get? a = some o) : HOk P w (adG Γ H) h := fun a o e => by
  have up : ∀ {b : Addr} {y : HO}, H b = some y → adG Γ H b = some y := fun {b y} q => by
    cases g : Γ b with
    | none => rw [ad_none g]; exact q
    | some z => rw [n b z g] at q; cases q
  cases g : Γ a with
  | none =>
    rw [ad_none g] at e
    exact (x a o e).stay (fun _ _ _ q => q) (fun b q => up q) (fun b xs q => up q)
  | some z =>
    rw [ad_some g] at e
    cases e
    exact ⟨c a z g, ⟨z, c a z g⟩, fun h1 h2 e1 k => k z e1⟩
end
section
variable {P : Program} {w : World} {K : PySem.W.Frag} {mg : Str → Option Value} {base : Heap} {Γ Γ' : Addr → Option Obj} {k : Nat} {f : Addr} {H H0 : Hp} {tb0 tb : XK → Hp → VK → Prop}
/-- such a thing by itself, whatever else lives -/
theorem thk_adopt (T : Thk P w K mg base Γ k f H0 tb0) (A0 : AdAt Γ H) (e : ExtN H0 (stG Γ H)) (hT : ∀ E H' Q, ExtN H H' → tb E H' Q → tb0 (fun cls d H2 => (∀ a o, Γ a = some o → H2 a = none) → E cls d (adG Γ H2)) (stG Γ H') (fun v H2 => (∀ a o, Γ a = some o → H2 a = none) → Q v (adG Γ H2))) : Thk P w K mg base Γ' k f H tb := by
  have e0 : ∀ {H'}, ExtN H H' → ExtN H0 (stG Γ H') := fun {H'} z b o q nt => by
    obtain ⟨g, q2⟩ := st_is (e b o q nt)
    rw [st_none g]
    exact z b o q2 nt
  refine ⟨fun H' h z ok => T.1 _ h (e0 z) (st_hok (A0.ext z) ok), fun A outer s H' E Q z hr en _ q => ?_⟩
  have A1 := A0.ext z
  have there : ∀ a o, Γ a = some o → s.heap.get? a = some o := fun a o g => (en.hok a _ (A1 a o g)).1
  have off : ∀ a o, Γ a = some o → a ∉ frs outer := fun a o g hb => by
    have := en.frf a hb
    rw [A1 a o g] at this
    cases this
  have en2 : Env0 P w K mg base A outer s (stG Γ H') := ⟨en.frames, en.mod, fun b o q => ⟨(en.bs b o q).1, st_of (en.bs b o q).2⟩, en.bsz, en.funs, fun b hb => st_of (en.frf b hb), st_hok A1 en.hok, en.bare⟩
  refine codeAny_mono (T.2 A outer s _ _ _ (e0 z) hr en2 (fun c o g => ⟨there c o g, st_some g, off c o g⟩) (hT E H' Q z q)) fun r s' hq => ?_
  have inn : ∀ {b : Addr} {x : HO}, H' b = some x → (∀ φ, x ≠ .ext φ) → stG Γ H' b = some x ∧ Γ b = none := fun {b x} q n => by
    have g := A1.out q n
    exact ⟨by rw [st_none g]; exact q, g⟩
  rcases r with ex | fl
  · obtain ⟨a, B, H3, cls, d, rfl, fz, hok, ub, na, os, ag, hE⟩ := hq
    have kc : ∀ a o, Γ a = some o → B.get? a = some o := fun a o g => ub.keep a o (there a o g) (st_some g) (off a o g)
    have kn : ∀ a o, Γ a = some o → H3 a = none := fun a o g => ub.free a o (there a o g) (st_some g)
    refine ⟨a, B, adG Γ H3, cls, d, rfl, fz, ad_hok hok kn kc, ⟨fun b o g n hf => ub.keep b o g (st_of n) hf, ub.slot, fun b o g n => ?_, ub.there, fun b xs q => ?_, fun b o xs q => ?_, fun b ps q => ?_⟩, ?_, os, ag, hE kn⟩
    · rw [ad_none (A1.outN n)]; exact ub.free b o g (st_of n)
    · obtain ⟨q1, q2⟩ := inn q (fun φ z => by cases z); rw [ad_none q2]; exact ub.tups b xs q1
    · obtain ⟨q1, q2⟩ := inn q (fun φ z => by cases z); rw [ad_none q2]; exact ub.frzs b o xs q1
    · obtain ⟨q1, q2⟩ := inn q (fun φ z => by cases z); rw [ad_none q2]; exact ub.tbls b ps q1
    · cases g : Γ a with
      | none => rw [ad_none g]; exact na
      | some o =>
        have := fz.2.1
        rw [kc a o g] at this
        cases this
  · cases fl with
    | ret u =>
      obtain ⟨v, H3, os, ag, un, hok, rv, hQ⟩ := hq
      have nx : ∀ b : Addr, b ∉ ([] : List Addr) := fun b hb => nomatch hb
      have kc : ∀ a o, Γ a = some o → s'.heap.get? a = some o := fun a o g => un.keep a o (there a o g) (st_some g) (off a o g) (nx a)
      have kn : ∀ a o, Γ a = some o → H3 a = none := fun a o g => un.free a o (there a o g) (st_some g) (nx a)
      refine ⟨v, adG Γ H3, os, ag, ⟨fun b o g n => un.keep b o g (st_of n), fun b o g n => un.slot b o g (st_of n), fun b o g n hx => ?_, un.there, fun b xs q => ?_, fun b o xs q => ?_, fun b ps q => ?_⟩, ad_hok hok kn kc, rv, hQ kn⟩
      · rw [ad_none (A1.outN n)]; exact un.free b o g (st_of n) hx
      · obtain ⟨q1, q2⟩ := inn q (fun φ z => by cases z); rw [ad_none q2]; exact un.tups b xs q1
      · obtain ⟨q1, q2⟩ := inn q (fun φ z => by cases z); rw [ad_none q2]; exact un.frzs b o xs q1
      · obtain ⟨q1, q2⟩ := inn q (fun φ z => by cases z); rw [ad_none q2]; exact un.tbls b ps q1
    | next => exact False.elim hq
    | brk => exact False.elim hq
    | cont => exact False.elim hq
end
theorem ad_upd {Γ : Addr → Option Obj} {H : Hp} {a : Addr} {x : HO} (g : Γ a = none) : adG Γ (upd H a x) = upd (adG Γ H) a x := by
  funext b
  by_cases e : b = a
  · rw [e, ad_none g, upd_same, upd_same]
  · rw [upd_ne e]
    unfold adG
    rw [upd_ne e]
theorem ad_same {Γ : Addr → Option Obj} {H H3 : Hp} (A : AdAt Γ H) (s : Same (stG Γ H) H3) : Same H (adG Γ H3) := fun b o e => by
  cases g : Γ b with
  | none =>
    rw [ad_none g]
    exact s b o (by rw [st_none g]; exact e)
  | some z =>
    rw [A b z g] at e
    rw [ad_some g]
    exact e
section
variable {X : Cx} {σ : L2.St} {H' : Hp} {s' : Shared}
/-- a call's end, the cells tracked from then on -/
theorem ce_adopt {Q : VK} {v : V} {u : Value} (J : Inv X [] σ H' s') (hx : X.ex = []) (hfn : X.fn = fun _ => true) (ok0 : HOk X.prog X.w X.H_0 X.s_0.heap) (rv : RelV v u) (q : Q v (adG (cellsAt X s'.heap) H')) : CE X.outer X.prog X.w X.H_0 X.s_0 Q u s' := by
  have cell : ∀ b o, cellsAt X s'.heap b = some o → X.s_0.heap.objs.size ≤ b ∧ s'.heap.get? b = some o ∧ H' b = none := fun b o e => by
    obtain ⟨⟨y, hy⟩, ho⟩ := cellsAt_is e
    exact ⟨J.ok.cab y b (by rw [hfn]) hy, ho, J.freeC y b hy⟩
  have out : ∀ b, b < X.s_0.heap.objs.size → cellsAt X s'.heap b = none := fun b lt => by
    cases g : cellsAt X s'.heap b with
    | none => rfl
    | some o => exact absurd (Nat.lt_of_lt_of_le lt (cell b o g).1) (Nat.lt_irrefl _)
  have un := J.base
  rw [hx] at un
  refine ⟨v, _, J.os, J.bare, ⟨un.keep, un.slot, fun b o g n hb => ?_, un.there, fun b xs e => ?_, fun b o xs e => ?_, fun b ps e => ?_⟩, ad_hok J.hok (fun a o g => (cell a o g).2.2) (fun a o g => (cell a o g).2.1), rv, q⟩
  · rw [ad_none (out b (Heap.lt_size g))]; exact un.free b o g n hb
  · rw [ad_none (out b (ok0.lt e))]; exact un.tups b xs e
  · rw [ad_none (out b (ok0.lt e))]; exact un.frzs b o xs e
  · rw [ad_none (out b (ok0.lt e))]; exact un.tbls b ps e
end
section
variable {P : Program} {w : World} {K : PySem.W.Frag} {mg : Str → Option Value} {base : Heap}
/-- a def's run, its end seen with the frame as it stands -/
theorem fin_run {x qual : Str} {st : Stmt} {f cc : Addr} {fd : FuncData} {N ps : List Str} {k : Nat} {A : Around} {outer : List Env} {s : Shared} {H : Hp} {args : Args} {us : List Value} {vs : List V} {Q Q1 : VK} {E : XK}
    (F : Fun K x qual st f fd) (hcc : fd.code = .ref cc) (S : FnScope N ps (defScope st)) (hr : Room (k + 1) A) (e0 : Env0 P w K mg base A outer s H) (hb : BindsTo s fd args (ps.zip us)) (r : Vals vs us) (hl : vs.length = ps.length)
    {e : Expr} {pos : Pos} {te : TE} (hst : defBody st = [.Return (some e) pos])
    (hbody : Room k (A.deeper (envOfC qual (defScope st) s.heap.objs.size f (.ref cc))) → PE (cxOf CX0 P w K mg base N qual (defScope st) f (.ref cc) A outer s H E) e te ∧ te (L2.start N vs) H Q1)
    (hpost : ∀ (H' : Hp) (s' : Shared) (v : V) (u : Value), Inv (cxOf CX0 P w K mg base N qual (defScope st) f (.ref cc) A outer s H E) [] (L2.start N vs) H' s' → RelV v u → Q1 v H' → CE outer P w H s Q u s') :
    codeAny (model P w) A (.call (.ref f) args) (CR CX0 outer P w H s Q E) s := by
  obtain ⟨oc, od, kV, doc, pm, an, cdv, ct, osl, rfl, lk, hcd⟩ := F.ex
  have ec : cdv = .ref cc := hcc
  subst ec
  have there : K.In s.heap := e0.mod.kin.keeps fun b o z => And.left (e0.bs b o z)
  have room : s.heap.NoLimit := e0.mod.nolimit.keeps fun b o z => And.left (e0.bs b o z)
  refine codeAny_call_function hr.depth (there _ _ lk) rfl S.co S.gen rfl (PySem.W.codeRec_of there hcd) (hb _ _ _ _ ?_)
  refine wpAny_newFunctionEnv_cells S.kind ?_ ?_
  · rintro ⟨n, v⟩ hy
    have hp := S.par n (List.of_mem_zip hy).1
    exact hp.imp id fun z => ⟨z, PySem.W.cellsFrom_some _ _ _ (Or.inl z)⟩
  · rintro env he s1 inn
    subst he
    refine ⟨room.keeps inn.toInCall.keep, codeAny_func ?_⟩
    obtain ⟨he, hq⟩ := hbody (hr.deeper _)
    have J := inv_start (CX := CX0) (E := E) (w := w) (P := P) (K := K) (mg := mg) S hr.hd e0 hl r inn
    rw [hst]
    refine wpAny_execs_cons (wpAny_Return_some (thn (he.run [] s1 _ H _ J hq) ?_))
    rintro u s2 ⟨v, H2, J2, rv, q2⟩
    exact hpost H2 s2 v u J2 rv q2
end
section
variable {X : Cx}
/-- x(a, ..) where slot i holds this def -/
def tCallV (g : Addr) (i : Nat) (sp : Sp) (E : XK) (t : TA) : TE := fun σ H Q => σ[i]? = some (some (.ref g)) ∧ t σ H fun vs H1 => sp vs H1 Q E
theorem pe_callV {CX : CXT} {k i : Nat} {g : Addr} {fd : FuncData} {ps : List Str} {sp : Sp} {E : XK} {a : Str} {p pos : Pos} {e : Expr} {es : List Expr} {t : TA} (F : FnOk X.prog X.w X.K X.mg X.base CX k g fd ps sp) (hr : Room k X.A) (hk : PySem.W.keepIn X.K (.ref g) = true) (hb : L2.Binds X.K fd ps []) (hx : Passes CX X E)
    (ha : PA X (e :: es) t) (hN : X.N[i]? = some a) (hv : Vis X.env.scope a) (dbg : (a == ("__debug__" : Str)) = false := by decide) (cdc : (a == ("__classdict__" : Str)) = false := by decide) (he : starEach (e :: es) X.env = (false, eval e X.env) :: starEach es X.env := by rfl) (hpl : (backTo pos (starEach es X.env)).any (·.1) = false := by rfl) :
    PE X (.Call (.Name a p) (e :: es) [] pos) (tCallV g i sp E t) := by
  refine ⟨?_⟩
  rintro pins s σ H Q I ⟨slot, h⟩
  refine wpAny_Call_Name_kw (thn ((pe_var (pos := p) (i := i) hN hv dbg cdc).run pins s σ H (fun v H1 => v = .ref g ∧ H1 = H) I ⟨.ref g, slot, rfl, rfl⟩) ?_)
  rintro u s1 ⟨v, H1, I1, r1, ev, eH⟩
  subst ev
  subst eH
  obtain rfl : u = Value.ref g := r1
  refine PySem.W.callWith_K (h₀ := X.base) I1.ok.mod.kin hk (thn (ha.run pos pins s1 σ _ _ I1 h) ?_) he hpl
  rintro us s2 ⟨vs, H2, I2, r2, q⟩
  refine ⟨I2.kIn, ?_⟩
  have q0 : sp (vs ++ []) H2 Q E := by rw [List.append_nil]; exact q
  exact run_fn F hr hb .nil hx I2 r2 q0
end
end VG



set_option maxRecDepth 100000
set_option maxHeartbeats 4000000
/-! k35: numbers in texts, by the program's and by the law's own look. -/
namespace K35
open PySem PySem.Spec PyProof.Rows L2 LamX VG TL
def isDig (c : Nat) : Bool := decide (c ∈ (Str.ofString "0123456789").cps.toList)
def digS (z : Str) : Bool := z.cps.toList.all isDig
theorem isDig_iff {c : Nat} : isDig c = true ↔ 48 ≤ c ∧ c ≤ 57 := by
  unfold isDig
  rw [decide_eq_true_eq, show (Str.ofString "0123456789").cps.toList = [48, 49, 50, 51, 52, 53, 54, 55, 56, 57] by decide]
  simp only [List.mem_cons, List.not_mem_nil, or_false]
  omega
theorem digS_all {z : Str} (h : digS z = true) : NumText.AllDigits z.cps.toList := fun c hc => isDig_iff.mp (List.all_eq_true.mp h c hc)
/-- the number that digits tell -/
def valS (z : Str) : Int := ((NumText.digitsVal z.cps.toList : Nat) : Int)
/-- the first sign is a nought, and another one stands behind -/
def led (z : Str) : Bool := match z.cps.toList with
  | 48 :: _ :: _ => true
  | _ => false
/-- the integer that is written so -/
def numOf (z : Str) : Option Int := if z.cps.toList = [] ∨ digS z = false ∨ led z = true then none else some (valS z)
def numIn (z : Str) (lo hi : Int) : Option Int := match numOf z with
  | some n => if lo ≤ n ∧ n ≤ hi then some n else none
  | none => none
def ledL : List Nat → Bool
  | 48 :: _ :: _ => true
  | _ => false
theorem num_head : ∀ n : Nat, ledL (numL n) = false := by
  intro n
  induction n using Nat.strongRecOn with
  | _ n ih =>
    by_cases h : n < 10
    · rw [numL_lt h]
      unfold ledL
      split
      · rename_i e; exact absurd (congrArg List.length e) (by simp)
      · rfl
    · have ih2 := ih (n / 10) (by omega)
      rw [numL_step (by omega)]
      cases e : numL (n / 10) with
      | nil => exact absurd e (numL_ne _)
      | cons d r =>
        by_cases hd : d = 48
        · subst hd
          rw [e] at ih2
          cases r with
          | cons _ _ => cases ih2
          | nil =>
            have v := numL_val (n / 10)
            rw [e] at v
            have : NumText.digitsVal [48] = 0 := rfl
            omega
        · show ledL (d :: (r ++ [48 + n % 10])) = false
          unfold ledL
          split
          · rename_i e2; exact absurd (List.cons.inj e2).1 hd
          · rfl
/-- the text of a number -/
def strN (n : Int) : Str := Str.ofString (toString n)
theorem strN_list (n : Nat) : (strN (n : Int)).cps.toList = numL n := tl_num n
theorem led_eq (z : Str) : led z = ledL z.cps.toList := by
  unfold led ledL
  rfl
theorem str_ext {a b : Str} (h : a.cps.toList = b.cps.toList) : a = b := by
  cases a; cases b
  simp only at h
  rw [Str.mk.injEq]
  exact Array.toList_inj.mp h
theorem numIn_str {n : Nat} {lo hi : Int} (h1 : lo ≤ n) (h2 : (n : Int) ≤ hi) : numIn (strN (n : Int)) lo hi = some (n : Int) := by
  have hl := strN_list n
  have hd : digS (strN (n : Int)) = true := by
    unfold digS
    rw [hl, List.all_eq_true]
    exact fun c hc => isDig_iff.mpr (numL_digits n c hc)
  have hv : valS (strN (n : Int)) = n := by unfold valS; rw [hl, numL_val]
  unfold numIn numOf
  rw [if_neg, hv]
  · exact if_pos ⟨h1, h2⟩
  · rintro (h | h | h)
    · rw [hl] at h; exact numL_ne n h
    · rw [hd] at h; cases h
    · rw [led_eq, hl, num_head] at h; cases h
theorem split_sum (x y : Str) : ((Txt.split x y).map (·.length)).sum + ((Txt.split x y).length - 1) * y.length = x.length := by
  unfold Txt.split
  have key := congrArg (·.length) (StrLaws.glued_between_self x y (x.length + 1))
  simp only [size_glued] at key
  split
  · simp
  · split
    · simp
    · exact key
theorem split_ne (x y : Str) : Txt.split x y ≠ [] := by
  unfold Txt.split
  split
  · simp
  · split
    · simp
    · intro h
      have := congrArg List.length h
      rw [length_partsBetween] at this
      cases this
theorem mem_sum {l : List Nat} {n : Nat} (h : n ∈ l) : n ≤ l.sum := by
  induction l with
  | nil => cases h
  | cons a r ih =>
    rw [List.sum_cons]
    rcases List.mem_cons.mp h with rfl | h
    · omega
    · have := ih h; omega
theorem split_le {x y z : Str} (h : z ∈ Txt.split x y) : z.length ≤ x.length := by
  have := split_sum x y
  have := mem_sum (List.mem_map_of_mem (f := fun s : Str => s.length) h)
  omega
theorem split_many (x y : Str) (h : y.length = 1) : (Txt.split x y).length ≤ x.length + 1 := by
  have := split_sum x y
  rw [h] at this
  omega
theorem join_len (y : Str) (l : List Str) : (Txt.join y l).length = (l.map (·.length)).sum + (l.length - 1) * y.length := size_glued y l
theorem log2_small {n : Nat} (h : n < 10 ^ 9) : n.log2 < 1920 := by
  by_cases h0 : n = 0
  · subst h0; decide
  · exact (Nat.log2_lt h0).mpr (Nat.lt_of_lt_of_le h (Nat.le_trans (by decide) (Nat.pow_le_pow_right (by decide : 0 < 2) (show 30 ≤ 1920 by decide))))
end K35



set_option maxRecDepth 100000
set_option maxHeartbeats 8000000
/-! K35: the text by places; what laws share. -/
namespace K35
open PySem PySem.Spec PyProof.Rows L2 LamX VG
section
variable {P : Program} {w : World} {K : PySem.W.Frag} {mg : Str → Option Value} {base : Heap}
def spWithin (K : PySem.W.Frag) : Sp := fun vs H Q _ => ∃ (v : V) (d : PyData) (lo hi : Int), vs = [v, .int lo, .int hi] ∧ Dk K H v d ∧ Q (.bl (isW d lo hi)) H
end
theorem scInit : FnScope ["self", "value"] ["self", "value"] (defScope sInit) := ⟨rfl, rfl, rfl, by decide +kernel, rfl, by decide +kernel, by decide +kernel⟩
section
variable {P : Program} {w : World} {K : PySem.W.Frag} {mg : Str → Option Value} {base : Heap}
theorem ok_init {f : Addr} {fd : FuncData} {k : Nat} (F : Fun K "__init__" "CoreError.__init__" sInit f fd) : FnOk P w K mg base CX0 (k + 1) f fd ["self", "value"] (spInit K) := by
  refine F.ok scInit (fun vs H Q E h => ?_) (fun cdv A outer s H vs Q E hr h => ?_)
  · obtain ⟨a, C, v, rfl, _⟩ := h
    rfl
  · obtain ⟨a, C, v, rfl, ha, T, hn, q⟩ := h
    refine ⟨_, pss_one (ps_ost (pv 0) (pv 1)), ?_⟩
    exact ⟨v, rfl, .ref a, rfl, a, C, rfl, T, hn, .inl ⟨ha, fun dx n ne => q dx n ne⟩⟩
end
section
variable {X : Cx}
theorem ps_err {W : WX} {x : Str} {C fI : Addr} {fd : FuncData} {k : Nat} {e : Expr} {te : TE} {p pos pos2 : Pos} (hc : X.calm = true) (T : ErrC X.K C fI) (F : Fun X.K "__init__" "CoreError.__init__" sInit fI fd) (b : Binds X.K fd ["self", "value"] []) (hr : Room (k + 2) X.A) (tk : Takes X W)
    (hg : Gl X x) (hm : X.mg x = some (.ref C)) (he : PE X e te) (hdb : (x == ("__debug__" : Str)) = false := by decide) (hs : starEach (e :: []) X.env = (false, eval e X.env) :: starEach [] X.env := by rfl) :
    PS X (.Raise (some (.Call (.Name x p) [e] [] pos)) none pos2) (tErr X.K C W te) := by
  have G : FnOk X.prog X.w X.K X.mg X.base CX0 (k + 1) fI fd ["self", "value"] (spInit X.K) := ok_init F
  have R := ps_raise (pos := pos2) hc tk (pmk_oex (p := p) (pos := pos) (sp := spInit X.K) T.oex T.iC T.tI G hr b .nil pass0 hg hm (pa_cons he pa_nil hs) hdb hs)
  exact ⟨fun pins s σ H D I h => R.run pins s σ H D I h⟩
end
theorem scTake : FnScope ["pot", "upto", "digit", "prime", "blend"] ["pot", "upto"] (defScope sTake) := ⟨rfl, rfl, rfl, by decide +kernel, rfl, by decide +kernel, by decide +kernel⟩
theorem scPot : FnScope ["script", "place", "cell", "own", "small"] ["script", "place"] (defScope sPot) := ⟨rfl, rfl, rfl, by decide +kernel, rfl, by decide +kernel, by decide +kernel⟩
theorem scOf : FnScope ["pot", "some"] ["pot", "some"] (defScope sOf) := ⟨rfl, rfl, rfl, by decide +kernel, rfl, by decide +kernel, by decide +kernel⟩
theorem scCells : FnScope ["script", "most"] ["script", "most"] (defScope sCells) := ⟨rfl, rfl, rfl, by decide +kernel, rfl, by decide +kernel, by decide +kernel⟩
section
variable {P : Program} {w : World} {K : PySem.W.Frag} {mg : Str → Option Value} {base : Heap}
def spTake : Sp := fun vs H Q _ => ∃ (p : Addr) (u : Int) (n : Nat), vs = [.ref p, .int u] ∧ 0 < u ∧ u < 1000000 ∧ Pot H p n ∧ n < 1000000 ∧ ∀ d H', 0 ≤ d → d < u → Pot H' p (n + 1) → Same (wo H p) (wo H' p) → Q (.int d) H'
theorem ok_take {f : Addr} {fd : FuncData} {k : Nat} (F : Fun K "_law_take" "_law_take" sTake f fd) (mi : mg "int" = none) : FnOk P w K mg base CX0 (k + 1) f fd ["pot", "upto"] spTake := by
  refine F.ok scTake (fun vs H Q E h => ?_) (fun cdv A outer s H vs Q E hr h => ?_)
  · obtain ⟨p, u, n, rfl, _⟩ := h
    rfl
  · obtain ⟨p, u, n, rfl, hu0, hu1, ⟨a, b, c, hp, hb0, hb1, hc0, hc1⟩, hn, q⟩ := h
    refine ⟨_, pss_cons (ps_if (pt_cmpR op_gt (pe_ix ix_list (pv 0) pe_int (fun _ _ => rfl)) pe_int (nomark _))
        (pss_cons (ps_set (i := 2) scTake.nd rfl (.inl rfl) (pe_op op_mod (pe_callTy call_int1 (by rfl) mi (by decide +kernel) (pa_cons (pe_ix ix_list (pv 0) pe_int (fun _ _ => rfl)) pa_nil)) (pv 1)))
        (pss_cons (ps_asg (pe_op op_fdiv (pe_ix ix_list (pv 0) pe_int (fun _ _ => rfl)) (pv 1)) (pg_sub (pv 0) pe_int set_list))
        (pss_one (ps_ret (pv 2))))) pss_nil)
      (pss_cons (ps_asg (pe_op op_add (pe_ix ix_list (pv 0) pe_int (fun _ _ => rfl)) pe_int) (pg_sub (pv 0) pe_int set_list))
      (pss_cons (ps_set (i := 3) scTake.nd rfl (.inl rfl) (pe_ix ix_list (pe_lst (pa_cons pe_int (pa_cons pe_int (pa_cons pe_int (pa_cons pe_int (pa_cons pe_int pa_nil)))))) (pe_op op_mod (pe_callTy call_int1 (by rfl) mi (by decide +kernel) (pa_cons (pe_ix ix_list (pv 0) pe_int (fun _ _ => rfl)) pa_nil)) pe_int) (fun _ _ => rfl)))
      (pss_cons (ps_set (i := 4) scTake.nd rfl (.inl rfl) (pe_op op_mod (pe_callTy call_int1 (by rfl) mi (by decide +kernel) (pa_cons (pe_op op_pow (pe_callTy call_int1 (by rfl) mi (by decide +kernel) (pa_cons
          (pe_op op_add (pe_op op_add (pe_ix ix_list (pv 0) pe_int (fun _ _ => rfl)) (pe_op op_mul (pe_op op_mul pe_int (pe_ix ix_list (pv 0) pe_int (fun _ _ => rfl))) (pe_ix ix_list (pv 0) pe_int (fun _ _ => rfl)))) pe_int) pa_nil)) pe_int) pa_nil)) (pv 3)))
      (pss_cons (ps_set (i := 4) scTake.nd rfl (.inl rfl) (pe_op op_mod (pe_callTy call_int1 (by rfl) mi (by decide +kernel) (pa_cons (pe_op op_mul (pv 4)
          (pe_op op_add (pe_op op_mod (pe_callTy call_int1 (by rfl) mi (by decide +kernel) (pa_cons (pv 4) pa_nil)) pe_int) (pe_op op_mul pe_int (pe_ix ix_list (pv 0) pe_int (fun _ _ => rfl))))) pa_nil)) pe_int))
      (pss_one (ps_ret (pe_op op_mod (pe_callTy call_int1 (by rfl) mi (by decide +kernel) (pa_cons (pe_op op_fdiv (pv 4) pe_int) pa_nil)) (pv 1)))))))), ?_⟩
    have i0 : ∀ {x y z : Int}, atI [V.int x, V.int y, V.int z] 0 = some (.int x) := at_of (j := 0) rfl rfl
    have i1 : ∀ {x y z : Int}, atI [V.int x, V.int y, V.int z] 1 = some (.int y) := at_of (j := 1) rfl rfl
    have i2 : ∀ {x y z : Int}, atI [V.int x, V.int y, V.int z] 2 = some (.int z) := at_of (j := 2) rfl rfl
    refine ⟨.ref p, rfl, p, _, 0, _, rfl, rfl, SqL.of hp, i0, a, 0, rfl, rfl, _, rfl, ite2 (fun e => ?_) (fun e => ?_)⟩
    · have ha : 0 < a := of_decide_eq_true e
      refine ⟨.ref p, rfl, p, _, 0, _, rfl, rfl, SqL.of hp, i0, .inl ⟨a, rfl, _, rfl, a, u, rfl, rfl, hu0, ?_⟩⟩
      refine ⟨.ref p, rfl, p, _, 0, _, rfl, rfl, SqL.of hp, i0, _, rfl, a, u, rfl, rfl, ⟨hu0, by omega⟩, ?_⟩
      refine ⟨.ref p, rfl, p, _, 0, 0, rfl, rfl, hp, rfl, _, rfl, ?_⟩
      refine q (a % u) _ (Int.emod_nonneg _ (by omega)) (Int.emod_lt_of_pos _ hu0) ⟨a / u, b, c, upd_same, hb0, hb1, hc0, by omega⟩ ?_
      rw [wo_upd]
      exact Same.refl _
    · refine ⟨.ref p, rfl, p, _, 2, _, rfl, rfl, SqL.of hp, i2, c, 1, rfl, rfl, ?_⟩
      refine ⟨.ref p, rfl, p, _, 2, 2, rfl, rfl, hp, rfl, ?_⟩
      have hp2 : upd H p (.lst ([V.int a, .int b, .int c].set 2 (.int (c + 1)))) p = some (.lst [.int a, .int b, .int (c + 1)]) := upd_same
      refine ⟨by show 5 ≤ sizeLine; decide, fun l nl => ?_⟩
      have hpl : p ≠ l := ne_of_none hp2 nl
      have hp3 : upd (upd H p (.lst ([V.int a, .int b, .int c].set 2 (.int (c + 1))))) l (.lst [.int 2147483647, .int 2147483629, .int 2147483587, .int 2147483579, .int 2147483563]) p = some (.lst [.int a, .int b, .int (c + 1)]) := by rw [upd_ne hpl]; exact hp2
      have hprime : ∃ pr : Int, atI [V.int 2147483647, .int 2147483629, .int 2147483587, .int 2147483579, .int 2147483563] ((c + 1) % 5) = some (.int pr) ∧ 0 < pr ∧ pr < 2147483648 := by
        have h5 : (c + 1) % 5 = 0 ∨ (c + 1) % 5 = 1 ∨ (c + 1) % 5 = 2 ∨ (c + 1) % 5 = 3 ∨ (c + 1) % 5 = 4 := by omega
        rcases h5 with h | h | h | h | h <;> rw [h]
        · exact ⟨_, at_of (j := 0) rfl rfl, by decide, by decide⟩
        · exact ⟨_, at_of (j := 1) rfl rfl, by decide, by decide⟩
        · exact ⟨_, at_of (j := 2) rfl rfl, by decide, by decide⟩
        · exact ⟨_, at_of (j := 3) rfl rfl, by decide, by decide⟩
        · exact ⟨_, at_of (j := 4) rfl rfl, by decide, by decide⟩
      obtain ⟨pr, hpr, pr0, pr1⟩ := hprime
      refine ⟨.ref p, rfl, p, _, 2, _, rfl, rfl, SqL.of hp3, i2, .inl ⟨c + 1, rfl, c + 1, 5, rfl, rfl, (by show (0 : Int) < 5; decide), ?_⟩⟩
      refine ⟨l, _, (c + 1) % 5, .int pr, rfl, rfl, SqL.of upd_same, hpr, ?_⟩
      -- blend
      refine ⟨.ref p, rfl, p, _, 1, _, rfl, rfl, SqL.of hp3, i1, .ref p, rfl, p, _, 2, _, rfl, rfl, SqL.of hp3, i2, 112086, c + 1, rfl, rfl, .inl ⟨by decide, by decide⟩, ?_⟩
      have hcc : 0 ≤ 112086 * (c + 1) ∧ 112086 * (c + 1) ≤ 112086 * 1000000 := by omega
      refine ⟨.ref p, rfl, p, _, 2, _, rfl, rfl, SqL.of hp3, i2, 112086 * (c + 1), c + 1, rfl, rfl, .inl ⟨by omega, by omega⟩, ?_⟩
      have hsq : 0 ≤ 112086 * (c + 1) * (c + 1) ∧ 112086 * (c + 1) * (c + 1) ≤ 112086 * 1000000 * 1000000 := ⟨Int.mul_nonneg hcc.1 (by omega), Int.mul_le_mul hcc.2 (by omega) (by omega) (by omega)⟩
      refine ⟨b, 112086 * (c + 1) * (c + 1), rfl, rfl, b + 112086 * (c + 1) * (c + 1), 2355, rfl, rfl, .inl ⟨_, rfl, ?_⟩⟩
      refine ⟨_, 3, rfl, rfl, ⟨by decide, by decide, by omega⟩, .inl ⟨_, rfl, _, rfl, _, pr, rfl, rfl, pr0, ?_⟩⟩
      generalize hz : (b + 112086 * (c + 1) * (c + 1) + 2355) ^ (3 : Int).toNat = z
      have hm1 : 0 ≤ z % pr := Int.emod_nonneg _ (by omega)
      have hm2 : z % pr < pr := Int.emod_lt_of_pos _ pr0
      refine ⟨_, rfl, _, rfl, .inl ⟨_, rfl, _, 13402, rfl, rfl, (by show (0 : Int) < 13402; decide), ?_⟩⟩
      refine ⟨.ref p, rfl, p, _, 2, _, rfl, rfl, SqL.of hp3, i2, 545, c + 1, rfl, rfl, .inl ⟨by decide, by decide⟩, _, _, rfl, rfl, ?_⟩
      refine ⟨z % pr, _, rfl, rfl, .inl ⟨by omega, by omega⟩, .inl ⟨_, rfl, _, 2305843009213693907, rfl, rfl, (by show (0 : Int) < 2305843009213693907; decide), ?_⟩⟩
      refine ⟨_, rfl, _, 167, rfl, rfl, ⟨by decide, by decide⟩, .inl ⟨_, rfl, _, rfl, _, u, rfl, rfl, hu0, ?_⟩⟩
      refine q _ _ (Int.emod_nonneg _ (by omega)) (Int.emod_lt_of_pos _ hu0) ⟨a, b, c + 1, hp3, hb0, hb1, by omega, by omega⟩ fun x o e => ?_
      have hx : x ≠ p := fun z => by
        rw [z, wo_same] at e
        cases e
      rw [wo_ne hx] at e ⊢
      have nl2 := nl
      rw [upd_ne hpl.symm] at nl2
      rw [upd_ne (fun z => by rw [z, nl2] at e; cases e), upd_ne hx]
      exact e
/-- some[..]: any item of it -/
def spOf (K : PySem.W.Frag) : Sp := fun vs H Q _ => ∃ (p l : Addr) (xs : List V) (n : Nat), vs = [.ref p, .ref l] ∧ SqL K (wo H p) l xs ∧ xs ≠ [] ∧ xs.length ≤ 1000 ∧ Pot H p n ∧ n < 1000000 ∧ ∀ x ∈ xs, ∀ H', Pot H' p (n + 1) → Same (wo H p) (wo H' p) → Q x H'
theorem ok_of {f f1 : Addr} {fd fd1 : FuncData} {k : Nat} (F : Fun K "_law_of" "_law_of" sOf f fd) (G1 : FnOk P w K mg base CX0 (k + 1) f1 fd1 ["pot", "upto"] spTake) (k1 : PySem.W.keepIn K (.ref f1) = true) (b1 : Binds K fd1 ["pot", "upto"] []) (g1 : mg "_law_take" = some (.ref f1)) (ml : mg "len" = none) :
    FnOk P w K mg base CX0 (k + 2) f fd ["pot", "some"] (spOf K) := by
  refine F.ok scOf (fun vs H Q E h => ?_) (fun cdv A outer s H vs Q E hr h => ?_)
  · obtain ⟨p, l, xs, n, rfl, _⟩ := h
    rfl
  · obtain ⟨p, l, xs, n, rfl, hl, hne, hlen, hp, hn, q⟩ := h
    refine ⟨_, pss_one (ps_ret (pe_ix ix_list (pv 1) (pe_call G1 hr (by rfl) g1 k1 b1 .nil pass0 (pa_cons (pv 0) (pa_cons (pe_callB call_len_seq (by rfl) ml PySem.boot_len (pa_cons (pv 1) pa_nil)) pa_nil))) (fun _ _ => rfl))), ?_⟩
    have h0 : 0 < xs.length := List.length_pos_iff.mpr hne
    refine ⟨.ref l, rfl, .ref p, rfl, .ref l, rfl, l, xs, rfl, .inl (wo_le.seq hl), ?_⟩
    refine ⟨p, (xs.length : Nat), n, rfl, by omega, by omega, hp, hn, fun d H' d0 d1 hp' s' => ?_⟩
    have ed : d = ((d.toNat : Nat) : Int) := by omega
    have hd : d.toNat < xs.length := by omega
    exact ⟨l, xs, d, xs[d.toNat], rfl, rfl, wo_le.seq (s'.seq hl), at_of ed (List.getElem?_eq_getElem hd), q _ (List.getElem_mem hd) H' hp' s'⟩
end
section
variable {P : Program} {w : World} {K : PySem.W.Frag} {mg : Str → Option Value} {base : Heap}
/-- the cells: [0], or [0, 1] -/
def spCells (K : PySem.W.Frag) : Sp := fun vs H Q _ => ∃ (a : Addr) (ns : List Int), vs = [.ref a, .int 1] ∧ SqL K H a (ns.map V.int) ∧ ns.length ≤ 63 ∧ ∀ (q : Addr) (m : Nat), m ≤ 1 → H q = none → Q (.ref q) (upd H q (.lst ((List.range m).map fun i => V.int (i : Nat))))
theorem ok_cells {f : Addr} {fd : FuncData} {k : Nat} (F : Fun K "_law_cells" "_law_cells" sCells f fd) (ml : mg "list" = none) (mr : mg "range" = none) (mx : mg "max" = none) (mn : mg "min" = none) (me : mg "len" = none) : FnOk P w K mg base CX0 (k + 1) f fd ["script", "most"] (spCells K) := by
  refine F.ok scCells (fun vs H Q E h => ?_) (fun cdv A outer s H vs Q E hr h => ?_)
  · obtain ⟨a, ns, rfl, _⟩ := h
    rfl
  · obtain ⟨a, ns, rfl, hs, hn, q⟩ := h
    refine ⟨_, pss_one (ps_ret (pe_listRg rfl (by rfl) ml (prg_1 (by rfl) mr (pe_callB (call_max2 rfl) (by rfl) mx (by decide +kernel) (pa_cons pe_int (pa_cons (pe_callB (call_min2 rfl) (by rfl) mn (by decide +kernel) (pa_cons (pv 1) (pa_cons (pe_callB call_len_seq (by rfl) me PySem.boot_len (pa_cons (pv 0) pa_nil)) pa_nil))) pa_nil)))))), ?_⟩
    refine ⟨_, rfl, .ref a, rfl, a, _, rfl, .inl hs, 1, _, rfl, 1, _, rfl, _, rfl, ?_⟩
    have key : ∀ x : Int, 0 ≤ x → x ≤ 1 → RgOk 0 x ∧ ∀ q_1, H q_1 = none → Q (.ref q_1) (upd H q_1 (.lst (rgV 0 x))) := fun x h0 h2 => by
      refine ⟨RgOk.of_le (by omega) (by omega) (by omega) (by omega), fun p hp => ?_⟩
      have e : rgV 0 x = (List.range x.toNat).map fun i => V.int (i : Nat) := by
        unfold rgV
        rw [Int.sub_zero]
        simp
      rw [e]
      exact q p x.toNat (by omega) hp
    have l63 : ((((ns.map V.int).length : Nat)) : Int) ≥ 0 := Int.natCast_nonneg _
    refine key _ ?_ ?_ <;> split <;> (try split) <;> omega
/-- a new pot of a cell -/
def spPot (K : PySem.W.Frag) : Sp := fun vs H Q _ => ∃ (a : Addr) (ns : List Int) (i : Nat), vs = [.ref a, .int (i : Nat)] ∧ SqL K H a (ns.map V.int) ∧ ns.length ≤ 63 ∧ i ≤ 2 ∧ ∀ (q : Addr) (H' : Hp), H q = none → Same H H' → Pot H' q 0 → Q (.ref q) H'
theorem ok_pot {f : Addr} {fd : FuncData} {k : Nat} (F : Fun K "_law_pot" "_law_pot" sPot f fd) (ml : mg "len" = none) (ms : mg "sum" = none) (mi : mg "int" = none) (ma : mg "abs" = none) : FnOk P w K mg base CX0 (k + 1) f fd ["script", "place"] (spPot K) := by
  refine F.ok scPot (fun vs H Q E h => ?_) (fun cdv A outer s H vs Q E hr h => ?_)
  · obtain ⟨a, ns, i, rfl, _⟩ := h
    rfl
  · obtain ⟨a, ns, i, rfl, hs, hn, hi, q⟩ := h
    refine ⟨_, pss_cons (ps_set (i := 2) scPot.nd rfl (.inl rfl) (pe_ifExp (pt_cmpR op_lt (pv 1) (pe_callB call_len_seq (by rfl) ml PySem.boot_len (pa_cons (pv 0) pa_nil)) (nomark _)) (pe_ix ix_list (pv 0) (pv 1) (fun _ _ => rfl))
        (pe_op op_add (pe_op op_add (pe_op op_mod (pe_callB (cr_sum rfl) (by rfl) ms (by decide +kernel) (pa_cons (pe_slice sl_list (pv 0) po_none (po_some pe_int)) pa_nil)) pe_int) (pe_op op_mul pe_int (pv 1))) pe_int)))
      (pss_cons (ps_set (i := 3) scPot.nd rfl (.inl rfl) (pe_op op_mul (pe_op op_mod (pe_callTy call_int1 (by rfl) mi (by decide +kernel) (pa_cons (pe_callB call_abs (by rfl) ma (by decide +kernel) (pa_cons (pv 2) pa_nil)) pa_nil)) (pe_op op_powB (pe_op op_pow pe_int pe_int) pe_int))
        (pe_callTy call_int1 (by rfl) mi (by decide +kernel) (pa_cons (pe_cmpR op_ge (pe_callB call_abs (by rfl) ma (by decide +kernel) (pa_cons (pv 2) pa_nil)) (pe_op op_pow pe_int pe_int) (nomark _)) pa_nil))))
      (pss_cons (ps_set (i := 4) scPot.nd rfl (.inl rfl) (pe_op op_mod (pe_callTy call_int1 (by rfl) mi (by decide +kernel) (pa_cons (pv 2) pa_nil)) pe_int))
      (pss_one (ps_ret (pe_lst (pa_cons (pv 3) (pa_cons (pe_op op_mod (pe_callTy call_int1 (by rfl) mi (by decide +kernel) (pa_cons (pe_op op_add (pe_op op_add (pe_op op_mul (pv 4) pe_int) (pe_op op_mul (pe_op op_mul pe_int (pv 1)) (pv 1))) pe_int) pa_nil)) pe_int) (pa_cons pe_int pa_nil)))))))), ?_⟩
    refine st_seq (st_setH (PV := fun v H' => ∃ c : Int, v = .int c ∧ Same H H') (fun Q1 q1 => ?_) ?_)
    · refine ⟨_, rfl, .ref a, rfl, a, _, rfl, .inl hs, (i : Nat), ((ns.map V.int).length : Nat), rfl, rfl, _, rfl, ite2 (fun e => ?_) (fun e => ?_)⟩
      · have hlt : i < (ns.map V.int).length := by
          have := of_decide_eq_true e
          omega
        have hlt2 : i < ns.length := by rw [List.length_map] at hlt; exact hlt
        refine ⟨.ref a, rfl, _, rfl, a, _, (i : Nat), .int ns[i], rfl, rfl, hs, at_of rfl (by rw [List.getElem?_map, List.getElem?_eq_getElem hlt2]; rfl), ?_⟩
        exact q1 _ _ ⟨_, rfl, Same.refl H⟩
      · refine ⟨.ref a, rfl, ?_⟩
        unfold tNoPart
        refine ⟨((1 : Nat) : Int), rfl, a, _, rfl, hs, fun l nl => ?_⟩
        have e1 : cutV (ns.map V.int) none (some ((1 : Nat) : Int)) = (ns.take 1).map V.int := by rw [cut_take, List.map_take]
        refine ⟨l, ns.take 1, rfl, SqL.of (by rw [upd_same, ← e1]), ?_⟩
        refine ⟨_, 1000003, rfl, rfl, (by show (0 : Int) < 1000003; decide), _, rfl, 2438, (i : Nat), rfl, rfl, .inl ⟨by decide, by decide⟩, _, _, rfl, rfl, _, 996, rfl, rfl, ?_⟩
        exact q1 _ _ ⟨_, rfl, same_upd nl⟩
    rintro v H1 ⟨c, rfl, s1⟩
    refine ⟨_, rfl, c, rfl, .inl ⟨_, rfl, 10, 60, rfl, rfl, ⟨by decide, by decide, by decide⟩, _, 5, rfl, rfl, ⟨by decide, by decide +kernel⟩, _, _, rfl, rfl, (by show (0 : Int) < _; decide +kernel), ?_⟩⟩
    refine ⟨_, rfl, c, rfl, 10, 18, rfl, rfl, ⟨by decide, by decide, by decide⟩, _, _, rfl, rfl, .inr ⟨_, rfl, _, _, rfl, rfl, .inr ?_, ?_⟩⟩
    · exact (by decide : ∀ z : Bool, -(2 ^ 64) < (if z = true then (1 : Int) else 0) ∧ (if z = true then (1 : Int) else 0) < 2 ^ 64) _
    refine ⟨_, rfl, .inl ⟨c, rfl, c, 2305843009213693951, rfl, rfl, (by show (0 : Int) < 2305843009213693951; decide), ?_⟩⟩
    refine ⟨_, rfl, _, rfl, _, 91456, rfl, rfl, .inr ⟨by decide, by decide⟩, _, rfl, 14386, (i : Nat), rfl, rfl, .inl ⟨by decide, by decide⟩, _, rfl, _, (i : Nat), rfl, rfl, .inr ⟨by omega, by omega⟩, ?_⟩
    refine ⟨_, _, rfl, rfl, _, 1315, rfl, rfl, .inl ⟨_, rfl, _, 2305843009213693921, rfl, rfl, (by show (0 : Int) < 2305843009213693921; decide), ?_⟩⟩
    refine ⟨by show 3 ≤ sizeLine; decide, fun p hp => ?_⟩
    refine q p _ (s1.free hp) (s1.trans (same_upd hp)) ⟨_, _, 0, upd_same, Int.emod_nonneg _ (by decide), ?_, by decide, by decide⟩
    have := Int.emod_lt_of_pos (c % 2305843009213693951 * 91456 + 14386 * (i : Int) * (i : Int) + 1315) (show (0 : Int) < 2305843009213693921 by decide)
    omega
end
section
variable {X : Cx} {pins : List (Addr × Obj)} {σ : L2.St} {H : Hp} {s : Shared}
theorem scHeard : FnScope ["call", "caught", "back", "error"] ["call"] (defScope sHeard) := ⟨rfl, rfl, rfl, by decide +kernel, rfl, by decide +kernel, by decide +kernel⟩
end
theorem scIsInt : FnScope ["value", "low", "high"] ["value", "low", "high"] (defScope sIsInt) := ⟨rfl, rfl, rfl, by decide +kernel, rfl, by decide +kernel, by decide +kernel⟩
section
variable {P : Program} {w : World} {K : PySem.W.Frag} {mg : Str → Option Value} {base : Heap}
theorem ok_isInt {f : Addr} {fd : FuncData} {k : Nat} (F : Fun K "_law_is_int" "_law_is_int" sIsInt f fd) (ms : mg "isinstance" = none) (mi : mg "int" = none) (mb : mg "bool" = none) : FnOk P w K mg base CX0 (k + 1) f fd ["value", "low", "high"] (spWithin K) := by
  refine F.ok scIsInt (fun vs H Q E h => ?_) (fun cdv A outer s H vs Q E hr h => ?_)
  · obtain ⟨v, d, lo, hi, rfl, _⟩ := h
    rfl
  · obtain ⟨v, d, lo, hi, rfl, hd, q⟩ := h
    refine ⟨_, pss_one (ps_ret (pe_and (pe_callB call_isi (by rfl) ms (by decide +kernel) (pa_cons (pv 0) (pa_cons (pe_bltn (v := .ty "int") (by rfl) mi (by decide +kernel) rfl) pa_nil)))
      (pe_and (pe_not (pe_callB call_isi (by rfl) ms (by decide +kernel) (pa_cons (pv 0) (pa_cons (pe_bltn (v := .ty "bool") (by rfl) mb (by decide +kernel) rfl) pa_nil))))
      (pe_one (pe_chain op_le op_le (pv 1) (pv 0) (pv 2)))))), ?_⟩
    have ty := hd.tyx
    refine ⟨v, rfl, ?_⟩
    cases d with
    | none => exact ⟨v, .ty "int", .type "NoneType", .type "int", false, rfl, .ty "int", ty, (kit_ty (show kitB "NoneType" "int" = some false by decide +kernel)), _, rfl, iteF q⟩
    | str x => exact ⟨v, .ty "int", .type "str", .type "int", false, rfl, .ty "int", ty, (kit_ty (show kitB "str" "int" = some false by decide +kernel)), _, rfl, iteF q⟩
    | list _ => exact ⟨v, .ty "int", .type "list", .type "int", false, rfl, .ty "int", ty, (kit_ty (show kitB "list" "int" = some false by decide +kernel)), _, rfl, iteF q⟩
    | tuple _ => exact ⟨v, .ty "int", .type "tuple", .type "int", false, rfl, .ty "int", ty, (kit_ty (show kitB "tuple" "int" = some false by decide +kernel)), _, rfl, iteF q⟩
    | dict _ => exact ⟨v, .ty "int", .type "dict", .type "int", false, rfl, .ty "int", ty, (kit_ty (show kitB "dict" "int" = some false by decide +kernel)), _, rfl, iteF q⟩
    | bool b => exact ⟨v, .ty "int", .type "bool", .type "int", true, rfl, .ty "int", ty, (kit_ty (show kitB "bool" "int" = some true by decide +kernel)), _, rfl, iteT ⟨v, rfl, v, .ty "bool", .type "bool", .type "bool", true, rfl, .ty "bool", ty, (kit_ty (show kitB "bool" "bool" = some true by decide +kernel)), _, rfl, _, rfl, iteF q⟩⟩
    | int i =>
      obtain rfl := dk_int hd
      refine ⟨.int i, .ty "int", .type "int", .type "int", true, rfl, .ty "int", ty, (kit_ty (show kitB "int" "int" = some true by decide +kernel)), _, rfl, iteT ⟨.int i, rfl, .int i, .ty "bool", .type "int", .type "bool", false, rfl, .ty "bool", ty, (kit_ty (show kitB "int" "bool" = some false by decide +kernel)), _, rfl, _, rfl, iteT ?_⟩⟩
      refine ⟨_, rfl, _, rfl, lo, i, rfl, rfl, _, rfl, ?_⟩
      by_cases c : lo ≤ i
      · rw [decide_eq_true c]
        refine iteT ⟨_, rfl, i, hi, rfl, rfl, ?_⟩
        have e : isW (.int i) lo hi = decide (i ≤ hi) := by simp [isW, c]
        rw [e] at q
        exact q
      · rw [decide_eq_false c]
        have e : isW (.int i) lo hi = false := by simp [isW, c]
        rw [e] at q
        exact iteF q
end
theorem scOdd : FnScope ["pot", "some"] ["pot"] (defScope sOdd) := ⟨rfl, rfl, rfl, by decide +kernel, rfl, by decide +kernel, by decide +kernel⟩
section
variable {P : Program} {w : World} {K : PySem.W.Frag} {mg : Str → Option Value} {base : Heap}
/-- any value may come: data, apart from the pot -/
def shortB : PyData → Bool
  | .str z => decide (z.length ≤ 640)
  | _ => true
def okOdd (d : PyData) : Bool := okData d && shortB d
def spOdd (K : PySem.W.Frag) : Sp := fun vs H Q _ => ∃ (p : Addr) (n : Nat), vs = [.ref p] ∧ Pot H p n ∧ n < 1000000 ∧ ∀ v d H', Pot H' p (n + 1) → Same (wo H p) (wo H' p) → Dk K (nl H H') v d → okOdd d = true → Q v H'
theorem ok_odd {f f1 : Addr} {fd fd1 : FuncData} {k : Nat} (F : Fun K "_law_odd" "_law_odd" sOdd f fd) (G1 : FnOk P w K mg base CX0 (k + 2) f1 fd1 ["pot", "some"] (spOf K)) (k1 : PySem.W.keepIn K (.ref f1) = true) (b1 : Binds K fd1 ["pot", "some"] []) (g1 : mg "_law_of" = some (.ref f1)) :
    FnOk P w K mg base CX0 (k + 3) f fd ["pot"] (spOdd K) := by
  refine F.ok scOdd (fun vs H Q E h => ?_) (fun cdv A outer s H vs Q E hr h => ?_)
  · obtain ⟨p, n, rfl, _⟩ := h
    rfl
  · obtain ⟨p, n, rfl, hp, hn, q⟩ := h
    refine ⟨_, pss_cons (ps_set (i := 1) scOdd.nd rfl (.inl rfl) (pe_lst (pa_cons pe_non (pa_cons pe_bl (pa_cons pe_bl (pa_cons pe_int (pa_cons pe_int (pa_cons (pe_un un_neg pe_int) (pa_cons pe_int (pa_cons (pe_op op_pow pe_int pe_int) (pa_cons pe_str (pa_cons pe_str (pa_cons pe_str (pa_cons pe_str (pa_cons pe_str (pa_cons pe_str
        (pa_cons (pe_tup pa_nil) (pa_cons (pe_lst pa_nil) (pa_cons pe_dnewK (pa_cons (pe_tup (pa_cons pe_int pa_nil)) (pa_cons (pe_tup (pa_cons pe_int (pa_cons pe_int pa_nil))) pa_nil)))))))))))))))))))))
      (pss_cons (ps_set (i := 1) scOdd.nd rfl (.inl rfl) (pe_op op_cat (pv 1) (pe_lst (pa_cons (pe_tup (pa_cons pe_int (pa_cons pe_int pa_nil))) (pa_cons (pe_tup (pa_cons (pe_tup pa_nil) pa_nil)) (pa_cons (pe_lst (pa_cons pe_int pa_nil)) (pa_cons (pe_tup (pa_cons pe_non pa_nil))
        (pa_cons (pe_disp (pps_cons pe_str pe_int pps_nil) (by rfl) (by rfl) (fun z => by cases z) (by decide)) (pa_cons (pe_tup (pa_cons pe_bl pa_nil)) (pa_cons pe_str (pa_cons pe_str (pa_cons (pe_tup (pa_cons pe_str pa_nil)) (pa_cons pe_int (pa_cons pe_int (pa_cons pe_int (pa_cons (pe_tup (pa_cons pe_int (pa_cons pe_int pa_nil))) pa_nil))))))))))))))))
      (pss_one (ps_ret (pe_call G1 hr (by rfl) g1 k1 b1 .nil pass0 (pa_cons (pv 0) (pa_cons (pv 1) pa_nil)))))), ?_⟩
    have hpp := hp
    obtain ⟨pa, pb, pc, hpe, _⟩ := hpp
    have p0 : Same H H := Same.refl H
    refine ⟨1, rfl, ?_⟩
    refine ⟨10, 8, rfl, rfl, (by unfold CPow; decide), ?_⟩
    refine ⟨by show 0 ≤ sizeLine; decide, fun c1 nc1 => ?_⟩
    have ec1 : c1 ≠ p := fun z => by have hz := p0 _ _ hpe; rw [← z] at hz; exact absurd (nc1.symm.trans hz) (fun y => nomatch y)
    have sc1 := same_upd (o := .tup []) nc1
    have pc1 := p0.trans sc1
    refine ⟨by show 0 ≤ sizeLine; decide, fun c2 nc2 => ?_⟩
    have ec2 : c2 ≠ p := fun z => by have hz := pc1 _ _ hpe; rw [← z] at hz; exact absurd (nc2.symm.trans hz) (fun y => nomatch y)
    have sc2 := same_upd (o := .lst []) nc2
    have pc2 := pc1.trans sc2
    refine fun c3 nc3 => ?_
    have ec3 : c3 ≠ p := fun z => by have hz := pc2 _ _ hpe; rw [← z] at hz; exact absurd (nc3.symm.trans hz) (fun y => nomatch y)
    have sc3 := same_upd (o := .dK []) nc3
    have pc3 := pc2.trans sc3
    refine ⟨by show 1 ≤ sizeLine; decide, fun c4 nc4 => ?_⟩
    have ec4 : c4 ≠ p := fun z => by have hz := pc3 _ _ hpe; rw [← z] at hz; exact absurd (nc4.symm.trans hz) (fun y => nomatch y)
    have sc4 := same_upd (o := .tup [V.int 0]) nc4
    have pc4 := pc3.trans sc4
    refine ⟨by show 2 ≤ sizeLine; decide, fun c5 nc5 => ?_⟩
    have ec5 : c5 ≠ p := fun z => by have hz := pc4 _ _ hpe; rw [← z] at hz; exact absurd (nc5.symm.trans hz) (fun y => nomatch y)
    have sc5 := same_upd (o := .tup [V.int 0, .int 1]) nc5
    have pc5 := pc4.trans sc5
    refine ⟨by show 19 ≤ sizeLine; decide, fun l1 nl1 => ?_⟩
    have el1 : l1 ≠ p := fun z => by have hz := pc5 _ _ hpe; rw [← z] at hz; exact absurd (nl1.symm.trans hz) (fun y => nomatch y)
    have sl1 := same_upd (o := .lst [V.non, .bl true, .bl false, .int 0, .int 1, .int (-1), .int 7, .int (10 ^ 8), .str "", .str "r", .str "rw", .str "wr", .str "x", .str "set r0 1", .ref c1, .ref c2, .ref c3, .ref c4, .ref c5]) nl1
    have pl1 := pc5.trans sl1
    refine ⟨_, rfl, ?_⟩
    refine ⟨by show 2 ≤ sizeLine; decide, fun d1 nd1 => ?_⟩
    have ed1 : d1 ≠ p := fun z => by have hz := pl1 _ _ hpe; rw [← z] at hz; exact absurd (nd1.symm.trans hz) (fun y => nomatch y)
    have sd1 := same_upd (o := .tup [V.int 1, .int 0]) nd1
    have pd1 := pl1.trans sd1
    refine ⟨by show 0 ≤ sizeLine; decide, fun d2 nd2 => ?_⟩
    have ed2 : d2 ≠ p := fun z => by have hz := pd1 _ _ hpe; rw [← z] at hz; exact absurd (nd2.symm.trans hz) (fun y => nomatch y)
    have sd2 := same_upd (o := .tup []) nd2
    have pd2 := pd1.trans sd2
    refine ⟨by show 1 ≤ sizeLine; decide, fun d3 nd3 => ?_⟩
    have ed3 : d3 ≠ p := fun z => by have hz := pd2 _ _ hpe; rw [← z] at hz; exact absurd (nd3.symm.trans hz) (fun y => nomatch y)
    have sd3 := same_upd (o := .tup [V.ref d2]) nd3
    have pd3 := pd2.trans sd3
    refine ⟨by show 1 ≤ sizeLine; decide, fun d4 nd4 => ?_⟩
    have ed4 : d4 ≠ p := fun z => by have hz := pd3 _ _ hpe; rw [← z] at hz; exact absurd (nd4.symm.trans hz) (fun y => nomatch y)
    have sd4 := same_upd (o := .lst [V.int 0]) nd4
    have pd4 := pd3.trans sd4
    refine ⟨by show 1 ≤ sizeLine; decide, fun d5 nd5 => ?_⟩
    have ed5 : d5 ≠ p := fun z => by have hz := pd4 _ _ hpe; rw [← z] at hz; exact absurd (nd5.symm.trans hz) (fun y => nomatch y)
    have sd5 := same_upd (o := .tup [V.non]) nd5
    have pd5 := pd4.trans sd5
    refine fun d6 nd6 => ⟨upd_same, [(.inr "a", .int 1)], rfl, by decide, ?_⟩
    have ed6 : d6 ≠ p := fun z => by have hz := pd5 _ _ hpe; rw [← z] at hz; exact absurd (nd6.symm.trans hz) (fun y => nomatch y)
    have sd6 := Same.updNew (o := .dK (mergeK [] [((.inr "a" : Key), V.int 1)])) (same_upd (o := .dK []) nd6) nd6
    have pd6 := pd5.trans sd6
    refine ⟨by show 1 ≤ sizeLine; decide, fun d7 nd7 => ?_⟩
    have ed7 : d7 ≠ p := fun z => by have hz := pd6 _ _ hpe; rw [← z] at hz; exact absurd (nd7.symm.trans hz) (fun y => nomatch y)
    have sd7 := same_upd (o := .tup [V.bl true]) nd7
    have pd7 := pd6.trans sd7
    refine ⟨by show 1 ≤ sizeLine; decide, fun d9 nd9 => ?_⟩
    have ed9 : d9 ≠ p := fun z => by have hz := pd7 _ _ hpe; rw [← z] at hz; exact absurd (nd9.symm.trans hz) (fun y => nomatch y)
    have sd9 := same_upd (o := .tup [V.str "r"]) nd9
    have pd9 := pd7.trans sd9
    refine ⟨by show 2 ≤ sizeLine; decide, fun d10 nd10 => ?_⟩
    have ed10 : d10 ≠ p := fun z => by have hz := pd9 _ _ hpe; rw [← z] at hz; exact absurd (nd10.symm.trans hz) (fun y => nomatch y)
    have sd10 := same_upd (o := .tup [V.int 0, .int 16]) nd10
    have pd10 := pd9.trans sd10
    refine ⟨by show 13 ≤ sizeLine; decide, fun l2 nl2 => ?_⟩
    have el2 : l2 ≠ p := fun z => by have hz := pd10 _ _ hpe; rw [← z] at hz; exact absurd (nl2.symm.trans hz) (fun y => nomatch y)
    have sl2 := same_upd (o := .lst [V.ref d1, .ref d3, .ref d4, .ref d5, .ref d6, .ref d7, .str "any", .str "reply", .ref d9, .int 65535, .int 65536, .int 256, .ref d10]) nl2
    have pl2 := pd10.trans sl2
    refine ⟨l1, l2, [V.non, .bl true, .bl false, .int 0, .int 1, .int (-1), .int 7, .int (10 ^ 8), .str "", .str "r", .str "rw", .str "wr", .str "x", .str "set r0 1", .ref c1, .ref c2, .ref c3, .ref c4, .ref c5], [V.ref d1, .ref d3, .ref d4, .ref d5, .ref d6, .ref d7, .str "any", .str "reply", .ref d9, .int 65535, .int 65536, .int 256, .ref d10], rfl, rfl, (((((((((sd1.trans sd2).trans sd3).trans sd4).trans sd5).trans sd6).trans sd7).trans sd9).trans sd10).trans sl2) _ _ upd_same, upd_same, (by show 32 ≤ sizeLine; decide), fun l3 nl3 => ?_⟩
    have el3 : l3 ≠ p := fun z => by have hz := pl2 _ _ hpe; rw [← z] at hz; exact absurd (nl3.symm.trans hz) (fun y => nomatch y)
    have sl3 := same_upd (o := .lst ([V.non, .bl true, .bl false, .int 0, .int 1, .int (-1), .int 7, .int (10 ^ 8), .str "", .str "r", .str "rw", .str "wr", .str "x", .str "set r0 1", .ref c1, .ref c2, .ref c3, .ref c4, .ref c5] ++ [V.ref d1, .ref d3, .ref d4, .ref d5, .ref d6, .ref d7, .str "any", .str "reply", .ref d9, .int 65535, .int 65536, .int 256, .ref d10])) nl3
    have pl3 := pl2.trans sl3
    have fc1 := wo_at ((((((((((((((((sc2.trans sc3).trans sc4).trans sc5).trans sl1).trans sd1).trans sd2).trans sd3).trans sd4).trans sd5).trans sd6).trans sd7).trans sd9).trans sd10).trans sl2).trans sl3) _ _ upd_same) ec1
    have fc2 := wo_at (((((((((((((((sc3.trans sc4).trans sc5).trans sl1).trans sd1).trans sd2).trans sd3).trans sd4).trans sd5).trans sd6).trans sd7).trans sd9).trans sd10).trans sl2).trans sl3) _ _ upd_same) ec2
    have fc3 := wo_at ((((((((((((((sc4.trans sc5).trans sl1).trans sd1).trans sd2).trans sd3).trans sd4).trans sd5).trans sd6).trans sd7).trans sd9).trans sd10).trans sl2).trans sl3) _ _ upd_same) ec3
    have fc4 := wo_at (((((((((((((sc5.trans sl1).trans sd1).trans sd2).trans sd3).trans sd4).trans sd5).trans sd6).trans sd7).trans sd9).trans sd10).trans sl2).trans sl3) _ _ upd_same) ec4
    have fc5 := wo_at ((((((((((((sl1.trans sd1).trans sd2).trans sd3).trans sd4).trans sd5).trans sd6).trans sd7).trans sd9).trans sd10).trans sl2).trans sl3) _ _ upd_same) ec5
    have fl1 := wo_at (((((((((((sd1.trans sd2).trans sd3).trans sd4).trans sd5).trans sd6).trans sd7).trans sd9).trans sd10).trans sl2).trans sl3) _ _ upd_same) el1
    have fd1 := wo_at ((((((((((sd2.trans sd3).trans sd4).trans sd5).trans sd6).trans sd7).trans sd9).trans sd10).trans sl2).trans sl3) _ _ upd_same) ed1
    have fd2 := wo_at (((((((((sd3.trans sd4).trans sd5).trans sd6).trans sd7).trans sd9).trans sd10).trans sl2).trans sl3) _ _ upd_same) ed2
    have fd3 := wo_at ((((((((sd4.trans sd5).trans sd6).trans sd7).trans sd9).trans sd10).trans sl2).trans sl3) _ _ upd_same) ed3
    have fd4 := wo_at (((((((sd5.trans sd6).trans sd7).trans sd9).trans sd10).trans sl2).trans sl3) _ _ upd_same) ed4
    have fd5 := wo_at ((((((sd6.trans sd7).trans sd9).trans sd10).trans sl2).trans sl3) _ _ upd_same) ed5
    have fd6 := wo_at (((((sd7.trans sd9).trans sd10).trans sl2).trans sl3) _ _ upd_same) ed6
    have fd7 := wo_at ((((sd9.trans sd10).trans sl2).trans sl3) _ _ upd_same) ed7
    have fd9 := wo_at (((sd10.trans sl2).trans sl3) _ _ upd_same) ed9
    have fd10 := wo_at ((sl2.trans sl3) _ _ upd_same) ed10
    have fl2 := wo_at (sl3 _ _ upd_same) el2
    have pot := hp.same pl3
    have woS : Same (wo H p) (wo _ p) := wo_same_of pl3
    refine ⟨_, rfl, _, rfl, p, l3, _, n, rfl, SqL.of (wo_at upd_same el3), by simp, by show 32 ≤ 1000; decide, pot, hn, fun x hx H' hp' s' => ?_⟩
    have qq := fun v d => q v d H' hp' (woS.trans s')
    have gg := woS.trans s'
    simp only [List.cons_append, List.nil_append, List.mem_cons, List.not_mem_nil, or_false] at hx
    rcases hx with rfl | rfl | rfl | rfl | rfl | rfl | rfl | rfl | rfl | rfl | rfl | rfl | rfl | rfl | rfl | rfl | rfl | rfl | rfl | rfl | rfl | rfl | rfl | rfl | rfl | rfl | rfl | rfl | rfl | rfl | rfl | rfl
    · exact qq _ (.none) (.dp .non) (by decide +kernel)
    · exact qq _ (.bool true) (.dp (.bl _)) (by decide +kernel)
    · exact qq _ (.bool false) (.dp (.bl _)) (by decide +kernel)
    · exact qq _ (.int 0) (.dp (.int _)) (by decide +kernel)
    · exact qq _ (.int 1) (.dp (.int _)) (by decide +kernel)
    · exact qq _ (.int (-1)) (.dp (.int _)) (by decide +kernel)
    · exact qq _ (.int 7) (.dp (.int _)) (by decide +kernel)
    · exact qq _ (.int (10 ^ 8)) (.dp (.int _)) (by decide +kernel)
    · exact qq _ (.str "") (.dp (.str _)) (by decide +kernel)
    · exact qq _ (.str "r") (.dp (.str _)) (by decide +kernel)
    · exact qq _ (.str "rw") (.dp (.str _)) (by decide +kernel)
    · exact qq _ (.str "wr") (.dp (.str _)) (by decide +kernel)
    · exact qq _ (.str "x") (.dp (.str _)) (by decide +kernel)
    · exact qq _ (.str "set r0 1") (.dp (.str _)) (by decide +kernel)
    · exact qq _ (.tuple []) (.dp (.tup (SqT.of (nl_at gg (s' _ _ fc1) fun _ z => nomatch z)) .nil)) (by decide +kernel)
    · exact qq _ (.list []) (.dp (.lst (SqL.of ((nl_new (none_of pc1 nc2)).trans (wo_le _ _ (s' _ _ fc2)))) .nil)) (by decide +kernel)
    · exact qq _ (.dict []) (.d0 (nl_at gg (s' _ _ fc3) fun _ z => nomatch z)) (by decide +kernel)
    · exact qq _ (.tuple [.int 0]) (.dp (.tup (SqT.of (nl_at gg (s' _ _ fc4) fun _ z => nomatch z)) (.cons (.int 0) .nil))) (by decide +kernel)
    · exact qq _ (.tuple [.int 0, .int 1]) (.dp (.tup (SqT.of (nl_at gg (s' _ _ fc5) fun _ z => nomatch z)) (.cons (.int 0) (.cons (.int 1) .nil)))) (by decide +kernel)
    · exact qq _ (.tuple [.int 1, .int 0]) (.dp (.tup (SqT.of (nl_at gg (s' _ _ fd1) fun _ z => nomatch z)) (.cons (.int 1) (.cons (.int 0) .nil)))) (by decide +kernel)
    · exact qq _ (.tuple [.tuple []]) (.dp (.tup (SqT.of (nl_at gg (s' _ _ fd3) fun _ z => nomatch z)) (.cons (.tup (SqT.of (nl_at gg (s' _ _ fd2) fun _ z => nomatch z)) .nil) .nil))) (by decide +kernel)
    · exact qq _ (.list [.int 0]) (.dp (.lst (SqL.of ((nl_new (none_of pd3 nd4)).trans (wo_le _ _ (s' _ _ fd4)))) (.cons (.int 0) .nil))) (by decide +kernel)
    · exact qq _ (.tuple [.none]) (.dp (.tup (SqT.of (nl_at gg (s' _ _ fd5) fun _ z => nomatch z)) (.cons .non .nil))) (by decide +kernel)
    · exact qq _ (.dict [(.str "a", .int 1)]) (.d1 (nl_at gg (s' _ _ fd6) fun _ z => nomatch z)) (by decide +kernel)
    · exact qq _ (.tuple [.bool true]) (.dp (.tup (SqT.of (nl_at gg (s' _ _ fd7) fun _ z => nomatch z)) (.cons (.bl true) .nil))) (by decide +kernel)
    · exact qq _ (.str "any") (.dp (.str _)) (by decide +kernel)
    · exact qq _ (.str "reply") (.dp (.str _)) (by decide +kernel)
    · exact qq _ (.tuple [.str "r"]) (.dp (.tup (SqT.of (nl_at gg (s' _ _ fd9) fun _ z => nomatch z)) (.cons (.str "r") .nil))) (by decide +kernel)
    · exact qq _ (.int 65535) (.dp (.int _)) (by decide +kernel)
    · exact qq _ (.int 65536) (.dp (.int _)) (by decide +kernel)
    · exact qq _ (.int 256) (.dp (.int _)) (by decide +kernel)
    · exact qq _ (.tuple [.int 0, .int 16]) (.dp (.tup (SqT.of (nl_at gg (s' _ _ fd10) fun _ z => nomatch z)) (.cons (.int 0) (.cons (.int 16) .nil)))) (by decide +kernel)
end
end K35



set_option maxRecDepth 100000
set_option maxHeartbeats 2000000
/-! k35: numbers in texts. -/
namespace K35
open PySem PySem.Spec PyProof.Rows L2 LamX VG TL
theorem scNumberOf : FnScope ["text", "sign"] ["text"] (defScope sNumberOf) := ⟨rfl, rfl, rfl, by decide +kernel, rfl, by decide +kernel, by decide +kernel⟩
theorem scNumberIn : FnScope ["text", "low", "high", "number"] ["text", "low", "high"] (defScope sNumberIn) := ⟨rfl, rfl, rfl, by decide +kernel, rfl, by decide +kernel, by decide +kernel⟩
theorem scNumberTold : FnScope ["lines", "at", "head", "bounds", "words"] ["lines", "at", "head", "bounds"] (defScope sNumberTold) := ⟨rfl, rfl, rfl, by decide +kernel, rfl, by decide +kernel, by decide +kernel⟩
theorem atN0 {c : Nat} {r : List Nat} : atI (c :: r) 0 = some c := by
  unfold atI ixN
  rw [if_pos (by decide), if_pos (by rw [List.length_cons]; omega)]
  rfl
theorem at0 {z : V} {zs : List V} : atI (z :: zs) 0 = some z := at_of (j := 0) rfl rfl
theorem at1 {y z : V} {zs : List V} : atI (y :: z :: zs) 1 = some z := at_of (j := 1) rfl rfl
theorem at2 {x y z : V} {zs : List V} : atI (x :: y :: z :: zs) 2 = some z := at_of (j := 2) rfl rfl
theorem at3 {w x y z : V} {zs : List V} : atI (w :: x :: y :: z :: zs) 3 = some z := at_of (j := 3) rfl rfl
theorem sl {m : Nat} (h : m ≤ 1000) : m ≤ sizeLine := Nat.le_of_lt (small1000 h)
theorem iteD {p A B : Prop} [Decidable p] (h : p) (a : A) : if decide p = true then A else B := by rw [if_pos (decide_eq_true h)]; exact a
theorem iteE {p A B : Prop} [Decidable p] (h : ¬ p) (b : B) : if decide p = true then A else B := by rw [if_neg (by rw [decide_eq_false h]; exact Bool.false_ne_true)]; exact b
theorem iteC {b : Bool} {A B : Prop} (h : b = false) (a : B) : if b = true then A else B := by rw [if_neg (by rw [h]; exact Bool.false_ne_true)]; exact a
theorem iteNE {p A B : Prop} [Decidable p] (h : ¬ p) (a : A) : if (!decide p) = true then A else B := by rw [if_pos (by rw [decide_eq_false h]; rfl)]; exact a
theorem four {l : List Str} (h : l.length = 4) : ∃ a b c d, l = [a, b, c, d] := by
  match l, h with
  | [a, b, c, d], _ => exact ⟨a, b, c, d, rfl⟩
theorem two {l : List Str} (h : l.length = 2) : ∃ a b, l = [a, b] := by
  match l, h with
  | [a, b], _ => exact ⟨a, b, rfl⟩
def optI : Option Int → V
  | none => .non
  | some n => .int n
theorem optI_non (o : Option Int) : decide (optI o = .non) = o.isNone := by cases o <;> rfl
theorem empty_iff {z : Str} : z = "" ↔ z.cps.toList = [] := by
  constructor
  · intro h; rw [h]; decide
  · intro h; exact str_ext (by rw [h]; decide)
theorem digS_all' (z : Str) : ((z.cps.toList.map isDig).all id) = digS z := by
  rw [List.all_map]
  rfl
theorem zero_iff {z : Str} : z = "0" ↔ z.cps.toList = [48] := by
  constructor
  · intro h; rw [h]; decide
  · intro h; exact str_ext (by rw [h]; decide)
theorem sign_zero {c : Nat} : (V.str ⟨#[c]⟩ = V.str "0") ↔ c = 48 := by
  constructor
  · intro h
    have h := V.str.inj h
    have := congrArg (fun s : Str => s.cps.toList) h
    rw [show ("0" : Str).cps.toList = [48] by decide] at this
    simpa using this
  · intro h; subst h; exact congrArg V.str (str_ext (by decide))
theorem len_list (z : Str) : z.length = z.cps.toList.length := by show z.cps.size = _; rw [Array.length_toList]
section
variable {P : Program} {w : World} {K : PySem.W.Frag} {mg : Str → Option Value} {base : Heap}
def spNumberOf : Sp := fun vs H Q _ => ∃ z : Str, vs = [.str z] ∧ z.length ≤ 640 ∧ ∀ H', Same H H' → Q (optI (numOf z)) H'
theorem ok_NumberOf {k : Nat} {f : Addr} {fd : FuncData}  (F : Fun K "number_of" "number_of" sNumberOf f fd)   (fall : mg "all" = none) (fint : mg "int" = none) : FnOk P w K mg base CX0 (k + 1) f fd ["text"] (spNumberOf) := by
  refine F.ok scNumberOf (fun vs H Q E h => ?_) (fun cdv A outer s H vs Q E hr h => ?_)
  · obtain ⟨z, rfl, _⟩ := h
    rfl
  · obtain ⟨z, rfl, hz, q⟩ := h
    refine ⟨_, (pss_cons (ps_if (PW.pt (pw_or (pt_cmpR op_eq (pv 0) pe_str (nomark _)) (pw_or1 (pt_not (pt_val (pe_callB (cr_all rfl) (by rfl) fall (by decide +kernel) (pa_cons (pe_lc (own := [("sign", 1)]) (g := (gName 1)) (tt := tYes) rfl scNumberOf.nd (pi_str (pv 0)) (blkOk_by (N := ["text", "sign"]) (sc := defScope sNumberOf) (by decide +kernel)) (fun _ _ _ _ _ => (pg_name (i := 1) scNumberOf.nd rfl (.inl rfl))) (fun _ _ _ _ _ => pts_nil) (fun _ _ _ _ _ => (pe_cmpR op_in_sign (pv 1) pe_str (by rfl)))) pa_nil))))))) (pss_one (ps_ret pe_non)) pss_nil) (pss_cons (ps_if (PW.pt (pw_and (pt_cmpR op_eq (pe_ix ix_str (pv 0) pe_int (fun _ _ => rfl)) pe_str (nomark _)) (pw_and1 (pt_cmpR op_ne (pv 0) pe_str (nomark _))))) (pss_one (ps_ret pe_non)) pss_nil) (pss_one (ps_ret (pe_callTy call_int_str (by rfl) fint (by decide +kernel) (pa_cons (pv 0) pa_nil)))))), ?_⟩
    refine ⟨.str z, rfl, rfl, _, rfl, ?_⟩
    by_cases he : z = ""
    · have q0 := q _ (Same.refl H)
      rw [show numOf z = none from if_pos (.inl (empty_iff.mp he))] at q0
      exact iteD (congrArg V.str he) q0
    · have he' : z.cps.toList ≠ [] := fun h => he (empty_iff.mpr h)
      refine iteE (fun e => he (V.str.inj e)) ⟨.str z, rfl, z, rfl, fun D nD => ?_⟩
      have s1 := same_upd (o := .lst []) nD
      have hlen := len_list z
      refine lc_any (n := z.cps.size) (fun i H' => Same H H' ∧ H' D = some (.lst (((z.cps.toList.take i).map isDig).map V.bl))) ⟨s1, upd_same⟩ (fun i H' hi _ => hi) (fun H' _ => Nat.le_refl _) (fun i x H' H'' hi hP hy => ?_) fun H' hP => ?_
      · obtain ⟨sm, hD⟩ := hP
        obtain ⟨rfl, c, hc, rfl⟩ := hy
        refine ⟨rfl, ?_⟩
        unfold tYes
        have hc' : z.cps.toList[i]? = some c := by rw [Array.getElem?_toList]; exact hc
        have hlt := (List.getElem?_eq_some_iff.mp hc').1
        refine iteT ⟨.str ⟨#[c]⟩, rfl, c, _, rfl, rfl, _, hD, small1000 (by rw [List.length_map, List.length_map, List.length_take]; omega), Same.updNew sm nD, ?_⟩
        rw [upd_same, List.take_add_one, hc', List.map_append, List.map_append]
        rfl
      · obtain ⟨sm, hD⟩ := hP
        rw [show z.cps.size = z.cps.toList.length from (Array.length_toList).symm, List.take_length] at hD
        refine ⟨D, _, rfl, SqL.of hD, _, rfl, ?_⟩
        rw [digS_all']
        have q1 := q _ sm
        cases hd : digS z with
        | false =>
          rw [show numOf z = none from if_pos (.inr (.inl hd))] at q1
          exact iteT q1
        | true =>
          refine iteF ?_
          cases hl : z.cps.toList with
          | nil => exact absurd hl he'
          | cons c r =>
            refine ⟨.str z, rfl, z, 0, c, rfl, rfl, sl (by omega), by rw [hl]; exact atN0, rfl, _, rfl, ?_⟩
            have e1 : decide (V.str ⟨#[c]⟩ = V.str "0") = decide (c = 48) := by rw [Bool.eq_iff_iff, decide_eq_true_eq, decide_eq_true_eq]; exact sign_zero
            rw [e1]
            have fin : led z = false → Q (optI (numOf z)) H' → Q (.int (valS z)) H' := fun h1 h2 => by
              rw [show numOf z = some (valS z) from if_neg (by rintro (h | h | h); exact he' h; rw [hd] at h; cases h; rw [h1] at h; cases h)] at h2
              exact h2
            have hint : intText? z = some (valS z) := intText_digits (digS_all hd) he' (by omega)
            have hle : led z = (decide (c = 48) && !decide (r = [])) := by
              rw [led_eq, hl]
              by_cases h48 : c = 48
              · subst h48
                cases r with
                | nil => rfl
                | cons x y => simp [ledL]
              · rw [decide_eq_false h48, Bool.false_and]
                unfold ledL
                split
                · rename_i e; exact absurd (List.cons.inj e).1 h48
                · rfl
            by_cases h48 : c = 48
            · refine iteD h48 ⟨.str z, rfl, rfl, _, rfl, ?_⟩
              by_cases h0 : z = "0"
              · refine iteC (by rw [h0]; decide) ⟨.str z, rfl, z, valS z, rfl, hint, hz, ?_⟩
                have hr : r = [] := by
                  have := zero_iff.mp h0
                  rw [hl, h48] at this
                  exact (List.cons.inj this).2
                exact fin (by rw [hle, decide_eq_true hr]; simp) q1
              · refine iteNE (fun e => h0 (V.str.inj e)) ?_
                have hr : r ≠ [] := fun e => h0 (zero_iff.mpr (by rw [hl, h48, e]))
                rw [show numOf z = none from if_pos (.inr (.inr (by rw [hle, decide_eq_true h48, decide_eq_false hr]; rfl)))] at q1
                exact q1
            · refine iteE h48 ⟨.str z, rfl, z, valS z, rfl, hint, hz, ?_⟩
              exact fin (by rw [hle, decide_eq_false h48, Bool.false_and]) q1
def spNumberIn : Sp := fun vs H Q _ => ∃ (z : Str) (lo hi : Int), vs = [.str z, .int lo, .int hi] ∧ z.length ≤ 640 ∧ ∀ H', Same H H' → Q (optI (numIn z lo hi)) H'
theorem ok_NumberIn {k : Nat} {f : Addr} {fd : FuncData}  (F : Fun K "number_in" "number_in" sNumberIn f fd) (gNo : Cal P w K mg base CX0 (k + 1) "number_of" ["text"] spNumberOf)   : FnOk P w K mg base CX0 (k + 2) f fd ["text", "low", "high"] (spNumberIn) := by
  obtain ⟨fNo, fdNo, GNo, kNo, bNo, mNo⟩ := gNo
  refine F.ok scNumberIn (fun vs H Q E h => ?_) (fun cdv A outer s H vs Q E hr h => ?_)
  · obtain ⟨z, lo, hi, rfl, _⟩ := h
    rfl
  · obtain ⟨z, lo, hi, rfl, hz, q⟩ := h
    refine ⟨_, (pss_cons (ps_set (i := 3) scNumberIn.nd rfl (.inl rfl) (pe_call GNo hr (by rfl) mNo kNo bNo .nil pass0 (pa_cons (pv 0) pa_nil))) (pss_cons (ps_if (PW.pt (pw_or (pt_cmpR op_isN (pv 3) pe_non (nomark _)) (pw_or1 (pt_not (pt_chain op_le op_le (pv 1) (pv 3) (pv 2)))))) (pss_one (ps_ret pe_non)) pss_nil) (pss_one (ps_ret (pv 3))))), ?_⟩
    refine ⟨.str z, rfl, z, rfl, hz, fun H1 s1 => ?_⟩
    have q1 := q _ s1
    unfold numIn at q1
    cases e : numOf z with
    | none =>
      rw [e] at q1
      exact ⟨.non, rfl, rfl, _, rfl, iteD rfl q1⟩
    | some n =>
      rw [e] at q1
      refine ⟨.int n, rfl, rfl, _, rfl, iteE (fun y => nomatch y) ⟨_, rfl, _, rfl, lo, n, rfl, rfl, _, rfl, ?_⟩⟩
      by_cases h1 : lo ≤ n
      · refine iteD h1 ⟨.int hi, rfl, n, hi, rfl, rfl, _, rfl, ?_⟩
        by_cases h2 : n ≤ hi
        · rw [decide_eq_true h2]
          simp only [if_pos (And.intro h1 h2)] at q1
          exact iteF ⟨_, rfl, q1⟩
        · rw [decide_eq_false h2]
          simp only [if_neg (fun y : lo ≤ n ∧ n ≤ hi => h2 y.2)] at q1
          exact iteT q1
      · refine iteE h1 ⟨_, rfl, ?_⟩
        simp only [if_neg (fun y : lo ≤ n ∧ n ≤ hi => h1 y.1)] at q1
        exact iteT q1
/-- the number that a line with this head tells -/
def toldN (ls : List Str) (i : Nat) (head : Str) (lo hi : Int) : Option Int := match ls[i]? with
  | some l => match Txt.split l " " with
    | [a, b] => if a = head then numIn b lo hi else none
    | _ => none
  | none => none
def spNumberTold (K : PySem.W.Frag) : Sp := fun vs H Q _ => ∃ (a b : Addr) (ls : List Str) (i : Nat) (head : Str) (lo hi : Int), vs = [.ref a, .int (i : Nat), .str head, .ref b] ∧ SqL K H a (ls.map V.str) ∧ SqT K H b [.int lo, .int hi] ∧ (∀ l ∈ ls, l.length ≤ 640) ∧ ∀ H', Same H H' → Q (optI (toldN ls i head lo hi)) H'
theorem ok_NumberTold {k : Nat} {f : Addr} {fd : FuncData}  (F : Fun K "number_told" "number_told" sNumberTold f fd) (gNi : Cal P w K mg base CX0 (k + 2) "number_in" ["text", "low", "high"] spNumberIn)  (flen : mg "len" = none) : FnOk P w K mg base CX0 (k + 3) f fd ["lines", "at", "head", "bounds"] (spNumberTold K) := by
  obtain ⟨fNi, fdNi, GNi, kNi, bNi, mNi⟩ := gNi
  refine F.ok scNumberTold (fun vs H Q E h => ?_) (fun cdv A outer s H vs Q E hr h => ?_)
  · obtain ⟨a, b, ls, i, head, lo, hi, rfl, _⟩ := h
    rfl
  · obtain ⟨a, b, ls, i, head, lo, hi, rfl, ha, hb, hl, q⟩ := h
    refine ⟨_, (pss_cons (ps_set (i := 4) scNumberTold.nd rfl (.inl rfl) (pe_ifExp (pt_cmpR op_lt (pv 1) (pe_callB call_len_seq (by rfl) flen PySem.boot_len (pa_cons (pv 0) pa_nil)) (nomark _)) (pe_split (pe_ix ix_list (pv 0) (pv 1) (fun _ _ => rfl)) pe_str) (pe_lst pa_nil))) (pss_cons (ps_if (PW.pt (pw_or (pt_cmpR op_ne (pe_callB call_len_seq (by rfl) flen PySem.boot_len (pa_cons (pv 4) pa_nil)) pe_int (nomark _)) (pw_or1 (pt_cmpR op_ne (pe_ix ix_list (pv 4) pe_int (fun _ _ => rfl)) (pv 2) (nomark _))))) (pss_one (ps_ret pe_non)) pss_nil) (pss_one (ps_ret (pe_call GNi hr (by rfl) mNi kNi bNi .nil pass0 (pa_cons (pe_ix ix_list (pv 4) pe_int (fun _ _ => rfl)) (pa_cons (pe_ix ix_tup (pv 3) pe_int (fun _ _ => rfl)) (pa_cons (pe_ix ix_tup (pv 3) pe_int (fun _ _ => rfl)) pa_nil)))))))), ?_⟩
    refine ⟨.int i, rfl, .ref a, rfl, a, _, rfl, .inl ha, _, _, rfl, rfl, _, rfl, ?_⟩
    by_cases hi2 : i < ls.length
    · have hlt : ((i : Nat) : Int) < ((ls.map V.str).length : Nat) := by rw [List.length_map]; omega
      have hget : ls[i]? = some ls[i] := List.getElem?_eq_getElem hi2
      have hle := hl _ (List.getElem_mem hi2)
      refine iteD hlt ⟨.ref a, rfl, .int i, rfl, a, _, i, .str ls[i], rfl, rfl, ha, atI_nat (by rw [List.getElem?_map, hget]; rfl), ⟨_, rfl⟩, ls[i], " ", rfl, rfl, by decide, sl (by omega), fun p np => ?_⟩
      have s1 := same_upd (o := .lst ((Txt.split ls[i] " ").map V.str)) np
      have eT : toldN ls i head lo hi = match Txt.split ls[i] " " with
          | [a, b] => if a = head then numIn b lo hi else none
          | _ => none := by
        unfold toldN
        rw [hget]
      refine ⟨.ref p, rfl, p, _, rfl, .inl (SqL.of upd_same), rfl, _, rfl, ?_⟩
      by_cases h2 : (Txt.split ls[i] " ").length = 2
      · obtain ⟨x, y, e⟩ := two h2
        have hy : y.length ≤ 640 := Nat.le_trans (split_le (x := ls[i]) (y := " ") (by rw [e]; simp)) hle
        rw [e] at eT s1 ⊢
        simp only at eT
        refine iteF ⟨.ref p, rfl, p, _, 0, .str x, rfl, rfl, SqL.of upd_same, at0, .str head, rfl, rfl, _, rfl, ?_⟩
        by_cases hx : x = head
        · rw [if_pos hx] at eT
          refine iteC (by rw [hx, decide_eq_true rfl]; rfl) ?_
          refine ⟨.ref p, rfl, p, _, 1, .str y, rfl, rfl, SqL.of upd_same, at1, .ref b, rfl, b, _, 0, .int lo, rfl, rfl, Same.seqT s1 hb, at0, .ref b, rfl, b, _, 1, .int hi, rfl, rfl, Same.seqT s1 hb, at1, y, lo, hi, rfl, hy, fun H' s2 => ?_⟩
          have q1 := q _ (s1.trans s2)
          rw [eT] at q1
          exact q1
        · rw [if_neg hx] at eT
          have q1 := q _ s1
          rw [eT] at q1
          exact iteNE (fun e => hx (V.str.inj e)) q1
      · refine iteNE (fun e => h2 ?_) ?_
        · have := V.int.inj e
          rw [List.length_map] at this
          omega
        · have q1 := q _ s1
          have e : toldN ls i head lo hi = none := by
            rw [eT]
            split
            · rename_i e; exact absurd (congrArg List.length e) (fun h => h2 h)
            · rfl
          rw [e] at q1
          exact q1
    · refine iteE (fun h => hi2 (by rw [List.length_map] at h; omega)) ⟨by show 0 ≤ sizeLine; decide, fun p np => ?_⟩
      have q1 := q _ (same_upd (o := .lst []) np)
      have e : toldN ls i head lo hi = none := by
        unfold toldN
        rw [List.getElem?_eq_none (by omega)]
      rw [e] at q1
      exact ⟨.ref p, rfl, p, _, rfl, .inl (SqL.of upd_same), rfl, _, rfl, iteT q1⟩
end
end K35



set_option maxRecDepth 100000
set_option maxHeartbeats 2000000
/-! k35: rows of tasks. -/
namespace K35
open PySem PySem.Spec PyProof.Rows L2 LamX VG TL
theorem scTaskRow : FnScope ["line", "fresh", "words", "task", "above"] ["line", "fresh"] (defScope sTaskRow) := ⟨rfl, rfl, rfl, by decide +kernel, rfl, by decide +kernel, by decide +kernel⟩
theorem scStands : FnScope ["row", "rows", "ahead"] ["row", "rows"] (defScope sStands) := ⟨rfl, rfl, rfl, by decide +kernel, rfl, by decide +kernel, by decide +kernel⟩
def rowV (r : Row) : List V := [.int r.1, optI r.2.1, .bl r.2.2]
def endB (w : Str) : Bool := decide (w = "border") || decide (w = "none")
/-- what the four words of a line tell -/
def rowW (fresh : Int) : List Str → Option Row
  | [w0, w1, w2, w3] => if w0 = "task" ∧ endB w3 = true then
      (if w2 = "-" then (if numIn w1 0 (fresh - 1) = some 0 then some (0, none, decide (w3 = "border")) else none)
      else match numIn w1 0 (fresh - 1), numIn w2 0 (fresh - 1) with
        | some t, some a => some (t, some a, decide (w3 = "border"))
        | _, _ => none) else none
  | _ => none
def rowOf (l : Str) (fresh : Int) : Option Row := rowW fresh (Txt.split l " ")
def RowsAt (K : PySem.W.Frag) (H : Hp) (xs : List V) (rs : List Row) : Prop := xs.length = rs.length ∧ ∀ (i : Nat) (r : Row), rs[i]? = some r → ∃ p, xs[i]? = some (.ref p) ∧ SqT K H p (rowV r)
def inO (a : Option Int) (rs : List Row) : Bool := match a with
  | some n => decide (n ∈ rs.map (·.1))
  | none => false
def standsB (t : Int) (a : Option Int) (rs : List Row) : Bool := match rs.getLast? with
  | none => a.isNone
  | some r => decide (r.1 < t) && (decide (rs.length < 6) && inO a rs)
theorem inV_end (w : Str) : inV (.str w) [V.str "border", .str "none"] = endB w := by
  have := VG.inV_strs w ["border", "none"]
  rw [show [V.str "border", V.str "none"] = (["border", "none"] : List Str).map V.str from rfl]
  rw [this]
  unfold endB
  by_cases h1 : w = "border"
  · simp [h1]
  · by_cases h2 : w = "none"
    · simp [h2]
    · simp [h1, h2]
theorem inV_ints (x : Int) : ∀ l : List Int, inV (.int x) (l.map V.int) = decide (x ∈ l)
  | [] => rfl
  | y :: l => by
    have ih := inV_ints x l
    unfold inV at ih ⊢
    rw [List.map_cons, List.any_cons, ih]
    show ((y == x) || _) = _
    by_cases h : y = x
    · subst h
      simp
    · have h' : ¬ x = y := fun z => h z.symm
      simp [h, h']
theorem flat_ints (l : List Int) : (l.map V.int).all flatV = true := by
  induction l with
  | nil => rfl
  | cons a l ih =>
    rw [List.map_cons, List.all_cons, ih]
    rfl
theorem inV_non : ∀ l : List Int, inV .non (l.map V.int) = false
  | [] => rfl
  | y :: l => by
    have ih := inV_non l
    unfold inV at ih ⊢
    rw [List.map_cons, List.any_cons, ih]
    rfl
theorem inV_optI (a : Option Int) (rs : List Row) : inV (optI a) ((rs.map (·.1)).map V.int) = inO a rs := by
  cases a with
  | none => exact inV_non _
  | some n => exact inV_ints n _
theorem flat_optI : ∀ a, flatV (optI a) = true := fun a => by cases a <;> rfl
theorem strEq {a b : Str} : decide (V.str a = V.str b) = decide (a = b) := by by_cases h : a = b
                                                                              · rw [h, decide_eq_true rfl, decide_eq_true rfl]
                                                                              · rw [decide_eq_false h, decide_eq_false fun e => h (V.str.inj e)]
theorem rowW_len {fresh : Int} {l : List Str} (h : l.length ≠ 4) : rowW fresh l = none := by
  unfold rowW
  split
  · rename_i e; exact absurd rfl h
  · rfl
section
variable {P : Program} {w : World} {K : PySem.W.Frag} {mg : Str → Option Value} {base : Heap}
def spTaskRow (K : PySem.W.Frag) : Sp := fun vs H Q _ => ∃ (l : Str) (fresh : Int), vs = [.str l, .int fresh] ∧ l.length ≤ 640 ∧ (rowOf l fresh = none → ∀ H', Same H H' → Q .non H') ∧ ∀ r, rowOf l fresh = some r → ∀ H' p, Same H H' → SqT K H' p (rowV r) → Q (.ref p) H'
theorem ok_TaskRow {k : Nat} {f : Addr} {fd : FuncData}  (F : Fun K "task_row" "task_row" sTaskRow f fd) (gNi : Cal P w K mg base CX0 (k + 2) "number_in" ["text", "low", "high"] spNumberIn)  (flen : mg "len" = none) : FnOk P w K mg base CX0 (k + 3) f fd ["line", "fresh"] (spTaskRow K) := by
  obtain ⟨fNi, fdNi, GNi, kNi, bNi, mNi⟩ := gNi
  refine F.ok scTaskRow (fun vs H Q E h => ?_) (fun cdv A outer s H vs Q E hr h => ?_)
  · obtain ⟨l, fresh, rfl, _⟩ := h
    rfl
  · obtain ⟨l, fresh, rfl, hl, q0, q1⟩ := h
    refine ⟨_, (pss_cons (ps_set (i := 2) scTaskRow.nd rfl (.inl rfl) (pe_split (pv 0) pe_str)) (pss_cons (ps_if (PW.pt (pw_or (pt_cmpR op_ne (pe_ix ix_list (pv 2) pe_int (fun _ _ => rfl)) pe_str (nomark _)) (pw_or (pt_cmpR op_ne (pe_callB call_len_seq (by rfl) flen PySem.boot_len (pa_cons (pv 2) pa_nil)) pe_int (nomark _)) (pw_or1 (pt_cmpR op_notIn_seq (pe_ix ix_list (pv 2) pe_int (fun _ _ => rfl)) (pe_tup (pa_cons pe_str (pa_cons pe_str pa_nil))) (by rfl)))))) (pss_one (ps_ret pe_non)) pss_nil) (pss_cons (ps_set (i := 3) scTaskRow.nd rfl (.inl rfl) (pe_call GNi hr (by rfl) mNi kNi bNi .nil pass0 (pa_cons (pe_ix ix_list (pv 2) pe_int (fun _ _ => rfl)) (pa_cons pe_int (pa_cons (pe_op op_sub (pv 1) pe_int) pa_nil))))) (pss_cons (ps_if (pt_cmpR op_eq (pe_ix ix_list (pv 2) pe_int (fun _ _ => rfl)) pe_str (nomark _)) (pss_one (ps_ret (pe_ifExp (pt_cmpR op_eq (pv 3) pe_int (nomark _)) (pe_tup (pa_cons pe_int (pa_cons pe_non (pa_cons (pe_cmpR op_eq (pe_ix ix_list (pv 2) pe_int (fun _ _ => rfl)) pe_str (nomark _)) pa_nil)))) pe_non))) pss_nil) (pss_cons (ps_set (i := 4) scTaskRow.nd rfl (.inl rfl) (pe_call GNi hr (by rfl) mNi kNi bNi .nil pass0 (pa_cons (pe_ix ix_list (pv 2) pe_int (fun _ _ => rfl)) (pa_cons pe_int (pa_cons (pe_op op_sub (pv 1) pe_int) pa_nil))))) (pss_one (ps_ret (pe_ifExp (PW.pt (pw_or (pt_cmpR op_isN (pv 3) pe_non (nomark _)) (pw_or1 (pt_cmpR op_isN (pv 4) pe_non (nomark _))))) pe_non (pe_tup (pa_cons (pv 3) (pa_cons (pv 4) (pa_cons (pe_cmpR op_eq (pe_ix ix_list (pv 2) pe_int (fun _ _ => rfl)) pe_str (nomark _)) pa_nil)))))))))))), ?_⟩
    refine ⟨.str l, rfl, ⟨_, rfl⟩, l, " ", rfl, rfl, by decide, sl (by omega), fun p np => ?_⟩
    have s1 := same_upd (o := .lst ((Txt.split l " ").map V.str)) np
    have hw : ∀ x ∈ Txt.split l " ", x.length ≤ 640 := fun x hx => Nat.le_trans (split_le hx) hl
    have hne := split_ne l " "
    unfold rowOf at q0 q1
    generalize Txt.split l " " = ws at s1 hw hne q0 q1 ⊢
    have tail : ∀ {A B : Prop}, rowW fresh ws = none → (Q .non (upd H p (.lst (ws.map V.str))) → A) → A := fun e h => h (q0 e _ s1)
    obtain ⟨w0, r, rfl⟩ : ∃ w0 r, ws = w0 :: r := by
      cases ws with
      | nil => exact absurd rfl hne
      | cons a b => exact ⟨a, b, rfl⟩
    refine ⟨.ref p, rfl, p, _, 0, .str w0, rfl, rfl, SqL.of upd_same, at0, rfl, _, rfl, ?_⟩
    by_cases h0 : w0 = "task"
    · subst h0
      refine iteF ⟨.ref p, rfl, p, _, rfl, .inl (SqL.of upd_same), rfl, _, rfl, ?_⟩
      by_cases h4 : (("task" : Str) :: r).length = 4
      · obtain ⟨a, b, c, d, e⟩ := four h4
        obtain ⟨rfl, rfl⟩ := List.cons.inj e
        have ha : b.length ≤ 640 := hw b (by simp)
        have hb : c.length ≤ 640 := hw c (by simp)
        refine iteF ⟨.ref p, rfl, p, _, 3, .str d, rfl, rfl, SqL.of upd_same, at3, by show 2 ≤ sizeLine; decide, fun t nt => ?_⟩
        have s2 := s1.trans (same_upd (o := .tup [V.str "border", .str "none"]) nt)
        have tp : p ≠ t := ne_of_none upd_same nt
        have hp2 : SqL K (upd (upd H p (.lst ([("task" : Str), b, c, d].map V.str))) t (.tup [V.str "border", .str "none"])) p ([("task" : Str), b, c, d].map V.str) := SqL.of (by rw [upd_ne tp]; exact upd_same)
        refine ⟨t, _, rfl, .inr (SqT.of upd_same), rfl, rfl, _, rfl, ?_⟩
        rw [inV_end]
        cases hd : endB d with
        | false =>
          refine iteT ?_
          exact q0 (if_neg fun y => by rw [hd] at y; cases y.2) _ s2
        | true =>
          have er : rowW fresh ["task", b, c, d] = (if c = "-" then (if numIn b 0 (fresh - 1) = some 0 then some (0, none, decide (d = "border")) else none)
              else match numIn b 0 (fresh - 1), numIn c 0 (fresh - 1) with
                | some t, some a => some (t, some a, decide (d = "border"))
                | _, _ => none) := if_pos ⟨rfl, hd⟩
          refine iteF ⟨.ref p, rfl, p, _, 1, .str b, rfl, rfl, hp2, at1, .int fresh, rfl, fresh, 1, rfl, rfl, b, 0, fresh - 1, rfl, ha, fun H3 s3 => ?_⟩
          have hp3 := s3.seq hp2
          refine ⟨.ref p, rfl, p, _, 2, .str c, rfl, rfl, hp3, at2, rfl, _, rfl, ?_⟩
          by_cases hc : c = "-"
          · rw [if_pos hc] at er
            refine iteD (congrArg V.str hc) ?_
            cases en : numIn b 0 (fresh - 1) with
            | none =>
              rw [en] at er
              exact ⟨.non, rfl, rfl, _, rfl, iteE (fun y => nomatch y) (q0 er _ (s2.trans s3))⟩
            | some n =>
              rw [en] at er
              refine ⟨.int n, rfl, rfl, _, rfl, ?_⟩
              by_cases hn : n = 0
              · subst hn
                rw [if_pos rfl] at er
                refine iteD rfl ⟨.ref p, rfl, p, _, 3, .str d, rfl, rfl, hp3, at3, rfl, by show 3 ≤ sizeLine; decide, fun t2 n2 => ?_⟩
                exact q1 _ er _ t2 ((s2.trans s3).trans (same_upd n2)) (by rw [show rowV (0, none, decide (d = "border")) = [.int 0, .non, .bl (decide (V.str d = V.str "border"))] by rw [strEq]; rfl]; exact SqT.of upd_same)
              · rw [if_neg fun y => hn (Option.some.inj y)] at er
                exact iteE (fun y => hn (V.int.inj y)) (q0 er _ (s2.trans s3))
          · rw [if_neg hc] at er
            refine iteE (fun e => hc (V.str.inj e)) ?_
            refine ⟨.ref p, rfl, p, _, 2, .str c, rfl, rfl, hp3, at2, .int fresh, rfl, fresh, 1, rfl, rfl, c, 0, fresh - 1, rfl, hb, fun H4 s4 => ?_⟩
            have hp4 := s4.seq hp3
            have s5 := (s2.trans s3).trans s4
            cases en : numIn b 0 (fresh - 1) with
            | none =>
              rw [en] at er
              exact ⟨.non, rfl, rfl, _, rfl, iteD rfl (q0 er _ s5)⟩
            | some n =>
              rw [en] at er
              refine ⟨.int n, rfl, rfl, _, rfl, iteE (fun y => nomatch y) ?_⟩
              cases em : numIn c 0 (fresh - 1) with
              | none =>
                rw [em] at er
                exact ⟨.non, rfl, rfl, _, rfl, iteD rfl (q0 er _ s5)⟩
              | some m =>
                rw [em] at er
                refine ⟨.int m, rfl, rfl, _, rfl, iteE (fun y => nomatch y) ⟨.int n, rfl, .int m, rfl, .ref p, rfl, p, _, 3, .str d, rfl, rfl, hp4, at3, rfl, by show 3 ≤ sizeLine; decide, fun t2 n2 => ?_⟩⟩
                exact q1 _ er _ t2 (s5.trans (same_upd n2)) (by rw [show rowV (n, some m, decide (d = "border")) = [.int n, .int m, .bl (decide (V.str d = V.str "border"))] by rw [strEq]; rfl]; exact SqT.of upd_same)
      · refine iteNE (fun e => h4 ?_) (q0 (rowW_len h4) _ s1)
        have := V.int.inj e
        rw [List.length_map] at this
        omega
    · refine iteNE (fun e => h0 (V.str.inj e)) (q0 ?_ _ s1)
      unfold rowW
      split
      · rename_i e; exact if_neg fun y => h0 ((List.cons.inj e).1.trans y.1)
      · rfl
def spStands (K : PySem.W.Frag) : Sp := fun vs H Q _ => ∃ (p R : Addr) (r : Row) (xs : List V) (rs : List Row), vs = [.ref p, .ref R] ∧ SqT K H p (rowV r) ∧ SqL K H R xs ∧ RowsAt K H xs rs ∧ rs.length ≤ 6 ∧ ∀ H', Same H H' → Q (.bl (standsB r.1 r.2.1 rs)) H'
theorem ok_Stands {k : Nat} {f : Addr} {fd : FuncData}  (F : Fun K "_stands_behind" "_stands_behind" sStands f fd)  {tM : Tok} (gMOST_TASKS : mg "MOST_TASKS" = some (.int 6 tM)) (flen : mg "len" = none) : FnOk P w K mg base CX0 (k + 1) f fd ["row", "rows"] (spStands K) := by
  refine F.ok scStands (fun vs H Q E h => ?_) (fun cdv A outer s H vs Q E hr h => ?_)
  · obtain ⟨p, R, r, xs, rs, rfl, _⟩ := h
    rfl
  · obtain ⟨p, R, r, xs, rs, rfl, hp, hR, hrs, h6, q⟩ := h
    refine ⟨_, (pss_cons (ps_if (pt_not (pt_truth (pv 1) (by intro _; rfl))) (pss_one (ps_ret (pe_cmpR op_isN (pe_ix ix_tup (pv 0) pe_int (fun _ _ => rfl)) pe_non (nomark _)))) pss_nil) (pss_one (ps_ret (pe_and (pe_cmpR op_gt (pe_ix ix_tup (pv 0) pe_int (fun _ _ => rfl)) (pe_ix ix_tup (pe_ix ix_list (pv 1) (pe_un un_neg pe_int) (fun _ _ => rfl)) pe_int (fun _ _ => rfl)) (nomark _)) (pe_and (pe_cmpR op_lt (pe_callB call_len_seq (by rfl) flen PySem.boot_len (pa_cons (pv 1) pa_nil)) (pe_glob (by rfl) gMOST_TASKS (show RelV (.int 6) (.int 6 tM) from ⟨_, rfl⟩)) (nomark _)) (pe_one (pe_cmpR op_in_seq (pe_ix ix_tup (pv 0) pe_int (fun _ _ => rfl)) (pe_lc (own := [("ahead", 2)]) (g := (gName 2)) (tt := tYes) rfl scStands.nd (pi_list (pv 1)) (blkOk_by (N := ["row", "rows", "ahead"]) (sc := defScope sStands) (by decide +kernel)) (fun _ _ _ _ _ => (pg_name (i := 2) scStands.nd rfl (.inl rfl))) (fun _ _ _ _ _ => pts_nil) (fun _ _ _ _ _ => (pe_ix (show IxR _ (rIxT K) from ix_tup) (pv 2) pe_int (fun _ _ => rfl)))) (by rfl)))))))), ?_⟩
    have hxl := hrs.1
    refine ⟨.ref R, rfl, !xs.isEmpty, .inl ⟨xs, hR, rfl⟩, ?_⟩
    cases hr2 : rs.getLast? with
    | none =>
      have e0 : rs = [] := List.getLast?_eq_none_iff.mp hr2
      have ex : xs = [] := List.length_eq_zero_iff.mp (by rw [hxl, e0]; rfl)
      subst e0 ex
      refine iteT ⟨.ref p, rfl, p, _, 1, optI r.2.1, rfl, rfl, hp, at1, rfl, ?_⟩
      rw [optI_non]
      exact q _ (Same.refl H)
    | some l =>
      have hne : rs ≠ [] := by rintro rfl; cases hr2
      have hpos : 0 < rs.length := List.length_pos_iff.mpr hne
      have hex : xs.isEmpty = false := by
        cases xs with
        | nil => rw [← hxl] at hpos; cases hpos
        | cons _ _ => rfl
      rw [hex]
      have hlast : rs[rs.length - 1]? = some l := by rw [← List.getLast?_eq_getElem?]; exact hr2
      obtain ⟨pl, hpl, hql⟩ := hrs.2 _ _ hlast
      have hat : atI xs (-1) = some (.ref pl) := by
        unfold atI ixN
        rw [if_neg (by decide), if_pos (by omega)]
        show xs[(-1 + (xs.length : Int)).toNat]? = _
        rw [show (-1 + (xs.length : Int)).toNat = rs.length - 1 by omega]
        exact hpl
      have eS : standsB r.1 r.2.1 rs = (decide (l.1 < r.1) && (decide (rs.length < 6) && inO r.2.1 rs)) := by
        unfold standsB
        rw [hr2]
      rw [eS] at q
      refine iteF ⟨.ref p, rfl, p, _, 0, .int r.1, rfl, rfl, hp, at0, .ref R, rfl, 1, rfl, R, xs, -1, .ref pl, rfl, rfl, hR, hat, pl, _, 0, .int l.1, rfl, rfl, hql, at0, _, _, rfl, rfl, _, rfl, ?_⟩
      by_cases h1 : l.1 < r.1
      · rw [decide_eq_true h1, Bool.true_and] at q
        refine iteD h1 ⟨.ref R, rfl, R, _, rfl, .inl hR, _, _, rfl, rfl, _, rfl, ?_⟩
        by_cases h2 : rs.length < 6
        · rw [decide_eq_true h2, Bool.true_and] at q
          refine iteD (show ((xs.length : Nat) : Int) < 6 by omega) ⟨.ref p, rfl, p, _, 1, optI r.2.1, rfl, rfl, hp, at1, _, rfl, R, rfl, ⟨_, hR⟩, fun D nD => ?_⟩
          have s1 := same_upd (o := .lst []) nD
          refine lc_list (xs := xs) (fun i H' => Same H H' ∧ H' D = some (.lst (((rs.take i).map (·.1)).map V.int))) ⟨s1, upd_same⟩ (fun i H' _ hP => Same.seq hP.1 hR) (fun i x H' hx hP => ?_) fun H' hP => ?_
          · obtain ⟨sm, hD⟩ := hP
            have hi := (List.getElem?_eq_some_iff.mp hx).1
            have hg : rs[i]? = some rs[i] := List.getElem?_eq_getElem (by omega)
            obtain ⟨pi, e1, e2⟩ := hrs.2 i _ hg
            cases Option.some.inj (hx.symm.trans e1)
            refine ⟨rfl, ?_⟩
            unfold tYes
            refine iteT ⟨.ref pi, rfl, pi, _, 0, .int (rs[i]).1, rfl, rfl, Same.seqT sm e2, at0, _, hD, small1000 (by rw [List.length_map, List.length_map, List.length_take]; omega), Same.updNew sm nD, ?_⟩
            rw [upd_same, List.take_add_one, hg, List.map_append, List.map_append]
            rfl
          · obtain ⟨sm, hD⟩ := hP
            rw [hxl, List.take_length] at hD
            refine ⟨D, _, rfl, .inl (SqL.of hD), flat_optI _, flat_ints _, ?_⟩
            rw [inV_optI]
            exact q _ sm
        · rw [decide_eq_false h2, Bool.false_and] at q
          exact iteE (show ¬ (((xs.length : Nat) : Int) < 6) by omega) (q _ (Same.refl H))
      · rw [decide_eq_false h1, Bool.false_and] at q
        exact iteE h1 (q _ (Same.refl H))
end
end K35



set_option maxRecDepth 100000
set_option maxHeartbeats 4000000
/-! k35: the law's drawn house, and its text. -/
namespace K35
open PySem PySem.Spec PyProof.Rows L2 LamX VG TL
/-! ### split is join's other way -/
def joinL (c : Nat) : List (List Nat) → List Nat
  | [] => []
  | [p] => p
  | p :: q :: r => p ++ c :: joinL c (q :: r)
theorem cut_at {c : Nat} : ∀ {p q r s : List Nat}, c ∉ p → c ∉ q → p ++ c :: r = q ++ c :: s → p = q ∧ r = s
  | [], [], _, _, _, _, e => ⟨rfl, (List.cons.inj e).2⟩
  | [], y :: q, _, _, _, hq, e => absurd (by rw [(List.cons.inj e).1]; simp) hq
  | x :: p, [], _, _, hp, _, e => absurd (by rw [← (List.cons.inj e).1]; simp) hp
  | x :: p, y :: q, _, _, hp, hq, e => by
    obtain ⟨e1, e2⟩ := List.cons.inj e
    obtain ⟨e3, e4⟩ := cut_at (fun h => hp (List.mem_cons_of_mem _ h)) (fun h => hq (List.mem_cons_of_mem _ h)) e2
    exact ⟨by rw [e1, e3], e4⟩
theorem joinL_inj {c : Nat} : ∀ (ps qs : List (List Nat)), ps ≠ [] → qs ≠ [] → (∀ p ∈ ps, c ∉ p) → (∀ q ∈ qs, c ∉ q) → joinL c ps = joinL c qs → ps = qs
  | [], _, h, _, _, _, _ => absurd rfl h
  | _, [], _, h, _, _, _ => absurd rfl h
  | [p], [q], _, _, _, _, e => by rw [show p = q from e]
  | [p], q :: q2 :: r, _, _, hp, _, e => by
    have : c ∈ p := by
      rw [show p = q ++ c :: joinL c (q2 :: r) from e]
      simp
    exact absurd this (hp p (by simp))
  | p :: p2 :: r, [q], _, _, _, hq, e => by
    have : c ∈ q := by
      rw [← show p ++ c :: joinL c (p2 :: r) = q from e]
      simp
    exact absurd this (hq q (by simp))
  | p :: p2 :: r, q :: q2 :: s, _, _, hp, hq, e => by
    have e' : p ++ c :: joinL c (p2 :: r) = q ++ c :: joinL c (q2 :: s) := e
    obtain ⟨e1, e2⟩ := cut_at (hp p (by simp)) (hq q (by simp)) e'
    rw [e1, joinL_inj (p2 :: r) (q2 :: s) (by simp) (by simp) (fun x hx => hp x (List.mem_cons_of_mem _ hx)) (fun x hx => hq x (List.mem_cons_of_mem _ hx)) e2]
theorem join_list (c : Nat) : ∀ ps : List Str, (Txt.join ⟨#[c]⟩ ps).cps.toList = joinL c (ps.map fun p => p.cps.toList)
  | [] => rfl
  | [p] => by
    rw [join_eq]
    rfl
  | p :: q :: r => by
    have ih := join_list c (q :: r)
    rw [join_eq] at ih ⊢
    show (p ++ ⟨#[c]⟩ ++ Str.join ⟨#[c]⟩ (q :: r) : Str).cps.toList = _
    simp only [Str.cps_append, Array.toList_append, ih]
    simp [joinL]
theorem join_back (x : Str) (c : Nat) : Txt.join ⟨#[c]⟩ (Txt.split x ⟨#[c]⟩) = x := by
  unfold Txt.split
  split
  · rw [join_eq]; rfl
  · split
    · rw [join_eq]; rfl
    · exact StrLaws.glued_between_self x ⟨#[c]⟩ (x.length + 1)
theorem map_inj {α β : Type} {f : α → β} (h : ∀ a b, f a = f b → a = b) : ∀ {l m : List α}, l.map f = m.map f → l = m
  | [], [], _ => rfl
  | [], _ :: _, e => by cases e
  | _ :: _, [], e => by cases e
  | a :: l, b :: m, e => by
    rw [List.map_cons, List.map_cons] at e
    obtain ⟨e1, e2⟩ := List.cons.inj e
    rw [h _ _ e1, map_inj h e2]
theorem split_join {c : Nat} {ps : List Str} (hne : ps ≠ []) (hf : ∀ p ∈ ps, c ∉ p.cps.toList) : Txt.split (Txt.join ⟨#[c]⟩ ps) ⟨#[c]⟩ = ps := by
  have h1 := congrArg (fun x : Str => x.cps.toList) (join_back (Txt.join ⟨#[c]⟩ ps) c)
  simp only [join_list] at h1
  have h2 := joinL_inj _ _ (by simpa using split_ne _ _) (by simpa using hne) (fun p hp => by
    obtain ⟨y, hy, rfl⟩ := List.mem_map.mp hp
    exact StrLaws.split_free _ c y hy) (fun p hp => by
    obtain ⟨y, hy, rfl⟩ := List.mem_map.mp hp
    exact hf y hy) h1
  exact map_inj (fun a b e => str_ext e) h2
end K35



set_option maxRecDepth 100000
set_option maxHeartbeats 4000000
/-! k35: the text of a house is a text of clans. -/
namespace K35
open PySem PySem.Spec PyProof.Rows L2 LamX VG TL
def chiefT : Option Int → Str
  | none => "-"
  | some n => strN n
def bordT (b : Bool) : Str := if b = true then "border" else "none"
def wordsT (r : Row) : List Str := ["task", strN r.1, chiefT r.2.1, bordT r.2.2]
def rowT (r : Row) : Str := Txt.join " " (wordsT r)
def linesT (nx : Int) (rs : List Row) : List Str := ("clans " ++ strN nx) :: rs.map rowT
def houseT (nx : Int) (rs : List Row) : Str := Txt.join "\n" (linesT nx rs)
/-- each row stands behind those before it -/
def okR : List Row → List Row → Bool
  | _, [] => true
  | acc, r :: rest => standsB r.1 r.2.1 acc && okR (acc ++ [r]) rest
structure RowOk (nx : Int) (r : Row) : Prop where
  lo : 0 ≤ r.1
  hi : r.1 < nx
  no : r.2.1 = none → r.1 = 0
  clo : ∀ n, r.2.1 = some n → 0 ≤ n ∧ n < nx
structure Good (nx : Int) (rs : List Row) : Prop where
  ne : rs ≠ []
  lo : 1 ≤ nx
  hi : nx ≤ 999
  few : rs.length ≤ 6
  ok : okR [] rs = true
  row : ∀ r ∈ rs, RowOk nx r
theorem strN_nat {n : Int} (h : 0 ≤ n) : (strN n).cps.toList = numL n.toNat := by
  have e : n = ((n.toNat : Nat) : Int) := (Int.toNat_of_nonneg h).symm
  conv => lhs; rw [e]
  exact strN_list n.toNat
theorem numL_no {c : Nat} (h : c < 48) (n : Nat) : c ∉ numL n := fun y => by
  have := numL_digits n c y
  omega
theorem strN_no {c : Nat} (h : c < 48) {n : Int} (hn : 0 ≤ n) : c ∉ (strN n).cps.toList := by
  rw [strN_nat hn]
  exact numL_no h _
theorem numIn_strN {n lo hi : Int} (h0 : 0 ≤ n) (h1 : lo ≤ n) (h2 : n ≤ hi) : numIn (strN n) lo hi = some n := by
  obtain ⟨m, rfl⟩ : ∃ m : Nat, n = m := ⟨n.toNat, (Int.toNat_of_nonneg h0).symm⟩
  exact numIn_str h1 h2
theorem chief_no {c : Nat} (h : c < 45) {o : Option Int} (hn : ∀ n, o = some n → 0 ≤ n) : c ∉ (chiefT o).cps.toList := by
  cases o with
  | none =>
    rw [show (chiefT none).cps.toList = [45] by decide]
    intro y
    have := List.mem_singleton.mp y
    omega
  | some n => exact strN_no (by omega) (hn n rfl)
theorem bord_no {c : Nat} (h : c < 48) (b : Bool) : c ∉ (bordT b).cps.toList := by
  cases b
  · rw [show (bordT false).cps.toList = [110, 111, 110, 101] by decide]
    simp; omega
  · rw [show (bordT true).cps.toList = [98, 111, 114, 100, 101, 114] by decide]
    simp; omega
theorem words_no {nx : Int} {r : Row} (h : RowOk nx r) {c : Nat} (hc : c < 45) : ∀ p ∈ wordsT r, c ∉ p.cps.toList := by
  intro p hp
  unfold wordsT at hp
  simp only [List.mem_cons, List.not_mem_nil, or_false] at hp
  rcases hp with rfl | rfl | rfl | rfl
  · rw [show ("task" : Str).cps.toList = [116, 97, 115, 107] by decide]
    simp; omega
  · exact strN_no (show c < 48 by omega) h.lo
  · exact chief_no hc fun n e => (h.clo n e).1
  · exact bord_no (show c < 48 by omega) _
theorem split_row {nx : Int} {r : Row} (h : RowOk nx r) : Txt.split (rowT r) " " = wordsT r :=
  split_join (c := 32) (by simp [wordsT]) (words_no h (by decide))
theorem strN_dash {n : Int} (h : 0 ≤ n) : strN n ≠ "-" := fun e => by
  have := strN_no (c := 45) (by decide) h
  rw [e] at this
  exact this (by decide)
theorem rowOf_row {nx : Int} {r : Row} (h : RowOk nx r) : rowOf (rowT r) nx = some r := by
  unfold rowOf
  rw [split_row h]
  have hb : endB (bordT r.2.2) = true := by cases r.2.2 <;> decide
  have hbb : decide (bordT r.2.2 = "border") = r.2.2 := by cases r.2.2 <;> decide
  unfold rowW wordsT
  simp only
  rw [if_pos ⟨trivial, hb⟩, hbb]
  obtain ⟨t, a, b⟩ := r
  have h1 := h.lo
  have h2 := h.hi
  cases a with
  | none =>
    have h0 : t = 0 := h.no rfl
    subst h0
    show (if chiefT none = "-" then (if numIn (strN 0) 0 (nx - 1) = some 0 then some ((0, none, b) : Row) else none) else _) = _
    rw [if_pos (show chiefT none = "-" from rfl), if_pos (numIn_strN (by decide) (by decide) (by have : (0 : Int) < nx := h2; omega))]
  | some n =>
    obtain ⟨c1, c2⟩ := h.clo n rfl
    show (if chiefT (some n) = "-" then _ else match numIn (strN t) 0 (nx - 1), numIn (strN n) 0 (nx - 1) with | some t, some a => some ((t, some a, b) : Row) | _, _ => none) = _
    rw [if_neg (show chiefT (some n) ≠ "-" from strN_dash c1), numIn_strN h1 h1 (by have : t < nx := h2; show t ≤ nx - 1; omega)]
    show (match some t, numIn (strN n) 0 (nx - 1) with | some t, some a => some (t, some a, b) | _, _ => none) = _
    rw [numIn_strN c1 c1 (by omega)]
theorem head_join (x : Str) : ("clans " ++ x : Str) = Txt.join " " ["clans", x] := by
  refine str_ext ?_
  rw [show (" " : Str) = ⟨#[32]⟩ by decide, join_list, Str.cps_append, Array.toList_append]
  rw [show ("clans " : Str).cps.toList = [99, 108, 97, 110, 115, 32] by decide]
  show _ = ("clans" : Str).cps.toList ++ 32 :: joinL 32 [x.cps.toList]
  rw [show ("clans" : Str).cps.toList = [99, 108, 97, 110, 115] by decide]
  rfl
theorem row_no {nx : Int} {r : Row} (h : RowOk nx r) : 10 ∉ (rowT r).cps.toList := by
  unfold rowT
  rw [show (" " : Str) = ⟨#[32]⟩ by decide, join_list]
  intro y
  have h4 := words_no h (c := 10) (by decide)
  have key : ∀ ps : List (List Nat), (∀ p ∈ ps, 10 ∉ p) → 10 ∉ joinL 32 ps := by
    intro ps
    induction ps with
    | nil => intro _ y; cases y
    | cons p r ih =>
      intro hp
      cases r with
      | nil => exact hp p (by simp)
      | cons q s =>
        show 10 ∉ p ++ 32 :: joinL 32 (q :: s)
        intro y
        rcases List.mem_append.mp y with y | y
        · exact hp p (by simp) y
        · rcases List.mem_cons.mp y with y | y
          · cases y
          · exact ih (fun x hx => hp x (List.mem_cons_of_mem _ hx)) y
  refine key _ (fun p hp => ?_) y
  obtain ⟨z, hz, rfl⟩ := List.mem_map.mp hp
  exact h4 z hz
theorem head_no {nx : Int} (h : 0 ≤ nx) : 10 ∉ ("clans " ++ strN nx : Str).cps.toList := by
  rw [Str.cps_append, Array.toList_append, show ("clans " : Str).cps.toList = [99, 108, 97, 110, 115, 32] by decide]
  intro y
  rcases List.mem_append.mp y with y | y
  · revert y; decide
  · exact strN_no (by decide) h y
theorem split_house {nx : Int} {rs : List Row} (g : Good nx rs) : Txt.split (houseT nx rs) "\n" = linesT nx rs := by
  have hx : ("\n" : Str) = ⟨#[10]⟩ := by decide
  have h1 := g.lo
  unfold houseT
  rw [hx]
  refine split_join (by simp [linesT]) fun p hp => ?_
  rcases List.mem_cons.mp hp with rfl | hp
  · exact head_no (by omega)
  · obtain ⟨r, hr, rfl⟩ := List.mem_map.mp hp
    exact row_no (g.row r hr)
theorem told_house {nx : Int} {rs : List Row} (g : Good nx rs) : toldN (linesT nx rs) 0 "clans" 1 999 = some nx := by
  have h1 := g.lo
  have h2 := g.hi
  have h3 := g.few
  unfold toldN linesT
  show (match Txt.split ("clans " ++ strN nx) " " with
    | [a, b] => if a = "clans" then numIn b 1 999 else none
    | _ => none) = _
  rw [head_join, show (" " : Str) = ⟨#[32]⟩ by decide, split_join (c := 32) (by simp) (fun p hp => by
    simp only [List.mem_cons, List.not_mem_nil, or_false] at hp
    rcases hp with rfl | rfl
    · decide
    · exact strN_no (by decide) (by omega))]
  show (if ("clans" : Str) = "clans" then numIn (strN nx) 1 999 else none) = _
  rw [if_pos rfl]
  exact numIn_strN (by omega) h1 (by omega)
end K35



set_option maxRecDepth 100000
set_option maxHeartbeats 4000000
/-! k35: the law's drawn house. -/
namespace K35
open PySem PySem.Spec PyProof.Rows L2 LamX VG TL
theorem scHouseText : FnScope ["house", "lines", "task", "chief"] ["house"] (defScope sHouseText) := ⟨rfl, rfl, rfl, by decide +kernel, rfl, by decide +kernel, by decide +kernel⟩
theorem scHouseMade : FnScope ["house", "chief", "border", "later"] ["house", "chief", "border"] (defScope sHouseMade) := ⟨rfl, rfl, rfl, by decide +kernel, rfl, by decide +kernel, by decide +kernel⟩
theorem val_to {t : TE} {σ : L2.St} {H : Hp} {Q : VK} (v : V) (h : ∀ R : VK, R v H → t σ H R) (q : Q v H) : t σ H Q := h _ q
def chKV (rs : List Row) : List (Key × V) := rs.map fun r => (Sum.inl r.1, optI r.2.1)
def boKV (rs : List Row) : List (Key × V) := rs.map fun r => (Sum.inl r.1, V.bl r.2.2)
def hkv (nx : Int) (c b : Addr) : List (Key × V) := [(Sum.inr "next", .int nx), (Sum.inr "chiefs", .ref c), (Sum.inr "borders", .ref b)]
theorem v_next {nx : Int} {c b : Addr} : valV (hkv nx c b) (Sum.inr "next") = some (.int nx) := valV_pos rfl
theorem v_chiefs {nx : Int} {c b : Addr} : valV (hkv nx c b) (Sum.inr "chiefs") = some (.ref c) := (valV_neg (fun y => absurd (Sum.inr.inj y) (by decide))).trans (valV_pos rfl)
theorem v_borders {nx : Int} {c b : Addr} : valV (hkv nx c b) (Sum.inr "borders") = some (.ref b) := (valV_neg (fun y => absurd (Sum.inr.inj y) (by decide))).trans ((valV_neg (fun y => absurd (Sum.inr.inj y) (by decide))).trans (valV_pos rfl))
theorem g_next {H : Hp} {h c b : Addr} {nx : Int} (e : H h = some (.dK (hkv nx c b))) : DGet H h (.str "next") (some (.int nx)) := by rw [← v_next (nx := nx) (c := c) (b := b)]; exact DGet.k (k := Sum.inr "next") e
theorem g_chiefs {H : Hp} {h c b : Addr} {nx : Int} (e : H h = some (.dK (hkv nx c b))) : DGet H h (.str "chiefs") (some (.ref c)) := by rw [← v_chiefs (nx := nx) (c := c) (b := b)]; exact DGet.k (k := Sum.inr "chiefs") e
theorem g_borders {H : Hp} {h c b : Addr} {nx : Int} (e : H h = some (.dK (hkv nx c b))) : DGet H h (.str "borders") (some (.ref b)) := by rw [← v_borders (nx := nx) (c := c) (b := b)]; exact DGet.k (k := Sum.inr "borders") e
theorem rise_snoc {rs : List Row} {r : Row} (h : Rise rs) (hr : ∀ x ∈ rs, x.1 < r.1) : Rise (rs ++ [r]) := by
  unfold Rise at h ⊢
  rw [List.map_append, List.pairwise_append]
  refine ⟨h, by simp, fun a ha b hb => ?_⟩
  obtain ⟨x, hx, rfl⟩ := List.mem_map.mp ha
  rw [List.map_singleton, List.mem_singleton] at hb
  subst hb
  exact hr x hx
theorem rise_last {rs : List Row} {l : Row} (h : Rise rs) (hl : rs.getLast? = some l) : ∀ x ∈ rs, x.1 ≤ l.1 := by
  intro x hx
  obtain ⟨i, hi, e⟩ := List.mem_iff_getElem.mp hx
  have hlast : rs[rs.length - 1]? = some l := by rw [← List.getLast?_eq_getElem?]; exact hl
  obtain ⟨hj, ej⟩ := List.getElem?_eq_some_iff.mp hlast
  rcases Nat.lt_or_ge i (rs.length - 1) with c | c
  · have := List.pairwise_iff_getElem.mp h i (rs.length - 1) (by rw [List.length_map]; exact hi) (by rw [List.length_map]; exact hj) c
    rw [List.getElem_map, List.getElem_map, e, ej] at this
    omega
  · have e2 : i = rs.length - 1 := by omega
    subst e2
    rw [← e, ej]
    exact Int.le_refl _
theorem stands_above {t : Int} {a : Option Int} {rs : List Row} (h : Rise rs) (hs : standsB t a rs = true) : ∀ x ∈ rs, x.1 < t := by
  intro x hx
  unfold standsB at hs
  cases e : rs.getLast? with
  | none => rw [List.getLast?_eq_none_iff.mp e] at hx; cases hx
  | some l =>
    rw [e] at hs
    simp only [Bool.and_eq_true, decide_eq_true_eq] at hs
    have := rise_last h e x hx
    omega
theorem okR_rise : ∀ (rs acc : List Row), Rise acc → okR acc rs = true → Rise (acc ++ rs)
  | [], acc, h, _ => by rw [List.append_nil]; exact h
  | r :: rs, acc, h, h2 => by
    unfold okR at h2
    simp only [Bool.and_eq_true] at h2
    have := okR_rise rs (acc ++ [r]) (rise_snoc h (stands_above h h2.1)) h2.2
    rw [List.append_assoc] at this
    exact this
theorem Good.rise {nx : Int} {rs : List Row} (g : Good nx rs) : Rise rs := okR_rise rs [] (by simp [Rise]) g.ok
theorem sorted_rise {rs : List Row} (h : Rise rs) {ys : List Int} (hp : ys.Perm (rs.map (·.1))) (hs : ys.Pairwise (· ≤ ·)) : ys = rs.map (·.1) :=
  List.Perm.eq_of_pairwise (fun a b _ _ h1 h2 => Int.le_antisymm h1 h2) hs (List.Pairwise.imp (fun h => Int.le_of_lt h) h) hp
theorem val_at {f : Row → V} : ∀ {rs : List Row}, Rise rs → ∀ {i : Nat} {r : Row}, rs[i]? = some r → valV (rs.map fun r => ((Sum.inl r.1 : Key), f r)) (Sum.inl r.1) = some (f r)
  | [], _, i, r, e => by cases e
  | x :: rs, h, i, r, e => by
    rw [List.map_cons]
    have h' : (x.1 :: rs.map (·.1)).Pairwise (· < ·) := h
    rw [List.pairwise_cons] at h'
    cases i with
    | zero => cases e; exact valV_pos rfl
    | succ i =>
      have hm : r ∈ rs := List.mem_of_getElem? (i := i) e
      have := h'.1 _ (List.mem_map_of_mem (f := fun r : Row => r.1) hm)
      exact (valV_neg (by intro y; have := Sum.inl.inj y; omega)).trans (val_at (rs := rs) h'.2 (i := i) e)
theorem valV_none {f : Row → V} {t : Int} : ∀ {rs : List Row}, (∀ x ∈ rs, x.1 ≠ t) → valV (rs.map fun r => ((Sum.inl r.1 : Key), f r)) (Sum.inl t) = none
  | [], _ => rfl
  | x :: rs, h => by
    rw [List.map_cons]
    exact (valV_neg (fun y => h x (by simp) (Sum.inl.inj y))).trans (valV_none fun z hz => h z (List.mem_cons_of_mem _ hz))
theorem mergeK_rise {f : Row → V} : ∀ (rs acc : List Row), Rise (acc ++ rs) → mergeK (acc.map fun r => ((Sum.inl r.1 : Key), f r)) (rs.map fun r => ((Sum.inl r.1 : Key), f r)) = (acc ++ rs).map fun r => ((Sum.inl r.1 : Key), f r)
  | [], acc, _ => by rw [List.append_nil]; rfl
  | r :: rs, acc, h => by
    have hlt : ∀ x ∈ acc, x.1 ≠ r.1 := by
      intro x hx
      unfold Rise at h
      rw [List.map_append, List.pairwise_append] at h
      have := h.2.2 x.1 (List.mem_map_of_mem (f := fun r : Row => r.1) hx) r.1 (by simp)
      omega
    have ih := mergeK_rise (f := f) rs (acc ++ [r]) (by rw [List.append_assoc]; exact h)
    show mergeK (putK (acc.map fun r => ((Sum.inl r.1 : Key), f r)) (Sum.inl r.1) (f r)) (rs.map fun r => ((Sum.inl r.1 : Key), f r)) = _
    rw [putK_new _ (valV_none hlt)]
    rw [List.map_append] at ih
    rw [show [(Sum.inl r.1, f r)] = [r].map (fun r : Row => ((Sum.inl r.1 : Key), f r)) from rfl, ih, List.append_assoc]
    rfl
theorem paired_imp {α β : Type} {F G : α → β → Prop} (h : ∀ a b, F a b → G a b) : ∀ {l : List α} {m : List β}, Paired F l m → Paired G l m
  | _, _, .nil => .nil
  | _, _, .cons a b => .cons (h _ _ a) (paired_imp h b)
theorem paired_snoc {α β : Type} {F : α → β → Prop} {a : α} {b : β} (hab : F a b) : ∀ {l : List α} {m : List β}, Paired F l m → Paired F (l ++ [a]) (m ++ [b])
  | _, _, .nil => .cons hab .nil
  | _, _, .cons x y => .cons x (paired_snoc hab y)
theorem paired_len {α β : Type} {F : α → β → Prop} : ∀ {l : List α} {m : List β}, Paired F l m → l.length = m.length
  | _, _, .nil => rfl
  | _, _, .cons _ y => by rw [List.length_cons, List.length_cons, paired_len y]
theorem strN_len {n : Int} (h0 : 0 ≤ n) (h : n < 1000) : (strN n).length ≤ 3 := by
  have e := strN_nat h0
  have := numL_len (n := n.toNat) (k := 3) (by decide) (by omega)
  rw [← e] at this
  rw [len_list]
  exact this
theorem chief_len {o : Option Int} (h : ∀ n, o = some n → 0 ≤ n ∧ n < 1000) : (chiefT o).length ≤ 3 := by
  cases o with
  | none => decide
  | some n => exact strN_len (h n rfl).1 (h n rfl).2
theorem bord_len (b : Bool) : (bordT b).length ≤ 6 := by cases b <;> decide
theorem Good.small {nx : Int} {rs : List Row} (g : Good nx rs) : nx < 1000 := by
  have h2 := g.hi
  have h3 := g.few
  omega
theorem words_sum {nx : Int} {r : Row} (h : RowOk nx r) (hn : nx < 1000) : ((wordsT r).map (·.length)).sum ≤ 16 := by
  have h1 := strN_len h.lo (by have := h.hi; omega)
  have h2 := chief_len (o := r.2.1) fun n e => ⟨(h.clo n e).1, by have := (h.clo n e).2; omega⟩
  have h3 := bord_len r.2.2
  have h4 : ("task" : Str).length = 4 := by decide
  unfold wordsT
  simp only [List.map_cons, List.map_nil, List.sum_cons, List.sum_nil]
  omega
theorem row_len {nx : Int} {r : Row} (h : RowOk nx r) (hn : nx < 1000) : (rowT r).length ≤ 19 := by
  have h1 := words_sum h hn
  unfold rowT
  rw [join_len]
  have h2 : (wordsT r).length = 4 := rfl
  have h3 : (" " : Str).length = 1 := by decide
  rw [h2, h3]
  omega
theorem sum_le {l : List Nat} {m : Nat} (h : ∀ x ∈ l, x ≤ m) : l.sum ≤ l.length * m := by
  induction l with
  | nil => exact Nat.zero_le _
  | cons a r ih =>
    rw [List.sum_cons, List.length_cons, Nat.add_mul, Nat.one_mul]
    have := h a (by simp)
    have := ih fun x hx => h x (List.mem_cons_of_mem _ hx)
    omega
theorem lines_sum {nx : Int} {rs : List Row} (g : Good nx rs) : ((linesT nx rs).map (·.length)).sum ≤ 123 := by
  have h3 := g.few
  have h1 := g.lo
  unfold linesT
  rw [List.map_cons, List.sum_cons]
  have h4 : ("clans " ++ strN nx : Str).length ≤ 9 := by
    have := strN_len (n := nx) (by omega) g.small
    rw [len_list, Str.cps_append, Array.toList_append, List.length_append, ← len_list (strN nx)]
    have : ("clans " : Str).cps.toList.length = 6 := by decide
    omega
  have h5 := sum_le (l := (rs.map rowT).map (·.length)) (m := 19) fun x hx => by
    obtain ⟨y, hy, rfl⟩ := List.mem_map.mp hx
    obtain ⟨r, hr, rfl⟩ := List.mem_map.mp hy
    exact row_len (g.row r hr) g.small
  rw [List.length_map, List.length_map] at h5
  omega
theorem house_len {nx : Int} {rs : List Row} (g : Good nx rs) : (houseT nx rs).length ≤ 129 := by
  have h1 := lines_sum g
  have h3 := g.few
  unfold houseT
  rw [join_len]
  have h2 : (linesT nx rs).length = rs.length + 1 := by unfold linesT; rw [List.length_cons, List.length_map]
  have h4 : ("\n" : Str).length = 1 := by decide
  rw [h2, h4]
  omega
/-- a house stands at h -/
def HAt (H : Hp) (h : Addr) (nx : Int) (rs : List Row) : Prop := ∃ c b, H h = some (.dK (hkv nx c b)) ∧ H c = some (.dK (chKV rs)) ∧ H b = some (.dK (boKV rs))
theorem HAt.same {H H' : Hp} {h : Addr} {nx : Int} {rs : List Row} (s : Same H H') (a : HAt H h nx rs) : HAt H' h nx rs := let ⟨c, b, h1, h2, h3⟩ := a; ⟨c, b, s _ _ h1, s _ _ h2, s _ _ h3⟩
section
variable {P : Program} {w : World} {K : PySem.W.Frag} {mg : Str → Option Value} {base : Heap}
def spHouseText (K : PySem.W.Frag) : Sp := fun vs H Q _ => ∃ (h : Addr) (nx : Int) (rs : List Row), vs = [.ref h] ∧ HAt H h nx rs ∧ Good nx rs ∧ ∀ H', Same H H' → Q (.str (houseT nx rs)) H'
theorem ok_HouseText {k : Nat} {f : Addr} {fd : FuncData}  (F : Fun K "_law_house_text" "_law_house_text" sHouseText f fd)   (fint : mg "int" = none) (fsorted : mg "sorted" = none) (fstr : mg "str" = none) : FnOk P w K mg base CX0 (k + 1) f fd ["house"] (spHouseText K) := by
  refine F.ok scHouseText (fun vs H Q E h => ?_) (fun cdv A outer s H vs Q E hr h => ?_)
  · obtain ⟨h, nx, rs, rfl, _⟩ := h
    rfl
  · obtain ⟨h, nx, rs, rfl, hh, g, q⟩ := h
    refine ⟨_, (pss_cons (ps_set (i := 1) scHouseText.nd rfl (.inl rfl) (pe_lst (pa_cons (pe_op op_add_str pe_str (pe_callTy call_str_int (by rfl) fstr (by decide +kernel) (pa_cons (pe_callTy call_int1 (by rfl) fint (by decide +kernel) (pa_cons (pe_dget (hu_of hr) (pv 0) pe_str (fun _ _ => rfl)) pa_nil)) pa_nil))) pa_nil))) (pss_cons (ps_for PassesOwn.never rfl (pi_list (pe_callB (call_sortedDI rfl) (by rfl) fsorted (by decide +kernel) (pa_cons (pe_dget (hu_of hr) (pv 0) pe_str (fun _ _ => rfl)) pa_nil))) (pg_name (i := 2) scHouseText.nd rfl (.inl rfl)) (pss_cons (ps_set (i := 3) scHouseText.nd rfl (.inl rfl) (pe_ifExp (pt_cmpR op_isN (pe_dget (hu_of hr) (pe_dget (hu_of hr) (pv 0) pe_str (fun _ _ => rfl)) (pv 2) (fun _ _ => rfl)) pe_non (nomark _)) pe_str (pe_callTy call_str_int (by rfl) fstr (by decide +kernel) (pa_cons (pe_callTy call_int1 (by rfl) fint (by decide +kernel) (pa_cons (pe_dget (hu_of hr) (pe_dget (hu_of hr) (pv 0) pe_str (fun _ _ => rfl)) (pv 2) (fun _ _ => rfl)) pa_nil)) pa_nil)))) (pss_one (ps_expr (pe_bm PySem.F.plainAttrs_list PySem.F.slot_list_append PySem.F.type_list_append mt_append (pv 1) (pa_cons (pe_join pe_str (pe_lst (pa_cons pe_str (pa_cons (pe_callTy call_str_int (by rfl) fstr (by decide +kernel) (pa_cons (pe_callTy call_int1 (by rfl) fint (by decide +kernel) (pa_cons (pv 2) pa_nil)) pa_nil)) (pa_cons (pv 3) (pa_cons (pe_ifExp (pt_val (pe_dget (hu_of hr) (pe_dget (hu_of hr) (pv 0) pe_str (fun _ _ => rfl)) (pv 2) (fun _ _ => rfl))) pe_str pe_str) pa_nil)))))) pa_nil)))))) (pss_one (ps_ret (pe_join pe_str (pv 1)))))), ?_⟩
    obtain ⟨c, b, h1, h2, h3⟩ := hh
    have hsm := g.small
    have hlo := g.lo
    have lg : ∀ n : Int, 0 ≤ n → n < 1000 → n.natAbs.log2 < 1920 := fun n a b => log2_small (by have : n.natAbs < 1000 := by omega
                                                                                                omega)
    refine ⟨.ref h, rfl, h, _, rfl, g_next h1, .inl ⟨nx, rfl, nx, rfl, lg nx (by omega) hsm, "clans ", strN nx, rfl, rfl, (by
      have h5 := strN_len (n := nx) (by omega) hsm
      have h6 : ("clans " : Str).length = 6 := by decide
      exact sl (by omega)), by show 1 ≤ sizeLine; decide, fun L nL => ?_⟩⟩
    have s1 := same_upd (o := .lst [V.str ("clans " ++ strN nx)]) nL
    have hL : upd H L (.lst [V.str ("clans " ++ strN nx)]) L = some (.lst [V.str ("clans " ++ strN nx)]) := upd_same
    generalize upd H L (.lst [V.str ("clans " ++ strN nx)]) = H1 at s1 hL ⊢
    refine ⟨.ref h, rfl, h, _, rfl, g_chiefs (s1 _ _ h1), c, chKV rs, rs.map (·.1), rfl, .inl (s1 _ _ h2), (by unfold chKV; rw [List.map_map, List.map_map]; rfl), (by rw [List.length_map]; have := g.few; omega), fun ys S hp hs nS => ?_⟩
    rw [sorted_rise g.rise hp hs]
    have sS := same_upd (o := .lst ((rs.map (·.1)).map V.int)) nS
    have hLS : L ≠ S := by rintro rfl; rw [nS] at hL; cases hL
    refine ⟨S, rfl, ⟨_, SqL.of upd_same⟩, ?_⟩
    refine for_list (xs := (rs.map (·.1)).map V.int) (fun i σ H' => ∃ y2 y3, σ = [some (.ref h), some (.ref L), y2, y3] ∧ Same H H' ∧ H' L = some (.lst ((("clans " ++ strN nx) :: (rs.take i).map rowT).map V.str)) ∧ H' S = some (.lst ((rs.map (·.1)).map V.int)))
      ⟨none, none, rfl, s1.trans sS, sS _ _ hL, upd_same⟩ (fun i σ H' _ hP => ?_) (fun i x σ H' hx hP => ?_) fun σ H' hP => ?_
    · obtain ⟨_, _, _, _, _, h⟩ := hP
      exact SqL.of h
    · obtain ⟨y2, y3, rfl, sm, hL, hS⟩ := hP
      have hi := (List.getElem?_eq_some_iff.mp hx).1
      rw [List.length_map, List.length_map] at hi
      have hget : rs[i]? = some rs[i] := List.getElem?_eq_getElem hi
      rw [List.getElem?_map, List.getElem?_map, hget] at hx
      obtain rfl : V.int (rs[i]).1 = x := Option.some.inj hx
      have hro := g.row _ (List.getElem_mem hi)
      have vc := val_at (f := fun r => optI r.2.1) g.rise hget
      have vb := val_at (f := fun r => V.bl r.2.2) g.rise hget
      have et : rs.take (i + 1) = rs.take i ++ [rs[i]] := by rw [List.take_add_one, hget]; rfl
      generalize rs[i] = r at hro vc vb et ⊢
      have k1 := sm _ _ h1
      have k2 := sm _ _ h2
      have k3 := sm _ _ h3
      have gc : DGet H' c (.int r.1) (some (optI r.2.1)) := by rw [← vc]; exact DGet.k (k := Sum.inl r.1) k2
      have gb : DGet H' b (.int r.1) (some (.bl r.2.2)) := by rw [← vb]; exact DGet.k (k := Sum.inl r.1) k3
      have lgt := lg r.1 hro.lo (by have := hro.hi; omega)
      show tIf _ _ _ _ _ _
      refine val_to (.str (chiefT r.2.1)) (fun R q => ?_) ?_
      · refine ⟨.ref h, rfl, h, _, rfl, g_chiefs k1, .int r.1, rfl, c, optI r.2.1, rfl, gc, rfl, _, rfl, ?_⟩
        cases ec : r.2.1 with
        | none => rw [ec] at q; exact iteD rfl q
        | some n =>
          rw [ec] at q gc
          have := hro.clo n ec
          exact iteE (fun y => nomatch y) ⟨.ref h, rfl, h, _, rfl, g_chiefs k1, .int r.1, rfl, c, .int n, rfl, gc, .inl ⟨n, rfl, n, rfl, lg n this.1 (by omega), q⟩⟩
      · refine ⟨.ref L, rfl, .inl ⟨rfl, _, SqL.of hL⟩, ⟨_, rfl⟩, .int r.1, rfl, .inl ⟨r.1, rfl, r.1, rfl, lgt, .str (chiefT r.2.1), rfl, ?_⟩⟩
        refine val_to (.str (bordT r.2.2)) (fun R q => ?_) ?_
        · refine ⟨.ref h, rfl, h, _, rfl, g_borders k1, .int r.1, rfl, b, .bl r.2.2, rfl, gb, _, rfl, ?_⟩
          cases eb : r.2.2 with
          | true => rw [eb] at q; exact iteT q
          | false => rw [eb] at q; exact iteF q
        · refine ⟨by show 4 ≤ sizeLine; decide, fun D nD => ⟨" ", D, wordsT r, rfl, rfl, .inl (SqL.of upd_same), ?_, ?_⟩⟩
          · have h6 := words_sum hro hsm
            have h7 : (" " : Str).length = 1 := by decide
            have h8 : (wordsT r).length = 4 := rfl
            show _ ≤ _
            rw [h7, h8]
            omega
          · have sD := same_upd (o := .lst ((wordsT r).map V.str)) nD
            have hL2 := sD _ _ hL
            refine ⟨L, _, _, rfl, rfl, hL2, small1000 (by have := g.few; rw [List.length_map, List.length_cons, List.length_map, List.length_take]; omega), ?_⟩
            refine ⟨_, _, rfl, ?_, ?_, ?_⟩
            · exact Same.updNew (sm.trans sD) nL
            · rw [upd_same, et, List.map_append, ← List.cons_append, List.map_append]
              rfl
            · rw [upd_ne hLS.symm]
              exact sD _ _ hS
    · obtain ⟨y2, y3, rfl, sm, hL, hS⟩ := hP
      rw [List.length_map, List.length_map, List.take_length] at hL
      have h6 := lines_sum g
      have h7 : ("\n" : Str).length = 1 := by decide
      have h8 : (linesT nx rs).length = rs.length + 1 := by unfold linesT; rw [List.length_cons, List.length_map]
      exact ⟨⟨_, rfl⟩, .ref L, rfl, "\n", L, linesT nx rs, rfl, rfl, .inl (SqL.of hL), (by rw [h7, h8]; have := g.few; omega), q _ sm⟩
def spHouseMade (K : PySem.W.Frag) : Sp := fun vs H Q _ => ∃ (h : Addr) (nx : Int) (rs : List Row) (a : Option Int) (b : Bool), vs = [.ref h, optI a, .bl b] ∧ HAt H h nx rs ∧ rs.length ≤ 6 ∧ Rise rs ∧ (∀ r ∈ rs, r.1 < nx) ∧ ∀ H' h', Same H H' → HAt H' h' (nx + 1) (rs ++ [(nx, a, b)]) → H h' = none → Q (.ref h') H'
theorem ok_HouseMade {k : Nat} {f : Addr} {fd : FuncData}  (F : Fun K "_law_house_made" "_law_house_made" sHouseMade f fd)   (fdict : mg "dict" = none) (flist : mg "list" = none) : FnOk P w K mg base CX0 (k + 1) f fd ["house", "chief", "border"] (spHouseMade K) := by
  refine F.ok scHouseMade (fun vs H Q E h => ?_) (fun cdv A outer s H vs Q E hr h => ?_)
  · obtain ⟨h, nx, rs, a, b, rfl, _⟩ := h
    rfl
  · obtain ⟨h, nx, rs, a, b, rfl, hh, h6, hri, hlt, q⟩ := h
    refine ⟨_, (pss_cons (ps_set (i := 3) scHouseMade.nd rfl (.inl rfl) (pe_disp (pps_cons pe_str (pe_op op_add (pe_dget (hu_of hr) (pv 0) pe_str (fun _ _ => rfl)) pe_int) (pps_cons pe_str (pe_callTy (call_dictP rfl) (by rfl) fdict (by decide +kernel) (pa_cons (pe_op op_cat (LiI.pe_listItems rfl (pe_dget (hu_of hr) (pv 0) pe_str (fun _ _ => rfl)) (by rfl) flist (by decide +kernel)) (pe_lst (pa_cons (pe_tup (pa_cons (pe_dget (hu_of hr) (pv 0) pe_str (fun _ _ => rfl)) (pa_cons (pv 1) pa_nil))) pa_nil))) pa_nil)) pps_nil)) (by rfl) (by rfl) (fun z => by cases z) (by decide))) (pss_cons (ps_dput (hu_of hr) (pv 3) pe_str (pe_callTy (call_dictP rfl) (by rfl) fdict (by decide +kernel) (pa_cons (pe_op op_cat (LiI.pe_listItems rfl (pe_dget (hu_of hr) (pv 0) pe_str (fun _ _ => rfl)) (by rfl) flist (by decide +kernel)) (pe_lst (pa_cons (pe_tup (pa_cons (pe_dget (hu_of hr) (pv 0) pe_str (fun _ _ => rfl)) (pa_cons (pv 2) pa_nil))) pa_nil))) pa_nil)) rfl) (pss_one (ps_ret (pv 3))))), ?_⟩
    obtain ⟨c, d, h1, h2, h3⟩ := hh
    have hR2 : Rise (rs ++ [(nx, a, b)]) := rise_snoc hri hlt
    have m1 : mergeK [] (chKV (rs ++ [(nx, a, b)])) = chKV (rs ++ [(nx, a, b)]) := mergeK_rise (f := fun r => optI r.2.1) (rs ++ [(nx, a, b)]) [] hR2
    have m2 : mergeK [] (boKV (rs ++ [(nx, a, b)])) = boKV (rs ++ [(nx, a, b)]) := mergeK_rise (f := fun r => V.bl r.2.2) (rs ++ [(nx, a, b)]) [] hR2
    have e1 : chKV (rs ++ [(nx, a, b)]) = chKV rs ++ [(Sum.inl nx, optI a)] := List.map_append ..
    have e2 : boKV (rs ++ [(nx, a, b)]) = boKV rs ++ [(Sum.inl nx, V.bl b)] := List.map_append ..
    have l1 : (chKV rs).length ≤ 6 := by unfold chKV; rw [List.length_map]; exact h6
    have l2 : (boKV rs).length ≤ 6 := by unfold boKV; rw [List.length_map]; exact h6
    intro p np
    have s0 := same_upd (o := .dK []) np
    have hp : upd H p (.dK []) p = some (.dK []) := upd_same
    generalize upd H p (.dK []) = H0 at s0 hp ⊢
    refine ⟨.ref h, rfl, h, _, rfl, g_next (s0 _ _ h1), nx, 1, rfl, rfl, ?_⟩
    refine ⟨.ref h, rfl, h, _, rfl, g_chiefs (s0 _ _ h1), c, chKV rs, rfl, s0 _ _ h2, fun H3 P ts s3 nP nts nPt hPt hpair => ?_⟩
    have l3 := paired_len hpair
    have s03 : Same H H3 := fun b o e => s3 _ _ (s0 _ _ e)
    refine ⟨.ref h, rfl, h, _, rfl, g_next (s03 _ _ h1), _, rfl, by show 2 ≤ sizeLine; decide, fun t nt => ?_⟩
    have s4 := same_upd (o := .tup [.int nx, optI a]) nt
    have ht4 : SqT K (upd H3 t (.tup [.int nx, optI a])) t [.int nx, optI a] := SqT.of upd_same
    generalize upd H3 t (.tup [.int nx, optI a]) = H4 at s4 ht4 ⊢
    refine ⟨by show 1 ≤ sizeLine; decide, fun L nL => ?_⟩
    have s5 := same_upd (o := .lst [.ref t]) nL
    have hL5 : upd H4 L (.lst [.ref t]) L = some (.lst [.ref t]) := upd_same
    generalize upd H4 L (.lst [.ref t]) = H5 at s5 hL5 ⊢
    have s35 := s4.trans s5
    refine ⟨P, L, ts.map V.ref, [.ref t], rfl, rfl, s35 _ _ hPt, hL5, sl (by rw [List.length_map, l3, List.length_singleton]; omega), fun M nM => ?_⟩
    have s6 := same_upd (o := .lst (ts.map V.ref ++ [.ref t])) nM
    have hM6 : upd H5 M (.lst (ts.map V.ref ++ [.ref t])) M = some (.lst ((ts ++ [t]).map V.ref)) := by rw [upd_same, List.map_append]; rfl
    generalize upd H5 M (.lst (ts.map V.ref ++ [.ref t])) = H6 at s6 hM6 ⊢
    have s36 := s35.trans s6
    refine ⟨M, ts ++ [t], chKV (rs ++ [(nx, a, b)]), rfl, SqL.of hM6, ?_, fun C nC => ?_⟩
    · rw [e1]
      exact paired_snoc (F := fun (t : Addr) (q : Key × V) => SqT K H6 t [kV q.1, q.2]) (Same.seqT (s5.trans s6) ht4) (paired_imp (G := fun (t : Addr) (q : Key × V) => SqT K H6 t [kV q.1, q.2]) (fun x y e => SqT.of (s36 _ _ e)) hpair)
    rw [m1]
    have s7 := same_upd (o := .dK (chKV (rs ++ [(nx, a, b)]))) nC
    have hC7 : upd H6 C (.dK (chKV (rs ++ [(nx, a, b)]))) C = some (.dK (chKV (rs ++ [(nx, a, b)]))) := upd_same
    generalize upd H6 C (.dK (chKV (rs ++ [(nx, a, b)]))) = H7 at s7 hC7 ⊢
    have s07 : Same H0 H7 := fun b o e => s7 _ _ (s36 _ _ (s3 _ _ e))
    have hCp : p ≠ C := by
      rintro rfl
      have := s36 _ _ (s3 _ _ hp)
      rw [this] at nC; cases nC
    refine ⟨s07 _ _ hp, [(Sum.inr "next", .int (nx + 1)), (Sum.inr "chiefs", .ref C)], rfl, (by show 2 ≤ 15; decide), ?_⟩
    have em : mergeK [] [((Sum.inr "next" : Key), V.int (nx + 1)), (Sum.inr "chiefs", .ref C)] = [((Sum.inr "next" : Key), V.int (nx + 1)), ((Sum.inr "chiefs" : Key), V.ref C)] := rfl
    rw [em]
    have hp8 : upd H7 p (.dK [(Sum.inr "next", .int (nx + 1)), (Sum.inr "chiefs", .ref C)]) p = some (.dK [(Sum.inr "next", .int (nx + 1)), (Sum.inr "chiefs", .ref C)]) := upd_same
    have hC8 : upd H7 p (.dK [(Sum.inr "next", .int (nx + 1)), (Sum.inr "chiefs", .ref C)]) C = some (.dK (chKV (rs ++ [(nx, a, b)]))) := by rw [upd_ne hCp.symm]; exact hC7
    have s8 : Same H (upd H7 p (.dK [(Sum.inr "next", .int (nx + 1)), (Sum.inr "chiefs", .ref C)])) := Same.updNew (s0.trans s07) np
    generalize upd H7 p (.dK [(Sum.inr "next", .int (nx + 1)), (Sum.inr "chiefs", .ref C)]) = H8 at hp8 hC8 s8 ⊢
    clear hC7 s07 s7 hM6 s6 s36 hL5 s5 s35 ht4 s4 hpair hPt s03 hp s0
    refine ⟨.ref h, rfl, h, _, rfl, g_borders (s8 _ _ h1), d, boKV rs, rfl, s8 _ _ h3, fun H3 P ts s3 nP nts nPt hPt hpair => ?_⟩
    have l3 := paired_len hpair
    refine ⟨.ref h, rfl, h, _, rfl, g_next (s3 _ _ (s8 _ _ h1)), _, rfl, by show 2 ≤ sizeLine; decide, fun t nt => ?_⟩
    have s4 := same_upd (o := .tup [.int nx, .bl b]) nt
    have ht4 : SqT K (upd H3 t (.tup [.int nx, .bl b])) t [.int nx, .bl b] := SqT.of upd_same
    generalize upd H3 t (.tup [.int nx, .bl b]) = H4 at s4 ht4 ⊢
    refine ⟨by show 1 ≤ sizeLine; decide, fun L nL => ?_⟩
    have s5 := same_upd (o := .lst [.ref t]) nL
    have hL5 : upd H4 L (.lst [.ref t]) L = some (.lst [.ref t]) := upd_same
    generalize upd H4 L (.lst [.ref t]) = H5 at s5 hL5 ⊢
    have s35 := s4.trans s5
    refine ⟨P, L, ts.map V.ref, [.ref t], rfl, rfl, s35 _ _ hPt, hL5, sl (by rw [List.length_map, l3, List.length_singleton]; omega), fun M nM => ?_⟩
    have s6 := same_upd (o := .lst (ts.map V.ref ++ [.ref t])) nM
    have hM6 : upd H5 M (.lst (ts.map V.ref ++ [.ref t])) M = some (.lst ((ts ++ [t]).map V.ref)) := by rw [upd_same, List.map_append]; rfl
    generalize upd H5 M (.lst (ts.map V.ref ++ [.ref t])) = H6 at s6 hM6 ⊢
    have s36 := s35.trans s6
    refine ⟨M, ts ++ [t], boKV (rs ++ [(nx, a, b)]), rfl, SqL.of hM6, ?_, fun B nB => ?_⟩
    · rw [e2]
      exact paired_snoc (F := fun (t : Addr) (q : Key × V) => SqT K H6 t [kV q.1, q.2]) (Same.seqT (s5.trans s6) ht4) (paired_imp (G := fun (t : Addr) (q : Key × V) => SqT K H6 t [kV q.1, q.2]) (fun x y e => SqT.of (s36 _ _ e)) hpair)
    rw [m2]
    have s7 := same_upd (o := .dK (boKV (rs ++ [(nx, a, b)]))) nB
    have hB7 : upd H6 B (.dK (boKV (rs ++ [(nx, a, b)]))) B = some (.dK (boKV (rs ++ [(nx, a, b)]))) := upd_same
    have s86 : Same H8 H6 := fun b o e => s36 _ _ (s3 _ _ e)
    generalize upd H6 B (.dK (boKV (rs ++ [(nx, a, b)]))) = H7 at s7 hB7 ⊢
    have s87 := s86.trans s7
    have hBp : p ≠ B := by
      rintro rfl
      rw [s86 _ _ hp8] at nB; cases nB
    refine ⟨.ref p, rfl, p, _, rfl, DPut.k (k := Sum.inr "borders") (s87 _ _ hp8) (by show 2 < sizeLine; decide), .ref p, rfl, ?_⟩
    have ep : putK [((Sum.inr "next" : Key), V.int (nx + 1)), (Sum.inr "chiefs", .ref C)] (Sum.inr "borders") (V.ref B) = hkv (nx + 1) C B := rfl
    rw [ep]
    exact q _ p (Same.updNew (s8.trans s87) np) ⟨C, B, upd_same, by rw [upd_ne hCp.symm]; exact s87 _ _ hC8, by rw [upd_ne hBp.symm]; exact hB7⟩ np
end
end K35



set_option maxRecDepth 100000
set_option maxHeartbeats 4000000
/-! k35: the clans that a text tells. -/
namespace K35
open PySem PySem.Spec PyProof.Rows L2 LamX VG TL
theorem scClansI : FnScope ["self", "text", "lines", "fresh", "rows", "number", "line", "row", "task", "above", "_", "border"] ["self", "text"] (defScope sClansI) := ⟨rfl, rfl, rfl, by decide +kernel, rfl, by decide +kernel, by decide +kernel⟩
structure CF (K : PySem.W.Frag) (C : Addr) : Prop where
  cl : Cls K C
  nT : NoAttr K C "text"
  nF : NoAttr K C "fresh"
  nR : NoAttr K C "rows"
  nK : NoAttr K C "tasks"
  nC : NoAttr K C "chiefs"
  nB : NoAttr K C "borders"
  n : PySem.W.findIn K (.ref C) "__ne__" = some (some (.builtin "object.__ne__"))
  m : PySem.W.mroIn K C (.type "object") = some true
  a : PySem.W.findIn K (.ref C) "__class__" = some (some (.builtin "object.__class__"))
  g : PySem.W.specialIn K (.builtin "object.__class__") "__get__" = some (some (.builtin "getset_descriptor.__get__"))
  t : PySem.W.takesIn K (.builtin "object.__class__") = some true
  yes : PySem.W.kitOne K (.ref C) (.ref C) = some true
  no : ∀ d : PyData, PySem.W.kitOne K (.type (tyName d)) (.ref C) = some false
section
variable {K : PySem.W.Frag}
theorem rowsAt_same {H H' : Hp} {xs : List V} {rs : List Row} (s : Same H H') (h : RowsAt K H xs rs) : RowsAt K H' xs rs := ⟨h.1, fun i r e => let ⟨p, e1, e2⟩ := h.2 i r e; ⟨p, e1, Same.seqT s e2⟩⟩
theorem rowsAt_list {H : Hp} {R : Addr} {xs ys : List V} {o : HO} {rs : List Row} (hR : H R = some (.lst ys)) (h : RowsAt K H xs rs) : RowsAt K (upd H R o) xs rs := ⟨h.1, fun i r e => let ⟨p, e1, e2⟩ := h.2 i r e; ⟨p, e1, sqT_upd e2 hR⟩⟩
theorem rowsAt_snoc {H : Hp} {xs : List V} {rs : List Row} {r : Row} {p : Addr} (h : RowsAt K H xs rs) (hr : SqT K H p (rowV r)) : RowsAt K H (xs ++ [.ref p]) (rs ++ [r]) := by
  refine ⟨by rw [List.length_append, List.length_append, h.1]; rfl, fun i q e => ?_⟩
  by_cases c : i < rs.length
  · rw [List.getElem?_append_left c] at e
    rw [List.getElem?_append_left (by rw [h.1]; exact c)]
    exact h.2 i q e
  · rw [List.getElem?_append_right (by omega)] at e
    have e0 : i - rs.length = 0 := by
      have := (List.getElem?_eq_some_iff.mp e).1
      rw [List.length_singleton] at this
      omega
    rw [e0] at e
    cases Option.some.inj e
    refine ⟨p, ?_, hr⟩
    rw [List.getElem?_append_right (by rw [h.1]; omega), h.1, e0]
    rfl
/-- what stands aside of x stays -/
def But (x : Addr) (H H' : Hp) : Prop := ∀ b o, b ≠ x → H b = some o → H' b = some o
theorem But.upd {x : Addr} {H : Hp} {o : HO} : But x H (upd H x o) := fun b o' n e => by rw [upd_ne n]; exact e
theorem But.of {x : Addr} {H H' : Hp} (s : Same H H') : But x H H' := fun b o _ e => s b o e
theorem But.trans {x : Addr} {H H' H'' : Hp} (a : But x H H') (b : But x H' H'') : But x H H'' := fun y o n e => b y o n (a y o n e)
theorem Same.but {x : Addr} {H H' H'' : Hp} (s : Same H H') (n : H x = none) (b : But x H' H'') : Same H H'' := fun y o e => b y o (ne_of_none e n) (s y o e)
theorem sqT_but {H H' : Hp} {a x C dx : Addr} {fs : List (Str × V)} {xs : List V} (h : SqT K H a xs) (b : But x H H') (hx : H x = some (.ins C dx fs)) : SqT K H' a xs := by
  rcases h with h | h
  · rcases h with h | ⟨o, h⟩
    · exact .inl (.inl (b _ _ (fun z => by rw [z, hx] at h; cases h) h))
    · exact .inl (.inr ⟨o, b _ _ (fun z => by rw [z, hx] at h; cases h) h⟩)
  · exact .inr h
theorem rowsAt_but {H H' : Hp} {xs : List V} {rs : List Row} {x C dx : Addr} {fs : List (Str × V)} (h : RowsAt K H xs rs) (b : But x H H') (hx : H x = some (.ins C dx fs)) : RowsAt K H' xs rs := ⟨h.1, fun i r e => let ⟨p, e1, e2⟩ := h.2 i r e; ⟨p, e1, sqT_but e2 b hx⟩⟩
theorem lst_but {H H' : Hp} {a x C dx : Addr} {fs : List (Str × V)} {xs : List V} (h : H a = some (.lst xs)) (b : But x H H') (hx : H x = some (.ins C dx fs)) : H' a = some (.lst xs) := b _ _ (fun z => by rw [z, hx] at h; cases h) h
theorem dk_but {H H' : Hp} {a x C dx : Addr} {fs : List (Str × V)} {ks : List (Key × V)} (h : H a = some (.dK ks)) (b : But x H H') (hx : H x = some (.ins C dx fs)) : H' a = some (.dK ks) := b _ _ (fun z => by rw [z, hx] at h; cases h) h
/-- the clans' fields in their sequence -/
def cfs (z : Str) (nx : Int) (R T A B : Addr) : List (Str × V) := [("text", .str z), ("fresh", .int nx), ("rows", .ref R), ("tasks", .ref T), ("chiefs", .ref A), ("borders", .ref B)]
def ClansRaw (K : PySem.W.Frag) (C : Addr) (H : Hp) (p dx R T A B : Addr) (nx : Int) (rs : List Row) : Prop :=
  H p = some (.ins C dx (cfs (houseT nx rs) nx R T A B)) ∧ (∃ xs, SqT K H R xs ∧ RowsAt K H xs rs) ∧ SqT K H T ((rs.map (·.1)).map V.int) ∧ H A = some (.dK (chKV rs)) ∧ H B = some (.dK (boKV rs))
def ClansAt (K : PySem.W.Frag) (C : Addr) (H : Hp) (p : Addr) (nx : Int) (rs : List Row) : Prop := ∃ dx R T A B, ClansRaw K C H p dx R T A B nx rs
theorem ClansRaw.same {C : Addr} {H H' : Hp} {p dx R T A B : Addr} {nx : Int} {rs : List Row} (h : ClansRaw K C H p dx R T A B nx rs) (s : Same H H') : ClansRaw K C H' p dx R T A B nx rs := by
  obtain ⟨h1, ⟨xs, h2, h3⟩, h4, h5, h6⟩ := h
  exact ⟨s _ _ h1, ⟨xs, Same.seqT s h2, rowsAt_same s h3⟩, Same.seqT s h4, s _ _ h5, s _ _ h6⟩
theorem ClansAt.same {C : Addr} {H H' : Hp} {p : Addr} {nx : Int} {rs : List Row} (h : ClansAt K C H p nx rs) (s : Same H H') : ClansAt K C H' p nx rs := by
  obtain ⟨dx, R, T, A, B, h⟩ := h
  exact ⟨dx, R, T, A, B, h.same s⟩
theorem okR_at : ∀ (rs acc : List Row) {i : Nat} {r : Row}, okR acc rs = true → rs[i]? = some r → standsB r.1 r.2.1 (acc ++ rs.take i) = true
  | [], _, i, r, _, e => by cases i <;> cases e
  | x :: rs, acc, 0, r, h, e => by
    cases e
    unfold okR at h
    rw [Bool.and_eq_true] at h
    rw [List.take_zero, List.append_nil]
    exact h.1
  | x :: rs, acc, i + 1, r, h, e => by
    unfold okR at h
    rw [Bool.and_eq_true] at h
    have := okR_at rs (acc ++ [x]) h.2 (i := i) (r := r) e
    rw [List.append_assoc] at this
    exact this
theorem put_rise {f : Row → V} {rs : List Row} (h : Rise rs) {i : Nat} {r : Row} (e : rs[i]? = some r) : putK ((rs.take i).map fun r => ((Sum.inl r.1 : Key), f r)) (Sum.inl r.1) (f r) = (rs.take (i + 1)).map fun r => ((Sum.inl r.1 : Key), f r) := by
  have e2 : rs.take (i + 1) = rs.take i ++ [r] := by rw [List.take_add_one, e]; rfl
  have := mergeK_rise (f := f) [r] (rs.take i) (by
    rw [← e2]
    unfold Rise at h ⊢
    rw [List.map_take]
    exact h.sublist (List.take_sublist _ _))
  rw [e2, ← this]
  rfl
end
section
variable {P : Program} {w : World} {K : PySem.W.Frag} {mg : Str → Option Value} {base : Heap}
def spClansI (K : PySem.W.Frag) (C : Addr) : Sp := fun vs H Q _ => ∃ (p dx : Addr) (nx : Int) (rs : List Row), vs = [.ref p, .str (houseT nx rs)] ∧ Good nx rs ∧ H p = some (.ins C dx []) ∧ ∀ H', But p H H' → ClansAt K C H' p nx rs → Q .non H'
theorem ok_ClansI {k : Nat} {f : Addr} {fd : FuncData} {C C1 J1:Addr} {fdI1:FuncData} (F : Fun K "__init__" "Clans.__init__" sClansI f fd) (gNt : Cal P w K mg base CX0 (k + 4) "number_told" ["lines", "at", "head", "bounds"] (spNumberTold K)) (gTr : Cal P w K mg base CX0 (k + 4) "task_row" ["line", "fresh"] (spTaskRow K)) (gSb : Cal P w K mg base CX0 (k + 4) "_stands_behind" ["row", "rows"] (spStands K)) (E1 : ErrC K C1 J1) (I1 : Fun K "__init__" "CoreError.__init__" sInit J1 fdI1) (bI1 : L2.Binds K fdI1 ["self", "value"] []) (gBadClans : mg "BadClans" = some (.ref C1)) (T : CF K C) {tN : Tok} (gLAST_NUMBER : mg "LAST_NUMBER" = some (.int 999 tN)) (fenumerate : mg "enumerate" = none) (fstr : mg "str" = none) (ftuple : mg "tuple" = none) (ftype : mg "type" = none) : FnOk P w K mg base (L2.CX P w) (k + 5) f fd ["self", "text"] (spClansI K C) := by
  obtain ⟨fNt, fdNt, GNt, kNt, bNt, mNt⟩ := gNt
  obtain ⟨fTr, fdTr, GTr, kTr, bTr, mTr⟩ := gTr
  obtain ⟨fSb, fdSb, GSb, kSb, bSb, mSb⟩ := gSb
  refine F.okX scClansI (fun vs H Q E h => ?_) (fun cdv A outer s H vs Q E hr h => ?_)
  · obtain ⟨p, dx, nx, rs, rfl, _⟩ := h
    rfl
  · obtain ⟨p, dx, nx, rs, rfl, g, hp, q⟩ := h
    refine ⟨_, (pss_cons (ps_if (pt_cmpR op_notTyB (pe_callTy call_type1 (by rfl) ftype (by decide +kernel) (pa_cons (pv 1) pa_nil)) (pe_bltn (v := .ty "str") (by rfl) fstr (by decide +kernel) rfl) (nomark _)) (pss_one (ps_err rfl E1 I1 bI1 (k := (k+2)) hr (takes_of rfl rfl rfl rfl) (by rfl) gBadClans pe_int)) pss_nil) (pss_cons (ps_set (i := 2) scClansI.nd rfl (.inl rfl) (pe_split (pv 1) pe_str)) (pss_cons (ps_set (i := 3) scClansI.nd rfl (.inl rfl) (pe_call GNt hr (by rfl) mNt kNt bNt .nil pass0 (pa_cons (pv 2) (pa_cons pe_int (pa_cons pe_str (pa_cons (pe_tup (pa_cons pe_int (pa_cons (pe_glob (by rfl) gLAST_NUMBER (show RelV (.int 999) (.int 999 tN) from ⟨_, rfl⟩)) pa_nil))) pa_nil)))))) (pss_cons (ps_if (pt_cmpR op_isN (pv 3) pe_non (nomark _)) (pss_one (ps_err rfl E1 I1 bI1 (k := (k+2)) hr (takes_of rfl rfl rfl rfl) (by rfl) gBadClans pe_int)) pss_nil) (pss_cons (ps_set (i := 4) scClansI.nd rfl (.inl rfl) (pe_lst pa_nil)) (pss_cons (ps_for (passes_of rfl) rfl (pi_enumK (by rfl) fenumerate (pa_cons (pe_slice sl_list (pv 2) (po_some pe_int) po_none) pa_nil) (pk_cons pe_int pk_nil)) (pg_tup (by rfl) (pgs_cons (pg_name (i := 5) scClansI.nd rfl (.inl rfl)) (pgs_cons (pg_name (i := 6) scClansI.nd rfl (.inl rfl)) pgs_nil))) (pss_cons (ps_set (i := 7) scClansI.nd rfl (.inl rfl) (pe_call GTr hr (by rfl) mTr kTr bTr .nil pass0 (pa_cons (pv 6) (pa_cons (pv 3) pa_nil)))) (pss_cons (ps_if (PW.pt (pw_or (pt_cmpR op_isN (pv 7) pe_non (nomark _)) (pw_or1 (pt_not (pt_val (pe_call GSb hr (by rfl) mSb kSb bSb .nil pass0 (pa_cons (pv 7) (pa_cons (pv 4) pa_nil)))))))) (pss_one (ps_err rfl E1 I1 bI1 (k := (k+2)) hr (takes_of rfl rfl rfl rfl) (by rfl) gBadClans (pv 5))) pss_nil) (pss_one (ps_expr (pe_bm PySem.F.plainAttrs_list PySem.F.slot_list_append PySem.F.type_list_append mt_append (pv 4) (pa_cons (pv 7) pa_nil))))))) (pss_cons (ps_if (pt_not (pt_truth (pv 4) (by intro _; rfl))) (pss_one (ps_err rfl E1 I1 bI1 (k := (k+2)) hr (takes_of rfl rfl rfl rfl) (by rfl) gBadClans pe_int)) pss_nil) (PSs.nox (pss_cons (ps_fld (pv 0) (pv 1) rfl) (pss_cons (ps_fld (pv 0) (pv 3) rfl) (pss_cons (ps_fld (pv 0) (pe_callTy call_tuple_of (by rfl) ftuple (by decide +kernel) (pa_cons (pv 4) pa_nil)) rfl) (pss_cons (ps_fld (pv 0) (pe_callTy call_tuple_of (by rfl) ftuple (by decide +kernel) (pa_cons (pe_lc (own := [("row", 7)]) (g := (gName 7)) (tt := tYes) rfl scClansI.nd (pi_list (pv 4)) (blkOk_by (N := ["self", "text", "lines", "fresh", "rows", "number", "line", "row", "task", "above", "_", "border"]) (sc := defScope sClansI) (by decide +kernel)) (fun _ _ _ _ _ => (pg_name (i := 7) scClansI.nd rfl (.inl rfl))) (fun _ _ _ _ _ => pts_nil) (fun _ _ _ _ _ => (pe_ix (show IxR _ (rIxT K) from ix_tup) (pv 7) pe_int (fun _ _ => rfl)))) pa_nil)) rfl) (pss_cons (ps_fld (pv 0) (pe_dc (own := [("task", 8), ("above", 9), ("_", 10)]) (g := (gTup K 3 (gCons (gName 8) (gCons (gName 9) (gCons (gName 10) gNil))))) (tt := tYes) rfl scClansI.nd (pi_list (pv 4)) (blkOk_by (N := ["self", "text", "lines", "fresh", "rows", "number", "line", "row", "task", "above", "_", "border"]) (sc := defScope sClansI) (by decide +kernel)) (fun _ _ _ _ _ => (pg_tup (by rfl) (pgs_cons (pg_name (i := 8) scClansI.nd rfl (.inl rfl)) (pgs_cons (pg_name (i := 9) scClansI.nd rfl (.inl rfl)) (pgs_cons (pg_name (i := 10) scClansI.nd rfl (.inl rfl)) pgs_nil))))) (fun _ _ _ _ _ => pts_nil) (fun _ _ _ _ _ => (pv 8)) (fun _ _ _ _ _ => (pv 9))) rfl) (pss_one (ps_fld (pv 0) (pe_dc (own := [("task", 8), ("_", 10), ("border", 11)]) (g := (gTup K 3 (gCons (gName 8) (gCons (gName 10) (gCons (gName 11) gNil))))) (tt := tYes) rfl scClansI.nd (pi_list (pv 4)) (blkOk_by (N := ["self", "text", "lines", "fresh", "rows", "number", "line", "row", "task", "above", "_", "border"]) (sc := defScope sClansI) (by decide +kernel)) (fun _ _ _ _ _ => (pg_tup (by rfl) (pgs_cons (pg_name (i := 8) scClansI.nd rfl (.inl rfl)) (pgs_cons (pg_name (i := 10) scClansI.nd rfl (.inl rfl)) (pgs_cons (pg_name (i := 11) scClansI.nd rfl (.inl rfl)) pgs_nil))))) (fun _ _ _ _ _ => pts_nil) (fun _ _ _ _ _ => (pv 8)) (fun _ _ _ _ _ => (pv 11))) rfl))))))))))))))), ?_⟩
    refine ⟨_, rfl, _, _, rfl, TyB.str _, _, _, rfl, rfl, _, rfl, ?_⟩
    have hz : (houseT nx rs).length ≤ 640 := Nat.le_trans (house_len g) (by decide)
    have hw : ∀ x ∈ Txt.split (houseT nx rs) "\n", x.length ≤ 640 := fun x hx => Nat.le_trans (split_le hx) hz
    have hmany := split_many (houseT nx rs) "\n" (by decide)
    refine iteF ⟨_, rfl, ⟨_, rfl⟩, houseT nx rs, "\n", rfl, rfl, by decide, sl (by omega), fun L nL => ?_⟩
    rw [split_house g] at hw hmany ⊢
    have s1 := same_upd (o := .lst ((linesT nx rs).map V.str)) nL
    have hL : SqL K (upd H L (.lst ((linesT nx rs).map V.str))) L ((linesT nx rs).map V.str) := SqL.of upd_same
    generalize upd H L (.lst ((linesT nx rs).map V.str)) = H1 at s1 hL ⊢
    refine ⟨.ref L, rfl, by show 2 ≤ sizeLine; decide, fun t nt => ?_⟩
    have s2 := same_upd (o := .tup [V.int 1, .int 999]) nt
    refine ⟨L, t, linesT nx rs, 0, "clans", 1, 999, rfl, s2.seq hL, SqT.of upd_same, hw, fun H2 s3 => ?_⟩
    have sm := s1.trans (s2.trans s3)
    have hL2 := s3.seq (s2.seq hL)
    clear s2 s3 hL s1 nt nL
    rw [told_house g]
    refine ⟨.int nx, rfl, rfl, _, rfl, iteE (fun y => nomatch y) ⟨by show 0 ≤ sizeLine; decide, fun R nR => ?_⟩⟩
    have smR := sm.trans (same_upd (o := .lst []) nR)
    have nR0 : H R = none := none_of sm nR
    have hL3 := (same_upd (o := .lst []) nR).seq hL2
    have hR : upd H2 R (.lst []) R = some (.lst []) := upd_same
    generalize upd H2 R (.lst []) = H3 at smR hL3 hR ⊢
    clear sm nR hL2
    refine ⟨.ref L, rfl, 1, rfl, L, _, rfl, hL3, fun D nD => ⟨D, rfl, 2, _, rfl, SqL.of upd_same, by decide, by decide, ?_⟩⟩
    have ecut : cutV ((linesT nx rs).map V.str) (some 1) none = (rs.map rowT).map V.str := (cut_drop _ 1).trans (List.map_drop ..).symm
    rw [ecut]
    have smD := smR.trans (same_upd (o := .lst ((rs.map rowT).map V.str)) nD)
    have nDR : D ≠ R := by rintro rfl; rw [nD] at hR; cases hR
    have hRD : upd H3 D (.lst ((rs.map rowT).map V.str)) R = some (.lst []) := (upd_ne nDR.symm).trans hR
    have hDD : upd H3 D (.lst ((rs.map rowT).map V.str)) D = some (.lst ((rs.map rowT).map V.str)) := upd_same
    generalize upd H3 D (.lst ((rs.map rowT).map V.str)) = H4 at smD hRD hDD ⊢
    clear smR hL3 hR nD ecut
    have len : ((rs.map rowT).map V.str).length = rs.length := by rw [List.length_map, List.length_map]
    refine for_any (n := rs.length) (fun i σ H' => ∃ y5 y6 y7 xs, σ = [some (.ref p), some (.str (houseT nx rs)), some (.ref L), some (.int nx), some (.ref R), y5, y6, y7, none, none, none, none] ∧ Same H H' ∧ H' R = some (.lst xs) ∧ RowsAt K H' xs (rs.take i) ∧ H' D = some (.lst ((rs.map rowT).map V.str)))
      ⟨none, none, none, [], rfl, smD, hRD, ⟨by rw [List.take_zero]; rfl, fun i r e => by rw [List.take_zero] at e; cases i <;> cases e⟩, hDD⟩ (fun i σ H' hi hP => ?_) (fun σ H' hP => ?_) (fun i x σ H' H'' hi hP hy => ?_) fun σ H' hP => ?_
    · obtain ⟨_, _, _, _, _, _, _, _, hD⟩ := hP
      exact ⟨_, .str (rowT rs[i]), SqL.of hD, by rw [List.getElem?_map, List.getElem?_map, List.getElem?_eq_getElem hi]; rfl⟩
    · obtain ⟨_, _, _, _, _, _, _, _, hD⟩ := hP
      exact ⟨_, SqL.of hD, by rw [len]; exact Nat.le_refl _⟩
    · obtain ⟨y5, y6, y7, xs, rfl, sm, hR, hrs, hD⟩ := hP
      obtain ⟨T2, xv, rfl, nT, rfl, hx⟩ := hy
      have hget : rs[i]? = some rs[i] := List.getElem?_eq_getElem hi
      have hro := g.row _ (List.getElem_mem hi)
      have stb := okR_at rs [] g.ok hget
      rw [List.nil_append] at stb
      have hx := hx _ (SqL.of hD)
      rw [List.getElem?_map, List.getElem?_map, hget] at hx
      obtain rfl : V.str (rowT rs[i]) = xv := Option.some.inj hx
      clear hx
      have etk : rs.take (i + 1) = rs.take i ++ [rs[i]] := by rw [List.take_add_one, hget]; rfl
      generalize rs[i] = r at hget hro stb etk ⊢
      have sT := same_upd (o := .tup [.int (2 + (i : Nat)), .str (rowT r)]) nT
      refine ⟨T2, [.int _, .str _], rfl, SqT.of upd_same, rfl, .int _, [.str _], rfl, .str _, [], rfl, rfl, ?_⟩
      have smT := sm.trans sT
      have hRT := sT _ _ hR
      have hDT := sT _ _ hD
      have hrsT := rowsAt_same sT hrs
      generalize upd H' T2 (.tup [.int (2 + (i : Nat)), .str (rowT r)]) = H5 at smT hRT hDT hrsT ⊢
      clear hR hrs hD sm nT sT
      refine ⟨.str (rowT r), rfl, .int nx, rfl, rowT r, nx, rfl, Nat.le_trans (row_len hro g.small) (by decide), fun e => (by rw [rowOf_row hro] at e; cases e), fun r' e H6 pr s6 hr => ?_⟩
      rw [rowOf_row hro] at e
      cases e
      have few6 : (rs.take i).length ≤ 6 := by rw [List.length_take]; have := g.few; omega
      refine ⟨.ref pr, rfl, rfl, _, rfl, iteE (fun y => nomatch y) ⟨.ref pr, rfl, .ref R, rfl, pr, R, r, xs, rs.take i, rfl, hr, SqL.of (s6 _ _ hRT), rowsAt_same s6 hrsT, few6, fun H7 s7 => ⟨_, rfl, ?_⟩⟩⟩
      have s67 := s6.trans s7
      rw [stb]
      have hR7 := s67 _ _ hRT
      have hx7 := (rowsAt_same s67 hrsT).1
      refine iteF ⟨.ref R, rfl, .inl ⟨rfl, _, SqL.of hR7⟩, .ref pr, rfl, R, _, _, rfl, rfl, hR7, small1000 (by omega), ?_⟩
      exact ⟨_, _, _, xs ++ [.ref pr], rfl, Same.updNew (smT.trans s67) nR0, upd_same, by rw [etk]; exact rowsAt_snoc (rowsAt_list hR7 (rowsAt_same s67 hrsT)) (sqT_upd (Same.seqT s7 hr) hR7), by rw [upd_ne nDR]; exact s67 _ _ hDT⟩
    · obtain ⟨y5, y6, y7, xs, rfl, sm, hR, hrs, hD⟩ := hP
      rw [List.take_of_length_le (Nat.le_refl _)] at hrs
      have hxl := hrs.1
      clear hD hRD hDD smD
      refine ⟨.ref R, rfl, !xs.isEmpty, .inl ⟨xs, SqL.of hR, rfl⟩, ?_⟩
      have hex : xs.isEmpty = false := by
        cases xs with
        | nil => exact absurd (List.length_eq_zero_iff.mp hxl.symm) g.ne
        | cons _ _ => rfl
      rw [hex]
      have hp1 := sm _ _ hp
      have b := But.of (x := p) sm
      refine iteF ⟨.str (houseT nx rs), rfl, .ref p, rfl, p, C, dx, _, rfl, hp1, T.cl, T.nT, (by decide), ?_⟩
      refine ⟨.int nx, rfl, .ref p, rfl, p, C, dx, _, rfl, upd_same, T.cl, T.nF, (by show (1 : Nat) < 1000; decide), ?_⟩
      show tSeq _ _ _ _ (upd (upd H' p (.ins C dx [("text", .str (houseT nx rs))])) p (.ins C dx [("text", .str (houseT nx rs)), ("fresh", .int nx)]))
      have bk : But p H' (upd (upd H' p (.ins C dx [("text", .str (houseT nx rs))])) p (.ins C dx [("text", .str (houseT nx rs)), ("fresh", .int nx)])) := But.upd.trans But.upd
      have hR := lst_but hR bk hp1
      have hrs := rowsAt_but hrs bk hp1
      have b := b.trans bk
      have hp2 : upd (upd H' p (.ins C dx [("text", .str (houseT nx rs))])) p (.ins C dx [("text", .str (houseT nx rs)), ("fresh", .int nx)]) p = some (.ins C dx [("text", .str (houseT nx rs)), ("fresh", .int nx)]) := upd_same
      generalize upd (upd H' p (.ins C dx [("text", .str (houseT nx rs))])) p (.ins C dx [("text", .str (houseT nx rs)), ("fresh", .int nx)]) = H5 at bk hR hrs b hp2 ⊢
      clear bk hp1 sm
      refine ⟨.ref R, rfl, R, _, rfl, .inl ⟨SqL.of hR, fun t3 n3 => ?_⟩⟩
      have u3 := same_upd (o := .tup xs) n3
      refine ⟨.ref p, rfl, p, C, dx, _, rfl, u3 _ _ hp2, T.cl, T.nR, (by show (2 : Nat) < 1000; decide), ?_⟩
      show tSeq _ _ _ _ (upd (upd H5 t3 (.tup xs)) p (.ins C dx [("text", .str (houseT nx rs)), ("fresh", .int nx), ("rows", .ref t3)]))
      have bk := (But.of (x := p) u3).trans (But.upd (o := .ins C dx [("text", .str (houseT nx rs)), ("fresh", .int nx), ("rows", .ref t3)]))
      have ht3 : SqT K _ t3 xs := sqT_but (SqT.of (upd_same (H := H5) (a := t3) (o := .tup xs))) (But.upd (o := .ins C dx [("text", .str (houseT nx rs)), ("fresh", .int nx), ("rows", .ref t3)])) (u3 _ _ hp2)
      have hR := lst_but hR bk hp2
      have hrs := rowsAt_but hrs bk hp2
      have b := b.trans bk
      have hp3 : upd (upd H5 t3 (.tup xs)) p (.ins C dx [("text", .str (houseT nx rs)), ("fresh", .int nx), ("rows", .ref t3)]) p = some (.ins C dx [("text", .str (houseT nx rs)), ("fresh", .int nx), ("rows", .ref t3)]) := upd_same
      generalize upd (upd H5 t3 (.tup xs)) p (.ins C dx [("text", .str (houseT nx rs)), ("fresh", .int nx), ("rows", .ref t3)]) = H6 at bk hR hrs b hp3 ht3 ⊢
      clear bk hp2 n3 u3
      -- tasks
      refine ⟨.ref R, rfl, R, rfl, ⟨_, SqL.of hR⟩, fun D4 n4 => ?_⟩
      refine lc_list (xs := xs) (fun i H' => Same H6 H' ∧ H' D4 = some (.lst (((rs.take i).map (·.1)).map V.int))) ⟨same_upd n4, upd_same⟩ (fun i H' _ hP => SqL.of (hP.1 _ _ hR)) (fun i x H' hx hP => ?_) fun H7 hP => ?_
      · obtain ⟨s7, hD4⟩ := hP
        have hi := (List.getElem?_eq_some_iff.mp hx).1
        rw [hxl] at hi
        obtain ⟨pi, e1, e2⟩ := hrs.2 i _ (List.getElem?_eq_getElem hi)
        cases Option.some.inj (hx.symm.trans e1)
        refine ⟨rfl, ?_⟩
        unfold tYes
        refine iteT ⟨.ref pi, rfl, pi, _, 0, .int _, rfl, rfl, Same.seqT s7 e2, at0, _, hD4, small1000 (by rw [List.length_map, List.length_map, List.length_take]; have := g.few; omega), Same.updNew s7 n4, ?_⟩
        rw [upd_same, List.take_add_one, List.getElem?_eq_getElem hi, List.map_append, List.map_append]
        rfl
      obtain ⟨s7, hD4⟩ := hP
      rw [hxl, List.take_of_length_le (Nat.le_refl _)] at hD4
      refine ⟨D4, _, rfl, .inl ⟨SqL.of hD4, fun t5 n5 => ?_⟩⟩
      have u5 := s7.trans (same_upd (o := .tup ((rs.map (·.1)).map V.int)) n5)
      refine ⟨.ref p, rfl, p, C, dx, _, rfl, u5 _ _ hp3, T.cl, T.nK, (by show (3 : Nat) < 1000; decide), ?_⟩
      show tSeq _ _ _ _ (upd (upd H7 t5 (.tup ((rs.map (·.1)).map V.int))) p (.ins C dx [("text", .str (houseT nx rs)), ("fresh", .int nx), ("rows", .ref t3), ("tasks", .ref t5)]))
      have bq := But.upd (x := p) (H := upd H7 t5 (.tup ((rs.map (·.1)).map V.int))) (o := .ins C dx [("text", .str (houseT nx rs)), ("fresh", .int nx), ("rows", .ref t3), ("tasks", .ref t5)])
      have bk := (But.of (x := p) u5).trans bq
      have ht5 : SqT K _ t5 ((rs.map (·.1)).map V.int) := sqT_but (SqT.of (upd_same (H := H7) (a := t5) (o := .tup ((rs.map (·.1)).map V.int)))) bq (u5 _ _ hp3)
      have ht3 := sqT_but ht3 bk hp3
      have hR := lst_but hR bk hp3
      have hrs := rowsAt_but hrs bk hp3
      have b := b.trans bk
      have hp4 : upd (upd H7 t5 (.tup ((rs.map (·.1)).map V.int))) p (.ins C dx [("text", .str (houseT nx rs)), ("fresh", .int nx), ("rows", .ref t3), ("tasks", .ref t5)]) p = some (.ins C dx [("text", .str (houseT nx rs)), ("fresh", .int nx), ("rows", .ref t3), ("tasks", .ref t5)]) := upd_same
      generalize upd (upd H7 t5 (.tup ((rs.map (·.1)).map V.int))) p (.ins C dx [("text", .str (houseT nx rs)), ("fresh", .int nx), ("rows", .ref t3), ("tasks", .ref t5)]) = H8 at bk hR hrs b hp4 ht3 ht5 ⊢
      clear bk bq u5 n5 s7 hD4 hp3 n4
      -- chiefs
      refine ⟨.ref R, rfl, R, rfl, ⟨_, SqL.of hR⟩, fun D6 n6 => ?_⟩
      refine dc_any (n := xs.length) (fun i H' => Same H8 H' ∧ H' D6 = some (.dK (chKV (rs.take i)))) ⟨same_upd n6, upd_same⟩ (fun i H' hi hP => ⟨xs, xs[i], SqL.of (hP.1 _ _ hR), List.getElem?_eq_getElem hi⟩) (fun H' hP => ⟨xs, SqL.of (hP.1 _ _ hR), Nat.le_refl _⟩) (fun i x H' H'' hi hP hy => ?_) fun H9 hP => ?_
      · obtain ⟨s9, hD6⟩ := hP
        obtain ⟨rfl, hx⟩ := hy
        have hx := hx xs (SqL.of (s9 _ _ hR))
        have hi' : i < rs.length := by rw [← hxl]; exact hi
        obtain ⟨pi, e1, e2⟩ := hrs.2 i _ (List.getElem?_eq_getElem hi')
        cases Option.some.inj (hx.symm.trans e1)
        refine ⟨pi, _, rfl, Same.seqT s9 e2, rfl, .int _, [_, _], rfl, _, [_], rfl, _, [], rfl, rfl, rfl, ?_⟩
        unfold tYes
        refine iteT ⟨_, rfl, _, rfl, _, .inl _, rfl, hD6, small1000 (by unfold chKV; rw [List.length_map, List.length_take]; have := g.few; omega), Same.updNew s9 n6, ?_⟩
        rw [upd_same]
        exact congrArg (fun z => some (HO.dK z)) (put_rise (f := fun r => optI r.2.1) g.rise (List.getElem?_eq_getElem hi'))
      obtain ⟨s9, hD6⟩ := hP
      rw [hxl, List.take_of_length_le (Nat.le_refl _)] at hD6
      refine ⟨.ref p, rfl, p, C, dx, _, rfl, s9 _ _ hp4, T.cl, T.nC, (by show (4 : Nat) < 1000; decide), ?_⟩
      show tSeq _ _ _ _ (upd H9 p (.ins C dx [("text", .str (houseT nx rs)), ("fresh", .int nx), ("rows", .ref t3), ("tasks", .ref t5), ("chiefs", .ref D6)]))
      have bq := But.upd (x := p) (H := H9) (o := .ins C dx [("text", .str (houseT nx rs)), ("fresh", .int nx), ("rows", .ref t3), ("tasks", .ref t5), ("chiefs", .ref D6)])
      have bk := (But.of (x := p) s9).trans bq
      have hD6 := dk_but hD6 bq (s9 _ _ hp4)
      have ht5 := sqT_but ht5 bk hp4
      have ht3 := sqT_but ht3 bk hp4
      have hR := lst_but hR bk hp4
      have hrs := rowsAt_but hrs bk hp4
      have b := b.trans bk
      have hp5 : upd H9 p (.ins C dx [("text", .str (houseT nx rs)), ("fresh", .int nx), ("rows", .ref t3), ("tasks", .ref t5), ("chiefs", .ref D6)]) p = some (.ins C dx [("text", .str (houseT nx rs)), ("fresh", .int nx), ("rows", .ref t3), ("tasks", .ref t5), ("chiefs", .ref D6)]) := upd_same
      generalize upd H9 p (.ins C dx [("text", .str (houseT nx rs)), ("fresh", .int nx), ("rows", .ref t3), ("tasks", .ref t5), ("chiefs", .ref D6)]) = HA at bk bq hR hrs b hp5 ht3 ht5 hD6 ⊢
      clear bk bq s9 hp4 n6
      -- borders
      refine ⟨.ref R, rfl, R, rfl, ⟨_, SqL.of hR⟩, fun D8 n8 => ?_⟩
      refine dc_any (n := xs.length) (fun i H' => Same HA H' ∧ H' D8 = some (.dK (boKV (rs.take i)))) ⟨same_upd n8, upd_same⟩ (fun i H' hi hP => ⟨xs, xs[i], SqL.of (hP.1 _ _ hR), List.getElem?_eq_getElem hi⟩) (fun H' hP => ⟨xs, SqL.of (hP.1 _ _ hR), Nat.le_refl _⟩) (fun i x H' H'' hi hP hy => ?_) fun HB hP => ?_
      · obtain ⟨s9, hD8⟩ := hP
        obtain ⟨rfl, hx⟩ := hy
        have hx := hx xs (SqL.of (s9 _ _ hR))
        have hi' : i < rs.length := by rw [← hxl]; exact hi
        obtain ⟨pi, e1, e2⟩ := hrs.2 i _ (List.getElem?_eq_getElem hi')
        cases Option.some.inj (hx.symm.trans e1)
        refine ⟨pi, _, rfl, Same.seqT s9 e2, rfl, .int _, [_, _], rfl, _, [_], rfl, _, [], rfl, rfl, rfl, ?_⟩
        unfold tYes
        refine iteT ⟨_, rfl, _, rfl, _, .inl _, rfl, hD8, small1000 (by unfold boKV; rw [List.length_map, List.length_take]; have := g.few; omega), Same.updNew s9 n8, ?_⟩
        rw [upd_same]
        exact congrArg (fun z => some (HO.dK z)) (put_rise (f := fun r => V.bl r.2.2) g.rise (List.getElem?_eq_getElem hi'))
      obtain ⟨s9, hD8⟩ := hP
      rw [hxl, List.take_of_length_le (Nat.le_refl _)] at hD8
      refine ⟨.ref p, rfl, p, C, dx, _, rfl, s9 _ _ hp5, T.cl, T.nB, (by show (5 : Nat) < 1000; decide), ?_⟩
      have bq := But.upd (x := p) (H := HB) (o := .ins C dx (cfs (houseT nx rs) nx t3 t5 D6 D8))
      have bk := (But.of (x := p) s9).trans bq
      exact q _ (b.trans bk) ⟨dx, t3, t5, D6, D8, upd_same, ⟨xs, sqT_but ht3 bk hp5, rowsAt_but hrs bk hp5⟩, sqT_but ht5 bk hp5, dk_but hD6 bk hp5, dk_but hD8 bq (s9 _ _ hp5)⟩
end
end K35



set_option maxRecDepth 100000
set_option maxHeartbeats 4000000
/-! k35: the law's drawn house. -/
namespace K35
open PySem PySem.Spec PyProof.Rows L2 LamX VG TL
theorem scHouseDrawn : FnScope ["pot", "house", "shape", "many", "lap", "some", "chief"] ["pot"] (defScope sHouseDrawn) := ⟨rfl, rfl, rfl, by decide +kernel, rfl, by decide +kernel, by decide +kernel⟩
theorem none_wo {H H' : Hp} {p x : Addr} (s : Same (wo H p) (wo H' p)) (hx : H' x = none) (ne : x ≠ p) : H x = none := by
  cases e : H x with
  | none => rfl
  | some o =>
    have := s x o (wo_at e ne)
    rw [wo_ne ne, hx] at this
    cases this
theorem pot_dk {H : Hp} {p x : Addr} {n : Nat} {kvs : List (Key × V)} (hp : Pot H p n) (e : H x = some (.dK kvs)) : x ≠ p := by
  rintro rfl
  obtain ⟨xs, h⟩ := pot_lst hp
  rw [e] at h
  cases h
theorem HAt.car {H H' : Hp} {p h : Addr} {n : Nat} {nx : Int} {rs : List Row} (hp : Pot H p n) (s : Same (wo H p) (wo H' p)) (a : HAt H h nx rs) : HAt H' h nx rs :=
  let ⟨c, b, h1, h2, h3⟩ := a
  ⟨c, b, wo_le _ _ (s _ _ (wo_at h1 (pot_dk hp h1))), wo_le _ _ (s _ _ (wo_at h2 (pot_dk hp h2))), wo_le _ _ (s _ _ (wo_at h3 (pot_dk hp h3)))⟩
theorem okR_snoc {r : Row} : ∀ (rs acc : List Row), okR acc (rs ++ [r]) = (okR acc rs && standsB r.1 r.2.1 (acc ++ rs))
  | [], acc => by
    rw [List.append_nil]
    show (standsB r.1 r.2.1 acc && okR (acc ++ [r]) []) = (true && _)
    rw [Bool.true_and]
    exact Bool.and_true _
  | x :: rs, acc => by
    show (standsB x.1 x.2.1 acc && okR (acc ++ [x]) (rs ++ [r])) = ((standsB x.1 x.2.1 acc && okR (acc ++ [x]) rs) && _)
    rw [okR_snoc rs (acc ++ [x]), List.append_assoc, Bool.and_assoc]
    rfl
theorem RowOk.mono {nx nx' : Int} {r : Row} (h : RowOk nx r) (l : nx ≤ nx') : RowOk nx' r := ⟨h.lo, by have := h.hi; omega, h.no, fun n e => ⟨(h.clo n e).1, by have := (h.clo n e).2; omega⟩⟩
theorem Good.step {nx : Int} {rs : List Row} (g : Good nx rs) {d c : Int} (hn : nx + d + 1 ≤ 999) (h5 : rs.length ≤ 5) (hd0 : 0 ≤ d) (hd1 : d ≤ 40) (hc : c ∈ rs.map (·.1)) (b : Bool) : Good (nx + d + 1) (rs ++ [(nx + d, some c, b)]) := by
  obtain ⟨x, hx, rfl⟩ := List.mem_map.mp hc
  have hxr := g.row x hx
  have hlo := g.lo
  refine ⟨by simp, by omega, ?_, by rw [List.length_append, List.length_singleton]; omega, ?_, fun r hr => ?_⟩
  · exact hn
  · rw [okR_snoc, g.ok, Bool.true_and, List.nil_append]
    unfold standsB
    cases e : rs.getLast? with
    | none => exact absurd (List.getLast?_eq_none_iff.mp e) g.ne
    | some l =>
      have hl := g.row l (List.mem_of_getLast? e)
      have := hl.hi
      show (decide (l.1 < nx + d) && (decide (rs.length < 6) && decide (x.1 ∈ rs.map (·.1)))) = true
      rw [decide_eq_true (by omega), decide_eq_true (by omega), decide_eq_true hc]
      rfl
  · rcases List.mem_append.mp hr with hr | hr
    · exact (g.row r hr).mono (by omega)
    · rw [List.mem_singleton.mp hr]
      exact ⟨by show 0 ≤ nx + d; omega, by show nx + d < nx + d + 1; omega, fun y => (nomatch y), fun n e => by cases e; exact ⟨hxr.lo, by have := hxr.hi; omega⟩⟩
theorem good0 (b : Bool) : Good 1 [(0, none, b)] := ⟨by simp, by decide, (by decide), (by show 1 ≤ 6; decide), by cases b <;> decide, fun r hr => by
  rw [List.mem_singleton.mp hr]
  exact ⟨by show (0 : Int) ≤ 0; decide, by show (0 : Int) < 1; decide, fun _ => rfl, fun n e => by cases e⟩⟩
theorem atI_in {xs : List V} {k : Int} (h0 : 0 ≤ k) (h1 : k < xs.length) : ∃ v, atI xs k = some v ∧ v ∈ xs := by
  obtain ⟨m, rfl⟩ : ∃ m : Nat, k = m := ⟨k.toNat, (Int.toNat_of_nonneg h0).symm⟩
  have hm : m < xs.length := by omega
  exact ⟨xs[m], atI_nat (List.getElem?_eq_getElem hm), List.getElem_mem hm⟩
theorem atI_end {xs : List V} (h : 0 < xs.length) : ∃ v, atI xs (-1) = some v ∧ v ∈ xs := by
  have hm : xs.length - 1 < xs.length := by omega
  refine ⟨xs[xs.length - 1], ?_, List.getElem_mem hm⟩
  unfold atI ixN
  rw [if_neg (by decide), if_pos (by omega)]
  show xs[(-1 + (xs.length : Int)).toNat]? = _
  rw [show (-1 + (xs.length : Int)).toNat = xs.length - 1 by omega]
  exact List.getElem?_eq_getElem hm
section
variable {P : Program} {w : World} {K : PySem.W.Frag} {mg : Str → Option Value} {base : Heap}
def spHouseDrawn (K : PySem.W.Frag) : Sp := fun vs H Q _ => ∃ (p : Addr) (n : Nat), vs = [.ref p] ∧ Pot H p n ∧ n < 900000 ∧ ∀ H' h m nx rs, n ≤ m → m ≤ n + 40 → Pot H' p m → Same (wo H p) (wo H' p) → HAt H' h nx rs → Good nx rs → nx ≤ 300 → H h = none → Q (.ref h) H'
theorem ok_HouseDrawn {k : Nat} {f : Addr} {fd : FuncData}  (F : Fun K "_law_house_drawn" "_law_house_drawn" sHouseDrawn f fd) (gTa : Cal P w K mg base CX0 (k + 3) "_law_take" ["pot", "upto"] spTake) (gOf : Cal P w K mg base CX0 (k + 3) "_law_of" ["pot", "some"] (spOf K)) (gHm : Cal P w K mg base CX0 (k + 3) "_law_house_made" ["house", "chief", "border"] (spHouseMade K))  (flen : mg "len" = none) (fmax : mg "max" = none) (frange : mg "range" = none) (fsorted : mg "sorted" = none) : FnOk P w K mg base CX0 (k + 4) f fd ["pot"] (spHouseDrawn K) := by
  obtain ⟨fTa, fdTa, GTa, kTa, bTa, mTa⟩ := gTa
  obtain ⟨fOf, fdOf, GOf, kOf, bOf, mOf⟩ := gOf
  obtain ⟨fHm, fdHm, GHm, kHm, bHm, mHm⟩ := gHm
  refine F.ok scHouseDrawn (fun vs H Q E h => ?_) (fun cdv A outer s H vs Q E hr h => ?_)
  · obtain ⟨p, n, rfl, _⟩ := h
    rfl
  · obtain ⟨p, n, rfl, hp, hn, q⟩ := h
    refine ⟨_, (pss_cons (ps_set (i := 1) scHouseDrawn.nd rfl (.inl rfl) (pe_disp (pps_cons pe_str pe_int (pps_cons pe_str (pe_disp (pps_cons pe_int pe_non pps_nil) (by rfl) (by rfl) (fun z => by cases z) (by decide)) (pps_cons pe_str (pe_disp (pps_cons pe_int (pe_cmpR op_gt (pe_call GTa hr (by rfl) mTa kTa bTa .nil pass0 (pa_cons (pv 0) (pa_cons pe_int pa_nil))) pe_int (nomark _)) pps_nil) (by rfl) (by rfl) (fun z => by cases z) (by decide)) pps_nil))) (by rfl) (by rfl) (fun z => by cases z) (by decide))) (pss_cons (ps_par (i := 2) (j := 3) (by rfl) scHouseDrawn.nd rfl rfl (by decide) rfl rfl (pa_cons (pe_call GTa hr (by rfl) mTa kTa bTa .nil pass0 (pa_cons (pv 0) (pa_cons pe_int pa_nil))) (pa_cons (pe_call GOf hr (by rfl) mOf kOf bOf .nil pass0 (pa_cons (pv 0) (pa_cons (pe_lst (pa_cons pe_int (pa_cons pe_int (pa_cons pe_int (pa_cons pe_int (pa_cons pe_int (pa_cons pe_int (pa_cons pe_int (pa_cons pe_int (pa_cons pe_int pa_nil)))))))))) pa_nil))) pa_nil)) (by rfl)) (pss_cons (ps_for PassesOwn.never rfl (pi_range1 (by rfl) frange (pa_cons (pe_op op_sub (pv 3) pe_int) pa_nil)) (pg_name (i := 4) scHouseDrawn.nd rfl (.inl rfl)) (pss_cons (ps_set (i := 5) scHouseDrawn.nd rfl (.inl rfl) (pe_callB (call_sortedDI rfl) (by rfl) fsorted (by decide +kernel) (pa_cons (pe_dget (hu_of hr) (pv 1) pe_str (fun _ _ => rfl)) pa_nil))) (pss_cons (ps_set (i := 6) scHouseDrawn.nd rfl (.inl rfl) (pe_ix ix_list (pe_lst (pa_cons (pe_call GOf hr (by rfl) mOf kOf bOf .nil pass0 (pa_cons (pv 0) (pa_cons (pv 5) pa_nil))) (pa_cons (pe_ix ix_list (pv 5) (pe_un un_neg pe_int) (fun _ _ => rfl)) (pa_cons (pe_ix ix_list (pv 5) pe_int (fun _ _ => rfl)) (pa_cons (pe_ix ix_list (pv 5) (pe_callB (call_max2 rfl) (by rfl) fmax (by decide +kernel) (pa_cons pe_int (pa_cons (pe_op op_sub (pe_callB call_len_seq (by rfl) flen PySem.boot_len (pa_cons (pv 5) pa_nil)) pe_int) pa_nil))) (fun _ _ => rfl)) pa_nil))))) (pv 2) (fun _ _ => rfl))) (pss_cons (ps_dput (hu_of hr) (pv 1) pe_str (pe_op op_add (pe_dget (hu_of hr) (pv 1) pe_str (fun _ _ => rfl)) (pe_call GOf hr (by rfl) mOf kOf bOf .nil pass0 (pa_cons (pv 0) (pa_cons (pe_lst (pa_cons pe_int (pa_cons pe_int (pa_cons pe_int (pa_cons pe_int (pa_cons pe_int pa_nil)))))) pa_nil)))) rfl) (pss_one (ps_set (i := 1) scHouseDrawn.nd rfl (.inl rfl) (pe_call GHm hr (by rfl) mHm kHm bHm .nil pass0 (pa_cons (pv 1) (pa_cons (pv 6) (pa_cons (pe_cmpR op_gt (pe_call GTa hr (by rfl) mTa kTa bTa .nil pass0 (pa_cons (pv 0) (pa_cons pe_int pa_nil))) pe_int (nomark _)) pa_nil)))))))))) (pss_one (ps_ret (pv 1)))))), ?_⟩
    intro D nD
    have s0 := same_upd (o := .dK []) nD
    have hD : upd H D (.dK []) D = some (.dK []) := upd_same
    have hp := hp.same s0
    have sw := wo_same_of (a := p) s0
    generalize upd H D (.dK []) = H0 at s0 hD hp sw ⊢
    intro C nC
    have s1 := same_upd (o := .dK []) nC
    refine ⟨upd_same, [(Sum.inl 0, .non)], rfl, (by show 1 ≤ 15; decide), ?_⟩
    rw [show mergeK [] [((Sum.inl 0 : Key), V.non)] = [(Sum.inl 0, V.non)] from rfl]
    have s1 : Same H0 (upd (upd H0 C (.dK [])) C (.dK [((Sum.inl 0 : Key), V.non)])) := Same.updNew s1 nC
    have hC : upd (upd H0 C (.dK [])) C (.dK [((Sum.inl 0 : Key), V.non)]) C = some (.dK [((Sum.inl 0 : Key), V.non)]) := upd_same
    generalize upd (upd H0 C (.dK [])) C (.dK [((Sum.inl 0 : Key), V.non)]) = H1 at s1 hC ⊢
    intro B nB
    have s2 := same_upd (o := .dK []) nB
    have hB : upd H1 B (.dK []) B = some (.dK []) := upd_same
    generalize upd H1 B (.dK []) = H2 at s2 hB ⊢
    have s02 := s1.trans s2
    have hp2 := hp.same s02
    refine ⟨.ref p, rfl, p, 3, n, rfl, by decide, by decide, hp2, by omega, fun d H3 d0 d1 hp3 s3 => ?_⟩
    have sw3 := sw.trans ((wo_same_of s02).trans s3)
    have hD3 := wo_le _ _ (s3 _ _ (wo_at (s02 _ _ hD) (pot_dk hp2 (s02 _ _ hD))))
    have hC3 := wo_le _ _ (s3 _ _ (wo_at (s2 _ _ hC) (pot_dk hp2 (s2 _ _ hC))))
    have hB3 := wo_le _ _ (s3 _ _ (wo_at hB (pot_dk hp2 hB)))
    have nDC : D ≠ C := by rintro rfl; rw [hD] at nC; cases nC
    have nDB : D ≠ B := by rintro rfl; rw [s1 _ _ hD] at nB; cases nB
    have nCB : C ≠ B := by rintro rfl; rw [hC] at nB; cases nB
    have pD := pot_dk hp3 hD3
    have pB := pot_dk hp3 hB3
    have nB0 : H B = none := none_wo (sw.trans (wo_same_of s1)) nB pB
    refine ⟨_, _, rfl, rfl, ?_⟩
    refine ⟨hB3, [(Sum.inl 0, .bl (decide (0 < d)))], rfl, (by show 1 ≤ 15; decide), ?_⟩
    rw [show mergeK [] [((Sum.inl 0 : Key), V.bl (decide (0 < d)))] = [(Sum.inl 0, V.bl (decide (0 < d)))] from rfl]
    refine ⟨by rw [upd_ne nDB]; exact hD3, [(Sum.inr "next", .int 1), (Sum.inr "chiefs", .ref C), (Sum.inr "borders", .ref B)], rfl, (by show 3 ≤ 15; decide), ?_⟩
    rw [show mergeK [] [((Sum.inr "next" : Key), V.int 1), (Sum.inr "chiefs", .ref C), (Sum.inr "borders", .ref B)] = hkv 1 C B from rfl]
    have hh : HAt (upd (upd H3 B (.dK [((Sum.inl 0 : Key), V.bl (decide (0 < d)))])) D (.dK (hkv 1 C B))) D 1 [(0, none, decide (0 < d))] :=
      ⟨C, B, upd_same, by rw [upd_ne nDC.symm, upd_ne nCB]; exact hC3, by rw [upd_ne nDB.symm]; exact upd_same⟩
    have hp4 : Pot (upd (upd H3 B (.dK [((Sum.inl 0 : Key), V.bl (decide (0 < d)))])) D (.dK (hkv 1 C B))) p (n + 1) := (hp3.upd pB).upd pD
    have sw4 : Same (wo H p) (wo (upd (upd H3 B (.dK [((Sum.inl 0 : Key), V.bl (decide (0 < d)))])) D (.dK (hkv 1 C B))) p) := wo_updNew (wo_updNew sw3 nB0) nD
    generalize upd (upd H3 B (.dK [((Sum.inl 0 : Key), V.bl (decide (0 < d)))])) D (.dK (hkv 1 C B)) = H4 at hh hp4 sw4 ⊢
    have gg := good0 (decide (0 < d))
    generalize decide (0 < d) = b0 at hh gg
    clear hD3 hC3 hB3 sw3 s3 hp3 hp2 s02 s2 hB hC s1 s0 hD hp sw
    refine ⟨.ref p, rfl, p, 4, n + 1, rfl, by decide, by decide, hp4, by omega, fun sh H5 sh0 sh1 hp5 s5 => ?_⟩
    have hh5 := hh.car hp4 s5
    have sw5 := sw4.trans s5
    refine ⟨.ref p, rfl, by show 9 ≤ sizeLine; decide, fun L nL => ?_⟩
    have sL := same_upd (o := .lst [V.int 1, .int 2, .int 3, .int 4, .int 5, .int 5, .int 6, .int 6, .int 6]) nL
    have pL := hp5.ne nL
    have hp6 := hp5.same sL
    have hh6 := hh5.same sL
    have sw6 := sw5.trans (wo_same_of sL)
    refine ⟨p, L, [V.int 1, .int 2, .int 3, .int 4, .int 5, .int 5, .int 6, .int 6, .int 6], n + 2, rfl, SqL.of (wo_at upd_same pL), by simp, by decide, hp6, by omega, fun x hx H7 hp7 s7 => ?_⟩
    have hh7 := hh6.car hp6 s7
    have sw7 := sw6.trans s7
    obtain ⟨many, rfl, m1, m6⟩ : ∃ m : Int, x = .int m ∧ 1 ≤ m ∧ m ≤ 6 := by
      simp only [List.mem_cons, List.not_mem_nil, or_false] at hx
      rcases hx with rfl | rfl | rfl | rfl | rfl | rfl | rfl | rfl | rfl <;> exact ⟨_, rfl, by decide, by decide⟩
    clear hh6 hp6 sw6 hh5 hp5 sw5 sL s5 s7 hh hp4 sw4
    refine ⟨.int sh, .int many, rfl, ?_⟩
    refine ⟨.int many, rfl, many, 1, rfl, rfl, many - 1, rfl, by omega, by omega, ?_⟩
    have em : (many - 1).toNat ≤ 5 := by omega
    generalize (many - 1).toNat = laps at em ⊢
    refine for_range (n := laps) (fun i σ H' => ∃ y4 y5 y6 h nx rs m, σ = [some (.ref p), some (.ref h), some (.int sh), some (.int many), y4, y5, y6] ∧ Pot H' p m ∧ m = n + 3 + 3 * i ∧ Same (wo H p) (wo H' p) ∧ HAt H' h nx rs ∧ Good nx rs ∧ rs.length = i + 1 ∧ H h = none ∧ nx ≤ 41 * (i + 1))
      ⟨none, none, none, D, 1, [(0, none, b0)], n + 3, rfl, hp7, rfl, sw7, hh7, gg, rfl, nD, by omega⟩ (fun i σ H' hi hP => ?_) fun σ H' hP => ?_
    · obtain ⟨y4, y5, y6, h, nx, rs, m, rfl, hp, hm, sw, hh, g, hl, nh, n41⟩ := hP
      obtain ⟨c, b, h1, h2, h3⟩ := id hh
      refine ⟨.ref h, rfl, h, _, rfl, g_chiefs h1, c, chKV rs, rs.map (·.1), rfl, .inl h2, (by unfold chKV; rw [List.map_map, List.map_map]; rfl), (by rw [List.length_map]; have := g.few; omega), fun ys S hpm hs nS => ?_⟩
      rw [sorted_rise g.rise hpm hs]
      clear hpm hs
      have sS := same_upd (o := .lst ((rs.map (·.1)).map V.int)) nS
      have hS : upd H' S (.lst ((rs.map (·.1)).map V.int)) S = some (.lst ((rs.map (·.1)).map V.int)) := upd_same
      have pS := hp.ne nS
      have hp := hp.same sS
      have sw := sw.trans (wo_same_of sS)
      have hh := hh.same sS
      generalize upd H' S (.lst ((rs.map (·.1)).map V.int)) = H8 at hS hp sw hh ⊢
      clear sS nS h1 h2 h3
      have hxl : ((rs.map (·.1)).map V.int).length = i + 1 := by rw [List.length_map, List.length_map]; exact hl
      have hmem : ∀ x ∈ (rs.map (·.1)).map V.int, ∃ t, x = .int t ∧ t ∈ rs.map (·.1) := fun x hx => let ⟨t, ht, e⟩ := List.mem_map.mp hx; ⟨t, e.symm, ht⟩
      generalize (rs.map (·.1)).map V.int = xs at hS hxl hmem ⊢
      refine ⟨.ref p, rfl, .ref S, rfl, p, S, xs, m, rfl, SqL.of (wo_at hS pS), (by intro e; rw [e] at hxl; cases hxl), by omega, hp, by omega, fun v1 hv1 H9 hp9 s9 => ?_⟩
      have hS9 : H9 S = some (.lst xs) := wo_le _ _ (s9 _ _ (wo_at hS pS))
      have hh9 := hh.car hp s9
      have sw9 := sw.trans s9
      obtain ⟨v2, a2, i2⟩ := atI_end (xs := xs) (by omega)
      obtain ⟨v3, a3, i3⟩ := atI_in (xs := xs) (k := 0) (by omega) (by omega)
      obtain ⟨v4, a4, i4⟩ := atI_in (xs := xs) (k := if ((xs.length : Nat) : Int) - 2 > 0 then ((xs.length : Nat) : Int) - 2 else 0) (by split <;> omega) (by split <;> omega)
      refine ⟨.ref S, rfl, 1, rfl, S, xs, -1, v2, rfl, rfl, SqL.of hS9, a2, .ref S, rfl, S, xs, 0, v3, rfl, rfl, SqL.of hS9, a3, .ref S, rfl, .ref S, rfl, S, xs, rfl, .inl (SqL.of hS9), _, _, rfl, rfl, 0, _, rfl, S, xs, _, v4, rfl, rfl, SqL.of hS9, a4, by show 4 ≤ sizeLine; decide, fun L2_ nL2 => ?_⟩
      have sL2 := same_upd (o := .lst [v1, v2, v3, v4]) nL2
      obtain ⟨v, av, iv⟩ := atI_in (xs := [v1, v2, v3, v4]) (k := sh) sh0 (by show sh < ((4 : Nat) : Int); omega)
      have hv : v ∈ xs := by
        simp only [List.mem_cons, List.not_mem_nil, or_false] at iv
        rcases iv with rfl | rfl | rfl | rfl
        · exact hv1
        · exact i2
        · exact i3
        · exact i4
      obtain ⟨ch, rfl, hch⟩ := hmem v hv
      refine ⟨.int sh, rfl, L2_, _, sh, .int ch, rfl, rfl, SqL.of upd_same, av, ?_⟩
      have hp10 := hp9.same sL2
      have hh10 := hh9.same sL2
      have sw10 := sw9.trans (wo_same_of sL2)
      generalize upd H9 L2_ (.lst [v1, v2, v3, v4]) = H10 at hp10 hh10 sw10 ⊢
      clear sL2 nL2 av iv hv i2 i3 i4 a2 a3 a4 hS9 s9 hp9 hh9 sw9 hmem hxl hS hp sw hh hv1
      obtain ⟨c1, b1, k1, k2, k3⟩ := id hh10
      refine ⟨.ref h, rfl, h, _, rfl, g_next k1, .ref p, rfl, by show 5 ≤ sizeLine; decide, fun L nL => ?_⟩
      have sL := same_upd (o := .lst [V.int 0, .int 0, .int 0, .int 1, .int 40]) nL
      have pL := hp10.ne nL
      refine ⟨p, L, [V.int 0, .int 0, .int 0, .int 1, .int 40], m + 1, rfl, SqL.of (wo_at upd_same pL), by simp, by decide, hp10.same sL, by omega, fun x hx H11 hp11 s11 => ?_⟩
      obtain ⟨dd, rfl, dd0, dd1⟩ : ∃ dd : Int, x = .int dd ∧ 0 ≤ dd ∧ dd ≤ 40 := by
        simp only [List.mem_cons, List.not_mem_nil, or_false] at hx
        rcases hx with rfl | rfl | rfl | rfl | rfl <;> exact ⟨_, rfl, by decide, by decide⟩
      have hh11 := (hh10.same sL).car (hp10.same sL) s11
      have sw11 := sw10.trans ((wo_same_of sL).trans s11)
      obtain ⟨c2, b2, j1, j2, j3⟩ := id hh11
      refine ⟨nx, dd, rfl, rfl, .ref h, rfl, h, _, rfl, DPut.k (k := Sum.inr "next") j1 (by show 3 < sizeLine; decide), ?_⟩
      rw [show putK (hkv nx c2 b2) (Sum.inr "next") (V.int (nx + dd)) = hkv (nx + dd) c2 b2 from rfl]
      have ph := pot_dk hp11 j1
      have nch : c2 ≠ h := by
        rintro rfl
        rw [j1] at j2
        have := HO.dK.inj (Option.some.inj j2)
        cases rs with
        | nil => cases hl
        | cons r0 rr =>
          have := congrArg Prod.fst (List.cons.inj this).1
          cases this
      have nbh : b2 ≠ h := by
        rintro rfl
        rw [j1] at j3
        have := HO.dK.inj (Option.some.inj j3)
        cases rs with
        | nil => cases hl
        | cons r0 rr =>
          have := congrArg Prod.fst (List.cons.inj this).1
          cases this
      have hh12 : HAt (upd H11 h (.dK (hkv (nx + dd) c2 b2))) h (nx + dd) rs := ⟨c2, b2, upd_same, by rw [upd_ne nch]; exact j2, by rw [upd_ne nbh]; exact j3⟩
      have hp12 : Pot (upd H11 h (.dK (hkv (nx + dd) c2 b2))) p (m + 2) := hp11.upd ph
      have sw12 : Same (wo H p) (wo (upd H11 h (.dK (hkv (nx + dd) c2 b2))) p) := wo_updNew sw11 nh
      generalize upd H11 h (.dK (hkv (nx + dd) c2 b2)) = H12 at hh12 hp12 sw12 ⊢
      refine ⟨.ref h, rfl, .int ch, rfl, .ref p, rfl, p, 3, m + 2, rfl, by decide, by decide, hp12, by omega, fun bb H13 _ _ hp13 s13 => ⟨_, _, rfl, rfl, ?_⟩⟩
      have hh13 := hh12.car hp12 s13
      have sw13 := sw12.trans s13
      refine ⟨h, nx + dd, rs, some ch, decide (0 < bb), rfl, hh13, by omega, g.rise, fun r hr => by have := (g.row r hr).hi; omega, fun H14 h' s14 hh14 nh14 => ?_⟩
      refine ⟨_, _, _, h', _, _, m + 3, rfl, hp13.same s14, by omega, sw13.trans (wo_same_of s14), hh14, g.step (by omega) (by omega) dd0 dd1 hch _, by rw [List.length_append, List.length_singleton]; omega, none_wo sw13 nh14 (hp13.ne nh14), by omega⟩
    · obtain ⟨y4, y5, y6, h, nx, rs, m, rfl, hp, hm, sw, hh, g, hl, nh, n41⟩ := hP
      exact ⟨.ref h, rfl, q _ h m nx rs (by omega) (by omega) hp sw hh g (by omega) nh⟩
end
end K35



set_option maxRecDepth 100000
set_option maxHeartbeats 4000000
/-! k35: trees. -/
namespace K35
open PySem PySem.Spec PyProof.Rows L2 LamX VG TL
theorem last_top {acc : List Row} {l : Row} (h : acc.getLast? = some l) {t : Int} (a : ∀ x ∈ acc, x.1 < t) : l.1 < t := a l (List.mem_of_getLast? h)
theorem stands_of {acc : List Row} {r : Row} {c : Int} (ne : acc ≠ []) (h1 : ∀ x ∈ acc, x.1 < r.1) (h2 : acc.length < 6) (h3 : r.2.1 = some c) (h4 : c ∈ acc.map (·.1)) : standsB r.1 r.2.1 acc = true := by
  unfold standsB
  cases e : acc.getLast? with
  | none => exact absurd (List.getLast?_eq_none_iff.mp e) ne
  | some l =>
    rw [h3]
    show (decide (l.1 < r.1) && (decide (acc.length < 6) && decide (c ∈ acc.map (·.1)))) = true
    rw [decide_eq_true (last_top e h1), decide_eq_true h2, decide_eq_true h4]
    rfl
theorem ok_go : ∀ (rest acc : List Row), acc ≠ [] → Rise (acc ++ rest) → (acc ++ rest).length ≤ 6 → (∀ r ∈ rest, ∃ c, r.2.1 = some c ∧ c < r.1 ∧ c ∈ (acc ++ rest).map (·.1)) → okR acc rest = true
  | [], _, _, _, _, _ => rfl
  | r :: rest, acc, ne, ri, few, h => by
    have e : acc ++ r :: rest = (acc ++ [r]) ++ rest := by simp
    unfold okR
    rw [Bool.and_eq_true]
    refine ⟨?_, ok_go rest (acc ++ [r]) (by simp) (e ▸ ri) (e ▸ few) fun x hx => e ▸ h x (List.mem_cons_of_mem _ hx)⟩
    obtain ⟨c, hc, lt, mem⟩ := h r List.mem_cons_self
    have pw : (acc.map (·.1) ++ r.1 :: rest.map (·.1)).Pairwise (· < ·) := by unfold Rise at ri; rw [List.map_append, List.map_cons] at ri; exact ri
    rw [List.pairwise_append] at pw
    obtain ⟨p1, p2, p3⟩ := pw
    have lt1 : ∀ x ∈ acc, x.1 < r.1 := fun x hx => p3 x.1 (List.mem_map.mpr ⟨x, hx, rfl⟩) r.1 List.mem_cons_self
    refine stands_of ne lt1 (by rw [List.length_append, List.length_cons] at few; omega) hc ?_
    rw [List.map_append, List.map_cons] at mem
    rcases List.mem_append.mp mem with m | m
    · exact m
    · exfalso
      rcases List.mem_cons.mp m with m | m
      · omega
      · have := (List.pairwise_cons.mp p2).1 c m
        omega
theorem Tree.ok {rs : List Row} (t : Tree rs) : okR [] rs = true := by
  obtain ⟨r0, rest, rfl, h0, h⟩ := t.hd
  unfold okR
  rw [Bool.and_eq_true]
  refine ⟨?_, ok_go rest [r0] (by simp) t.rise t.few h⟩
  rw [h0]
  rfl
theorem stands_chief {acc : List Row} {r : Row} (ne : acc ≠ []) (h : standsB r.1 r.2.1 acc = true) : ∃ c, r.2.1 = some c ∧ c ∈ acc.map (·.1) := by
  unfold standsB at h
  cases e : acc.getLast? with
  | none => exact absurd (List.getLast?_eq_none_iff.mp e) ne
  | some l =>
    rw [e] at h
    simp only [Bool.and_eq_true, decide_eq_true_eq] at h
    obtain ⟨_, _, h3⟩ := h
    cases e2 : r.2.1 with
    | none => rw [e2] at h3; cases h3
    | some c => rw [e2] at h3; exact ⟨c, rfl, of_decide_eq_true h3⟩
theorem tree_go : ∀ (rest acc : List Row), acc ≠ [] → Rise acc → okR acc rest = true → ∀ r ∈ rest, ∃ c, r.2.1 = some c ∧ c < r.1 ∧ c ∈ (acc ++ rest).map (·.1)
  | [], _, _, _, _, r, hr => nomatch hr
  | x :: rest, acc, ne, ri, h, r, hr => by
    unfold okR at h
    rw [Bool.and_eq_true] at h
    have ab := stands_above ri h.1
    have e : acc ++ x :: rest = (acc ++ [x]) ++ rest := by simp
    rcases List.mem_cons.mp hr with rfl | hr
    · obtain ⟨c, hc, hm⟩ := stands_chief ne h.1
      obtain ⟨z, hz, rfl⟩ := List.mem_map.mp hm
      exact ⟨z.1, hc, ab z hz, by rw [List.map_append]; exact List.mem_append_left _ hm⟩
    · obtain ⟨c, h1, h2, h3⟩ := tree_go rest (acc ++ [x]) (by simp) (rise_snoc ri ab) h.2 r hr
      exact ⟨c, h1, h2, by rw [e]; exact h3⟩
theorem Good.tree {nx : Int} {rs : List Row} (g : Good nx rs) : Tree rs := by
  refine ⟨g.rise, g.few, ?_⟩
  have h := g.ok
  cases rs with
  | nil => exact absurd rfl g.ne
  | cons r0 rest =>
    unfold okR at h
    rw [Bool.and_eq_true] at h
    refine ⟨r0, rest, rfl, ?_, fun r hr => tree_go rest [r0] (by simp) (by simp [Rise]) h.2 r hr⟩
    have h1 := h.1
    unfold standsB at h1
    exact Option.isNone_iff_eq_none.mp h1
theorem Tree.good {nx : Int} {rs : List Row} (t : Tree rs) (lo : 1 ≤ nx) (hi : nx ≤ 999) (row : ∀ r ∈ rs, RowOk nx r) : Good nx rs := ⟨by obtain ⟨r0, rest, rfl, _⟩ := t.hd; simp, lo, hi, t.few, t.ok, row⟩
/-- the chief that stands in a task's row -/
def chiefO (rs : List Row) (t : Int) : Option Int := (rs.find? fun r => decide (r.1 = t)).bind (·.2.1)
theorem rise_inj {rs : List Row} (h : Rise rs) {r q : Row} (hr : r ∈ rs) (hq : q ∈ rs) (e : r.1 = q.1) : r = q := by
  obtain ⟨i, hi, rfl⟩ := List.mem_iff_getElem.mp hr
  obtain ⟨j, hj, rfl⟩ := List.mem_iff_getElem.mp hq
  have pw := List.pairwise_iff_getElem.mp h
  rcases Nat.lt_trichotomy i j with c | c | c
  · have := pw i j (by rw [List.length_map]; exact hi) (by rw [List.length_map]; exact hj) c
    rw [List.getElem_map, List.getElem_map] at this
    omega
  · subst c; rfl
  · have := pw j i (by rw [List.length_map]; exact hj) (by rw [List.length_map]; exact hi) c
    rw [List.getElem_map, List.getElem_map] at this
    omega
theorem chiefO_row {rs : List Row} (h : Rise rs) {r : Row} (hr : r ∈ rs) : chiefO rs r.1 = r.2.1 := by
  unfold chiefO
  cases e : rs.find? fun x => decide (x.1 = r.1) with
  | none =>
    have := List.find?_eq_none.mp e r hr
    simp at this
  | some q =>
    have h1 : q.1 = r.1 := of_decide_eq_true (List.find?_some (p := fun x : Row => decide (x.1 = r.1)) e)
    rw [rise_inj h (List.mem_of_find?_eq_some e) hr h1]
    rfl
/-- the chain of chiefs from one on -/
def chO (rs : List Row) : Nat → Option Int → List Int
  | 0, _ => []
  | _ + 1, none => []
  | n + 1, some c => c :: chO rs n (chiefO rs c)
theorem chO_none {rs : List Row} : ∀ n, chO rs n none = []
  | 0 => rfl
  | _ + 1 => rfl
theorem Tree.low {rs : List Row} (t : Tree rs) (lo : ∀ r ∈ rs, 0 ≤ r.1) {c c' : Int} (h : chiefO rs c = some c') : c' < c ∧ 0 ≤ c' := by
  unfold chiefO at h
  cases e : rs.find? fun x => decide (x.1 = c) with
  | none => rw [e] at h; cases h
  | some q =>
    rw [e] at h
    have h1 : q.1 = c := of_decide_eq_true (List.find?_some (p := fun x : Row => decide (x.1 = c)) e)
    obtain ⟨h2, z, hz, e2⟩ := t.chief (List.mem_of_find?_eq_some e) h
    exact ⟨h1 ▸ h2, e2 ▸ lo z hz⟩
theorem chO_more {rs : List Row} (t : Tree rs) (lo : ∀ r ∈ rs, 0 ≤ r.1) : ∀ (n m : Nat) (c : Int), c < n → n ≤ m → 0 ≤ c → chO rs n (some c) = chO rs m (some c)
  | 0, _, c, h, _, h0 => by omega
  | n + 1, 0, _, _, h, _ => by omega
  | n + 1, m + 1, c, h, hm, h0 => by
    show c :: chO rs n (chiefO rs c) = c :: chO rs m (chiefO rs c)
    cases e : chiefO rs c with
    | none => rw [chO_none, chO_none]
    | some c' =>
      obtain ⟨h1, h2⟩ := t.low lo e
      rw [chO_more t lo n m c' (by omega) (by omega) h2]
/-- the chiefs above a task -/
def upR (rs : List Row) (t : Int) : List Int := chO rs 1000 (chiefO rs t)
theorem up_none {rs : List Row} (t : Tree rs) {r : Row} (hr : r ∈ rs) (e : r.2.1 = none) : upR rs r.1 = [] := by
  unfold upR
  rw [chiefO_row t.rise hr, e]
  rfl
theorem up_some {rs : List Row} (t : Tree rs) (lo : ∀ r ∈ rs, 0 ≤ r.1 ∧ r.1 < 999) {r : Row} (hr : r ∈ rs) {c : Int} (e : r.2.1 = some c) : upR rs r.1 = c :: upR rs c := by
  have lo' : ∀ r ∈ rs, 0 ≤ r.1 := fun r hr => (lo r hr).1
  unfold upR
  rw [chiefO_row t.rise hr, e]
  show c :: chO rs 999 (chiefO rs c) = c :: chO rs 1000 (chiefO rs c)
  cases e2 : chiefO rs c with
  | none => rw [chO_none, chO_none]
  | some c' =>
    obtain ⟨h1, h2⟩ := t.low lo' e2
    have h3 := (t.chief hr e).1
    have h4 := (lo r hr).2
    rw [chO_more t lo' 999 1000 c' (by omega) (by omega) h2]
/-- what one walk finds -/
def inC (found : List Int) : Option Int → Bool
  | none => false
  | some c => decide (c ∈ found)
def bnS (t : Int) (found : List Int) (r : Row) : List Int := if (decide (r.2.1 = some t) || inC found r.2.1) = true then found ++ [r.1] else found
def bnR (rs : List Row) (t : Int) : List Int := rs.foldl (bnS t) []
def beR (rs : List Row) (t : Int) : List Int := (rs.filter fun r => decide (t ∈ upR rs r.1)).map (·.1)
theorem bn_go {rs : List Row} (t : Tree rs) (lo : ∀ r ∈ rs, 0 ≤ r.1 ∧ r.1 < 999) (k : Int) : ∀ i, (rs.take i).foldl (bnS k) [] = ((rs.take i).filter fun r => decide (k ∈ upR rs r.1)).map (·.1)
  | 0 => rfl
  | i + 1 => by
    by_cases hi : i < rs.length
    case neg =>
      have e : rs.take (i + 1) = rs.take i := by rw [List.take_of_length_le (by omega), List.take_of_length_le (by omega)]
      rw [e]
      exact bn_go t lo k i
    have e : rs.take (i + 1) = rs.take i ++ [rs[i]] := by rw [List.take_add_one, List.getElem?_eq_getElem hi]; rfl
    have hr : rs[i] ∈ rs := List.getElem_mem hi
    rw [e, List.foldl_append, bn_go t lo k i, List.filter_append, List.map_append]
    show bnS k _ rs[i] = _
    unfold bnS
    cases ec : (rs[i]).2.1 with
    | none =>
      rw [show [rs[i]].filter (fun r => decide (k ∈ upR rs r.1)) = [] from by rw [List.filter_cons, up_none t hr ec]; simp]
      simp [inC]
    | some c =>
      have hu := up_some t lo hr ec
      obtain ⟨clt, q, hq, rfl⟩ := t.chief hr ec
      have hqi : q ∈ rs.take i := by
        obtain ⟨j, hj, rfl⟩ := List.mem_iff_getElem.mp hq
        have ji : j < i := by
          rcases Nat.lt_or_ge j i with c | c
          · exact c
          · exfalso
            rcases Nat.eq_or_lt_of_le c with c | c
            · subst c; omega
            · have := List.pairwise_iff_getElem.mp t.rise i j (by rw [List.length_map]; exact hi) (by rw [List.length_map]; exact hj) c
              rw [List.getElem_map, List.getElem_map] at this
              omega
        exact List.mem_iff_getElem.mpr ⟨j, by rw [List.length_take]; omega, by rw [List.getElem_take]⟩
      have iff : (decide (some q.1 = some k) || inC (((rs.take i).filter fun r => decide (k ∈ upR rs r.1)).map (·.1)) (some q.1)) = decide (k ∈ upR rs (rs[i]).1) := by
        rw [hu]
        by_cases c1 : q.1 = k
        · rw [decide_eq_true (congrArg some c1), decide_eq_true (by rw [c1]; exact List.mem_cons_self)]
          rfl
        · rw [decide_eq_false (fun z => c1 (Option.some.inj z)), Bool.false_or]
          show decide _ = decide _
          refine decide_eq_decide.mpr ⟨fun m => ?_, fun m => ?_⟩
          · obtain ⟨x, hx, e3⟩ := List.mem_map.mp m
            obtain ⟨h1, h2⟩ := List.mem_filter.mp hx
            rw [← e3]
            exact List.mem_cons_of_mem _ (of_decide_eq_true h2)
          · rcases List.mem_cons.mp m with m | m
            · exact absurd m.symm c1
            · exact List.mem_map.mpr ⟨q, List.mem_filter.mpr ⟨hqi, decide_eq_true m⟩, rfl⟩
      rw [iff]
      by_cases c2 : k ∈ upR rs (rs[i]).1
      · rw [if_pos (decide_eq_true c2), List.filter_cons, if_pos (decide_eq_true c2)]
        rfl
      · rw [if_neg (by rw [decide_eq_false c2]; exact Bool.false_ne_true), List.filter_cons, if_neg (by rw [decide_eq_false c2]; exact Bool.false_ne_true)]
        simp
theorem bn_be {rs : List Row} (t : Tree rs) (lo : ∀ r ∈ rs, 0 ≤ r.1 ∧ r.1 < 999) (k : Int) : bnR rs k = beR rs k := by
  have := bn_go t lo k rs.length
  rw [List.take_of_length_le (Nat.le_refl _)] at this
  exact this
theorem Good.low {nx : Int} {rs : List Row} (g : Good nx rs) : ∀ r ∈ rs, 0 ≤ r.1 ∧ r.1 < 999 := fun r hr => ⟨(g.row r hr).lo, by have := (g.row r hr).hi; have := g.hi; omega⟩
end K35



set_option maxRecDepth 100000
set_option maxHeartbeats 4000000
/-! k35: what clans tell. -/
namespace K35
open PySem PySem.Spec PyProof.Rows L2 LamX VG TL
theorem scClansEq : FnScope ["self", "other"] ["self", "other"] (defScope sClansEq) := ⟨rfl, rfl, rfl, by decide +kernel, rfl, by decide +kernel, by decide +kernel⟩
theorem scClansLen : FnScope ["self"] ["self"] (defScope sClansLen) := ⟨rfl, rfl, rfl, by decide +kernel, rfl, by decide +kernel, by decide +kernel⟩
theorem scClansHas : FnScope ["self", "value"] ["self", "value"] (defScope sClansHas) := ⟨rfl, rfl, rfl, by decide +kernel, rfl, by decide +kernel, by decide +kernel⟩
theorem scCheckTask : FnScope ["self", "value"] ["self", "value"] (defScope sCheckTask) := ⟨rfl, rfl, rfl, by decide +kernel, rfl, by decide +kernel, by decide +kernel⟩
theorem scChief : FnScope ["self", "task"] ["self", "task"] (defScope sChief) := ⟨rfl, rfl, rfl, by decide +kernel, rfl, by decide +kernel, by decide +kernel⟩
theorem scHasBorder : FnScope ["self", "task"] ["self", "task"] (defScope sHasBorder) := ⟨rfl, rfl, rfl, by decide +kernel, rfl, by decide +kernel, by decide +kernel⟩
theorem scTasksBeneath : FnScope ["self", "task", "found", "other"] ["self", "task"] (defScope sTasksBeneath) := ⟨rfl, rfl, rfl, by decide +kernel, rfl, by decide +kernel, by decide +kernel⟩
theorem scClan : FnScope ["clans", "task", "other"] ["clans", "task"] (defScope sClan) := ⟨rfl, rfl, rfl, by decide +kernel, rfl, by decide +kernel, by decide +kernel⟩
theorem scBeneath : FnScope ["clans", "task"] ["clans", "task"] (defScope sBeneath) := ⟨rfl, rfl, rfl, by decide +kernel, rfl, by decide +kernel, by decide +kernel⟩
/-- an error comes, with this value -/
def Err (H : Hp) (E : XK) (C : Addr) (v : V) : Prop := ∀ H' dd, Same H H' → H' dd = none → E (.ref C) (some dd) (upd H' dd (.xd [("value", v)]))
theorem Err.mono {H H1 : Hp} {E : XK} {C : Addr} {v : V} (h : Err H E C v) (s : Same H H1) : Err H1 E C v := fun H' dd s' n => h H' dd (s.trans s') n
theorem Err.need {K : PySem.W.Frag} {H : Hp} {E : XK} {C J : Addr} {v : V} (h : Err H E C v) (T : ErrC K C J) : Need K C v H (fun cls d H' => E cls d H') := need_ok T fun dd n => h H dd (Same.refl H) n
/-- whether any value is a task -/
def hasB : PyData → List Row → Bool
  | .int i, rs => decide (i ∈ rs.map (·.1))
  | _, _ => false
theorem hasB_row {d : PyData} {rs : List Row} (h : hasB d rs = true) : ∃ r ∈ rs, d = .int r.1 := by
  cases d with
  | int i =>
    obtain ⟨r, hr, e⟩ := List.mem_map.mp (of_decide_eq_true h)
    exact ⟨r, hr, by rw [e]⟩
  | _ => cases h
theorem hasB_of {r : Row} {rs : List Row} (h : r ∈ rs) : hasB (.int r.1) rs = true := decide_eq_true (List.mem_map.mpr ⟨r, h, rfl⟩)
theorem val_row {f : Row → V} {rs : List Row} (h : Rise rs) {r : Row} (hr : r ∈ rs) : valV (rs.map fun r => ((Sum.inl r.1 : Key), f r)) (Sum.inl r.1) = some (f r) := by
  obtain ⟨i, hi, e⟩ := List.mem_iff_getElem.mp hr
  exact val_at h (i := i) (by rw [List.getElem?_eq_getElem hi, e])
theorem ClansAt.ins {K : PySem.W.Frag} {C a : Addr} {H : Hp} {nx : Int} {rs : List Row} (h : ClansAt K C H a nx rs) : ∃ dx R T A B, H a = some (.ins C dx (cfs (houseT nx rs) nx R T A B)) := by
  obtain ⟨dx, R, T, A, B, h, _⟩ := h
  exact ⟨dx, R, T, A, B, h⟩
theorem dget_of {H : Hp} {a : Addr} {kvs : List (Key × V)} {k : Key} {r : Option V} (h : H a = some (.dK kvs)) (e : valV kvs k = r) : DGet H a (kV k) r := .inl ⟨kvs, k, .inl h, rfl, e.symm⟩
theorem lg {n : Int} (a : 0 ≤ n) (b : n < 1000) : n.natAbs.log2 < 1920 := log2_small (by have : n.natAbs < 1000 := by omega
                                                                                         omega)
theorem inV_inC (o : Option Int) (l : List Int) : inV (optI o) (l.map V.int) = inC l o := by
  cases o with
  | none => exact inV_non l
  | some c => exact inV_ints c l
theorem dec_opt (o : Option Int) (t : Int) : decide (optI o = V.int t) = decide (o = some t) := by
  cases o with
  | none => rw [decide_eq_false (fun y => nomatch y), decide_eq_false (fun y => nomatch y)]
  | some c =>
    show decide (V.int c = V.int t) = _
    by_cases h : c = t
    · rw [decide_eq_true (show V.int c = V.int t from congrArg V.int h), decide_eq_true (congrArg some h)]
    · rw [decide_eq_false (fun y => h (V.int.inj y)), decide_eq_false (fun y => h (Option.some.inj y))]
theorem gn_of {i : Nat} {x : V} {σ : L2.St} {H : Hp} {N : L2.St → Hp → Prop} (h : N (σ.set i (some x)) H) : gName i x σ H N := h
theorem next_of {D : Ends} {σ : L2.St} {H : Hp} (h : D.nx σ H) : tNext D σ H := h
theorem seq_cut {a rest : TS} {D : Ends} {σ : L2.St} {H : Hp} (PS : L2.St → Hp → Prop) (h : ∀ N : L2.St → Hp → Prop, (∀ σ' H', PS σ' H' → N σ' H') → a { D with nx := N } σ H) (q : ∀ σ' H', PS σ' H' → rest D σ' H') : tSeq a rest D σ H := h _ q
section
variable {P : Program} {w : World} {K : PySem.W.Frag} {mg : Str → Option Value} {base : Heap}
def spClansEq (K : PySem.W.Frag) (C : Addr) : Sp := fun vs H Q _ => ∃ (a : Addr) (nx : Int) (rs : List Row) (y : V), vs = [.ref a, y] ∧ ClansAt K C H a nx rs ∧
  ((∃ b nx' rs', y = .ref b ∧ ClansAt K C H b nx' rs' ∧ Q (.bl (decide (houseT nx rs = houseT nx' rs'))) H) ∨ ∃ d, Dk K H y d ∧ Q (.bl false) H)
theorem ok_ClansEq {k : Nat} {f : Addr} {fd : FuncData} {C:Addr} (F : Fun K "__eq__" "Clans.__eq__" sClansEq f fd)  (T : CF K C) (gClans : mg "Clans" = some (.ref C)) (fisinstance : mg "isinstance" = none) : FnOk P w K mg base CX0 (k + 1) f fd ["self", "other"] (spClansEq K C) := by
  refine F.ok scClansEq (fun vs H Q E h => ?_) (fun cdv A outer s H vs Q E hr h => ?_)
  · obtain ⟨a, nx, rs, y, rfl, _⟩ := h
    rfl
  · obtain ⟨a, nx, rs, y, rfl, ha, hy⟩ := h
    refine ⟨_, (pss_one (ps_ret (pe_and (pe_callB call_isi (by rfl) fisinstance (by decide +kernel) (pa_cons (pv 1) (pa_cons (pgr (by rfl) gClans) pa_nil))) (pe_one (pe_cmpR op_eq (pe_fld (pv 0) rfl) (pe_fld (pv 1) rfl) (nomark _)))))), ?_⟩
    obtain ⟨dx, Ra, Ta, Aa, Ba, h1⟩ := ha.ins
    rcases hy with ⟨b, nx', rs', rfl, hb, q⟩ | ⟨d, hd, q⟩
    · obtain ⟨dy, Rb, Tb, Ab, Bb, g1⟩ := hb.ins
      refine ⟨.ref b, rfl, .ref b, .ref C, .ref C, .ref C, true, rfl, .own C, .base (.ins g1 T.cl T.a T.g T.t T.m), T.yes, _, rfl, iteT ?_⟩
      refine ⟨.ref a, rfl, a, C, dx, _, .str (houseT nx rs), rfl, h1, T.cl, T.nT, rfl, .ref b, rfl, b, C, dy, _, .str (houseT nx' rs'), rfl, g1, T.cl, T.nT, rfl, rfl, ?_⟩
      rw [strEq]
      exact q
    · exact ⟨y, rfl, y, .ref C, .type (tyName d), .ref C, false, rfl, .own C, hd.tyx, T.no d, _, rfl, iteF q⟩
def spClansLen (K : PySem.W.Frag) (C : Addr) : Sp := fun vs H Q _ => ∃ (a : Addr) (nx : Int) (rs : List Row), vs = [.ref a] ∧ ClansAt K C H a nx rs ∧ Q (.int (rs.length : Nat)) H
theorem ok_ClansLen {k : Nat} {f : Addr} {fd : FuncData} {C:Addr} (F : Fun K "__len__" "Clans.__len__" sClansLen f fd)  (T : CF K C) (flen : mg "len" = none) : FnOk P w K mg base CX0 (k + 1) f fd ["self"] (spClansLen K C) := by
  refine F.ok scClansLen (fun vs H Q E h => ?_) (fun cdv A outer s H vs Q E hr h => ?_)
  · obtain ⟨a, nx, rs, rfl, _⟩ := h
    rfl
  · obtain ⟨a, nx, rs, rfl, ha, q⟩ := h
    refine ⟨_, (pss_one (ps_ret (pe_callB call_len_seq (by rfl) flen PySem.boot_len (pa_cons (pe_fld (pv 0) rfl) pa_nil)))), ?_⟩
    obtain ⟨dx, R, T0, A0, B0, h1, h2, h4, h5, h6⟩ := ha
    refine ⟨.ref a, rfl, a, C, dx, _, .ref T0, rfl, h1, T.cl, T.nK, rfl, T0, _, rfl, .inr h4, ?_⟩
    rw [List.length_map, List.length_map]
    exact q
def spClansHas (K : PySem.W.Frag) (C : Addr) : Sp := fun vs H Q _ => ∃ (a : Addr) (nx : Int) (rs : List Row) (v : V) (d : PyData), vs = [.ref a, v] ∧ ClansAt K C H a nx rs ∧ Dk K H v d ∧ Q (.bl (hasB d rs)) H
theorem ok_ClansHas {k : Nat} {f : Addr} {fd : FuncData} {C:Addr} (F : Fun K "__contains__" "Clans.__contains__" sClansHas f fd)  (T : CF K C) (fint : mg "int" = none) (ftype : mg "type" = none) : FnOk P w K mg base CX0 (k + 1) f fd ["self", "value"] (spClansHas K C) := by
  refine F.ok scClansHas (fun vs H Q E h => ?_) (fun cdv A outer s H vs Q E hr h => ?_)
  · obtain ⟨a, nx, rs, v, d, rfl, _⟩ := h
    rfl
  · obtain ⟨a, nx, rs, v, d, rfl, ha, hd, q⟩ := h
    refine ⟨_, (pss_one (ps_ret (pe_and (pe_cmpR op_isTyB (pe_callTy call_type1 (by rfl) ftype (by decide +kernel) (pa_cons (pv 1) pa_nil)) (pe_bltn (v := .ty "int") (by rfl) fint (by decide +kernel) rfl) (nomark _)) (pe_one (pe_cmpR op_in_seq (pv 1) (pe_fld (pv 0) rfl) (by rfl)))))), ?_⟩
    obtain ⟨dx, R, T0, A0, B0, h1, h2, h4, h5, h6⟩ := ha
    refine ⟨v, rfl, v, tyName d, rfl, hd.ty, _, _, rfl, rfl, _, rfl, ?_⟩
    cases d with
    | int i =>
      obtain rfl := dk_int hd
      refine iteT ⟨.int i, rfl, .ref a, rfl, a, C, dx, _, .ref T0, rfl, h1, T.cl, T.nK, rfl, T0, _, rfl, .inr h4, rfl, flat_ints _, ?_⟩
      rw [inV_ints]
      exact q
    | _ => exact iteF q
def spCheckTask (K : PySem.W.Frag) (C C2 : Addr) : Sp := fun vs H Q E => ∃ (a : Addr) (nx : Int) (rs : List Row) (v : V) (d : PyData), vs = [.ref a, v] ∧ ClansAt K C H a nx rs ∧ Dk K H v d ∧ (hasB d rs = false → Err H E C2 v) ∧ (hasB d rs = true → Q .non H)
theorem ok_CheckTask {k : Nat} {f : Addr} {fd : FuncData} {C C2 J2:Addr} {fdI2:FuncData} (F : Fun K "check_task" "Clans.check_task" sCheckTask f fd) (gCh : CalM P w K mg base CX0 C "__contains__" (k + 2) ["self", "value"] (spClansHas K C)) (E2 : ErrC K C2 J2) (I2 : Fun K "__init__" "CoreError.__init__" sInit J2 fdI2) (bI2 : L2.Binds K fdI2 ["self", "value"] []) (gNoTask : mg "NoTask" = some (.ref C2)) (T : CF K C)  : FnOk P w K mg base (L2.CX P w) (k + 4) f fd ["self", "value"] (spCheckTask K C C2) := by
  obtain ⟨fCh, fdCh, GCh, MCh, bCh⟩ := gCh
  refine F.okX scCheckTask (fun vs H Q E h => ?_) (fun cdv A outer s H vs Q E hr h => ?_)
  · obtain ⟨a, nx, rs, v, d, rfl, _⟩ := h
    rfl
  · obtain ⟨a, nx, rs, v, d, rfl, ha, hd, qe, q⟩ := h
    refine ⟨_, (pss_cons (ps_if (pt_cmpR (op_notInOwn GCh MCh.at_ MCh.fn bCh (hr.mono (by omega))) (pv 1) (pv 0) (by rfl)) (pss_one (ps_err rfl E2 I2 bI2 (k := (k+1)) hr (takes_of rfl rfl rfl rfl) (by rfl) gNoTask (pv 1))) pss_nil) (PSs.nox pss_nil)), ?_⟩
    obtain ⟨dx, R, T0, A0, B0, h1⟩ := ha.ins
    refine ⟨v, rfl, .ref a, rfl, a, dx, _, rfl, h1, a, nx, rs, v, d, rfl, ha, hd, _, rfl, _, rfl, ?_⟩
    cases e : hasB d rs with
    | false => exact iteT ⟨v, rfl, (qe e).need E2⟩
    | true => exact iteF (q e)
def spChief (K : PySem.W.Frag) (C C2 : Addr) : Sp := fun vs H Q E => ∃ (a : Addr) (nx : Int) (rs : List Row) (v : V) (d : PyData), vs = [.ref a, v] ∧ ClansAt K C H a nx rs ∧ Rise rs ∧ Dk K H v d ∧ (hasB d rs = false → Err H E C2 v) ∧ (∀ r ∈ rs, d = .int r.1 → Q (optI r.2.1) H)
theorem ok_Chief {k : Nat} {f : Addr} {fd : FuncData} {C C2:Addr} (F : Fun K "chief" "Clans.chief" sChief f fd) (gCk : CalM P w K mg base (L2.CX P w) C "check_task" (k + 4) ["self", "value"] (spCheckTask K C C2)) (T : CF K C)  : FnOk P w K mg base (L2.CX P w) (k + 5) f fd ["self", "task"] (spChief K C C2) := by
  obtain ⟨fCk, fdCk, GCk, MCk, bCk⟩ := gCk
  refine F.okX scChief (fun vs H Q E h => ?_) (fun cdv A outer s H vs Q E hr h => ?_)
  · obtain ⟨a, nx, rs, v, d, rfl, _⟩ := h
    rfl
  · obtain ⟨a, nx, rs, v, d, rfl, ha, ri, hd, qe, q⟩ := h
    refine ⟨_, (pss_cons (ps_expr (pe_meth (pv 0) T.cl MCk GCk hr bCk .nil (passes_call (takes_of rfl rfl rfl rfl) fun _ _ _ _ h => h) (pa_cons (pv 1) pa_nil))) (PSs.nox (pss_one (ps_ret (pe_dget (hu_of hr) (pe_fld (pv 0) rfl) (pv 1) (fun _ _ => rfl)))))), ?_⟩
    obtain ⟨dx, R, T0, A0, B0, h1, h2, h4, h5, h6⟩ := id ha
    refine ⟨.ref a, rfl, a, dx, _, rfl, h1, rfl, v, rfl, a, nx, rs, v, d, rfl, ha, hd, qe, fun e => ?_⟩
    obtain ⟨r, hr, rfl⟩ := hasB_row e
    obtain rfl := dk_int hd
    refine ⟨.ref a, rfl, a, C, dx, _, .ref A0, rfl, h1, T.cl, T.nC, rfl, .int r.1, rfl, A0, optI r.2.1, rfl, dget_of (k := Sum.inl r.1) h5 (val_row (f := fun r => optI r.2.1) ri hr), ?_⟩
    exact q r hr rfl
def spHasBorder (K : PySem.W.Frag) (C C2 : Addr) : Sp := fun vs H Q E => ∃ (a : Addr) (nx : Int) (rs : List Row) (v : V) (d : PyData), vs = [.ref a, v] ∧ ClansAt K C H a nx rs ∧ Rise rs ∧ Dk K H v d ∧ (hasB d rs = false → Err H E C2 v) ∧ (∀ r ∈ rs, d = .int r.1 → Q (.bl r.2.2) H)
theorem ok_HasBorder {k : Nat} {f : Addr} {fd : FuncData} {C C2:Addr} (F : Fun K "has_border" "Clans.has_border" sHasBorder f fd) (gCk : CalM P w K mg base (L2.CX P w) C "check_task" (k + 4) ["self", "value"] (spCheckTask K C C2)) (T : CF K C)  : FnOk P w K mg base (L2.CX P w) (k + 5) f fd ["self", "task"] (spHasBorder K C C2) := by
  obtain ⟨fCk, fdCk, GCk, MCk, bCk⟩ := gCk
  refine F.okX scHasBorder (fun vs H Q E h => ?_) (fun cdv A outer s H vs Q E hr h => ?_)
  · obtain ⟨a, nx, rs, v, d, rfl, _⟩ := h
    rfl
  · obtain ⟨a, nx, rs, v, d, rfl, ha, ri, hd, qe, q⟩ := h
    refine ⟨_, (pss_cons (ps_expr (pe_meth (pv 0) T.cl MCk GCk hr bCk .nil (passes_call (takes_of rfl rfl rfl rfl) fun _ _ _ _ h => h) (pa_cons (pv 1) pa_nil))) (PSs.nox (pss_one (ps_ret (pe_dget (hu_of hr) (pe_fld (pv 0) rfl) (pv 1) (fun _ _ => rfl)))))), ?_⟩
    obtain ⟨dx, R, T0, A0, B0, h1, h2, h4, h5, h6⟩ := id ha
    refine ⟨.ref a, rfl, a, dx, _, rfl, h1, rfl, v, rfl, a, nx, rs, v, d, rfl, ha, hd, qe, fun e => ?_⟩
    obtain ⟨r, hr, rfl⟩ := hasB_row e
    obtain rfl := dk_int hd
    refine ⟨.ref a, rfl, a, C, dx, _, .ref B0, rfl, h1, T.cl, T.nB, rfl, .int r.1, rfl, B0, .bl r.2.2, rfl, dget_of (k := Sum.inl r.1) h6 (val_row (f := fun r => V.bl r.2.2) ri hr), ?_⟩
    exact q r hr rfl
def spTasksBeneath (K : PySem.W.Frag) (C : Addr) : Sp := fun vs H Q _ => ∃ (a : Addr) (nx : Int) (rs : List Row) (t : Int), vs = [.ref a, .int t] ∧ ClansAt K C H a nx rs ∧ Rise rs ∧ rs.length ≤ 6 ∧ ∀ H' L, Same H H' → H' L = some (.lst ((bnR rs t).map V.int)) → Q (.ref L) H'
theorem ok_TasksBeneath {k : Nat} {f : Addr} {fd : FuncData} {C:Addr} (F : Fun K "tasks_beneath" "Clans.tasks_beneath" sTasksBeneath f fd)  (T : CF K C)  : FnOk P w K mg base CX0 (k + 1) f fd ["self", "task"] (spTasksBeneath K C) := by
  refine F.ok scTasksBeneath (fun vs H Q E h => ?_) (fun cdv A outer s H vs Q E hr h => ?_)
  · obtain ⟨a, nx, rs, t, rfl, _⟩ := h
    rfl
  · obtain ⟨a, nx, rs, t, rfl, ha, ri, few, q⟩ := h
    refine ⟨_, (pss_cons (ps_set (i := 2) scTasksBeneath.nd rfl (.inl rfl) (pe_lst pa_nil)) (pss_cons (ps_for PassesOwn.never rfl (pi_tup (pe_fld (pv 0) rfl)) (pg_name (i := 3) scTasksBeneath.nd rfl (.inl rfl)) (pss_one (ps_if (PW.pt (pw_or (pt_cmpR op_eq (pe_dget (hu_of hr) (pe_fld (pv 0) rfl) (pv 3) (fun _ _ => rfl)) (pv 1) (nomark _)) (pw_or1 (pt_cmpR op_in_seq (pe_dget (hu_of hr) (pe_fld (pv 0) rfl) (pv 3) (fun _ _ => rfl)) (pv 2) (by rfl))))) (pss_one (ps_expr (pe_bm PySem.F.plainAttrs_list PySem.F.slot_list_append PySem.F.type_list_append mt_append (pv 2) (pa_cons (pv 3) pa_nil)))) pss_nil))) (pss_one (ps_ret (pv 2))))), ?_⟩
    obtain ⟨dx, R, T0, A0, B0, h1, h2, h4, h5, h6⟩ := id ha
    refine ⟨by show 0 ≤ sizeLine; decide, fun L nL => gn_of ?_⟩
    try dsimp only
    have u := same_upd (o := .lst []) nL
    refine ⟨.ref a, rfl, a, C, dx, _, .ref T0, rfl, u _ _ h1, T.cl, T.nK, rfl, T0, rfl, ⟨_, Same.seqT u h4⟩, ?_⟩
    refine for_tup (xs := (rs.map (·.1)).map V.int) (fun i σ H' => ∃ y3, σ = [some (.ref a), some (.int t), some (.ref L), y3] ∧ Same H H' ∧ H' L = some (.lst (((rs.take i).foldl (bnS t) []).map V.int)) ∧ ((rs.take i).foldl (bnS t) []).length ≤ i) ⟨none, rfl, u, upd_same, Nat.le_refl _⟩ (fun i σ H' _ hP => by obtain ⟨_, _, s, _⟩ := hP; exact Same.seqT s h4) (fun i x σ H' hx hP => ?_) (fun σ H' hP => ?_)
    · obtain ⟨y3, rfl, sm, hL, hl⟩ := hP
      have hi := (List.getElem?_eq_some_iff.mp hx).1
      rw [List.length_map, List.length_map] at hi
      have hget : rs[i]? = some rs[i] := List.getElem?_eq_getElem hi
      rw [List.getElem?_map, List.getElem?_map, hget] at hx
      obtain rfl : V.int (rs[i]).1 = x := Option.some.inj hx
      have hr : rs[i] ∈ rs := List.getElem_mem hi
      have et : (rs.take (i + 1)).foldl (bnS t) [] = bnS t ((rs.take i).foldl (bnS t) []) rs[i] := by rw [List.take_add_one, hget, List.foldl_append]; rfl
      rw [et]
      generalize rs[i] = r at hr ⊢
      generalize (rs.take i).foldl (bnS t) [] = found at hL hl ⊢
      refine gn_of ?_
      try dsimp only
      have gc : DGet H' A0 (.int r.1) (some (optI r.2.1)) := dget_of (k := Sum.inl r.1) (sm _ _ h5) (val_row (f := fun r => optI r.2.1) ri hr)
      have app : (decide (r.2.1 = some t) || inC found r.2.1) = true → ∃ y3, [some (V.ref a), some (.int t), some (.ref L), some (.int r.1)] = [some (.ref a), some (.int t), some (.ref L), y3] ∧ Same H (upd H' L (.lst (found.map V.int ++ [.int r.1]))) ∧ upd H' L (.lst (found.map V.int ++ [.int r.1])) L = some (.lst ((bnS t found r).map V.int)) ∧ (bnS t found r).length ≤ i + 1 := fun e => by
        unfold bnS
        rw [if_pos e]
        exact ⟨_, rfl, Same.updNew sm nL, by rw [upd_same, List.map_append]; rfl, by rw [List.length_append, List.length_singleton]; omega⟩
      refine ⟨.ref a, rfl, a, C, dx, _, .ref A0, rfl, sm _ _ h1, T.cl, T.nC, rfl, .int r.1, rfl, A0, optI r.2.1, rfl, gc, .int t, rfl, by cases r.2.1 <;> rfl, _, rfl, ?_⟩
      rw [dec_opt]
      cases c1 : decide (r.2.1 = some t) with
      | true =>
        refine iteT (iteT ⟨.ref L, rfl, .inl ⟨rfl, _, SqL.of hL⟩, .int r.1, rfl, L, _, _, rfl, rfl, hL, small1000 (by rw [List.length_map]; omega), ?_⟩)
        exact app (by rw [c1]; rfl)
      | false =>
        refine iteF ⟨.ref a, rfl, a, C, dx, _, .ref A0, rfl, sm _ _ h1, T.cl, T.nC, rfl, .int r.1, rfl, A0, optI r.2.1, rfl, gc, .ref L, rfl, L, _, rfl, .inl (SqL.of hL), flat_optI _, flat_ints _, _, rfl, ?_⟩
        show (if (inV (optI r.2.1) (found.map V.int)) = true then _ else _)
        rw [inV_inC]
        cases c2 : inC found r.2.1 with
        | true =>
          refine iteT ⟨.ref L, rfl, .inl ⟨rfl, _, SqL.of hL⟩, .int r.1, rfl, L, _, _, rfl, rfl, hL, small1000 (by rw [List.length_map]; omega), ?_⟩
          exact app (by rw [c2, Bool.or_true])
        | false =>
          refine iteF ⟨_, rfl, sm, ?_, ?_⟩
          · unfold bnS
            rw [c1, c2]
            exact hL
          · unfold bnS
            rw [c1, c2]
            exact Nat.le_succ_of_le hl
    · obtain ⟨y3, rfl, sm, hL, hl⟩ := hP
      rw [List.length_map, List.length_map, List.take_of_length_le (Nat.le_refl _)] at hL
      exact ⟨.ref L, rfl, q _ L sm hL⟩
end
end K35



set_option maxRecDepth 100000
set_option maxHeartbeats 4000000
/-! k35: deeds of clans, functions. -/
namespace K35
open PySem PySem.Spec PyProof.Rows L2 LamX VG TL
section
variable {P : Program} {w : World} {K : PySem.W.Frag} {mg : Str → Option Value} {base : Heap}
/-- making clans of a good text -/
theorem use_clans {C x dx : Addr} {H : Hp} {nx : Int} {rs : List Row} {Q : Hp → Prop} {E : XK} (g : Good nx rs) (nxx : H x = none) (ndx : H dx = none)
    (q : ∀ H', Same H H' → ClansAt K C H' x nx rs → Q H') : spClansI K C (.ref x :: ([.str (houseT nx rs)] ++ [])) (upd (upd H dx (.own x)) x (.ins C dx [])) (fun v H2 => v = .non ∧ Q H2) E := by
  have su : Same H (upd (upd H dx (.own x)) x (.ins C dx [])) := Same.updNew (same_upd ndx) nxx
  exact ⟨x, dx, nx, rs, rfl, g, upd_same, fun H' b c => ⟨rfl, q H' (Same.but su nxx b) c⟩⟩
theorem dec_opts (o p : Option Int) : decide (optI o = optI p) = decide (o = p) := by
  cases p with
  | some t => exact dec_opt o t
  | none =>
    cases o with
    | none => rw [decide_eq_true rfl, decide_eq_true rfl]
    | some c => rw [decide_eq_false (fun y => nomatch y), decide_eq_false (fun y => nomatch y)]
theorem iteNF {p A B : Prop} [Decidable p] (h : p) (b : B) : if (!decide p) = true then A else B := by rw [if_neg (by rw [decide_eq_true h]; exact Bool.false_ne_true)]; exact b
theorem while_of {c : TT} {tb : TS} {D : Ends} {σ : L2.St} {H : Hp} (Pv : Nat → L2.St → Hp → Prop) (n : Nat) (h0 : Pv n σ H)
    (hs : ∀ m σ H, Pv m σ H → c σ H fun b H1 => if b = true then ∃ N : L2.St → Hp → Prop, (∀ σ' H', N σ' H' → ∃ m', m' < m ∧ Pv m' σ' H') ∧ tb { D with nx := N, ct := N, bk := D.nx } σ H1 else D.nx σ H1) : tWhile c tb D σ H := ⟨Pv, ⟨n, h0⟩, hs⟩
def clR (rs : List Row) (r : Row) : List Int := (rs.filter fun x => decide (x.2.1 = r.2.1)).map (·.1)
def spClan (K : PySem.W.Frag) (C C2 : Addr) : Sp := fun vs H Q E => ∃ (a : Addr) (nx : Int) (rs : List Row) (v : V) (d : PyData), vs = [.ref a, v] ∧ ClansAt K C H a nx rs ∧ Good nx rs ∧ Dk K H v d ∧ (hasB d rs = false → Err H E C2 v) ∧
  (∀ r ∈ rs, d = .int r.1 → ∀ H' t, Same H H' → SqT K H' t ((clR rs r).map V.int) → Q (.ref t) H')
theorem ok_Clan {k : Nat} {f : Addr} {fd : FuncData} {C C2:Addr} (F : Fun K "clan" "clan" sClan f fd) (gCk : CalM P w K mg base (L2.CX P w) C "check_task" (k + 9) ["self", "value"] (spCheckTask K C C2)) (T : CF K C) (ftuple : mg "tuple" = none) : FnOk P w K mg base (L2.CX P w) (k + 10) f fd ["clans", "task"] (spClan K C C2) := by
  obtain ⟨fCk, fdCk, GCk, MCk, bCk⟩ := gCk
  refine F.okX scClan (fun vs H Q E h => ?_) (fun cdv A outer s H vs Q E hr h => ?_)
  · obtain ⟨a, nx, rs, v, d, rfl, _⟩ := h
    rfl
  · obtain ⟨a, nx, rs, v, d, rfl, ha, g, hd, qe, q⟩ := h
    refine ⟨_, (pss_cons (ps_expr (pe_meth (pv 0) T.cl MCk GCk hr bCk .nil (passes_call (takes_of rfl rfl rfl rfl) fun _ _ _ _ h => h) (pa_cons (pv 1) pa_nil))) (PSs.nox (pss_one (ps_ret (pe_callTy call_tuple_of (by rfl) ftuple (by decide +kernel) (pa_cons (pe_lc (own := [("other", 2)]) (g := (gName 2)) (tt := _) rfl scClan.nd (pi_tup (pe_fld (pv 0) rfl)) (blkOk_by (N := ["clans", "task", "other"]) (sc := defScope sClan) (by decide +kernel)) (fun _ _ _ _ _ => (pg_name (i := 2) scClan.nd rfl (.inl rfl))) (fun _ _ _ _ _ => (pts_one (pt_cmpR op_eq (pe_dget (hu_of hr) (show PE _ _ (tFld K _ "chiefs") from pe_fld (pv 0) rfl) (pv 2) (fun _ _ => rfl)) (pe_dget (hu_of hr) (show PE _ _ (tFld K _ "chiefs") from pe_fld (pv 0) rfl) (pv 1) (fun _ _ => rfl)) (nomark _)))) (fun _ _ _ _ _ => (pv 2))) pa_nil)))))), ?_⟩
    obtain ⟨dx, R, T0, A0, B0, h1, h2, h4, h5, h6⟩ := id ha
    refine ⟨.ref a, rfl, a, dx, _, rfl, h1, rfl, v, rfl, a, nx, rs, v, d, rfl, ha, hd, qe, fun e1 => ?_⟩
    obtain ⟨r, hr, rfl⟩ := hasB_row e1
    obtain rfl := dk_int hd
    have q := q r hr rfl
    refine ⟨.ref a, rfl, a, C, dx, _, .ref T0, rfl, h1, T.cl, T.nK, rfl, T0, rfl, ⟨_, h4⟩, fun D nD => ?_⟩
    refine lc_tup (xs := (rs.map fun x : Row => x.1).map V.int) (fun i H' => Same H H' ∧ H' D = some (.lst ((clR (rs.take i) r).map V.int))) ⟨same_upd nD, upd_same⟩ (fun i H' _ hP => Same.seqT hP.1 h4) (fun i x H' hx hP => ?_) fun H3 hP => ?_
    · obtain ⟨sm, hD⟩ := hP
      have hi := (List.getElem?_eq_some_iff.mp hx).1
      rw [List.length_map, List.length_map] at hi
      have hget : rs[i]? = some rs[i] := List.getElem?_eq_getElem hi
      rw [List.getElem?_map, List.getElem?_map, hget] at hx
      obtain rfl : V.int (rs[i]).1 = x := Option.some.inj hx
      have hy : rs[i] ∈ rs := List.getElem_mem hi
      have et : clR (rs.take (i + 1)) r = clR (rs.take i) r ++ (if decide ((rs[i]).2.1 = r.2.1) = true then [(rs[i]).1] else []) := by
        unfold clR
        rw [List.take_add_one, hget, List.filter_append, List.map_append]
        show _ ++ ([rs[i]].filter _).map _ = _
        rw [List.filter_cons]
        split <;> rfl
      have ll : (clR (rs.take i) r).length ≤ 6 := by
        unfold clR
        rw [List.length_map]
        exact Nat.le_trans (List.length_filter_le _ _) (by rw [List.length_take]; have := g.few; omega)
      rw [et]
      generalize rs[i] = y at hy ⊢
      have gy : DGet H' A0 (.int y.1) (some (optI y.2.1)) := dget_of (k := Sum.inl y.1) (sm _ _ h5) (val_row (f := fun r => optI r.2.1) g.rise hy)
      have gr : DGet H' A0 (.int r.1) (some (optI r.2.1)) := dget_of (k := Sum.inl r.1) (sm _ _ h5) (val_row (f := fun r => optI r.2.1) g.rise hr)
      refine ⟨rfl, .ref a, rfl, a, C, dx, _, .ref A0, rfl, sm _ _ h1, T.cl, T.nC, rfl, .int y.1, rfl, A0, optI y.2.1, rfl, gy, .ref a, rfl, a, C, dx, _, .ref A0, rfl, sm _ _ h1, T.cl, T.nC, rfl, .int r.1, rfl, A0, optI r.2.1, rfl, gr, by cases y.2.1 <;> cases r.2.1 <;> rfl, _, rfl, ?_⟩
      rw [show decide (optI y.2.1 = optI r.2.1) = decide (y.2.1 = r.2.1) from dec_opts _ _]
      by_cases c : y.2.1 = r.2.1
      · rw [if_pos (decide_eq_true c)]
        refine iteD c ⟨.int y.1, rfl, _, hD, small1000 (by rw [List.length_map]; omega), Same.updNew sm nD, ?_⟩
        rw [upd_same, List.map_append]
        rfl
      · rw [if_neg (by rw [decide_eq_false c]; exact Bool.false_ne_true), List.append_nil]
        exact iteE c ⟨sm, hD⟩
    obtain ⟨sm, hD⟩ := hP
    rw [List.length_map, List.length_map, List.take_of_length_le (Nat.le_refl _)] at hD
    refine ⟨D, _, rfl, .inl ⟨SqL.of hD, fun t nt => ?_⟩⟩
    exact q _ t (sm.trans (same_upd nt)) (SqT.of upd_same)
def spBeneath (K : PySem.W.Frag) (C C2 : Addr) : Sp := fun vs H Q E => ∃ (a : Addr) (nx : Int) (rs : List Row) (v : V) (d : PyData), vs = [.ref a, v] ∧ ClansAt K C H a nx rs ∧ Good nx rs ∧ Dk K H v d ∧ (hasB d rs = false → Err H E C2 v) ∧
  (∀ r ∈ rs, d = .int r.1 → ∀ H' t, Same H H' → SqT K H' t ((bnR rs r.1).map V.int) → Q (.ref t) H')
theorem ok_Beneath {k : Nat} {f : Addr} {fd : FuncData} {C C2:Addr} (F : Fun K "beneath" "beneath" sBeneath f fd) (gCk : CalM P w K mg base (L2.CX P w) C "check_task" (k + 9) ["self", "value"] (spCheckTask K C C2)) (gTb : CalM P w K mg base CX0 C "tasks_beneath" (k + 9) ["self", "task"] (spTasksBeneath K C)) (T : CF K C) (ftuple : mg "tuple" = none) : FnOk P w K mg base (L2.CX P w) (k + 10) f fd ["clans", "task"] (spBeneath K C C2) := by
  obtain ⟨fCk, fdCk, GCk, MCk, bCk⟩ := gCk
  obtain ⟨fTb, fdTb, GTb, MTb, bTb⟩ := gTb
  refine F.okX scBeneath (fun vs H Q E h => ?_) (fun cdv A outer s H vs Q E hr h => ?_)
  · obtain ⟨a, nx, rs, v, d, rfl, _⟩ := h
    rfl
  · obtain ⟨a, nx, rs, v, d, rfl, ha, g, hd, qe, q⟩ := h
    refine ⟨_, (pss_cons (ps_expr (pe_meth (pv 0) T.cl MCk GCk hr bCk .nil (passes_call (takes_of rfl rfl rfl rfl) fun _ _ _ _ h => h) (pa_cons (pv 1) pa_nil))) (PSs.nox (pss_one (ps_ret (pe_callTy call_tuple_of (by rfl) ftuple (by decide +kernel) (pa_cons (pe_meth (pv 0) T.cl MTb GTb hr bTb .nil pass0 (pa_cons (pv 1) pa_nil)) pa_nil)))))), ?_⟩
    obtain ⟨dx, R, T0, A0, B0, h1, h2, h4, h5, h6⟩ := id ha
    refine ⟨.ref a, rfl, a, dx, _, rfl, h1, rfl, v, rfl, a, nx, rs, v, d, rfl, ha, hd, qe, fun e1 => ?_⟩
    obtain ⟨r, hr, rfl⟩ := hasB_row e1
    obtain rfl := dk_int hd
    refine ⟨.ref a, rfl, a, dx, _, rfl, h1, rfl, .int r.1, rfl, a, nx, rs, r.1, rfl, ha, g.rise, g.few, fun H1 Lb s1 hLb => ⟨Lb, _, rfl, .inl ⟨SqL.of hLb, fun t nt => ?_⟩⟩⟩
    exact q r hr rfl _ t (s1.trans (same_upd nt)) (SqT.of upd_same)
end
end K35



set_option maxRecDepth 100000
set_option maxHeartbeats 4000000
/-! k35: the law's own house. -/
namespace K35
open PySem PySem.Spec PyProof.Rows L2 LamX VG TL
theorem scHouseUp : FnScope ["house", "task", "found", "chief"] ["house", "task"] (defScope sHouseUp) := ⟨rfl, rfl, rfl, by decide +kernel, rfl, by decide +kernel, by decide +kernel⟩
theorem scHouseBeneath : FnScope ["house", "task", "one"] ["house", "task"] (defScope sHouseBeneath) := ⟨rfl, rfl, rfl, by decide +kernel, rfl, by decide +kernel, by decide +kernel⟩
theorem scHouseClan : FnScope ["house", "task", "one"] ["house", "task"] (defScope sHouseClan) := ⟨rfl, rfl, rfl, by decide +kernel, rfl, by decide +kernel, by decide +kernel⟩
section
variable {P : Program} {w : World} {K : PySem.W.Frag} {mg : Str → Option Value} {base : Heap}
def spHouseUp (K : PySem.W.Frag) : Sp := fun vs H Q _ => ∃ (h : Addr) (nx : Int) (rs : List Row) (r : Row), vs = [.ref h, .int r.1] ∧ HAt H h nx rs ∧ Good nx rs ∧ r ∈ rs ∧ ∀ H' L, Same H H' → H' L = some (.lst ((upR rs r.1).map V.int)) → Q (.ref L) H'
theorem ok_HouseUp {k : Nat} {f : Addr} {fd : FuncData}  (F : Fun K "_law_house_up" "_law_house_up" sHouseUp f fd)    : FnOk P w K mg base CX0 (k + 1) f fd ["house", "task"] (spHouseUp K) := by
  refine F.ok scHouseUp (fun vs H Q E h => ?_) (fun cdv A outer s H vs Q E hr h => ?_)
  · obtain ⟨h, nx, rs, r, rfl, _⟩ := h
    rfl
  · obtain ⟨h, nx, rs, r, rfl, hh, g, hm, q⟩ := h
    refine ⟨_, (pss_cons (ps_par (i := 2) (j := 3) (by rfl) scHouseUp.nd rfl rfl (by decide) rfl rfl (pa_cons (pe_lst pa_nil) (pa_cons (pe_dget (hu_of hr) (pe_dget (hu_of hr) (pv 0) pe_str (fun _ _ => rfl)) (pv 1) (fun _ _ => rfl)) pa_nil)) (by rfl)) (pss_cons (ps_while PassesOwn.never (pt_cmpR op_notN (pv 3) pe_non (nomark _)) (pss_cons (ps_expr (pe_bm PySem.F.plainAttrs_list PySem.F.slot_list_append PySem.F.type_list_append mt_append (pv 2) (pa_cons (pv 3) pa_nil))) (pss_one (ps_set (i := 3) scHouseUp.nd rfl (.inl rfl) (pe_dget (hu_of hr) (pe_dget (hu_of hr) (pv 0) pe_str (fun _ _ => rfl)) (pv 3) (fun _ _ => rfl)))))) (pss_one (ps_ret (pv 2))))), ?_⟩
    obtain ⟨c, b, h1, h2, h3⟩ := id hh
    have lo' : ∀ r ∈ rs, 0 ≤ r.1 := fun r hr => (g.low r hr).1
    refine ⟨by show 0 ≤ sizeLine; decide, fun L nL => ?_⟩
    have u := same_upd (o := .lst []) nL
    have gr : DGet (upd H L (.lst [])) c (.int r.1) (some (optI r.2.1)) := dget_of (k := Sum.inl r.1) (u _ _ h2) (val_row (f := fun r => optI r.2.1) g.rise hm)
    refine ⟨.ref h, rfl, h, _, rfl, g_chiefs (u _ _ h1), .int r.1, rfl, c, optI r.2.1, rfl, gr, _, _, rfl, ?_⟩
    try dsimp only
    refine while_of (fun m σ H' => ∃ (ds : List Int) (o : Option Int), σ = [some (.ref h), some (.int r.1), some (.ref L), some (optI o)] ∧ Same H H' ∧ H' L = some (.lst (ds.map V.int)) ∧ upR rs r.1 = ds ++ chO rs m o ∧ ds.length + m ≤ 1000 ∧ (∀ c, o = some c → c < m ∧ ∃ x ∈ rs, x.1 = c)) 1000 ⟨[], r.2.1, rfl, u, upd_same, ?_, Nat.le_refl _, fun c e => ?_⟩ fun m σ H' hP => ?_
    · unfold upR
      rw [chiefO_row g.rise hm]
      rfl
    · obtain ⟨h2, x, hx, e⟩ := g.tree.chief hm e
      exact ⟨by have := (g.low r hm).2; omega, x, hx, e⟩
    obtain ⟨ds, o, rfl, sm, hL, hn, hl, ho⟩ := hP
    refine ⟨optI o, rfl, rfl, _, rfl, ?_⟩
    cases o with
    | none =>
      refine iteNF rfl ⟨.ref L, rfl, ?_⟩
      rw [chO_none, List.append_nil] at hn
      rw [← hn] at hL
      exact q H' L sm hL
    | some c' =>
      obtain ⟨hlt, x, hx, rfl⟩ := ho c' rfl
      have x0 := lo' x hx
      obtain ⟨m, rfl⟩ : ∃ m', m = m' + 1 := ⟨m - 1, by omega⟩
      refine iteNE (fun y => nomatch y) ⟨fun σ' H2 => ∃ (ds : List Int) (o : Option Int), σ' = [some (.ref h), some (.int r.1), some (.ref L), some (optI o)] ∧ Same H H2 ∧ H2 L = some (.lst (ds.map V.int)) ∧ upR rs r.1 = ds ++ chO rs m o ∧ ds.length + m ≤ 1000 ∧ (∀ c, o = some c → c < m ∧ ∃ x ∈ rs, x.1 = c), fun σ' H2 hN => ⟨m, by omega, hN⟩, ?_⟩
      refine ⟨.ref L, rfl, .inl ⟨rfl, _, SqL.of hL⟩, .int x.1, rfl, L, _, _, rfl, rfl, hL, small1000 (by rw [List.length_map]; omega), ?_⟩
      have s2 : Same H (upd H' L (.lst (ds.map V.int ++ [.int x.1]))) := Same.updNew sm nL
      have hL2 : upd H' L (.lst (ds.map V.int ++ [.int x.1])) L = some (.lst ((ds ++ [x.1]).map V.int)) := by rw [upd_same, List.map_append]; rfl
      generalize upd H' L (.lst (ds.map V.int ++ [.int x.1])) = H2 at s2 hL2 ⊢
      have gx : DGet H2 c (.int x.1) (some (optI x.2.1)) := dget_of (k := Sum.inl x.1) (s2 _ _ h2) (val_row (f := fun r => optI r.2.1) g.rise hx)
      refine ⟨.ref h, rfl, h, _, rfl, g_chiefs (s2 _ _ h1), .int x.1, rfl, c, optI x.2.1, rfl, gx, gn_of ?_⟩
      try dsimp only
      refine ⟨ds ++ [x.1], x.2.1, rfl, s2, hL2, ?_, by rw [List.length_append, List.length_singleton]; omega, fun c e => ?_⟩
      · have : chO rs (m + 1) (some x.1) = x.1 :: chO rs m x.2.1 := by
          show x.1 :: chO rs m (chiefO rs x.1) = _
          rw [chiefO_row g.rise hx]
        rw [hn, this]
        simp
      · obtain ⟨h2, y, hy, e⟩ := g.tree.chief hx e
        exact ⟨by omega, y, hy, e⟩
def spHouseBeneath (K : PySem.W.Frag) : Sp := fun vs H Q _ => ∃ (h : Addr) (nx : Int) (rs : List Row) (t : Int), vs = [.ref h, .int t] ∧ HAt H h nx rs ∧ Good nx rs ∧ ∀ H' L, Same H H' → H' L = some (.lst ((beR rs t).map V.int)) → Q (.ref L) H'
theorem ok_HouseBeneath {k : Nat} {f : Addr} {fd : FuncData}  (F : Fun K "_law_house_beneath" "_law_house_beneath" sHouseBeneath f fd) (gHu : Cal P w K mg base CX0 (k + 1) "_law_house_up" ["house", "task"] (spHouseUp K))  (fsorted : mg "sorted" = none) : FnOk P w K mg base CX0 (k + 2) f fd ["house", "task"] (spHouseBeneath K) := by
  obtain ⟨fHu, fdHu, GHu, kHu, bHu, mHu⟩ := gHu
  refine F.ok scHouseBeneath (fun vs H Q E h => ?_) (fun cdv A outer s H vs Q E hr h => ?_)
  · obtain ⟨h, nx, rs, t, rfl, _⟩ := h
    rfl
  · obtain ⟨h, nx, rs, t, rfl, hh, g, q⟩ := h
    refine ⟨_, (pss_one (ps_ret (pe_lc (own := [("one", 2)]) (g := (gName 2)) (tt := _) rfl scHouseBeneath.nd (pi_list (pe_callB (call_sortedDI rfl) (by rfl) fsorted (by decide +kernel) (pa_cons (pe_dget (hu_of hr) (pv 0) pe_str (fun _ _ => rfl)) pa_nil))) (blkOk_by (N := ["house", "task", "one"]) (sc := defScope sHouseBeneath) (by decide +kernel)) (fun _ _ _ _ _ => (pg_name (i := 2) scHouseBeneath.nd rfl (.inl rfl))) (fun _ _ _ _ _ => (pts_one (pt_cmpR (show OpR _ (compareOp .In) (rIn K false) from op_in_seq) (pv 1) (pe_call GHu hr (by rfl) mHu kHu bHu .nil pass0 (pa_cons (pv 0) (pa_cons (pv 2) pa_nil))) (by rfl)))) (fun _ _ _ _ _ => (pv 2))))), ?_⟩
    obtain ⟨c, b, h1, h2, h3⟩ := id hh
    refine ⟨.ref h, rfl, h, _, rfl, g_chiefs h1, c, chKV rs, rs.map (·.1), rfl, .inl h2, (by unfold chKV; rw [List.map_map, List.map_map]; rfl), (by rw [List.length_map]; have := g.few; omega), fun ys S hpm hs nS => ?_⟩
    rw [sorted_rise g.rise hpm hs]
    clear hpm hs
    have sS := same_upd (o := .lst ((rs.map (·.1)).map V.int)) nS
    have hS : upd H S (.lst ((rs.map (·.1)).map V.int)) S = some (.lst ((rs.map (·.1)).map V.int)) := upd_same
    generalize upd H S (.lst ((rs.map (·.1)).map V.int)) = H1 at sS hS ⊢
    refine ⟨S, rfl, ⟨_, SqL.of hS⟩, fun D nD => ?_⟩
    refine lc_list (xs := (rs.map fun x : Row => x.1).map V.int) (fun i H' => Same H1 H' ∧ H' D = some (.lst ((((rs.take i).filter fun y => decide (t ∈ upR rs y.1)).map fun y : Row => y.1).map V.int))) ⟨same_upd nD, upd_same⟩ (fun i H' _ hP => SqL.of (hP.1 _ _ hS)) (fun i x H' hx hP => ?_) fun H3 hP => ?_
    · obtain ⟨sm, hD⟩ := hP
      have hi := (List.getElem?_eq_some_iff.mp hx).1
      rw [List.length_map, List.length_map] at hi
      have hget : rs[i]? = some rs[i] := List.getElem?_eq_getElem hi
      rw [List.getElem?_map, List.getElem?_map, hget] at hx
      obtain rfl : V.int (rs[i]).1 = x := Option.some.inj hx
      have hy : rs[i] ∈ rs := List.getElem_mem hi
      have ll : ((rs.take i).filter fun y => decide (t ∈ upR rs y.1)).length ≤ 6 := Nat.le_trans (List.length_filter_le _ _) (by rw [List.length_take]; have := g.few; omega)
      have et : ∀ p : Row → Bool, (rs.take (i + 1)).filter p = (rs.take i).filter p ++ (if p rs[i] = true then [rs[i]] else []) := fun p => by
        rw [List.take_add_one, hget, List.filter_append]
        show _ ++ [rs[i]].filter p = _
        rw [List.filter_cons]
        split <;> rfl
      rw [et]
      generalize rs[i] = y at hy ⊢
      refine ⟨rfl, .int t, rfl, .ref h, rfl, .int y.1, rfl, h, nx, rs, y, rfl, hh.same (sS.trans sm), g, hy, fun H5 L5 s5 hL5 => ⟨L5, _, rfl, .inl (SqL.of hL5), rfl, flat_ints _, _, rfl, ?_⟩⟩
      show (if (inV (V.int t) ((upR rs y.1).map V.int)) = true then _ else _)
      rw [inV_ints]
      have hD5 := s5 _ _ hD
      by_cases c : t ∈ upR rs y.1
      · refine iteD c ⟨.int y.1, rfl, _, hD5, small1000 (by rw [List.length_map, List.length_map]; omega), Same.updNew (sm.trans s5) nD, ?_⟩
        rw [upd_same, if_pos (decide_eq_true c), List.map_append, List.map_append]
        rfl
      · refine iteE c ⟨sm.trans s5, ?_⟩
        rw [if_neg (by rw [decide_eq_false c]; exact Bool.false_ne_true), List.append_nil]
        exact hD5
    obtain ⟨sm, hD⟩ := hP
    rw [List.length_map, List.length_map, List.take_of_length_le (Nat.le_refl _)] at hD
    exact q _ D (sS.trans sm) hD
def spHouseClan (K : PySem.W.Frag) : Sp := fun vs H Q _ => ∃ (h : Addr) (nx : Int) (rs : List Row) (r : Row), vs = [.ref h, .int r.1] ∧ HAt H h nx rs ∧ Good nx rs ∧ r ∈ rs ∧ ∀ H' L, Same H H' → H' L = some (.lst ((clR rs r).map V.int)) → Q (.ref L) H'
theorem ok_HouseClan {k : Nat} {f : Addr} {fd : FuncData}  (F : Fun K "_law_house_clan" "_law_house_clan" sHouseClan f fd)   (fsorted : mg "sorted" = none) : FnOk P w K mg base CX0 (k + 1) f fd ["house", "task"] (spHouseClan K) := by
  refine F.ok scHouseClan (fun vs H Q E h => ?_) (fun cdv A outer s H vs Q E hr h => ?_)
  · obtain ⟨h, nx, rs, r, rfl, _⟩ := h
    rfl
  · obtain ⟨h, nx, rs, r, rfl, hh, g, hm, q⟩ := h
    refine ⟨_, (pss_one (ps_ret (pe_lc (own := [("one", 2)]) (g := (gName 2)) (tt := _) rfl scHouseClan.nd (pi_list (pe_callB (call_sortedDI rfl) (by rfl) fsorted (by decide +kernel) (pa_cons (pe_dget (hu_of hr) (pv 0) pe_str (fun _ _ => rfl)) pa_nil))) (blkOk_by (N := ["house", "task", "one"]) (sc := defScope sHouseClan) (by decide +kernel)) (fun _ _ _ _ _ => (pg_name (i := 2) scHouseClan.nd rfl (.inl rfl))) (fun _ _ _ _ _ => (pts_one (pt_cmpR op_eq (pe_dget (hu_of hr) (pe_dget (hu_of hr) (pv 0) pe_str (fun _ _ => rfl)) (pv 2) (fun _ _ => rfl)) (pe_dget (hu_of hr) (pe_dget (hu_of hr) (pv 0) pe_str (fun _ _ => rfl)) (pv 1) (fun _ _ => rfl)) (nomark _)))) (fun _ _ _ _ _ => (pv 2))))), ?_⟩
    obtain ⟨c, b, h1, h2, h3⟩ := id hh
    refine ⟨.ref h, rfl, h, _, rfl, g_chiefs h1, c, chKV rs, rs.map (·.1), rfl, .inl h2, (by unfold chKV; rw [List.map_map, List.map_map]; rfl), (by rw [List.length_map]; have := g.few; omega), fun ys S hpm hs nS => ?_⟩
    rw [sorted_rise g.rise hpm hs]
    clear hpm hs
    have sS := same_upd (o := .lst ((rs.map (·.1)).map V.int)) nS
    have hS : upd H S (.lst ((rs.map (·.1)).map V.int)) S = some (.lst ((rs.map (·.1)).map V.int)) := upd_same
    generalize upd H S (.lst ((rs.map (·.1)).map V.int)) = H1 at sS hS ⊢
    refine ⟨S, rfl, ⟨_, SqL.of hS⟩, fun D nD => ?_⟩
    refine lc_list (xs := (rs.map fun x : Row => x.1).map V.int) (fun i H' => Same H1 H' ∧ H' D = some (.lst ((clR (rs.take i) r).map V.int))) ⟨same_upd nD, upd_same⟩ (fun i H' _ hP => SqL.of (hP.1 _ _ hS)) (fun i x H' hx hP => ?_) fun H3 hP => ?_
    · obtain ⟨sm, hD⟩ := hP
      have hi := (List.getElem?_eq_some_iff.mp hx).1
      rw [List.length_map, List.length_map] at hi
      have hget : rs[i]? = some rs[i] := List.getElem?_eq_getElem hi
      rw [List.getElem?_map, List.getElem?_map, hget] at hx
      obtain rfl : V.int (rs[i]).1 = x := Option.some.inj hx
      have hy : rs[i] ∈ rs := List.getElem_mem hi
      have et : clR (rs.take (i + 1)) r = clR (rs.take i) r ++ (if decide ((rs[i]).2.1 = r.2.1) = true then [(rs[i]).1] else []) := by
        unfold clR
        rw [List.take_add_one, hget, List.filter_append, List.map_append]
        show _ ++ ([rs[i]].filter _).map _ = _
        rw [List.filter_cons]
        split <;> rfl
      have ll : (clR (rs.take i) r).length ≤ 6 := by
        unfold clR
        rw [List.length_map]
        exact Nat.le_trans (List.length_filter_le _ _) (by rw [List.length_take]; have := g.few; omega)
      rw [et]
      generalize rs[i] = y at hy ⊢
      have s01 := sS.trans sm
      have gy : DGet H' c (.int y.1) (some (optI y.2.1)) := dget_of (k := Sum.inl y.1) (s01 _ _ h2) (val_row (f := fun r => optI r.2.1) g.rise hy)
      have gr : DGet H' c (.int r.1) (some (optI r.2.1)) := dget_of (k := Sum.inl r.1) (s01 _ _ h2) (val_row (f := fun r => optI r.2.1) g.rise hm)
      refine ⟨rfl, .ref h, rfl, h, _, rfl, g_chiefs (s01 _ _ h1), .int y.1, rfl, c, optI y.2.1, rfl, gy, .ref h, rfl, h, _, rfl, g_chiefs (s01 _ _ h1), .int r.1, rfl, c, optI r.2.1, rfl, gr, by cases y.2.1 <;> cases r.2.1 <;> rfl, _, rfl, ?_⟩
      rw [show decide (optI y.2.1 = optI r.2.1) = decide (y.2.1 = r.2.1) from dec_opts _ _]
      by_cases c : y.2.1 = r.2.1
      · rw [if_pos (decide_eq_true c)]
        refine iteD c ⟨.int y.1, rfl, _, hD, small1000 (by rw [List.length_map]; omega), Same.updNew sm nD, ?_⟩
        rw [upd_same, List.map_append]
        rfl
      · rw [if_neg (by rw [decide_eq_false c]; exact Bool.false_ne_true), List.append_nil]
        exact iteE c ⟨sm, hD⟩
    obtain ⟨sm, hD⟩ := hP
    rw [List.length_map, List.length_map, List.take_of_length_le (Nat.le_refl _)] at hD
    exact q _ D (sS.trans sm) hD
end
end K35



set_option maxRecDepth 100000
set_option maxHeartbeats 8000000
/-! k35: the hearing of what was handed on. -/
namespace K35
open PySem PySem.Spec PyProof.Rows L2 LamX VG TL
def tActC (P : Program) (w : World) (K : PySem.W.Frag) (mg : Str → Option Value) (base : Heap) (Γ : Addr → Option Obj) (k i : Nat) (W : WX) : TE := fun σZ HZ Q => ∃ f tb, σZ[i]? = some (some (.ref f)) ∧ Thk P w K mg base Γ k f HZ tb ∧ tb (fun cls d H' => W cls d σZ H') HZ Q
section
variable {X : Cx} {Γ : Addr → Option Obj}
theorem pe_heardC {te : TE} {g CS : Addr} {fd : FuncData} {e : Expr} {k : Nat} {p pos : Pos} (F : Fun X.K "_law_heard" "_law_heard" sHeard g fd) (b : L2.Binds X.K fd ["call"] []) (hg : Gl X "_law_heard") (hm : X.mg "_law_heard" = some (.ref g))
    (gS : X.mg "CoreError" = some (.ref CS)) (hr : Room (k + 2) X.A) (hex : X.ex = []) (lv : Live Γ X.s_0.heap X.H_0 X.fs) (he : PE X e te)
    (hs : starEach [e] X.env = (false, eval e X.env) :: starEach [] X.env := by rfl) (hpl : (backTo pos (starEach [] X.env)).any (·.1) = false := by rfl) :
    PE X (.Call (.Name "_law_heard" p) [e] [] pos) (tHeardC X Γ k CS te) := by
  obtain ⟨oc, od, kV, doc, pm, an, cdv, ct, osl, rfl, lk, hcd⟩ := F.ex
  refine ⟨fun pins s σ H Q I h => wpAny_Call_Name_kw (ld_glob I hg hm ?_ (by decide))⟩
  refine PySem.W.callWith_K (h₀ := X.base) I.ok.mod.kin F.kp ?_ hs hpl
  rw [hs] at *
  refine Calls.spliced_cons (thn (he.run pins s σ H _ I h) fun u s1 ⟨v, H1, I1, r1, f, tb, ev, hl, th⟩ => Calls.spliced_nil ⟨I1.kIn, ?_⟩)
  subst ev
  obtain rfl : u = Value.ref f := r1
  have rc : codeAny (model X.prog X.w) X.A (.call (.ref g) ⟨[.ref f], []⟩) (CR CX0 X.stack X.prog X.w H1 s1 Q (fun _ _ _ => False)) s1 := by
    refine run_ofS (N := ["call", "caught", "back", "error"]) (ps := ["call"]) (us := [.ref f]) (vs := [.ref f]) lk hcd scHeard hr I1.env0 (b s1 [.ref f] I1.kIn rfl) (.cons rfl .nil) rfl fun hr' => ?_
    have hge : (defScope sHeard).names.lookup (Str.ofString "CoreError") = some NameKind.globalImplicit := by decide +kernel
    have lv1 := live_inv I1 hex lv
    refine ⟨_, PSs.nox (pss_cons (ps_asg (pe_tup (pa_cons pe_non (pa_cons pe_non pa_nil))) (pg_tup (by rfl) (pgs_cons (pg_name (i := 1) scHeard.nd rfl (.inl rfl)) (pgs_cons (pg_name (i := 2) scHeard.nd rfl (.inl rfl)) pgs_nil))))
      (pss_cons (ps_heard (c := .ref CS) (i := 3) rfl rfl scHeard.nd rfl rfl ⟨hge, by decide, .inl gS⟩
        (fun W pn xe tk _ => pss_one (ps_set (i := 2) scHeard.nd rfl (.inl rfl) (show PE _ _ (tActC X.prog X.w X.K X.mg X.base Γ k 0 W) from pe_actC (Γ := Γ) (k := k) (i := 0) tk rfl lv1 hr' rfl (.inl rfl))))
        (fun a oe cls d pn _ _ => pss_one (ps_set (i := 1) scHeard.nd rfl (.inl rfl) (pv 3))))
      (pss_one (ps_ret (pe_tup (pa_cons (pv 1) (pa_cons (pv 2) pa_nil))))))), ?_⟩
    refine ⟨by show 2 ≤ sizeLine; decide, fun pn nn => ⟨pn, [.non, .non], rfl, SqT.of upd_same, rfl, .non, [.non], rfl, .non, [], rfl, rfl, f, tb, rfl, hl.ext (ExtN.of (same_upd nn)), th _ (same_upd nn) _ _ (fun cls d H' hE => ?_) fun v H' hB => ?_⟩⟩
    · obtain ⟨h1, C, dd, h2, h3, h4⟩ := hE
      refine ⟨h1, C, dd, h2, h3, fun a na => ?_⟩
      exact ⟨_, rfl, fun na2 => ⟨_, rfl, _, rfl, by show 2 ≤ sizeLine; decide, fun p hp => h4 a p na hp⟩⟩
    · exact ⟨_, rfl, _, rfl, by show 2 ≤ sizeLine; decide, fun p hp => hB p hp⟩
  refine wpAny_call (codeAny_mono rc fun r s2 hq => ?_)
  cases r with
  | error e => exact (show False from hq).elim
  | ok fl => cases fl with
    | ret u => exact I1.after hq
    | next => exact False.elim hq
    | brk => exact False.elim hq
    | cont => exact False.elim hq
end
end K35



set_option maxRecDepth 100000
set_option maxHeartbeats 8000000
/-! k35: ways in trees of six and less, by places. -/
namespace K35
/-- a tree by places: each place's chief -/
abbrev Shp := List (Option Nat)
def chI (p : Shp) (i : Nat) : Option Nat := p.getD i none
def upI (p : Shp) : Nat → Option Nat → List Nat
  | 0, _ => []
  | _ + 1, none => []
  | f + 1, some c => c :: upI p f (chI p c)
def ancI (p : Shp) (i : Nat) : List Nat := upI p 6 (chI p i)
def strI (p : Shp) (i j : Nat) : Bool := decide (chI p j = chI p i) || (decide (chI p j = some i) || decide (chI p i = some j))
def nearI (p : Shp) (i s : Nat) : Bool := decide (chI p s = chI p i) || decide (chI p s = some i)
def candI (p : Shp) (i j s : Nat) : Bool := nearI p i s && (!decide (s = i) && decide (s ∈ ancI p j))
def nextI (p : Shp) (i j : Nat) : Nat := if strI p i j = true then j else ((List.range p.length).find? (candI p i j)).getD ((chI p i).getD 0)
def wayI (p : Shp) : Nat → Nat → Nat → List Nat
  | 0, _, _ => []
  | f + 1, i, j => if nextI p i j = j then [j] else nextI p i j :: wayI p f (nextI p i j) j
def inwI (p : Shp) (i j : Nat) : List Nat := ((j :: ancI p j).filter fun o => !decide (o = i)).filter fun o => decide (chI p o = some i) || decide (chI p o = chI p i)
def hnextI (p : Shp) (i j : Nat) : Nat := (inwI p i j).getLast?.getD ((chI p i).getD 0)
def okS (p : Shp) (i j : Nat) : Bool :=
  (strI p i j || ((((List.range p.length).find? (candI p i j)).isSome || (chI p i).isSome) && (((inwI p i j).isEmpty == false || (chI p i).isSome) && (decide (hnextI p i j = nextI p i j) && !decide (nextI p i j = j))))) &&
  (decide ((wayI p 12 i j).getLast? = some j) && ((if i = j then decide (wayI p 12 i j = [j]) else decide ((i :: wayI p 12 i j).Nodup)) && (decide ((wayI p 12 j i).dropLast = (wayI p 12 i j).dropLast.reverse) && ((wayI p 12 i j).all fun x => decide (x < p.length)))))
def shs : Nat → List Shp
  | 0 => []
  | 1 => [[none]]
  | n + 2 => (shs (n + 1)).flatMap fun p => (List.range (n + 1)).map fun j => p ++ [some j]
def okN6 (n : Nat) : Bool := (shs n).all fun p => (List.range n).all fun i => (List.range n).all fun j => okS p i j
theorem ok_1 : okN6 1 = true := by kernel_rfl
theorem ok_2 : okN6 2 = true := by kernel_rfl
theorem ok_3 : okN6 3 = true := by kernel_rfl
theorem ok_4 : okN6 4 = true := by kernel_rfl
theorem ok_5 : okN6 5 = true := by kernel_rfl
theorem ok_6 : okN6 6 = true := by kernel_rfl
/-- what a tree by places is -/
structure ShpOk (p : Shp) : Prop where
  few : p.length ≤ 6
  root : chI p 0 = none
  ne : p ≠ []
  up : ∀ i, 0 < i → i < p.length → ∃ c, chI p i = some c ∧ c < i
theorem shs_all : ∀ (n : Nat) (p : Shp), p.length = n → p ≠ [] → chI p 0 = none → (∀ i, 0 < i → i < p.length → ∃ c, chI p i = some c ∧ c < i) → p ∈ shs n
  | 0, p, h, ne, _, _ => absurd (List.length_eq_zero_iff.mp h) ne
  | 1, [x], _, _, r, _ => by
    have : x = none := r
    rw [this]
    exact List.mem_cons_self
  | n + 2, p, h, ne, r, u => by
    obtain ⟨q, x, rfl⟩ : ∃ q x, p = q ++ [x] := ⟨p.dropLast, p.getLast ne, (List.dropLast_concat_getLast ne).symm⟩
    have hq : q.length = n + 1 := by rw [List.length_append, List.length_singleton] at h; omega
    have ch : ∀ i, i < q.length → chI (q ++ [x]) i = chI q i := fun i hi => by
      unfold chI
      rw [List.getD_eq_getElem?_getD, List.getD_eq_getElem?_getD, List.getElem?_append_left hi]
    have cx : chI (q ++ [x]) (n + 1) = x := by
      unfold chI
      rw [List.getD_eq_getElem?_getD, List.getElem?_append_right (by omega), hq, Nat.sub_self]
      rfl
    have qm : q ∈ shs (n + 1) := shs_all (n + 1) q hq (by intro z; rw [z] at hq; cases hq) (by rw [← ch 0 (by omega)]; exact r) fun i i0 hi => by
      rw [← ch i hi]
      exact u i i0 (by rw [List.length_append, List.length_singleton]; omega)
    obtain ⟨c, hc, lt⟩ := u (n + 1) (by omega) (by rw [List.length_append, List.length_singleton]; omega)
    rw [cx] at hc
    subst hc
    exact List.mem_flatMap.mpr ⟨q, qm, List.mem_map.mpr ⟨c, List.mem_range.mpr lt, rfl⟩⟩
theorem shs_ok {p : Shp} (h : ShpOk p) {i j : Nat} (hi : i < p.length) (hj : j < p.length) : okS p i j = true := by
  have m := shs_all p.length p rfl h.ne h.root h.up
  have few := h.few
  have go : okN6 p.length = true := by
    have ne : 0 < p.length := List.length_pos_iff.mpr h.ne
    generalize p.length = n at few ne
    match n, few, ne with
    | 1, _, _ => exact ok_1
    | 2, _, _ => exact ok_2
    | 3, _, _ => exact ok_3
    | 4, _, _ => exact ok_4
    | 5, _, _ => exact ok_5
    | 6, _, _ => exact ok_6
  unfold okN6 at go
  have a := List.all_eq_true.mp go p m
  have b := List.all_eq_true.mp a i (List.mem_range.mpr hi)
  exact List.all_eq_true.mp b j (List.mem_range.mpr hj)
structure WayOk (p : Shp) (i j : Nat) : Prop where
  last : (wayI p 12 i j).getLast? = some j
  found : strI p i j = false → ((List.range p.length).find? (candI p i j)).isSome = true ∨ (chI p i).isSome = true
  inw : strI p i j = false → inwI p i j ≠ [] ∨ (chI p i).isSome = true
  same : strI p i j = false → hnextI p i j = nextI p i j
  on : strI p i j = false → nextI p i j ≠ j
  own : i = j → wayI p 12 i j = [j]
  apart : i ≠ j → (i :: wayI p 12 i j).Nodup
  back : (wayI p 12 j i).dropLast = (wayI p 12 i j).dropLast.reverse
  lt : ∀ x ∈ wayI p 12 i j, x < p.length
theorem way_ok {p : Shp} (h : ShpOk p) {i j : Nat} (hi : i < p.length) (hj : j < p.length) : WayOk p i j := by
  have q := shs_ok h hi hj
  unfold okS at q
  rw [Bool.and_eq_true, Bool.and_eq_true, Bool.and_eq_true, Bool.and_eq_true, Bool.or_eq_true] at q
  obtain ⟨q1, q2, q3, q4, q5⟩ := q
  have c : strI p i j = false → _ := fun z => q1.resolve_left (by rw [z]; exact Bool.false_ne_true)
  simp only [Bool.and_eq_true, Bool.or_eq_true, decide_eq_true_eq, Bool.not_eq_true', decide_eq_false_iff_not, beq_iff_eq, List.isEmpty_eq_false_iff] at c
  refine ⟨of_decide_eq_true q2, fun z => (c z).1, fun z => (c z).2.1, fun z => (c z).2.2.1, fun z => (c z).2.2.2, fun e => ?_, fun e => ?_, of_decide_eq_true q4, fun x hx => of_decide_eq_true (List.all_eq_true.mp q5 x hx)⟩
  · rw [if_pos e] at q3
    exact of_decide_eq_true q3
  · rw [if_neg e] at q3
    exact of_decide_eq_true q3
end K35



set_option maxRecDepth 100000
set_option maxHeartbeats 2000000
/-! k35: rows as a tree by places. -/
namespace K35
open PySem PySem.Spec PyProof.Rows L2 LamX VG TL
/-- the task at a place -/
def tk (rs : List Row) (i : Nat) : Int := (rs.map (·.1)).getD i 0
def ixR (rs : List Row) (c : Int) : Option Nat := (List.range rs.length).find? fun i => decide (tk rs i = c)
def shp (rs : List Row) : Shp := rs.map fun r => r.2.1.bind (ixR rs)
theorem shp_len {rs : List Row} : (shp rs).length = rs.length := List.length_map ..
theorem tk_row {rs : List Row} {i : Nat} (hi : i < rs.length) : tk rs i = (rs[i]).1 := by
  unfold tk
  rw [List.getD_eq_getElem?_getD, List.getElem?_map, List.getElem?_eq_getElem hi]
  rfl
theorem mem_tk {rs : List Row} {r : Row} (hr : r ∈ rs) : ∃ i, ∃ h : i < rs.length, r = rs[i] ∧ r.1 = tk rs i := by
  obtain ⟨i, hi, e⟩ := List.mem_iff_getElem.mp hr
  exact ⟨i, hi, e.symm, by rw [tk_row hi, e]⟩
theorem tk_lt {rs : List Row} (h : Rise rs) {i j : Nat} (hj : j < rs.length) (c : i < j) : tk rs i < tk rs j := by
  have hi : i < rs.length := by omega
  have := List.pairwise_iff_getElem.mp h i j (by rw [List.length_map]; exact hi) (by rw [List.length_map]; exact hj) c
  rw [List.getElem_map, List.getElem_map] at this
  rw [tk_row hi, tk_row hj]
  exact this
theorem tk_inj {rs : List Row} (h : Rise rs) {i j : Nat} (hi : i < rs.length) (hj : j < rs.length) (e : tk rs i = tk rs j) : i = j := by
  rcases Nat.lt_trichotomy i j with c | c | c
  · have := tk_lt h hj c; omega
  · exact c
  · have := tk_lt h hi c; omega
theorem tk_le {rs : List Row} (h : Rise rs) {i j : Nat} (hi : i < rs.length) (hj : j < rs.length) (e : tk rs i < tk rs j) : i < j := by
  rcases Nat.lt_trichotomy i j with c | c | c
  · exact c
  · rw [c] at e; omega
  · have := tk_lt h hi c; omega
theorem ixR_of {rs : List Row} (h : Rise rs) {i : Nat} (hi : i < rs.length) : ixR rs (tk rs i) = some i := by
  unfold ixR
  cases e : (List.range rs.length).find? fun j => decide (tk rs j = tk rs i) with
  | none =>
    have := List.find?_eq_none.mp e i (List.mem_range.mpr hi)
    simp at this
  | some j =>
    have h1 : tk rs j = tk rs i := of_decide_eq_true (List.find?_some (p := fun j => decide (tk rs j = tk rs i)) e)
    rw [tk_inj h (List.mem_range.mp (List.mem_of_find?_eq_some e)) hi h1]
theorem chI_at {rs : List Row} {i : Nat} (hi : i < rs.length) : chI (shp rs) i = (rs[i]).2.1.bind (ixR rs) := by
  unfold chI shp
  rw [List.getD_eq_getElem?_getD, List.getElem?_map, List.getElem?_eq_getElem hi]
  rfl
/-- a place's chief, and the place's row -/
theorem chI_row {rs : List Row} (t : Tree rs) {i : Nat} (hi : i < rs.length) : (rs[i]).2.1 = (chI (shp rs) i).map (tk rs) ∧ ∀ c, chI (shp rs) i = some c → c < i := by
  rw [chI_at hi]
  cases e : (rs[i]).2.1 with
  | none => exact ⟨rfl, fun c z => nomatch z⟩
  | some c =>
    obtain ⟨lt, q, hq, e2⟩ := t.chief (List.getElem_mem hi) e
    obtain ⟨j, hj, _, e3⟩ := mem_tk hq
    have ex : ixR rs c = some j := by
      rw [← e2, e3]
      exact ixR_of t.rise hj
    refine ⟨?_, fun c' z => ?_⟩
    · show some c = (ixR rs c).map (tk rs)
      rw [ex]
      show some c = some (tk rs j)
      rw [← e3, e2]
    · have z : ixR rs c = some c' := z
      rw [ex] at z
      cases z
      refine tk_le t.rise hj hi ?_
      rw [← e3, e2, tk_row hi]
      exact lt
theorem shp_ok {rs : List Row} (t : Tree rs) : ShpOk (shp rs) := by
  obtain ⟨r0, rest, e, h0, h⟩ := t.hd
  refine ⟨by rw [shp_len]; exact t.few, ?_, by rw [e]; exact List.cons_ne_nil _ _, fun i i0 hi => ?_⟩
  · have hl : 0 < rs.length := by rw [e]; exact Nat.succ_pos _
    rw [chI_at hl]
    have : rs[0] = r0 := by simp [e]
    rw [this, h0]
    rfl
  · rw [shp_len] at hi
    obtain ⟨h1, h2⟩ := chI_row t hi
    cases e3 : chI (shp rs) i with
    | some c => exact ⟨c, rfl, h2 c e3⟩
    | none =>
      rw [e3] at h1
      have hm : rs[i] ∈ rest := by
        obtain ⟨k, rfl⟩ : ∃ k, i = k + 1 := ⟨i - 1, by omega⟩
        have hk : k < rest.length := by rw [e, List.length_cons] at hi; omega
        have : rs[k + 1] = rest[k] := by simp [e]
        rw [this]
        exact List.getElem_mem hk
      obtain ⟨c, hc, _⟩ := h _ hm
      rw [hc] at h1
      cases h1
theorem chO_tk {rs : List Row} (t : Tree rs) : ∀ (c f f' : Nat), c < rs.length → c < f → c < f' → chO rs f (some (tk rs c)) = (upI (shp rs) f' (some c)).map (tk rs) := by
  intro c
  induction c using Nat.strongRecOn with
  | ind c ih =>
    intro f f' hc h1 h2
    obtain ⟨f, rfl⟩ : ∃ g, f = g + 1 := ⟨f - 1, by omega⟩
    obtain ⟨f', rfl⟩ : ∃ g, f' = g + 1 := ⟨f' - 1, by omega⟩
    show tk rs c :: chO rs f (chiefO rs (tk rs c)) = tk rs c :: (upI (shp rs) f' (chI (shp rs) c)).map (tk rs)
    obtain ⟨e1, e2⟩ := chI_row t hc
    have e3 : chiefO rs (tk rs c) = (rs[c]).2.1 := by rw [tk_row hc]; exact chiefO_row t.rise (List.getElem_mem hc)
    rw [e3, e1]
    cases e : chI (shp rs) c with
    | none =>
      show tk rs c :: chO rs f none = _
      rw [chO_none]
      cases f' <;> rfl
    | some d =>
      have := e2 d e
      rw [← ih d this f f' (by omega) (by omega) (by omega)]
      rfl
theorem up_tk {rs : List Row} (t : Tree rs) {i : Nat} (hi : i < rs.length) : upR rs (tk rs i) = (ancI (shp rs) i).map (tk rs) := by
  have few := t.few
  obtain ⟨e1, e2⟩ := chI_row t hi
  unfold upR ancI
  rw [tk_row hi, chiefO_row t.rise (List.getElem_mem hi), e1]
  cases e : chI (shp rs) i with
  | none => rw [show Option.map (tk rs) none = none from rfl, chO_none]; rfl
  | some c =>
    have := e2 c e
    exact chO_tk t c 1000 6 (by omega) (by omega) (by omega)
theorem anc_lt {p : Shp} (h : ∀ i c, chI p i = some c → c < i) : ∀ (f : Nat) (o : Option Nat) (n : Nat), (∀ c, o = some c → c < n) → ∀ x ∈ upI p f o, x < n
  | 0, _, _, _, _, hx => nomatch hx
  | _ + 1, none, _, _, _, hx => nomatch hx
  | f + 1, some c, n, hn, x, hx => by
    have hc := hn c rfl
    rcases List.mem_cons.mp hx with rfl | hx
    · exact hc
    · exact anc_lt h f (chI p c) n (fun d e => Nat.lt_trans (h c d e) hc) x hx
theorem chI_lt {rs : List Row} (t : Tree rs) (i c : Nat) (e : chI (shp rs) i = some c) : c < i := by
  by_cases hi : i < rs.length
  · exact (chI_row t hi).2 c e
  · unfold chI at e
    rw [List.getD_eq_getElem?_getD, List.getElem?_eq_none (by rw [shp_len]; omega)] at e
    cases e
theorem mem_up_tk {rs : List Row} (t : Tree rs) {i s : Nat} (hi : i < rs.length) (hs : s < rs.length) : tk rs s ∈ upR rs (tk rs i) ↔ s ∈ ancI (shp rs) i := by
  rw [up_tk t hi]
  refine ⟨fun h => ?_, fun h => List.mem_map.mpr ⟨s, h, rfl⟩⟩
  obtain ⟨x, hx, e⟩ := List.mem_map.mp h
  have lx : x < i := anc_lt (chI_lt t) 6 _ i (fun c e => chI_lt t i c e) x hx
  rw [← tk_inj t.rise (by omega) hs e]
  exact hx
/-- two chiefs told alike -/
theorem map_tk {rs : List Row} (t : Tree rs) {i j : Nat} (hi : i < rs.length) (hj : j < rs.length) : ((chI (shp rs) j).map (tk rs) = (chI (shp rs) i).map (tk rs)) ↔ chI (shp rs) j = chI (shp rs) i := by
  refine ⟨fun h => ?_, fun h => by rw [h]⟩
  cases e1 : chI (shp rs) j with
  | none =>
    rw [e1] at h
    cases e2 : chI (shp rs) i with
    | none => rfl
    | some d => rw [e2] at h; cases h
  | some c =>
    rw [e1] at h
    cases e2 : chI (shp rs) i with
    | none => rw [e2] at h; cases h
    | some d =>
      rw [e2] at h
      have a := chI_lt t j c e1
      have b := chI_lt t i d e2
      rw [tk_inj t.rise (by omega) (by omega) (Option.some.inj h)]
theorem some_tk {rs : List Row} (t : Tree rs) {i j : Nat} (hi : i < rs.length) (hj : j < rs.length) : ((chI (shp rs) j).map (tk rs) = some (tk rs i)) ↔ chI (shp rs) j = some i := by
  refine ⟨fun h => ?_, fun h => by rw [h]; rfl⟩
  cases e1 : chI (shp rs) j with
  | none => rw [e1] at h; cases h
  | some c =>
    rw [e1] at h
    have a := chI_lt t j c e1
    rw [tk_inj t.rise (by omega) hi (Option.some.inj h)]
theorem mem_cl {rs : List Row} (t : Tree rs) {i j : Nat} (hi : i < rs.length) (hj : j < rs.length) : tk rs j ∈ clR rs (rs[i]) ↔ chI (shp rs) j = chI (shp rs) i := by
  rw [← map_tk t hi hj, ← (chI_row t hi).1, ← (chI_row t hj).1]
  unfold clR
  refine ⟨fun h => ?_, fun h => ?_⟩
  · obtain ⟨x, hx, e⟩ := List.mem_map.mp h
    obtain ⟨m, h2⟩ := List.mem_filter.mp hx
    rw [tk_row hj] at e
    rw [← rise_inj t.rise m (List.getElem_mem hj) e]
    exact of_decide_eq_true h2
  · exact List.mem_map.mpr ⟨rs[j], List.mem_filter.mpr ⟨List.getElem_mem hj, decide_eq_true h⟩, (tk_row hj).symm⟩
theorem mem_bn {rs : List Row} (t : Tree rs) (lo : ∀ r ∈ rs, 0 ≤ r.1 ∧ r.1 < 999) {s j : Nat} (hs : s < rs.length) (hj : j < rs.length) : tk rs j ∈ bnR rs (tk rs s) ↔ s ∈ ancI (shp rs) j := by
  rw [bn_be t lo, ← mem_up_tk t hj hs]
  unfold beR
  refine ⟨fun h => ?_, fun h => ?_⟩
  · obtain ⟨x, hx, e⟩ := List.mem_map.mp h
    obtain ⟨_, h2⟩ := List.mem_filter.mp hx
    rw [← e]
    exact of_decide_eq_true h2
  · refine List.mem_map.mpr ⟨rs[j], List.mem_filter.mpr ⟨List.getElem_mem hj, decide_eq_true ?_⟩, (tk_row hj).symm⟩
    rw [← tk_row hj]
    exact h
end K35



set_option maxRecDepth 100000
set_option maxHeartbeats 2000000
/-! k35: ways, the program's own. -/
namespace K35
open PySem PySem.Spec PyProof.Rows L2 LamX VG TL
theorem scCheckTasks : FnScope ["clans", "task", "other"] ["clans", "task", "other"] (defScope sCheckTasks) := ⟨rfl, rfl, rfl, by decide +kernel, rfl, by decide +kernel, by decide +kernel⟩
theorem scStraight : FnScope ["clans", "task", "other"] ["clans", "task", "other"] (defScope sStraight) := ⟨rfl, rfl, rfl, by decide +kernel, rfl, by decide +kernel, by decide +kernel⟩
theorem scNextStop : FnScope ["clans", "task", "other", "stop", "near"] ["clans", "task", "other"] (defScope sNextStop) := ⟨rfl, rfl, rfl, by decide +kernel, rfl, by decide +kernel, by decide +kernel⟩
def Two (K : PySem.W.Frag) (C C2 : Addr) (res : List Row → Nat → Nat → Hp → VK → Prop) : Sp := fun vs H Q E => ∃ (a : Addr) (nx : Int) (rs : List Row) (v u : V) (d e : PyData), vs = [.ref a, v, u] ∧ ClansAt K C H a nx rs ∧ Good nx rs ∧ Dk K H v d ∧ Dk K H u e ∧ (hasB d rs = false → Err H E C2 v) ∧ (hasB d rs = true → hasB e rs = false → Err H E C2 u) ∧
  (∀ i j, i < rs.length → j < rs.length → d = .int (tk rs i) → e = .int (tk rs j) → res rs i j H Q)
theorem has_tk {d : PyData} {rs : List Row} (h : hasB d rs = true) : ∃ i, i < rs.length ∧ d = .int (tk rs i) := by
  obtain ⟨r, hr, rfl⟩ := hasB_row h
  obtain ⟨i, hi, _, e⟩ := mem_tk hr
  exact ⟨i, hi, by rw [e]⟩
theorem tk_has {rs : List Row} {i : Nat} (hi : i < rs.length) : hasB (.int (tk rs i)) rs = true := by
  rw [tk_row hi]
  exact hasB_of (List.getElem_mem hi)
theorem no_tk {rs : List Row} {i : Nat} (hi : i < rs.length) {Z : Prop} (h : hasB (.int (tk rs i)) rs = false) : Z := by
  rw [tk_has hi] at h
  cases h
theorem row_tk {rs : List Row} (h : Rise rs) {i : Nat} (hi : i < rs.length) {r : Row} (hr : r ∈ rs) (e : PyData.int (tk rs i) = .int r.1) : r = rs[i] := by
  injection e with e
  rw [tk_row hi] at e
  exact rise_inj h hr (List.getElem_mem hi) e.symm
section
variable {P : Program} {w : World} {K : PySem.W.Frag} {mg : Str → Option Value} {base : Heap}
def spCheckTasks (K : PySem.W.Frag) (C C2 : Addr) : Sp := Two K C C2 fun _ _ _ H Q => Q .non H
theorem ok_CheckTasks {k : Nat} {f : Addr} {fd : FuncData} {C C2:Addr} (F : Fun K "_check_tasks" "_check_tasks" sCheckTasks f fd) (gCk : CalM P w K mg base (L2.CX P w) C "check_task" (k + 4) ["self", "value"] (spCheckTask K C C2)) (T : CF K C)  : FnOk P w K mg base (L2.CX P w) (k + 5) f fd ["clans", "task", "other"] (spCheckTasks K C C2) := by
  obtain ⟨fCk, fdCk, GCk, MCk, bCk⟩ := gCk
  refine F.okX scCheckTasks (fun vs H Q E h => ?_) (fun cdv A outer s H vs Q E hr h => ?_)
  · obtain ⟨a, nx, rs, v, u, d, e, rfl, _⟩ := h
    rfl
  · obtain ⟨a, nx, rs, v, u, d, e, rfl, ha, g, hd, he, qe, qe2, q⟩ := h
    refine ⟨_, (pss_cons (ps_expr (pe_meth (pv 0) T.cl MCk GCk hr bCk .nil (passes_call (takes_of rfl rfl rfl rfl) fun _ _ _ _ h => h) (pa_cons (pv 1) pa_nil))) (pss_cons (ps_expr (pe_meth (pv 0) T.cl MCk GCk hr bCk .nil (passes_call (takes_of rfl rfl rfl rfl) fun _ _ _ _ h => h) (pa_cons (pv 2) pa_nil))) (PSs.nox pss_nil))), ?_⟩
    obtain ⟨dx, R, T0, A0, B0, h1⟩ := ha.ins
    refine ⟨.ref a, rfl, a, dx, _, rfl, h1, rfl, v, rfl, a, nx, rs, v, d, rfl, ha, hd, qe, fun e1 => ?_⟩
    refine ⟨.ref a, rfl, a, dx, _, rfl, h1, rfl, u, rfl, a, nx, rs, u, e, rfl, ha, he, qe2 e1, fun e2 => ?_⟩
    obtain ⟨i, hi, ei⟩ := has_tk e1
    obtain ⟨j, hj, ej⟩ := has_tk e2
    exact q i j hi hj ei ej
def spStraight (K : PySem.W.Frag) (C C2 : Addr) : Sp := Two K C C2 fun rs i j H Q => ∀ H', Same H H' → Q (.bl (strI (shp rs) i j)) H'
theorem ok_Straight {k : Nat} {f : Addr} {fd : FuncData} {C C2:Addr} (F : Fun K "straight" "straight" sStraight f fd) (gCt : Cal P w K mg base (L2.CX P w) (k + 11) "_check_tasks" ["clans", "task", "other"] (spCheckTasks K C C2)) (gCl : Cal P w K mg base (L2.CX P w) (k + 11) "clan" ["clans", "task"] (spClan K C C2)) (gCc : CalM P w K mg base (L2.CX P w) C "chief" (k + 11) ["self", "task"] (spChief K C C2)) (T : CF K C)  : FnOk P w K mg base (L2.CX P w) (k + 12) f fd ["clans", "task", "other"] (spStraight K C C2) := by
  obtain ⟨fCt, fdCt, GCt, kCt, bCt, mCt⟩ := gCt
  obtain ⟨fCl, fdCl, GCl, kCl, bCl, mCl⟩ := gCl
  obtain ⟨fCc, fdCc, GCc, MCc, bCc⟩ := gCc
  refine F.okX scStraight (fun vs H Q E h => ?_) (fun cdv A outer s H vs Q E hr h => ?_)
  · obtain ⟨a, nx, rs, v, u, d, e, rfl, _⟩ := h
    rfl
  · obtain ⟨a, nx, rs, v, u, d, e, rfl, ha, g, hd, he, qe, qe2, q⟩ := h
    refine ⟨_, (pss_cons (ps_expr (pe_call GCt hr (by rfl) mCt kCt bCt .nil (passes_call (takes_of rfl rfl rfl rfl) fun _ _ _ _ h => h) (pa_cons (pv 0) (pa_cons (pv 1) (pa_cons (pv 2) pa_nil))))) (pss_cons (ps_ret (pe_or (pe_cmpR op_in_seq (pv 2) (pe_call GCl hr (by rfl) mCl kCl bCl .nil (passes_call (takes_of rfl rfl rfl rfl) fun _ _ _ _ h => h) (pa_cons (pv 0) (pa_cons (pv 1) pa_nil))) (by rfl)) (pe_or (pe_cmpR op_eq (pe_meth (pv 0) T.cl MCc GCc hr bCc .nil (passes_call (takes_of rfl rfl rfl rfl) fun _ _ _ _ h => h) (pa_cons (pv 2) pa_nil)) (pv 1) (nomark _)) (pe_one (pe_cmpR op_eq (pe_meth (pv 0) T.cl MCc GCc hr bCc .nil (passes_call (takes_of rfl rfl rfl rfl) fun _ _ _ _ h => h) (pa_cons (pv 1) pa_nil)) (pv 2) (nomark _)))))) (PSs.nox pss_nil))), ?_⟩
    obtain ⟨dx, R, T0, A0, B0, h1⟩ := ha.ins
    refine ⟨.ref a, rfl, v, rfl, u, rfl, a, nx, rs, v, u, d, e, rfl, ha, g, hd, he, qe, qe2, fun i j hi hj ei ej => ?_⟩
    subst ei
    subst ej
    obtain rfl := dk_int hd
    obtain rfl := dk_int he
    have q := q i j hi hj rfl rfl
    have tr := g.tree
    try dsimp only
    refine ⟨.int (tk rs j), rfl, .ref a, rfl, .int (tk rs i), rfl, a, nx, rs, _, .int (tk rs i), rfl, ha, g, .dp (.int _), no_tk hi, fun r hr er H1 t1 s1 ht1 => ?_⟩
    obtain rfl := row_tk tr.rise hi hr er
    refine ⟨t1, _, rfl, .inr ht1, rfl, flat_ints _, ?_⟩
    rw [inV_ints]
    obtain ⟨dx1, R1, T1, A1, B1, k1⟩ := (ha.same s1).ins
    have q := q H1 s1
    unfold strI at q
    refine ⟨_, rfl, ?_⟩
    by_cases c1 : chI (shp rs) j = chI (shp rs) i
    · refine iteD ((mem_cl tr hi hj).mpr c1) ?_
      rw [decide_eq_true c1] at q
      exact q
    refine iteE (fun z => c1 ((mem_cl tr hi hj).mp z)) ?_
    rw [decide_eq_false c1, Bool.false_or] at q
    have row : ∀ {s : Nat} (hs : s < rs.length) {r : Row}, r ∈ rs → PyData.int (tk rs s) = .int r.1 → r.2.1 = (chI (shp rs) s).map (tk rs) := fun hs r hr e => by
      rw [row_tk tr.rise hs hr e]
      exact (chI_row tr hs).1
    refine ⟨.ref a, rfl, a, dx1, _, rfl, k1, rfl, .int (tk rs j), rfl, a, nx, rs, _, .int (tk rs j), rfl, ha.same s1, g.rise, .dp (.int _), no_tk hj, fun r2 hr2 e2 => ?_⟩
    rw [row hj hr2 e2]
    refine ⟨.int (tk rs i), rfl, by cases chI (shp rs) j <;> rfl, ?_⟩
    rw [dec_opt]
    refine ⟨_, rfl, ?_⟩
    by_cases c2 : chI (shp rs) j = some i
    · refine iteD ((some_tk tr hi hj).mpr c2) ?_
      rw [decide_eq_true c2] at q
      exact q
    refine iteE (fun z => c2 ((some_tk tr hi hj).mp z)) ?_
    rw [decide_eq_false c2, Bool.false_or] at q
    refine ⟨.ref a, rfl, a, dx1, _, rfl, k1, rfl, .int (tk rs i), rfl, a, nx, rs, _, .int (tk rs i), rfl, ha.same s1, g.rise, .dp (.int _), no_tk hi, fun r3 hr3 e3 => ?_⟩
    rw [row hi hr3 e3]
    refine ⟨.int (tk rs j), rfl, by cases chI (shp rs) i <;> rfl, ?_⟩
    rw [dec_opt, show decide ((chI (shp rs) i).map (tk rs) = some (tk rs j)) = decide (chI (shp rs) i = some j) from decide_eq_decide.mpr (some_tk tr hj hi)]
    exact q
theorem find_some {f : Nat → Bool} {n s : Nat} (hs : s < n) (h : f s = true) (no : ∀ x < s, f x = false) : (List.range n).find? f = some s := by
  rw [List.find?_range_eq_some]
  exact ⟨h, List.mem_range.mpr hs, fun x hx => by rw [no x hx]; rfl⟩
theorem find_none {f : Nat → Bool} {n : Nat} (no : ∀ x < n, f x = false) : (List.range n).find? f = none := by
  rw [List.find?_eq_none]
  exact fun x hx => by rw [no x (List.mem_range.mp hx)]; exact Bool.false_ne_true
def spNextStop (K : PySem.W.Frag) (C C2 : Addr) : Sp := Two K C C2 fun rs i j H Q => ∀ H', Same H H' → Q (.int (tk rs (nextI (shp rs) i j))) H'
theorem ok_NextStop {k : Nat} {f : Addr} {fd : FuncData} {C C2:Addr} (F : Fun K "next_stop" "next_stop" sNextStop f fd) (gSg : Cal P w K mg base (L2.CX P w) (k + 12) "straight" ["clans", "task", "other"] (spStraight K C C2)) (gCl : Cal P w K mg base (L2.CX P w) (k + 12) "clan" ["clans", "task"] (spClan K C C2)) (gCc : CalM P w K mg base (L2.CX P w) C "chief" (k + 12) ["self", "task"] (spChief K C C2)) (gBn : Cal P w K mg base (L2.CX P w) (k + 12) "beneath" ["clans", "task"] (spBeneath K C C2)) (T : CF K C)  : FnOk P w K mg base (L2.CX P w) (k + 13) f fd ["clans", "task", "other"] (spNextStop K C C2) := by
  obtain ⟨fSg, fdSg, GSg, kSg, bSg, mSg⟩ := gSg
  obtain ⟨fCl, fdCl, GCl, kCl, bCl, mCl⟩ := gCl
  obtain ⟨fCc, fdCc, GCc, MCc, bCc⟩ := gCc
  obtain ⟨fBn, fdBn, GBn, kBn, bBn, mBn⟩ := gBn
  refine F.okX scNextStop (fun vs H Q E h => ?_) (fun cdv A outer s H vs Q E hr h => ?_)
  · obtain ⟨a, nx, rs, v, u, d, e, rfl, _⟩ := h
    rfl
  · obtain ⟨a, nx, rs, v, u, d, e, rfl, ha, g, hd, he, qe, qe2, q⟩ := h
    refine ⟨_, (pss_cons (ps_if (pt_val (pe_call GSg hr (by rfl) mSg kSg bSg .nil (passes_call (takes_of rfl rfl rfl rfl) fun _ _ _ _ h => h) (pa_cons (pv 0) (pa_cons (pv 1) (pa_cons (pv 2) pa_nil))))) (pss_one (ps_ret (pv 2))) pss_nil) (pss_cons (ps_for (passes_of rfl) rfl (pi_tup (pe_fld (pv 0) rfl)) (pg_name (i := 3) scNextStop.nd rfl (.inl rfl)) (pss_cons (ps_set (i := 4) scNextStop.nd rfl (.inl rfl) (pe_or (pe_cmpR op_in_seq (pv 3) (pe_call GCl hr (by rfl) mCl kCl bCl .nil (passes_call (takes_of rfl rfl rfl rfl) fun _ _ _ _ h => h) (pa_cons (pv 0) (pa_cons (pv 1) pa_nil))) (by rfl)) (pe_one (pe_cmpR op_eq (pe_meth (pv 0) T.cl MCc GCc hr bCc .nil (passes_call (takes_of rfl rfl rfl rfl) fun _ _ _ _ h => h) (pa_cons (pv 3) pa_nil)) (pv 1) (nomark _))))) (pss_one (ps_if (PW.pt (pw_and (pt_val (pv 4)) (pw_and (pt_cmpR op_ne (pv 3) (pv 1) (nomark _)) (pw_and1 (pt_cmpR op_in_seq (pv 2) (pe_call GBn hr (by rfl) mBn kBn bBn .nil (passes_call (takes_of rfl rfl rfl rfl) fun _ _ _ _ h => h) (pa_cons (pv 0) (pa_cons (pv 3) pa_nil))) (by rfl)))))) (pss_one (ps_ret (pv 3))) pss_nil)))) (pss_cons (ps_ret (pe_meth (pv 0) T.cl MCc GCc hr bCc .nil (passes_call (takes_of rfl rfl rfl rfl) fun _ _ _ _ h => h) (pa_cons (pv 1) pa_nil))) (PSs.nox pss_nil)))), ?_⟩
    refine ⟨.ref a, rfl, v, rfl, u, rfl, a, nx, rs, v, u, d, e, rfl, ha, g, hd, he, qe, qe2, fun i j hi hj ei ej H1 s1 => ⟨_, rfl, ?_⟩⟩
    subst ei
    subst ej
    obtain rfl := dk_int hd
    obtain rfl := dk_int he
    have q := q i j hi hj rfl rfl
    have tr := g.tree
    have wo := way_ok (shp_ok tr) (i := i) (j := j) (by rw [shp_len]; exact hi) (by rw [shp_len]; exact hj)
    cases es : strI (shp rs) i j with
    | true =>
      refine iteT ⟨.int (tk rs j), rfl, ?_⟩
      have q := q H1 s1
      unfold nextI at q
      rw [if_pos es] at q
      exact q
    | false =>
      refine iteF (next_of ?_)
      have hnx : nextI (shp rs) i j = ((List.range rs.length).find? (candI (shp rs) i j)).getD ((chI (shp rs) i).getD 0) := by
        unfold nextI
        rw [if_neg (by rw [es]; exact Bool.false_ne_true), shp_len]
      obtain ⟨dx, R, T0, A0, B0, h1, h2, h4, h5, h6⟩ := ha.same s1
      refine ⟨.ref a, rfl, a, C, dx, _, .ref T0, rfl, h1, T.cl, T.nK, rfl, T0, rfl, ⟨_, h4⟩, ?_⟩
      refine for_tup (xs := (rs.map (·.1)).map V.int) (fun m σ H' => ∃ y3 y4, σ = [some (.ref a), some (.int (tk rs i)), some (.int (tk rs j)), y3, y4] ∧ Same H1 H' ∧ ∀ x < m, candI (shp rs) i j x = false) ⟨none, none, rfl, Same.refl _, fun x hx => absurd hx (Nat.not_lt_zero x)⟩ (fun m σ H' _ hP => ?_) (fun m x σ H' hx hP => ?_) (fun σ H' hP => ?_)
      · obtain ⟨_, _, _, s, _⟩ := hP
        exact Same.seqT s h4
      · obtain ⟨y3, y4, rfl, sm, no⟩ := hP
        have hm := (List.getElem?_eq_some_iff.mp hx).1
        rw [List.length_map, List.length_map] at hm
        rw [List.getElem?_map, List.getElem?_map, List.getElem?_eq_getElem hm] at hx
        have hx : V.int (rs[m]).1 = x := Option.some.inj hx
        rw [← tk_row hm] at hx
        subst hx
        have hc := (ha.same s1).same sm
        refine gn_of ?_
        try dsimp only
        refine seq_cut (fun σ' H'' => σ' = [some (.ref a), some (.int (tk rs i)), some (.int (tk rs j)), some (.int (tk rs m)), some (.bl (nearI (shp rs) i m))] ∧ Same H' H'') (fun N hN => ?_) (fun σ' H'' hq => ?_)
        · refine ⟨.int (tk rs m), rfl, .ref a, rfl, .int (tk rs i), rfl, a, nx, rs, _, .int (tk rs i), rfl, hc, g, .dp (.int _), no_tk hi, fun r hr er H2 t2 s2 ht2 => ?_⟩
          obtain rfl := row_tk tr.rise hi hr er
          refine ⟨t2, _, rfl, .inr ht2, rfl, flat_ints _, ?_⟩
          rw [inV_ints]
          refine ⟨_, rfl, ?_⟩
          by_cases c1 : chI (shp rs) m = chI (shp rs) i
          · refine iteD ((mem_cl tr hi hm).mpr c1) (hN _ _ ⟨?_, s2⟩)
            unfold nearI
            rw [decide_eq_true c1]
            rfl
          refine iteE (fun z => c1 ((mem_cl tr hi hm).mp z)) ?_
          obtain ⟨dx2, R2, T2, A2, B2, k2⟩ := (hc.same s2).ins
          refine ⟨.ref a, rfl, a, dx2, _, rfl, k2, rfl, .int (tk rs m), rfl, a, nx, rs, _, .int (tk rs m), rfl, hc.same s2, g.rise, .dp (.int _), no_tk hm, fun r2 hr2 e2 => ?_⟩
          rw [row_tk tr.rise hm hr2 e2, (chI_row tr hm).1]
          refine ⟨.int (tk rs i), rfl, by cases chI (shp rs) m <;> rfl, ?_⟩
          rw [dec_opt]
          refine hN _ _ ⟨?_, s2⟩
          unfold nearI
          rw [decide_eq_false c1, Bool.false_or, decide_eq_decide.mpr (some_tk tr hi hm)]
          rfl
        obtain ⟨rfl, s2⟩ := hq
        have hc2 := hc.same s2
        have fin : candI (shp rs) i j m = false → ∃ z3 z4, ([some (V.ref a), some (V.int (tk rs i)), some (V.int (tk rs j)), some (V.int (tk rs m)), some (V.bl (nearI (shp rs) i m))] : L2.St) = [some (.ref a), some (.int (tk rs i)), some (.int (tk rs j)), z3, z4] ∧ Same H1 H'' ∧ ∀ x < m + 1, candI (shp rs) i j x = false := fun z => ⟨_, _, rfl, sm.trans s2, fun x hx => by
          by_cases c : x < m
          · exact no x c
          · rw [show x = m from by omega]; exact z⟩
        refine ⟨.bl (nearI (shp rs) i m), rfl, _, rfl, ?_⟩
        cases en : nearI (shp rs) i m with
        | false =>
          rw [en] at fin
          exact iteF (iteF (fin (by unfold candI; rw [en]; rfl)))
        | true =>
          rw [en] at fin
          refine iteT ⟨.int (tk rs m), rfl, .int (tk rs i), rfl, rfl, _, rfl, ?_⟩
          by_cases cm : m = i
          · subst cm
            refine iteNF rfl (iteF (fin ?_))
            unfold candI
            rw [decide_eq_true rfl]
            simp
          · refine iteNE (fun z => cm (tk_inj tr.rise hm hi (V.int.inj z))) ⟨.int (tk rs j), rfl, .ref a, rfl, .int (tk rs m), rfl, a, nx, rs, _, .int (tk rs m), rfl, hc2, g, .dp (.int _), no_tk hm, fun r3 hr3 e3 H3 t3 s3 ht3 => ?_⟩
            have e3' : tk rs m = r3.1 := by injection e3
            rw [← e3'] at ht3
            refine ⟨t3, _, rfl, .inr ht3, rfl, flat_ints _, ?_⟩
            rw [inV_ints]
            refine ⟨_, rfl, ?_⟩
            have mb := mem_bn tr g.low hm hj
            by_cases c3 : m ∈ ancI (shp rs) j
            · refine iteD (mb.mpr c3) ⟨.int (tk rs m), rfl, ?_⟩
              have hcand : candI (shp rs) i j m = true := by
                unfold candI
                rw [en, decide_eq_false cm, decide_eq_true c3]
                rfl
              rw [find_some hm hcand no] at hnx
              have q := q H3 (s1.trans (sm.trans (s2.trans s3)))
              rw [hnx] at q
              exact q
            · refine iteE (fun z => c3 (mb.mp z)) ?_
              obtain ⟨z3, z4, e, s, n⟩ := fin (by unfold candI; rw [decide_eq_false c3]; simp)
              exact ⟨z3, z4, e, s.trans s3, n⟩
      · obtain ⟨y3, y4, rfl, sm, no⟩ := hP
        rw [List.length_map, List.length_map] at no
        have fn := find_none no
        rw [fn] at hnx
        obtain ⟨dx2, R2, T2, A2, B2, k2⟩ := ((ha.same s1).same sm).ins
        refine ⟨.ref a, rfl, a, dx2, _, rfl, k2, rfl, .int (tk rs i), rfl, a, nx, rs, _, .int (tk rs i), rfl, (ha.same s1).same sm, g.rise, .dp (.int _), no_tk hi, fun r2 hr2 e2 => ?_⟩
        rw [row_tk tr.rise hi hr2 e2, (chI_row tr hi).1]
        have q := q H' (s1.trans sm)
        rw [hnx] at q
        rcases wo.found es with z | z
        · rw [shp_len, fn] at z; cases z
        · obtain ⟨c, hc⟩ := Option.isSome_iff_exists.mp z
          rw [hc] at q ⊢
          exact q
end
end K35



set_option maxRecDepth 100000
set_option maxHeartbeats 2000000
/-! k35: whole ways, the program's own. -/
namespace K35
open PySem PySem.Spec PyProof.Rows L2 LamX VG TL
theorem scWay : FnScope ["clans", "task", "other", "stops"] ["clans", "task", "other"] (defScope sWay) := ⟨rfl, rfl, rfl, by decide +kernel, rfl, by decide +kernel, by decide +kernel⟩
theorem scWaySort : FnScope ["clans", "task", "other", "kin", "one"] ["clans", "task", "other"] (defScope sWaySort) := ⟨rfl, rfl, rfl, by decide +kernel, rfl, by decide +kernel, by decide +kernel⟩
theorem scPasses : FnScope ["clans", "task", "other", "stops", "stop"] ["clans", "task", "other"] (defScope sPasses) := ⟨rfl, rfl, rfl, by decide +kernel, rfl, by decide +kernel, by decide +kernel⟩
theorem way_succ {p : Shp} {f i j : Nat} : wayI p (f + 1) i j = nextI p i j :: (if nextI p i j = j then [] else wayI p f (nextI p i j) j) := by
  show (if nextI p i j = j then [j] else nextI p i j :: wayI p f (nextI p i j) j) = _
  by_cases e : nextI p i j = j
  · rw [if_pos e, if_pos e, e]
  · rw [if_neg e, if_neg e]
theorem way_len {p : Shp} {j : Nat} : ∀ (f i : Nat), (wayI p f i j).length ≤ f
  | 0, _ => Nat.le_refl _
  | f + 1, i => by
    rw [way_succ]
    show (if nextI p i j = j then [] else wayI p f (nextI p i j) j).length + 1 ≤ f + 1
    by_cases e : nextI p i j = j
    · rw [if_pos e]; exact Nat.succ_le_succ (Nat.zero_le _)
    · rw [if_neg e]; exact Nat.succ_le_succ (way_len f _)
theorem atI_last {xs : List V} {x : V} : atI (xs ++ [x]) (-1) = some x := by
  unfold atI ixN
  rw [if_neg (by decide), if_pos (by rw [List.length_append, List.length_singleton]; omega)]
  show (xs ++ [x])[(-1 + ((xs ++ [x]).length : Int)).toNat]? = _
  rw [show (-1 + ((xs ++ [x]).length : Int)).toNat = xs.length by rw [List.length_append, List.length_singleton]; omega]
  simp
theorem cut_m1 (xs : List V) : cutV xs none (some (-1)) = xs.take (xs.length - 1) := by
  unfold cutV
  rw [HT.sIx_none, List.drop_zero, Nat.sub_zero]
  show xs.take (if (-1 : Int) < 0 then ((-1 : Int) + (xs.length : Int)).toNat else min (-1 : Int).toNat xs.length) = _
  rw [if_pos (by decide), show ((-1 : Int) + (xs.length : Int)).toNat = xs.length - 1 from by omega]
/-- t[:-1] -/
theorem slice_m1 {K : PySem.W.Frag} {H : Hp} {a : Addr} {xs : List V} {Q : VK} (h : SqT K H a xs) (ne : xs.length ≠ 0) (q : ∀ p H', SqT K H' p (xs.take (xs.length - 1)) → Same H H' → Q (.ref p) H') : rSlA K (.ref a) none (some (-1)) H Q := by
  refine ⟨a, xs, rfl, h, fun hw => ?_, fun _ p hp => q p _ ?_ (same_upd hp)⟩
  · exfalso
    have e := hw.2
    change (if (-1 : Int) < 0 then ((-1 : Int) + (xs.length : Int)).toNat else min (-1 : Int).toNat xs.length) = _ at e
    rw [if_pos (by decide)] at e
    omega
  · rw [cut_m1]
    exact SqT.of upd_same
/-- tasks told -/
def tks (rs : List Row) (xs : List Nat) : List V := xs.map fun s => V.int (tk rs s)
def sortI (p : Shp) (i j : Nat) : Str := if i = j then "own" else if chI p j = chI p i then "same" else if ((List.range p.length).any fun o => decide (chI p o = chI p i) && decide (o ∈ ancI p j)) = true then "inner" else "outer"
theorem find_at {f : Nat → Bool} {ds : List Nat} {m : Nat} (hm : m < ds.length) (no : (ds.take m).find? f = none) (h : f ds[m] = true) : ds.find? f = some ds[m] := by
  have es : ds.take m ++ (ds[m] :: ds.drop (m + 1)) = ds := by rw [List.getElem_cons_drop, List.take_append_drop]
  have e2 : (ds.take m ++ (ds[m] :: ds.drop (m + 1))).find? f = some ds[m] := by
    rw [List.find?_append, no, List.find?_cons, h]
    rfl
  rwa [es] at e2
theorem cl_tk {rs : List Row} {r : Row} {c : Int} (h : c ∈ clR rs r) : ∃ s, s < rs.length ∧ c = tk rs s := by
  unfold clR at h
  obtain ⟨x, hx, rfl⟩ := List.mem_map.mp h
  obtain ⟨s, hs, _, e⟩ := mem_tk (List.mem_filter.mp hx).1
  exact ⟨s, hs, e⟩
theorem any_cl {rs : List Row} (t : Tree rs) (lo : ∀ r ∈ rs, 0 ≤ r.1 ∧ r.1 < 999) {i j : Nat} (hi : i < rs.length) (hj : j < rs.length) :
    (clR rs rs[i]).any (fun c => decide (tk rs j ∈ bnR rs c)) = (List.range (shp rs).length).any fun o => decide (chI (shp rs) o = chI (shp rs) i) && decide (o ∈ ancI (shp rs) j) := by
  rw [Bool.eq_iff_iff, List.any_eq_true, List.any_eq_true]
  constructor
  · rintro ⟨c, hc, h⟩
    obtain ⟨s, hs, rfl⟩ := cl_tk hc
    refine ⟨s, List.mem_range.mpr (by rw [shp_len]; exact hs), ?_⟩
    rw [decide_eq_true ((mem_cl t hi hs).mp hc), decide_eq_true ((mem_bn t lo hs hj).mp (of_decide_eq_true h))]
    rfl
  · rintro ⟨s, hs, h⟩
    have hs := List.mem_range.mp hs
    rw [shp_len] at hs
    rw [Bool.and_eq_true] at h
    exact ⟨tk rs s, (mem_cl t hi hs).mpr (of_decide_eq_true h.1), decide_eq_true ((mem_bn t lo hs hj).mpr (of_decide_eq_true h.2))⟩
section
variable {P : Program} {w : World} {K : PySem.W.Frag} {mg : Str → Option Value} {base : Heap}
def spWay (K : PySem.W.Frag) (C C2 : Addr) : Sp := Two K C C2 fun rs i j H Q => ∀ H' t, Same H H' → SqT K H' t (tks rs (wayI (shp rs) 12 i j)) → Q (.ref t) H'
theorem ok_Way {k : Nat} {f : Addr} {fd : FuncData} {C C2:Addr} (F : Fun K "way" "way" sWay f fd) (gNs : Cal P w K mg base (L2.CX P w) (k + 13) "next_stop" ["clans", "task", "other"] (spNextStop K C C2)) (T : CF K C) (ftuple : mg "tuple" = none) : FnOk P w K mg base (L2.CX P w) (k + 14) f fd ["clans", "task", "other"] (spWay K C C2) := by
  obtain ⟨fNs, fdNs, GNs, kNs, bNs, mNs⟩ := gNs
  refine F.okX scWay (fun vs H Q E h => ?_) (fun cdv A outer s H vs Q E hr h => ?_)
  · obtain ⟨a, nx, rs, v, u, d, e, rfl, _⟩ := h
    rfl
  · obtain ⟨a, nx, rs, v, u, d, e, rfl, ha, g, hd, he, qe, qe2, q⟩ := h
    refine ⟨_, (pss_cons (ps_set (i := 3) scWay.nd rfl (.inl rfl) (pe_lst (pa_cons (pe_call GNs hr (by rfl) mNs kNs bNs .nil (passes_call (takes_of rfl rfl rfl rfl) fun _ _ _ _ h => h) (pa_cons (pv 0) (pa_cons (pv 1) (pa_cons (pv 2) pa_nil)))) pa_nil))) (pss_cons (ps_while (passes_of rfl) (pt_cmpR op_ne (pe_ix ix_list (pv 3) (pe_un un_neg pe_int) (fun _ _ => rfl)) (pv 2) (nomark _)) (pss_one (ps_expr (pe_bm PySem.F.plainAttrs_list PySem.F.slot_list_append PySem.F.type_list_append mt_append (pv 3) (pa_cons (pe_call GNs hr (by rfl) mNs kNs bNs .nil (passes_call (takes_of rfl rfl rfl rfl) fun _ _ _ _ h => h) (pa_cons (pv 0) (pa_cons (pe_ix ix_list (pv 3) (pe_un un_neg pe_int) (fun _ _ => rfl)) (pa_cons (pv 2) pa_nil)))) pa_nil))))) (PSs.nox (pss_one (ps_ret (pe_callTy call_tuple_of (by rfl) ftuple (by decide +kernel) (pa_cons (pv 3) pa_nil))))))), ?_⟩
    refine ⟨.ref a, rfl, v, rfl, u, rfl, a, nx, rs, v, u, d, e, rfl, ha, g, hd, he, qe, qe2, fun i j hi hj ei ej H1 s1 => ⟨by show 1 ≤ sizeLine; decide, fun L nL => ?_⟩⟩
    subst ei
    subst ej
    obtain rfl := dk_int hd
    obtain rfl := dk_int he
    have q := q i j hi hj rfl rfl
    have tr := g.tree
    have wo := way_ok (shp_ok tr) (i := i) (j := j) (by rw [shp_len]; exact hi) (by rw [shp_len]; exact hj)
    have wl := way_len (p := shp rs) (j := j) 12 i
    have lt := wo.lt
    rw [shp_len] at lt
    refine gn_of ?_
    try dsimp only
    have sL := same_upd (o := .lst [V.int (tk rs (nextI (shp rs) i j))]) nL
    have s1L := s1.trans sL
    have nLH : H L = none := by
      cases ez : H L with
      | none => rfl
      | some o => rw [s1 _ _ ez] at nL; cases nL
    refine while_of (fun m σ H' => ∃ pre x, σ = [some (.ref a), some (.int (tk rs i)), some (.int (tk rs j)), some (.ref L)] ∧ Same H H' ∧ H' L = some (.lst (tks rs (pre ++ [x]))) ∧ wayI (shp rs) 12 i j = pre ++ (x :: (if x = j then [] else wayI (shp rs) m x j))) 11 ⟨[], nextI (shp rs) i j, rfl, s1L, upd_same, way_succ⟩ (fun m σ H' hP => ?_)
    obtain ⟨pre, x, rfl, sm, hL, hw⟩ := hP
    have hx : x < rs.length := lt x (by rw [hw]; exact List.mem_append_right _ List.mem_cons_self)
    have ea : tks rs (pre ++ [x]) = tks rs pre ++ [V.int (tk rs x)] := List.map_append ..
    have al : atI (tks rs (pre ++ [x])) (-1) = some (V.int (tk rs x)) := by rw [ea]; exact atI_last
    refine ⟨.ref L, rfl, 1, rfl, L, _, -1, _, rfl, rfl, SqL.of hL, al, .int (tk rs j), rfl, rfl, _, rfl, ?_⟩
    by_cases ex : x = j
    · subst ex
      rw [if_pos rfl] at hw
      refine iteNF rfl ⟨.ref L, rfl, L, _, rfl, .inl ⟨SqL.of hL, fun t nt => ?_⟩⟩
      have st := same_upd (o := .tup (tks rs (pre ++ [x]))) nt
      refine q _ t (sm.trans st) ?_
      rw [hw]
      exact SqT.of upd_same
    · rw [if_neg ex] at hw
      refine iteNE (fun z => ex (tk_inj tr.rise hx hj (V.int.inj z))) ?_
      cases m with
      | zero =>
        have hl := wo.last
        rw [hw, show wayI (shp rs) 0 x j = [] from rfl, List.getLast?_concat] at hl
        exact absurd (Option.some.inj hl) ex
      | succ m =>
        rw [way_succ (f := m)] at hw
        have hlen : (pre ++ [x]).length ≤ 12 := by
          rw [hw] at wl
          simp only [List.length_append, List.length_cons, List.length_nil] at wl ⊢
          omega
        have hlv : (tks rs (pre ++ [x])).length ≤ 12 := by unfold tks; rw [List.length_map]; exact hlen
        refine ⟨_, fun σ' H'' z => ⟨m, Nat.lt_succ_self _, z⟩, .ref L, rfl, .inl ⟨rfl, _, SqL.of hL⟩, .ref a, rfl, .ref L, rfl, 1, rfl, L, _, -1, _, rfl, rfl, SqL.of hL, al, .int (tk rs j), rfl, a, nx, rs, _, _, .int (tk rs x), .int (tk rs j), rfl, ha.same sm, g, .dp (.int _), .dp (.int _), no_tk hx, fun _ => no_tk hj, fun i' j' hi' hj' e1 e2 H2 s2 => ?_⟩
        have e1 : x = i' := tk_inj tr.rise hx hi' (by injection e1)
        have e2 : j = j' := tk_inj tr.rise hj hj' (by injection e2)
        subst e1
        subst e2
        refine ⟨L, _, _, rfl, rfl, s2 _ _ hL, small1000 (by omega), pre ++ [x], nextI (shp rs) x j, rfl, ?_, ?_, ?_⟩
        · exact Same.updNew (sm.trans s2) nLH
        · rw [upd_same]
          show some (HO.lst (tks rs (pre ++ [x]) ++ [V.int (tk rs (nextI (shp rs) x j))])) = some (.lst (tks rs ((pre ++ [x]) ++ [nextI (shp rs) x j])))
          unfold tks
          rw [List.map_append (l₁ := pre ++ [x])]
          rfl
        · rw [hw]
          simp
def spWaySort (K : PySem.W.Frag) (C C2 : Addr) : Sp := Two K C C2 fun rs i j H Q => ∀ H', Same H H' → Q (.str (sortI (shp rs) i j)) H'
theorem ok_WaySort {k : Nat} {f : Addr} {fd : FuncData} {C C2:Addr} (F : Fun K "way_sort" "way_sort" sWaySort f fd) (gCt : Cal P w K mg base (L2.CX P w) (k + 13) "_check_tasks" ["clans", "task", "other"] (spCheckTasks K C C2)) (gCl : Cal P w K mg base (L2.CX P w) (k + 13) "clan" ["clans", "task"] (spClan K C C2)) (gBn : Cal P w K mg base (L2.CX P w) (k + 13) "beneath" ["clans", "task"] (spBeneath K C C2)) (T : CF K C) (fany : mg "any" = none) : FnOk P w K mg base (L2.CX P w) (k + 14) f fd ["clans", "task", "other"] (spWaySort K C C2) := by
  obtain ⟨fCt, fdCt, GCt, kCt, bCt, mCt⟩ := gCt
  obtain ⟨fCl, fdCl, GCl, kCl, bCl, mCl⟩ := gCl
  obtain ⟨fBn, fdBn, GBn, kBn, bBn, mBn⟩ := gBn
  refine F.okX scWaySort (fun vs H Q E h => ?_) (fun cdv A outer s H vs Q E hr h => ?_)
  · obtain ⟨a, nx, rs, v, u, d, e, rfl, _⟩ := h
    rfl
  · obtain ⟨a, nx, rs, v, u, d, e, rfl, ha, g, hd, he, qe, qe2, q⟩ := h
    refine ⟨_, (pss_cons (ps_expr (pe_call GCt hr (by rfl) mCt kCt bCt .nil (passes_call (takes_of rfl rfl rfl rfl) fun _ _ _ _ h => h) (pa_cons (pv 0) (pa_cons (pv 1) (pa_cons (pv 2) pa_nil))))) (pss_cons (ps_if (pt_cmpR op_eq (pv 1) (pv 2) (nomark _)) (pss_one (ps_ret pe_str)) pss_nil) (pss_cons (ps_set (i := 3) scWaySort.nd rfl (.inl rfl) (pe_call GCl hr (by rfl) mCl kCl bCl .nil (passes_call (takes_of rfl rfl rfl rfl) fun _ _ _ _ h => h) (pa_cons (pv 0) (pa_cons (pv 1) pa_nil)))) (pss_cons (ps_if (pt_cmpR op_in_seq (pv 2) (pv 3) (by rfl)) (pss_one (ps_ret pe_str)) pss_nil) (pss_cons (ps_ret (pe_ifExp (pt_val (pe_callB (cr_any rfl) (by rfl) fany (by decide +kernel) (pa_cons (pe_lc (own := [("one", 4)]) (g := (gName 4)) (tt := tYes) rfl scWaySort.nd (pi_tup (pv 3)) (blkOk_by (N := ["clans", "task", "other", "kin", "one"]) (sc := defScope sWaySort) (by decide +kernel)) (fun _ _ _ _ _ => (pg_name (i := 4) scWaySort.nd rfl (.inl rfl))) (fun _ _ _ _ _ => pts_nil) (fun _ _ _ _ _ => (pe_cmpR (show OpR _ (compareOp .In) (rIn K false) from op_in_seq) (pv 2) (pe_call GBn hr (by rfl) mBn kBn bBn .nil passX (pa_cons (pv 0) (pa_cons (pv 4) pa_nil))) (by rfl)))) pa_nil))) pe_str pe_str)) (PSs.nox pss_nil)))))), ?_⟩
    refine ⟨.ref a, rfl, v, rfl, u, rfl, a, nx, rs, v, u, d, e, rfl, ha, g, hd, he, qe, qe2, fun i j hi hj ei ej => ?_⟩
    subst ei
    subst ej
    obtain rfl := dk_int hd
    obtain rfl := dk_int he
    have q := q i j hi hj rfl rfl
    have tr := g.tree
    have few := g.few
    try dsimp only
    refine ⟨.int (tk rs i), rfl, .int (tk rs j), rfl, rfl, _, rfl, ?_⟩
    by_cases e0 : i = j
    · subst e0
      have q := q H (Same.refl _)
      unfold sortI at q
      rw [if_pos rfl] at q
      exact iteD rfl q
    refine iteE (fun z => e0 (tk_inj tr.rise hi hj (V.int.inj z))) (next_of ?_)
    refine ⟨.ref a, rfl, .int (tk rs i), rfl, a, nx, rs, _, .int (tk rs i), rfl, ha, g, .dp (.int _), no_tk hi, fun r hr er H1 t1 s1 ht1 => ?_⟩
    obtain rfl := row_tk tr.rise hi hr er
    refine gn_of ?_
    try dsimp only
    refine ⟨.int (tk rs j), rfl, .ref t1, rfl, t1, _, rfl, .inr ht1, rfl, flat_ints _, ?_⟩
    rw [inV_ints]
    refine ⟨_, rfl, ?_⟩
    by_cases c1 : chI (shp rs) j = chI (shp rs) i
    · refine iteD ((mem_cl tr hi hj).mpr c1) ?_
      have q := q H1 s1
      unfold sortI at q
      rw [if_neg e0, if_pos c1] at q
      exact q
    refine iteE (fun z => c1 ((mem_cl tr hi hj).mp z)) (next_of ?_)
    have lcl : (clR rs (rs[i])).length ≤ 6 := by unfold clR; rw [List.length_map]; exact Nat.le_trans (List.length_filter_le _ _) few
    refine ⟨.ref t1, rfl, t1, rfl, ⟨_, ht1⟩, fun D nD => ?_⟩
    refine lc_tup (xs := (clR rs (rs[i])).map V.int) (fun m H' => Same H1 H' ∧ H' D = some (.lst ((((clR rs (rs[i])).take m).map fun c => decide (tk rs j ∈ bnR rs c)).map V.bl))) ⟨same_upd nD, upd_same⟩ (fun m H' _ hP => Same.seqT hP.1 ht1) (fun m x H' hx hP => ?_) fun H2 hP => ?_
    · obtain ⟨sm, hD⟩ := hP
      have hm := (List.getElem?_eq_some_iff.mp hx).1
      rw [List.length_map] at hm
      rw [List.getElem?_map, List.getElem?_eq_getElem hm] at hx
      obtain rfl : V.int (clR rs rs[i])[m] = x := Option.some.inj hx
      obtain ⟨s, hs, es⟩ := cl_tk (List.getElem_mem hm)
      have et : (clR rs rs[i]).take (m + 1) = (clR rs rs[i]).take m ++ [(clR rs rs[i])[m]] := by rw [List.take_add_one, List.getElem?_eq_getElem hm]; rfl
      refine ⟨rfl, ?_⟩
      unfold tYes
      refine iteT ⟨.int (tk rs j), rfl, .ref a, rfl, .int _, rfl, a, nx, rs, _, .int (clR rs rs[i])[m], rfl, (ha.same s1).same sm, g, .dp (.int _), fun z => (by rw [es] at z; exact no_tk hs z), fun r2 hr2 e2 H3 t3 s3 ht3 => ?_⟩
      have e2' : (clR rs rs[i])[m] = r2.1 := by injection e2
      rw [← e2'] at ht3
      refine ⟨t3, _, rfl, .inr ht3, rfl, flat_ints _, ?_⟩
      rw [inV_ints]
      refine ⟨_, s3 _ _ hD, small1000 (by rw [List.length_map, List.length_map, List.length_take]; omega), Same.updNew (sm.trans s3) nD, ?_⟩
      rw [upd_same, et, List.map_append, List.map_append]
      rfl
    · obtain ⟨sm, hD⟩ := hP
      rw [List.length_map, List.take_length] at hD
      refine ⟨D, _, rfl, SqL.of hD, ?_⟩
      have q := q H2 (s1.trans sm)
      unfold sortI at q
      rw [if_neg e0, if_neg c1, ← any_cl tr g.low hi hj] at q
      rw [List.any_map]
      show ∃ c, V.bl ((clR rs rs[i]).any fun c => decide (tk rs j ∈ bnR rs c)) = .bl c ∧ _
      refine ⟨_, rfl, ?_⟩
      cases ea : (clR rs rs[i]).any fun c => decide (tk rs j ∈ bnR rs c) with
      | true => rw [ea] at q; exact iteT q
      | false => rw [ea] at q; exact iteF q
def PassAt (K : PySem.W.Frag) (H : Hp) (t : Addr) (rs : List Row) (xs : List Nat) : Prop :=
  (∃ s, xs.dropLast.find? (fun s => !(rs.getD s (0, none, false)).2.2) = some s ∧ SqT K H t [.str "barred", .int (tk rs s)]) ∨ (xs.dropLast.find? (fun s => !(rs.getD s (0, none, false)).2.2) = none ∧ ∃ z, SqT K H t [.str "passes", .ref z] ∧ SqT K H z (tks rs xs))
def spPasses (K : PySem.W.Frag) (C C2 : Addr) : Sp := Two K C C2 fun rs i j H Q => ∀ H' t, Same H H' → PassAt K H' t rs (wayI (shp rs) 12 i j) → Q (.ref t) H'
theorem ok_Passes {k : Nat} {f : Addr} {fd : FuncData} {C C2:Addr} (F : Fun K "passes" "passes" sPasses f fd) (gWy : Cal P w K mg base (L2.CX P w) (k + 14) "way" ["clans", "task", "other"] (spWay K C C2)) (gHb : CalM P w K mg base (L2.CX P w) C "has_border" (k + 14) ["self", "task"] (spHasBorder K C C2)) (T : CF K C)  : FnOk P w K mg base (L2.CX P w) (k + 15) f fd ["clans", "task", "other"] (spPasses K C C2) := by
  obtain ⟨fWy, fdWy, GWy, kWy, bWy, mWy⟩ := gWy
  obtain ⟨fHb, fdHb, GHb, MHb, bHb⟩ := gHb
  refine F.okX scPasses (fun vs H Q E h => ?_) (fun cdv A outer s H vs Q E hr h => ?_)
  · obtain ⟨a, nx, rs, v, u, d, e, rfl, _⟩ := h
    rfl
  · obtain ⟨a, nx, rs, v, u, d, e, rfl, ha, g, hd, he, qe, qe2, q⟩ := h
    refine ⟨_, (pss_cons (ps_set (i := 3) scPasses.nd rfl (.inl rfl) (pe_call GWy hr (by rfl) mWy kWy bWy .nil (passes_call (takes_of rfl rfl rfl rfl) fun _ _ _ _ h => h) (pa_cons (pv 0) (pa_cons (pv 1) (pa_cons (pv 2) pa_nil))))) (pss_cons (ps_for (passes_of rfl) rfl (pi_tup (pe_slice sl_tupA (pv 3) po_none (po_some (pe_un un_neg pe_int)))) (pg_name (i := 4) scPasses.nd rfl (.inl rfl)) (pss_one (ps_if (pt_not (pt_val (pe_meth (pv 0) T.cl MHb GHb hr bHb .nil (passes_call (takes_of rfl rfl rfl rfl) fun _ _ _ _ h => h) (pa_cons (pv 4) pa_nil)))) (pss_one (ps_ret (pe_tup (pa_cons pe_str (pa_cons (pv 4) pa_nil))))) pss_nil))) (PSs.nox (pss_one (ps_ret (pe_tup (pa_cons pe_str (pa_cons (pv 3) pa_nil)))))))), ?_⟩
    refine ⟨.ref a, rfl, v, rfl, u, rfl, a, nx, rs, v, u, d, e, rfl, ha, g, hd, he, qe, qe2, fun i j hi hj ei ej H1 t1 s1 ht1 => ?_⟩
    subst ei
    subst ej
    obtain rfl := dk_int hd
    obtain rfl := dk_int he
    have q := q i j hi hj rfl rfl
    have tr := g.tree
    refine gn_of ?_
    try dsimp only
    have wo := way_ok (shp_ok tr) (i := i) (j := j) (by rw [shp_len]; exact hi) (by rw [shp_len]; exact hj)
    have lt := wo.lt
    have wne : (tks rs (wayI (shp rs) 12 i j)).length ≠ 0 := by
      rw [way_succ]
      exact Nat.succ_ne_zero _
    rw [shp_len] at lt
    clear wo
    have hq : ∀ H' t, Same H H' → PassAt K H' t rs (wayI (shp rs) 12 i j) → Q (.ref t) H' := q
    generalize wayI (shp rs) 12 i j = ws at ht1 hq lt wne
    refine ⟨.ref t1, rfl, 1, rfl, -1, rfl, slice_m1 ht1 wne fun z H2 hz s2 => ⟨z, rfl, ⟨_, hz⟩, ?_⟩⟩
    have ed : (tks rs ws).take ((tks rs ws).length - 1) = tks rs ws.dropLast := by
      unfold tks
      rw [← List.map_take, List.length_map, ← List.dropLast_eq_take]
    rw [ed] at hz
    have lt2 : ∀ x ∈ ws.dropLast, x < rs.length := fun x hx => lt x (List.dropLast_subset _ hx)
    unfold PassAt at hq
    generalize hds : ws.dropLast = ds at hz lt2 hq
    refine for_tup (xs := tks rs ds) (fun m σ H' => ∃ y4, σ = [some (.ref a), some (.int (tk rs i)), some (.int (tk rs j)), some (.ref t1), y4] ∧ Same H2 H' ∧ (ds.take m).find? (fun s => !(rs.getD s (0, none, false)).2.2) = none) ⟨none, rfl, Same.refl _, rfl⟩ (fun m σ H' _ hP => ?_) (fun m x σ H' hx hP => ?_) (fun σ H' hP => ?_)
    · obtain ⟨_, _, s, _⟩ := hP
      exact Same.seqT s hz
    · obtain ⟨y4, rfl, sm, no⟩ := hP
      have hm := (List.getElem?_eq_some_iff.mp hx).1
      unfold tks at hm hx
      rw [List.length_map] at hm
      rw [List.getElem?_map, List.getElem?_eq_getElem hm] at hx
      obtain rfl : V.int (tk rs ds[m]) = x := Option.some.inj hx
      have hs := lt2 _ (List.getElem_mem hm)
      have hc := ((ha.same s1).same s2).same sm
      obtain ⟨dx, R, T0, A0, B0, h1⟩ := hc.ins
      have et : ds.take (m + 1) = ds.take m ++ [ds[m]] := by rw [List.take_add_one, List.getElem?_eq_getElem hm]; rfl
      have eg : rs.getD ds[m] (0, none, false) = rs[ds[m]] := by rw [List.getD_eq_getElem?_getD, List.getElem?_eq_getElem hs]; rfl
      refine ⟨.ref a, rfl, a, dx, _, rfl, h1, rfl, .int (tk rs ds[m]), rfl, a, nx, rs, _, .int (tk rs ds[m]), rfl, hc, g.rise, .dp (.int _), no_tk hs, fun r hr er => ⟨_, rfl, ?_⟩⟩
      rw [row_tk tr.rise hs hr er]
      cases eb : (rs[ds[m]]).2.2 with
      | false =>
        refine iteT ⟨.int (tk rs ds[m]), rfl, by show 2 ≤ sizeLine; decide, fun t nt => ?_⟩
        have st := same_upd (o := .tup [V.str "barred", .int (tk rs ds[m])]) nt
        refine hq _ t (s1.trans (s2.trans (sm.trans st))) (.inl ⟨ds[m], ?_, SqT.of upd_same⟩)
        refine find_at hm no ?_
        rw [eg, eb]
        rfl
      | true =>
        refine iteF ⟨_, rfl, sm, ?_⟩
        rw [et, List.find?_append, no]
        simp only [Option.none_or, List.find?_cons, List.find?_nil]
        rw [eg, eb]
        rfl
    · obtain ⟨y4, rfl, sm, no⟩ := hP
      have : (tks rs ds).length = ds.length := List.length_map ..
      rw [this, List.take_length] at no
      refine ⟨.ref t1, rfl, by show 2 ≤ sizeLine; decide, fun t nt => ?_⟩
      have st := same_upd (o := .tup [V.str "passes", .ref t1]) nt
      exact hq _ t (s1.trans (s2.trans (sm.trans st))) (.inr ⟨no, t1, SqT.of upd_same, Same.seqT (s2.trans (sm.trans st)) ht1⟩)
end
end K35



set_option maxRecDepth 100000
set_option maxHeartbeats 2000000
/-! k35: who is met. -/
namespace K35
open PySem PySem.Spec PyProof.Rows L2 LamX VG TL
theorem scMetBy : FnScope ["clans", "stop", "pairs", "task", "other", "pair"] ["clans", "stop"] (defScope sMetBy) := ⟨rfl, rfl, rfl, by decide +kernel, rfl, by decide +kernel, by decide +kernel⟩
/-- a walk over a tuple, whatever a lap does -/
theorem walk_tup {K : PySem.W.Frag} {a : Addr} {xs : List V} {F : V → Hp → (Hp → Prop) → Prop} {Z : Hp → Prop} {H0 : Hp} (Pv : Nat → Hp → Prop) (h0 : Pv 0 H0) (hl : ∀ i H, i ≤ xs.length → Pv i H → SqT K H a xs) (hs : ∀ i x H, xs[i]? = some x → Pv i H → F x H (Pv (i + 1))) (hd : ∀ H, Pv xs.length H → Z H) :
    ∃ W : Nat → Nat → Hp → Prop, (∃ m, W 0 m H0) ∧ ∀ i m H, W i m H → ((Itt K a).stop i H ∧ Z H) ∨ ((Itt K a).go i H ∧ ∃ Nx : Hp → Prop, (∀ H', Nx H' → ∃ m', m' < m ∧ W (i + 1) m' H') ∧ ∀ x H', (Itt K a).yld i H x H' → F x H' Nx) := by
  refine ⟨fun i m G => i + m = xs.length ∧ Pv i G, ⟨xs.length, Nat.zero_add _, h0⟩, ?_⟩
  rintro i m G ⟨e, hp⟩
  have sq := hl i G (by omega) hp
  cases m with
  | zero =>
    obtain rfl : i = xs.length := e
    exact .inl ⟨⟨xs, sq, Nat.le_refl _⟩, hd G hp⟩
  | succ m =>
    have lt : i < xs.length := by omega
    refine .inr ⟨⟨xs, xs[i], sq, List.getElem?_eq_getElem lt⟩, Pv (i + 1), fun G' p' => ⟨m, Nat.lt_succ_self m, by omega, p'⟩, ?_⟩
    rintro x G' ⟨rfl, y⟩
    exact hs i x _ (y xs sq) hp
theorem sqT_updL {K : PySem.W.Frag} {H : Hp} {a D : Addr} {xs ys : List V} {o : HO} (h : SqT K H a xs) (hD : H D = some (.lst ys)) : SqT K (upd H D o) a xs := by
  rcases h with h | h
  · rcases h with h | ⟨o', h⟩
    · exact .inl (.inl (by rw [upd_ne (fun z => by rw [z, hD] at h; cases h)]; exact h))
    · exact .inl (.inr ⟨o', by rw [upd_ne (fun z => by rw [z, hD] at h; cases h)]; exact h⟩)
  · exact .inr h
def metI (p : Shp) (s : Nat) : List (Nat × Nat) := ((List.range p.length).flatMap fun i => (List.range p.length).map fun j => (i, j)).filter fun q => decide (s ∈ (wayI p 12 q.1 q.2).dropLast)
def Pairs (K : PySem.W.Frag) (H : Hp) (rs : List Row) (ys : List V) (qs : List (Nat × Nat)) : Prop := ys.length = qs.length ∧ ∀ (k : Nat) (q : Nat × Nat), qs[k]? = some q → ∃ p, ys[k]? = some (V.ref p) ∧ SqT K H p [.int (tk rs q.1), .int (tk rs q.2)]
theorem Pairs.same {K : PySem.W.Frag} {H H' : Hp} {rs : List Row} {ys : List V} {qs : List (Nat × Nat)} (h : Pairs K H rs ys qs) (s : Same H H') : Pairs K H' rs ys qs := ⟨h.1, fun k q e => let ⟨p, a, b⟩ := h.2 k q e; ⟨p, a, Same.seqT s b⟩⟩
theorem Pairs.snoc {K : PySem.W.Frag} {H : Hp} {rs : List Row} {ys : List V} {qs : List (Nat × Nat)} {p : Addr} {q : Nat × Nat} (h : Pairs K H rs ys qs) (hp : SqT K H p [.int (tk rs q.1), .int (tk rs q.2)]) : Pairs K H rs (ys ++ [.ref p]) (qs ++ [q]) := by
  refine ⟨by rw [List.length_append, List.length_append, h.1]; rfl, fun k z e => ?_⟩
  by_cases c : k < qs.length
  · rw [List.getElem?_append_left c] at e
    obtain ⟨p', a, b⟩ := h.2 k z e
    exact ⟨p', by rw [List.getElem?_append_left (by rw [h.1]; exact c)]; exact a, b⟩
  · rw [List.getElem?_append_right (by omega)] at e
    have hk : k - qs.length = 0 := by
      cases ek : k - qs.length with
      | zero => rfl
      | succ n => rw [ek] at e; cases e
    rw [hk] at e
    obtain rfl : q = z := Option.some.inj e
    exact ⟨p, by rw [List.getElem?_append_right (by rw [h.1]; omega), h.1, hk]; rfl, hp⟩
theorem tks_eq {rs : List Row} {xs : List Nat} : tks rs xs = (xs.map (tk rs)).map V.int := by unfold tks; rw [List.map_map]; rfl
def allP (n m : Nat) : List (Nat × Nat) := (List.range m).flatMap fun i => (List.range n).map fun j => (i, j)
theorem allP_len (n : Nat) : ∀ m, (allP n m).length = m * n
  | 0 => by simp [allP]
  | m + 1 => by
    unfold allP
    rw [List.range_succ, List.flatMap_append, List.length_append]
    have := allP_len n m
    unfold allP at this
    rw [this]
    simp [Nat.succ_mul]
theorem allP_mem {n m : Nat} {q : Nat × Nat} (h : q ∈ allP n m) : q.1 < m ∧ q.2 < n := by
  obtain ⟨i, hi, h⟩ := List.mem_flatMap.mp h
  obtain ⟨j, hj, rfl⟩ := List.mem_map.mp h
  exact ⟨List.mem_range.mp hi, List.mem_range.mp hj⟩
theorem mem_tks {rs : List Row} (h : Rise rs) {s : Nat} (hs : s < rs.length) {xs : List Nat} (lt : ∀ x ∈ xs, x < rs.length) : tk rs s ∈ xs.map (tk rs) ↔ s ∈ xs := by
  refine ⟨fun z => ?_, fun z => List.mem_map.mpr ⟨s, z, rfl⟩⟩
  obtain ⟨x, hx, e⟩ := List.mem_map.mp z
  rw [← tk_inj h (lt x hx) hs e]
  exact hx
section
variable {P : Program} {w : World} {K : PySem.W.Frag} {mg : Str → Option Value} {base : Heap}
def spMetBy (K : PySem.W.Frag) (C C2 : Addr) : Sp := fun vs H Q E => ∃ (a : Addr) (nx : Int) (rs : List Row) (v : V) (d : PyData), vs = [.ref a, v] ∧ ClansAt K C H a nx rs ∧ Good nx rs ∧ Dk K H v d ∧ (hasB d rs = false → Err H E C2 v) ∧
  (∀ s, s < rs.length → d = .int (tk rs s) → ∀ H' t ys, Same H H' → SqT K H' t ys → Pairs K H' rs ys (metI (shp rs) s) → Q (.ref t) H')
theorem ok_MetBy {k : Nat} {f : Addr} {fd : FuncData} {C C2:Addr} (F : Fun K "met_by" "met_by" sMetBy f fd) (gCk : CalM P w K mg base (L2.CX P w) C "check_task" (k + 14) ["self", "value"] (spCheckTask K C C2)) (gWy : Cal P w K mg base (L2.CX P w) (k + 14) "way" ["clans", "task", "other"] (spWay K C C2)) (T : CF K C) (ftuple : mg "tuple" = none) : FnOk P w K mg base (L2.CX P w) (k + 15) f fd ["clans", "stop"] (spMetBy K C C2) := by
  obtain ⟨fCk, fdCk, GCk, MCk, bCk⟩ := gCk
  obtain ⟨fWy, fdWy, GWy, kWy, bWy, mWy⟩ := gWy
  refine F.okX scMetBy (fun vs H Q E h => ?_) (fun cdv A outer s H vs Q E hr h => ?_)
  · obtain ⟨a, nx, rs, v, d, rfl, _⟩ := h
    rfl
  · obtain ⟨a, nx, rs, v, d, rfl, ha, g, hd, qe, q⟩ := h
    refine ⟨_, (pss_cons (ps_expr (pe_meth (pv 0) T.cl MCk GCk hr bCk .nil (passes_call (takes_of rfl rfl rfl rfl) fun _ _ _ _ h => h) (pa_cons (pv 1) pa_nil))) (pss_cons (ps_setLc2 (i := 2) rfl scMetBy.nd rfl rfl (by rfl) (own := [("task", 3), ("other", 4)]) (vs1 := [4]) (g := (gName 3)) (g1 := (gName 4)) (tt := tYes) (tt1 := tYes) (pi_tup (pe_fld (pv 0) rfl)) (blkOk_by (N := ["clans", "stop", "pairs", "task", "other", "pair"]) (sc := defScope sMetBy) (by decide +kernel)) (by decide) (fun _ _ _ _ _ => (pg_name (i := 3) scMetBy.nd rfl (.inl rfl))) (fun _ _ _ _ _ => pts_nil) (fun _ _ _ _ _ => (show PI _ _ _ (iTup K _) from (pi_tup (show PE _ _ (tFld K _ "tasks") from pe_fld (pv 0) rfl)))) (fun _ _ _ _ _ => (pg_name (i := 4) scMetBy.nd rfl (.inl rfl))) (fun _ _ _ _ _ => pts_nil) (fun _ _ _ _ _ => (pe_tup (pa_cons (pv 3) (pa_cons (pv 4) pa_nil))))) (pss_cons (ps_ret (pe_callTy call_tuple_of (by rfl) ftuple (by decide +kernel) (pa_cons (pe_lc (own := [("pair", 5)]) (g := (gName 5)) (tt := _) rfl scMetBy.nd (pi_list (pv 2)) (blkOk_by (N := ["clans", "stop", "pairs", "task", "other", "pair"]) (sc := defScope sMetBy) (by decide +kernel)) (fun _ _ _ _ _ => (pg_name (i := 5) scMetBy.nd rfl (.inl rfl))) (fun _ _ _ _ _ => (pts_one (pt_cmpR (show OpR _ (compareOp .In) (rIn K false) from op_in_seq) (pv 1) (show PE _ _ (tSl (rSlA K) _ _ _) from (pe_slice sl_tupA (pe_call GWy hr (by rfl) mWy kWy bWy .nil passX (pa_cons (pv 0) (pa_cons (pe_ix (show IxR _ (rIxT K) from ix_tup) (pv 5) pe_int (fun _ _ => rfl)) (pa_cons (pe_ix (show IxR _ (rIxT K) from ix_tup) (pv 5) pe_int (fun _ _ => rfl)) pa_nil)))) po_none (po_some (pe_un un_neg pe_int)))) (by rfl)))) (fun _ _ _ _ _ => (pv 5))) pa_nil))) (PSs.nox pss_nil)))), ?_⟩
    obtain ⟨dx, R, T0, A0, B0, h1, h2, h4, h5, h6⟩ := id ha
    refine ⟨.ref a, rfl, a, dx, _, rfl, h1, rfl, v, rfl, a, nx, rs, v, d, rfl, ha, hd, qe, fun e1 => ?_⟩
    obtain ⟨s, hs, rfl⟩ := has_tk e1
    obtain rfl := dk_int hd
    have q := q s hs rfl
    have tr := g.tree
    have few := g.few
    have two : 2 ≤ sizeLine := by decide
    have l6 : ((rs.map (·.1)).map V.int).length = rs.length := by rw [List.length_map, List.length_map]
    have at_ : ∀ {m : Nat} {x : V}, ((rs.map (·.1)).map V.int)[m]? = some x → m < rs.length ∧ x = .int (tk rs m) := fun {m x} hx => by
      have hm := (List.getElem?_eq_some_iff.mp hx).1
      rw [l6] at hm
      rw [List.getElem?_map, List.getElem?_map, List.getElem?_eq_getElem hm] at hx
      exact ⟨hm, by rw [tk_row hm]; exact (Option.some.inj hx).symm⟩
    try dsimp only
    refine ⟨.ref a, rfl, a, C, dx, _, .ref T0, rfl, h1, T.cl, T.nK, rfl, T0, rfl, ⟨_, h4⟩, fun D nD => ?_⟩
    refine walk_tup (xs := (rs.map (fun r : Row => r.1)).map V.int) (fun i H' => Same H H' ∧ ∃ ys, H' D = some (.lst ys) ∧ Pairs K H' rs ys (allP rs.length i)) ⟨same_upd nD, [], upd_same, rfl, fun k q e => by cases e⟩ (fun i H' _ hP => Same.seqT hP.1 h4) (fun i x H' hx hP => ?_) (fun H1 hP => ?_)
    · obtain ⟨sm, ys, hD, hp⟩ := hP
      obtain ⟨hi, rfl⟩ := at_ hx
      refine ⟨rfl, ?_⟩
      unfold tYes
      refine iteT ⟨.ref a, rfl, a, C, dx, _, .ref T0, rfl, sm _ _ h1, T.cl, T.nK, rfl, T0, rfl, ⟨_, Same.seqT sm h4⟩, ?_⟩
      refine walk_tup (xs := (rs.map (fun r : Row => r.1)).map V.int) (fun j H'' => Same H H'' ∧ ∃ ys, H'' D = some (.lst ys) ∧ Pairs K H'' rs ys (allP rs.length i ++ (List.range j).map fun j => (i, j))) ⟨sm, ys, hD, by rw [List.range_zero, List.map_nil, List.append_nil]; exact hp⟩ (fun j H'' _ hP => Same.seqT hP.1 h4) (fun j x H'' hx hP => ?_) (fun H'' hP => ?_)
      · obtain ⟨sm, ys, hD, hp⟩ := hP
        obtain ⟨hj, rfl⟩ := at_ hx
        refine ⟨rfl, iteT ⟨.int (tk rs i), rfl, .int (tk rs j), rfl, two, fun t nt => ?_⟩⟩
        have st := same_upd (o := .tup [V.int (tk rs i), .int (tk rs j)]) nt
        have hl : ys.length ≤ 42 := by
          rw [hp.1, List.length_append, allP_len, List.length_map, List.length_range]
          have : i * rs.length ≤ 6 * 6 := Nat.mul_le_mul (by omega) few
          omega
        have hD2 := st _ _ hD
        refine ⟨ys, hD2, small1000 (by omega), Same.updNew (sm.trans st) nD, _, upd_same, ?_⟩
        have nDt : D ≠ t := fun z => by rw [z, nt] at hD; cases hD
        have hp2 : Pairs K (upd (upd H'' t (.tup [V.int (tk rs i), .int (tk rs j)])) D (.lst (ys ++ [.ref t]))) rs (ys ++ [.ref t]) ((allP rs.length i ++ (List.range j).map fun j => (i, j)) ++ [(i, j)]) := by
          refine Pairs.snoc ⟨hp.1, fun k q e => ?_⟩ ?_
          · obtain ⟨p, e1, e2⟩ := hp.2 k q e
            refine ⟨p, e1, ?_⟩
            exact sqT_updL (Same.seqT st e2) hD2
          · exact sqT_updL (SqT.of upd_same) hD2
        rw [List.range_succ, List.map_append, ← List.append_assoc]
        exact hp2
      · obtain ⟨sm, ys, hD, hp⟩ := hP
        rw [l6] at hp
        refine ⟨sm, ys, hD, ?_⟩
        unfold allP at hp ⊢
        rw [List.range_succ, List.flatMap_append, List.flatMap_singleton]
        exact hp
    · obtain ⟨s1, ps, hD, hp⟩ := hP
      rw [l6] at hp
      refine gn_of ?_
      try dsimp only
      refine ⟨.ref D, rfl, D, rfl, ⟨_, SqL.of hD⟩, fun E2 nE => ?_⟩
      have hlen : ps.length ≤ 36 := by
        rw [hp.1, allP_len]
        exact Nat.mul_le_mul few few
      refine lc_list (xs := ps) (fun k H' => Same H1 H' ∧ ∃ ys, H' E2 = some (.lst ys) ∧ ys.length ≤ k ∧ Pairs K H' rs ys (((allP rs.length rs.length).take k).filter fun q => decide (s ∈ (wayI (shp rs) 12 q.1 q.2).dropLast))) ⟨same_upd nE, [], upd_same, Nat.le_refl _, rfl, fun k q e => by cases e⟩ (fun k H' _ hP => SqL.of (hP.1 _ _ hD)) (fun k x H' hx hP => ?_) (fun H2 hP => ?_)
      · obtain ⟨sm, ys, hE, hl, hy⟩ := hP
        have hk := (List.getElem?_eq_some_iff.mp hx).1
        have hk2 : k < (allP rs.length rs.length).length := by rw [← hp.1]; exact hk
        obtain ⟨p, ep, hpp⟩ := hp.2 k _ (List.getElem?_eq_getElem hk2)
        rw [hx] at ep
        obtain rfl : x = .ref p := Option.some.inj ep
        have hq := allP_mem (List.getElem_mem hk2)
        have et : (allP rs.length rs.length).take (k + 1) = (allP rs.length rs.length).take k ++ [(allP rs.length rs.length)[k]] := by rw [List.take_add_one, List.getElem?_eq_getElem hk2]; rfl
        rw [et, List.filter_append]
        generalize (allP rs.length rs.length)[k] = z at hpp hq ⊢
        obtain ⟨i, j⟩ := z
        obtain ⟨hi, hj⟩ := hq
        have hi : i < rs.length := hi
        have hj : j < rs.length := hj
        have hpm := Same.seqT sm hpp
        have wo := way_ok (shp_ok tr) (i := i) (j := j) (by rw [shp_len]; exact hi) (by rw [shp_len]; exact hj)
        have lt := wo.lt
        rw [shp_len] at lt
        have wne : (tks rs (wayI (shp rs) 12 i j)).length ≠ 0 := by
          rw [way_succ]
          exact Nat.succ_ne_zero _
        have s1m := s1.trans sm
        refine ⟨rfl, .int (tk rs s), rfl, .ref a, rfl, .ref p, rfl, p, _, _, _, rfl, rfl, hpm, at0, .ref p, rfl, p, _, _, _, rfl, rfl, hpm, at1, a, nx, rs, _, _, .int (tk rs i), .int (tk rs j), rfl, ha.same s1m, g, .dp (.int _), .dp (.int _), no_tk hi, fun _ => no_tk hj, fun i' j' hi' hj' e1 e2 H3 t3 s3 ht3 => ?_⟩
        have e1 : i = i' := tk_inj tr.rise hi hi' (by injection e1)
        have e2 : j = j' := tk_inj tr.rise hj hj' (by injection e2)
        subst e1
        subst e2
        refine ⟨1, rfl, -1, rfl, slice_m1 ht3 wne fun y H4 hy4 s4 => ?_⟩
        have ed : (tks rs (wayI (shp rs) 12 i j)).take ((tks rs (wayI (shp rs) 12 i j)).length - 1) = tks rs (wayI (shp rs) 12 i j).dropLast := by
          unfold tks
          rw [← List.map_take, List.length_map, ← List.dropLast_eq_take]
        rw [ed, tks_eq] at hy4
        refine ⟨y, _, rfl, .inr hy4, rfl, flat_ints _, ?_⟩
        rw [inV_ints, decide_eq_decide.mpr (mem_tks tr.rise hs fun x hx => lt x (List.dropLast_subset _ hx))]
        have s34 := s3.trans s4
        refine ⟨_, rfl, ?_⟩
        by_cases c : s ∈ (wayI (shp rs) 12 i j).dropLast
        · refine iteD c ⟨.ref p, rfl, ys, s34 _ _ hE, small1000 (by omega), Same.updNew (sm.trans s34) nE, _, upd_same, by rw [List.length_append, List.length_singleton]; omega, ?_⟩
          rw [show List.filter (fun q : Nat × Nat => decide (s ∈ (wayI (shp rs) 12 q.1 q.2).dropLast)) [(i, j)] = [(i, j)] from by rw [List.filter_cons, if_pos (decide_eq_true c)]; rfl]
          have hE4 := s34 _ _ hE
          refine Pairs.snoc ⟨hy.1, fun k q e => ?_⟩ (sqT_updL (Same.seqT s34 hpm) hE4)
          obtain ⟨p', a1, a2⟩ := hy.2 k q e
          exact ⟨p', a1, sqT_updL (Same.seqT s34 a2) hE4⟩
        · refine iteE c ⟨sm.trans s34, ys, s34 _ _ hE, Nat.le_succ_of_le hl, ?_⟩
          rw [show List.filter (fun q : Nat × Nat => decide (s ∈ (wayI (shp rs) 12 q.1 q.2).dropLast)) [(i, j)] = [] from by rw [List.filter_cons, if_neg (by rw [decide_eq_false c]; exact Bool.false_ne_true)]; rfl, List.append_nil]
          exact hy.same s34
      · obtain ⟨sm, ys, hE, hl, hy⟩ := hP
        refine ⟨E2, ys, rfl, .inl ⟨SqL.of hE, fun t nt => ?_⟩⟩
        have st := same_upd (o := .tup ys) nt
        refine q _ t ys (s1.trans (sm.trans st)) (SqT.of upd_same) ?_
        rw [hp.1, List.take_length] at hy
        have em : metI (shp rs) s = (allP rs.length rs.length).filter fun q => decide (s ∈ (wayI (shp rs) 12 q.1 q.2).dropLast) := by
          unfold metI allP
          rw [shp_len]
        rw [em]
        exact hy.same st
end
end K35



set_option maxRecDepth 100000
set_option maxHeartbeats 8000000
/-! k35: what can be shown. -/
namespace K35
open PySem PySem.Spec PyProof.Rows L2 LamX VG TL
theorem okNT {k m n : Nat} {ds : List PyData} (h : ∀ d ∈ ds, okN k m d) (hl : ds.length ≤ n) : okN (k + 1) (n * (m + 1)) (.tuple ds) := by
  obtain ⟨i1, i2, i3, i4, i5⟩ := okN.all h
  have : (m + 1) * ds.length ≤ n * (m + 1) := by rw [Nat.mul_comm]; exact Nat.mul_le_mul_right _ hl
  refine ⟨by simpa [PyData.leavesShort] using i1, by simp only [PyData.weight]; omega, by simpa [PyData.showable] using i3, by simp only [PyData.depth]; omega, by simpa [PyData.canLay0] using i5⟩
theorem eqv_ints : ∀ {as bs : List Int}, PyData.eqv (.tuple (as.map .int)) (.tuple (bs.map .int)) = decide (as = bs) := by
  intro as bs
  have go : ∀ as bs : List Int, PyData.eqvAll (as.map .int) (bs.map .int) = decide (as = bs) := by
    intro as
    induction as with
    | nil => intro bs; cases bs <;> simp [PyData.eqvAll]
    | cons a as ih =>
      intro bs
      cases bs with
      | nil => simp [PyData.eqvAll]
      | cons b bs =>
        have e : (a == b) = decide (a = b) := by by_cases h : a = b <;> simp [h]
        simp [PyData.eqvAll, PyData.eqv, ih bs, e]
  simpa only [PyData.eqv] using go as bs
theorem shaped_ints {rs : List Int} : SeqAt.shaped (.tuple (rs.map .int)) = true := by
  unfold SeqAt.shaped
  have h1 : ∀ rs : List Int, PyData.canLayAll0 (rs.map .int) = true := fun rs => by
    induction rs with
    | nil => rfl
    | cons a as ih => rw [List.map_cons]; simp [PyData.canLayAll0, PyData.canLay0, ih]
  have h2 : ∀ rs : List Int, PyData.depthAll (rs.map .int) ≤ 1 := fun rs => by
    induction rs with
    | nil => simp [PyData.depthAll]
    | cons a as ih => rw [List.map_cons]; simp only [PyData.depthAll, PyData.depth]; omega
  have h3 : PyData.canLay0 (.tuple (rs.map .int)) = true := by simp only [PyData.canLay0]; exact h1 rs
  rw [h3, decide_eq_true (by have := h2 rs; simp only [PyData.depth]; omega)]
  rfl
theorem int_ok {i : Int} (h : 0 ≤ i ∧ i ≤ 1000) : okData (.int i) = true := (okN.int (by omega) (by omega)).ok (by decide) (by decide)
theorem dpInts {K : PySem.W.Frag} {H : Hp} : ∀ {rs : List Int}, DpAll K H (rs.map V.int) (rs.map PyData.int)
  | [] => .nil
  | _ :: rs => .cons (.int _) (dpInts (rs := rs))
theorem eqv_intsL {as bs : List Int} : PyData.eqv (.list (as.map .int)) (.list (bs.map .int)) = decide (as = bs) := by
  have h := @eqv_ints as bs
  simp only [PyData.eqv] at h ⊢
  exact h
theorem shaped_intsL {rs : List Int} : SeqAt.shaped (.list (rs.map .int)) = true := by
  have h := @shaped_ints rs
  unfold SeqAt.shaped at h ⊢
  simp only [PyData.canLay0, PyData.depth] at h ⊢
  exact h
end K35



set_option maxRecDepth 100000
set_option maxHeartbeats 2000000
/-! k35: ways, the law's own. -/
namespace K35
open PySem PySem.Spec PyProof.Rows L2 LamX VG TL
theorem scHouseStraight : FnScope ["house", "task", "other", "chiefs"] ["house", "task", "other"] (defScope sHouseStraight) := ⟨rfl, rfl, rfl, by decide +kernel, rfl, by decide +kernel, by decide +kernel⟩
theorem scHouseWay : FnScope ["house", "task", "other", "found", "here", "line", "one", "inward"] ["house", "task", "other"] (defScope sHouseWay) := ⟨rfl, rfl, rfl, by decide +kernel, rfl, by decide +kernel, by decide +kernel⟩
theorem scSort : FnScope ["house", "task", "other", "fellows", "under", "one"] ["house", "task", "other"] (defScope sSort) := ⟨rfl, rfl, rfl, by decide +kernel, rfl, by decide +kernel, by decide +kernel⟩
section
variable {P : Program} {w : World} {K : PySem.W.Frag} {mg : Str → Option Value} {base : Heap}
def HTwo (res : List Row → Nat → Nat → Hp → VK → Prop) : Sp := fun vs H Q _ => ∃ (h : Addr) (nx : Int) (rs : List Row) (i j : Nat), vs = [.ref h, .int (tk rs i), .int (tk rs j)] ∧ HAt H h nx rs ∧ Good nx rs ∧ i < rs.length ∧ j < rs.length ∧ res rs i j H Q
theorem ch_get {H : Hp} {cc : Addr} {rs : List Row} {i : Nat} (h : H cc = some (.dK (chKV rs))) (t : Tree rs) (hi : i < rs.length) : DGet H cc (.int (tk rs i)) (some (optI ((chI (shp rs) i).map (tk rs)))) := by
  rw [← (chI_row t hi).1, tk_row hi]
  exact dget_of (k := Sum.inl (rs[i]).1) h (val_row (f := fun r => optI r.2.1) t.rise (List.getElem_mem hi))
def spHStraight (K : PySem.W.Frag) : Sp := HTwo fun rs i j H Q => Q (.bl (strI (shp rs) i j)) H
theorem ok_HouseStraight {k : Nat} {f : Addr} {fd : FuncData}  (F : Fun K "_law_house_is_straight" "_law_house_is_straight" sHouseStraight f fd)    : FnOk P w K mg base CX0 (k + 1) f fd ["house", "task", "other"] (spHStraight K) := by
  refine F.ok scHouseStraight (fun vs H Q E h => ?_) (fun cdv A outer s H vs Q E hr h => ?_)
  · obtain ⟨h, nx, rs, i, j, rfl, _⟩ := h
    rfl
  · obtain ⟨h, nx, rs, i, j, rfl, hh, g, hi, hj, q⟩ := h
    refine ⟨_, (pss_cons (ps_set (i := 3) scHouseStraight.nd rfl (.inl rfl) (pe_dget (hu_of hr) (pv 0) pe_str (fun _ _ => rfl))) (pss_one (ps_ret (pe_or (pe_cmpR op_eq (pv 1) (pv 2) (nomark _)) (pe_or (pe_cmpR op_eq (pe_dget (hu_of hr) (pv 3) (pv 1) (fun _ _ => rfl)) (pe_dget (hu_of hr) (pv 3) (pv 2) (fun _ _ => rfl)) (nomark _)) (pe_or (pe_cmpR op_eq (pe_dget (hu_of hr) (pv 3) (pv 1) (fun _ _ => rfl)) (pv 2) (nomark _)) (pe_one (pe_cmpR op_eq (pe_dget (hu_of hr) (pv 3) (pv 2) (fun _ _ => rfl)) (pv 1) (nomark _))))))))), ?_⟩
    obtain ⟨cc, b, h1, h2, h3⟩ := id hh
    have tr := g.tree
    have gi := ch_get h2 tr hi
    have gj := ch_get h2 tr hj
    refine ⟨.ref h, rfl, h, _, rfl, g_chiefs h1, ?_⟩
    refine gn_of ?_
    try dsimp only
    unfold strI at q
    refine ⟨.int (tk rs i), rfl, .int (tk rs j), rfl, rfl, _, rfl, ?_⟩
    by_cases e0 : i = j
    · subst e0
      rw [decide_eq_true rfl] at q
      exact iteD rfl q
    refine iteE (fun z => e0 (tk_inj tr.rise hi hj (V.int.inj z))) ?_
    refine ⟨.ref cc, rfl, .int (tk rs i), rfl, cc, _, rfl, gi, .ref cc, rfl, .int (tk rs j), rfl, cc, _, rfl, gj, by cases chI (shp rs) i <;> cases chI (shp rs) j <;> rfl, ?_⟩
    rw [dec_opts]
    refine ⟨_, rfl, ?_⟩
    by_cases c1 : chI (shp rs) j = chI (shp rs) i
    · rw [decide_eq_true c1] at q
      exact iteD (by rw [c1]) q
    refine iteE (fun z => c1 ((map_tk tr hi hj).mp z.symm)) ?_
    rw [decide_eq_false c1, Bool.false_or] at q
    refine ⟨.ref cc, rfl, .int (tk rs i), rfl, cc, _, rfl, gi, .int (tk rs j), rfl, by cases chI (shp rs) i <;> rfl, ?_⟩
    rw [dec_opt]
    refine ⟨_, rfl, ?_⟩
    by_cases c2 : chI (shp rs) i = some j
    · rw [decide_eq_true c2, Bool.or_true] at q
      exact iteD ((some_tk tr hj hi).mpr c2) q
    refine iteE (fun z => c2 ((some_tk tr hj hi).mp z)) ?_
    rw [decide_eq_false c2, Bool.or_false] at q
    refine ⟨.ref cc, rfl, .int (tk rs j), rfl, cc, _, rfl, gj, .int (tk rs i), rfl, by cases chI (shp rs) j <;> rfl, ?_⟩
    rw [dec_opt, decide_eq_decide.mpr (some_tk tr hi hj)]
    exact q
def spSort (K : PySem.W.Frag) : Sp := HTwo fun rs i j H Q => ∀ H', Same H H' → Q (.str (sortI (shp rs) i j)) H'
theorem ok_Sort {k : Nat} {f : Addr} {fd : FuncData}  (F : Fun K "_law_sort" "_law_sort" sSort f fd) (gHc : Cal P w K mg base CX0 (k + 2) "_law_house_clan" ["house", "task"] (spHouseClan K)) (gHn : Cal P w K mg base CX0 (k + 2) "_law_house_beneath" ["house", "task"] (spHouseBeneath K))   : FnOk P w K mg base CX0 (k + 3) f fd ["house", "task", "other"] (spSort K) := by
  obtain ⟨fHc, fdHc, GHc, kHc, bHc, mHc⟩ := gHc
  obtain ⟨fHn, fdHn, GHn, kHn, bHn, mHn⟩ := gHn
  refine F.ok scSort (fun vs H Q E h => ?_) (fun cdv A outer s H vs Q E hr h => ?_)
  · obtain ⟨h, nx, rs, i, j, rfl, _⟩ := h
    rfl
  · obtain ⟨h, nx, rs, i, j, rfl, hh, g, hi, hj, q⟩ := h
    refine ⟨_, (pss_cons (ps_set (i := 3) scSort.nd rfl (.inl rfl) (pe_call GHc hr (by rfl) mHc kHc bHc .nil pass0 (pa_cons (pv 0) (pa_cons (pv 1) pa_nil)))) (pss_cons (ps_if (pt_cmpR op_eq (pv 1) (pv 2) (nomark _)) (pss_one (ps_ret pe_str)) pss_nil) (pss_cons (ps_if (pt_cmpR op_in_seq (pv 2) (pv 3) (by rfl)) (pss_one (ps_ret pe_str)) pss_nil) (pss_cons (ps_setLc (i := 4) (own := [("one", 5)]) (g := (gName 5)) (tt := _) rfl scSort.nd rfl rfl (by rfl) (pi_list (pv 3)) (blkOk_by (N := ["house", "task", "other", "fellows", "under", "one"]) (sc := defScope sSort) (by decide +kernel)) (fun _ _ _ _ _ => (pg_name (i := 5) scSort.nd rfl (.inl rfl))) (fun _ _ _ _ _ => (pts_one (pt_cmpR (show OpR _ (compareOp .In) (rIn K false) from op_in_seq) (pv 2) (pe_call GHn hr (by rfl) mHn kHn bHn .nil pass0 (pa_cons (pv 0) (pa_cons (pv 5) pa_nil))) (by rfl)))) (fun _ _ _ _ _ => (pv 5))) (pss_one (ps_ret (pe_ifExp (pt_cmpR (op_neD hr.units) (pv 4) (pe_lst pa_nil) (nomark _)) pe_str pe_str))))))), ?_⟩
    have tr := g.tree
    have few := g.few
    have eb : ∀ {o : Nat}, o < rs.length → (tk rs j ∈ beR rs (tk rs o) ↔ o ∈ ancI (shp rs) j) := fun ho => by rw [← bn_be tr g.low]; exact mem_bn tr g.low ho hj
    refine ⟨.ref h, rfl, .int (tk rs i), rfl, h, nx, rs, rs[i], by rw [tk_row hi]; rfl, hh, g, List.getElem_mem hi, fun H1 L s1 hL => ?_⟩
    refine gn_of ?_
    try dsimp only
    refine ⟨.int (tk rs i), rfl, .int (tk rs j), rfl, rfl, _, rfl, ?_⟩
    by_cases e0 : i = j
    · subst e0
      have q := q H1 s1
      unfold sortI at q
      rw [if_pos rfl] at q
      exact iteD rfl q
    refine iteE (fun z => e0 (tk_inj tr.rise hi hj (V.int.inj z))) (next_of ?_)
    refine ⟨.int (tk rs j), rfl, .ref L, rfl, L, _, rfl, .inl (SqL.of hL), rfl, flat_ints _, ?_⟩
    rw [inV_ints]
    refine ⟨_, rfl, ?_⟩
    by_cases c1 : chI (shp rs) j = chI (shp rs) i
    · refine iteD ((mem_cl tr hi hj).mpr c1) ?_
      have q := q H1 s1
      unfold sortI at q
      rw [if_neg e0, if_pos c1] at q
      exact q
    refine iteE (fun z => c1 ((mem_cl tr hi hj).mp z)) (next_of ?_)
    have lcl : (clR rs (rs[i])).length ≤ 6 := by unfold clR; rw [List.length_map]; exact Nat.le_trans (List.length_filter_le _ _) few
    refine ⟨.ref L, rfl, L, rfl, ⟨_, SqL.of hL⟩, fun D nD => ?_⟩
    refine lc_list (xs := (clR rs (rs[i])).map V.int) (fun m H' => Same H1 H' ∧ H' D = some (.lst ((((clR rs (rs[i])).take m).filter fun c => decide (tk rs j ∈ beR rs c)).map V.int))) ⟨same_upd nD, upd_same⟩ (fun m H' _ hP => SqL.of (hP.1 _ _ hL)) (fun m x H' hx hP => ?_) fun H2 hP => ?_
    · obtain ⟨sm, hD⟩ := hP
      have hm := (List.getElem?_eq_some_iff.mp hx).1
      rw [List.length_map] at hm
      rw [List.getElem?_map, List.getElem?_eq_getElem hm] at hx
      obtain rfl : V.int (clR rs rs[i])[m] = x := Option.some.inj hx
      have et : (clR rs rs[i]).take (m + 1) = (clR rs rs[i]).take m ++ [(clR rs rs[i])[m]] := by rw [List.take_add_one, List.getElem?_eq_getElem hm]; rfl
      rw [et, List.filter_append]
      have lf : (((clR rs rs[i]).take m).filter fun c => decide (tk rs j ∈ beR rs c)).length ≤ 6 := Nat.le_trans (List.length_filter_le _ _) (by rw [List.length_take]; omega)
      generalize (clR rs rs[i])[m] = c
      refine ⟨rfl, .int (tk rs j), rfl, .ref h, rfl, .int c, rfl, h, nx, rs, c, rfl, (hh.same s1).same sm, g, fun H3 B s3 hB => ⟨B, _, rfl, .inl (SqL.of hB), rfl, flat_ints _, ?_⟩⟩
      rw [inV_ints]
      refine ⟨_, rfl, ?_⟩
      by_cases cb : tk rs j ∈ beR rs c
      · refine iteD cb ⟨.int c, rfl, _, s3 _ _ hD, small1000 (by rw [List.length_map]; omega), Same.updNew (sm.trans s3) nD, ?_⟩
        rw [upd_same, show List.filter (fun c => decide (tk rs j ∈ beR rs c)) [c] = [c] from by rw [List.filter_cons, if_pos (decide_eq_true cb)]; rfl, List.map_append]
        rfl
      · refine iteE cb ⟨sm.trans s3, ?_⟩
        rw [show List.filter (fun c => decide (tk rs j ∈ beR rs c)) [c] = [] from by rw [List.filter_cons, if_neg (by rw [decide_eq_false cb]; exact Bool.false_ne_true)]; rfl, List.append_nil]
        exact s3 _ _ hD
    · obtain ⟨sm, hD⟩ := hP
      rw [List.length_map, List.take_length] at hD
      refine gn_of ?_
      try dsimp only
      have ea := any_cl tr g.low hi hj
      have eab : (clR rs rs[i]).any (fun c => decide (tk rs j ∈ bnR rs c)) = (clR rs rs[i]).any (fun c => decide (tk rs j ∈ beR rs c)) := by
        congr 1
        funext c
        rw [bn_be tr g.low]
      rw [eab] at ea
      generalize hus : (clR rs rs[i]).filter (fun c => decide (tk rs j ∈ beR rs c)) = us at hD
      refine ⟨.ref D, rfl, by show 0 ≤ sizeLine; decide, fun Z nZ => ?_⟩
      have sZ := same_upd (o := .lst []) nZ
      refine ⟨.list (us.map .int), .list (([] : List Int).map .int), .lst (SqL.of (sZ _ _ hD)) dpInts, .lst (SqL.of upd_same) .nil, shaped_intsL, shaped_intsL, _, rfl, ?_⟩
      rw [eqv_intsL]
      have q := q _ (s1.trans (sm.trans sZ))
      unfold sortI at q
      rw [if_neg e0, if_neg c1, ← ea] at q
      by_cases eu : us = []
      · refine iteNF eu ?_
        have : (clR rs rs[i]).any (fun c => decide (tk rs j ∈ beR rs c)) = false := by
          rw [← hus, List.filter_eq_nil_iff] at eu
          rw [List.any_eq_false]
          exact eu
        rw [if_neg (by rw [this]; exact Bool.false_ne_true)] at q
        exact q
      · refine iteNE eu ?_
        have : (clR rs rs[i]).any (fun c => decide (tk rs j ∈ beR rs c)) = true := by
          obtain ⟨c, hc⟩ := List.exists_mem_of_ne_nil _ eu
          rw [← hus] at hc
          obtain ⟨h1, h2⟩ := List.mem_filter.mp hc
          exact List.any_eq_true.mpr ⟨c, h1, h2⟩
        rw [if_pos this] at q
        exact q
end
end K35



set_option maxRecDepth 100000
set_option maxHeartbeats 2000000
/-! k35: the law's own way. -/
namespace K35
open PySem PySem.Spec PyProof.Rows L2 LamX VG TL
theorem anc_in {rs : List Row} (t : Tree rs) {j o : Nat} (hj : j < rs.length) (h : o ∈ j :: ancI (shp rs) j) : o < rs.length := by
  rcases List.mem_cons.mp h with rfl | h
  · exact hj
  · have := anc_lt (chI_lt t) 6 _ j (fun c e => chI_lt t j c e) o h
    omega
theorem upI_len (p : Shp) : ∀ (f : Nat) (o : Option Nat), (upI p f o).length ≤ f
  | 0, _ => Nat.le_refl _
  | _ + 1, none => Nat.zero_le _
  | f + 1, some c => Nat.succ_le_succ (upI_len p f _)
theorem take_filter {f : Nat → Bool} {xs : List Nat} {m : Nat} (hm : m < xs.length) : (xs.take (m + 1)).filter f = (xs.take m).filter f ++ (if f xs[m] = true then [xs[m]] else []) := by
  rw [List.take_add_one, List.getElem?_eq_getElem hm, List.filter_append]
  show _ ++ [xs[m]].filter f = _
  rw [List.filter_cons]
  rfl
theorem tks_app {rs : List Row} {xs ys : List Nat} : tks rs (xs ++ ys) = tks rs xs ++ tks rs ys := List.map_append ..
theorem tks_at {rs : List Row} {xs : List Nat} {m : Nat} {x : V} (h : (tks rs xs)[m]? = some x) : ∃ hm : m < xs.length, x = .int (tk rs xs[m]) := by
  have hm := (List.getElem?_eq_some_iff.mp h).1
  unfold tks at hm h
  rw [List.length_map] at hm
  rw [List.getElem?_map, List.getElem?_eq_getElem hm] at h
  exact ⟨hm, (Option.some.inj h).symm⟩
theorem tks_len {rs : List Row} {xs : List Nat} : (tks rs xs).length = xs.length := List.length_map ..
section
variable {P : Program} {w : World} {K : PySem.W.Frag} {mg : Str → Option Value} {base : Heap}
def spHWay (K : PySem.W.Frag) : Sp := HTwo fun rs i j H Q => ∀ H' t, Same H H' → SqT K H' t (tks rs (wayI (shp rs) 12 i j)) → Q (.ref t) H'
theorem ok_HouseWay {k : Nat} {f : Addr} {fd : FuncData}  (F : Fun K "_law_house_way" "_law_house_way" sHouseWay f fd) (gHs : Cal P w K mg base CX0 (k + 2) "_law_house_is_straight" ["house", "task", "other"] (spHStraight K)) (gHu : Cal P w K mg base CX0 (k + 2) "_law_house_up" ["house", "task"] (spHouseUp K)) (gHc : Cal P w K mg base CX0 (k + 2) "_law_house_clan" ["house", "task"] (spHouseClan K))  (ftuple : mg "tuple" = none) : FnOk P w K mg base CX0 (k + 3) f fd ["house", "task", "other"] (spHWay K) := by
  obtain ⟨fHs, fdHs, GHs, kHs, bHs, mHs⟩ := gHs
  obtain ⟨fHu, fdHu, GHu, kHu, bHu, mHu⟩ := gHu
  obtain ⟨fHc, fdHc, GHc, kHc, bHc, mHc⟩ := gHc
  refine F.ok scHouseWay (fun vs H Q E h => ?_) (fun cdv A outer s H vs Q E hr h => ?_)
  · obtain ⟨h, nx, rs, i, j, rfl, _⟩ := h
    rfl
  · obtain ⟨h, nx, rs, i, j, rfl, hh, g, hi, hj, q⟩ := h
    refine ⟨_, (pss_cons (ps_asg (pe_tup (pa_cons (pe_lst pa_nil) (pa_cons (pv 1) pa_nil))) (pg_tup (by rfl) (pgs_cons (pg_name (i := 3) scHouseWay.nd rfl (.inl rfl)) (pgs_cons (pg_name (i := 4) scHouseWay.nd rfl (.inr rfl)) pgs_nil)))) (pss_cons (ps_while PassesOwn.never (pt_not (pt_val (pe_call GHs hr (by rfl) mHs kHs bHs .nil pass0 (pa_cons (pv 0) (pa_cons (pv 4) (pa_cons (pv 2) pa_nil)))))) (pss_cons (ps_setLc (i := 5) (own := [("one", 6)]) (g := (gName 6)) (tt := _) rfl scHouseWay.nd rfl rfl (by rfl) (pi_list (pe_op op_cat (pe_lst (pa_cons (pv 2) pa_nil)) (pe_call GHu hr (by rfl) mHu kHu bHu .nil pass0 (pa_cons (pv 0) (pa_cons (pv 2) pa_nil))))) (blkOk_by (N := ["house", "task", "other", "found", "here", "line", "one", "inward"]) (sc := defScope sHouseWay) (by decide +kernel)) (fun _ _ _ _ _ => (pg_name (i := 6) scHouseWay.nd rfl (.inl rfl))) (fun _ _ _ _ _ => (pts_one (pt_cmpR op_ne (pv 6) (pv 4) (nomark _)))) (fun _ _ _ _ _ => (pv 6))) (pss_cons (ps_setLc (i := 7) (own := [("one", 6)]) (g := (gName 6)) (tt := _) rfl scHouseWay.nd rfl rfl (by rfl) (pi_list (pv 5)) (blkOk_by (N := ["house", "task", "other", "found", "here", "line", "one", "inward"]) (sc := defScope sHouseWay) (by decide +kernel)) (fun _ _ _ _ _ => (pg_name (i := 6) scHouseWay.nd rfl (.inl rfl))) (fun _ _ _ _ _ => (pts_one (PW.pt (pw_or (pt_cmpR op_eq (pe_dget (hu_of hr) (pe_dget (hu_of hr) (pv 0) pe_str (fun _ _ => rfl)) (pv 6) (fun _ _ => rfl)) (pv 4) (nomark _)) (pw_or1 (pt_cmpR (show OpR _ (compareOp .In) (rIn K false) from op_in_seq) (pv 6) (pe_call GHc hr (by rfl) mHc kHc bHc .nil pass0 (pa_cons (pv 0) (pa_cons (pv 4) pa_nil))) (by rfl))))))) (fun _ _ _ _ _ => (pv 6))) (pss_cons (ps_set (i := 4) scHouseWay.nd rfl (.inr rfl) (pe_ifExp (pt_cmpR (op_neD hr.units) (pv 7) (pe_lst pa_nil) (nomark _)) (pe_ix ix_list (pv 7) (pe_un un_neg pe_int) (fun _ _ => rfl)) (pe_dget (hu_of hr) (pe_dget (hu_of hr) (pv 0) pe_str (fun _ _ => rfl)) (pv 4) (fun _ _ => rfl)))) (pss_one (ps_expr (pe_bm PySem.F.plainAttrs_list PySem.F.slot_list_append PySem.F.type_list_append mt_append (pv 3) (pa_cons (pv 4) pa_nil)))))))) (pss_one (ps_ret (pe_callTy call_tuple_of (by rfl) ftuple (by decide +kernel) (pa_cons (pe_op op_cat (pv 3) (pe_lst (pa_cons (pv 2) pa_nil))) pa_nil)))))), ?_⟩
    have tr := g.tree
    have few := g.few
    have two : 2 ≤ sizeLine := by decide
    have wo := way_ok (shp_ok tr) (i := i) (j := j) (by rw [shp_len]; exact hi) (by rw [shp_len]; exact hj)
    have wl := way_len (p := shp rs) (j := j) 12 i
    refine ⟨by show 0 ≤ sizeLine; decide, fun F nF => ⟨.int (tk rs i), rfl, two, fun t nt => ⟨t, _, rfl, SqT.of upd_same, rfl, _, _, rfl, _, _, rfl, rfl, ?_⟩⟩⟩
    have sF := same_upd (o := .lst []) nF
    have st := same_upd (o := .tup [V.ref F, .int (tk rs i)]) nt
    refine while_of (fun m σ H' => ∃ pre x y5 y6 y7, x < rs.length ∧ σ = [some (.ref h), some (.int (tk rs i)), some (.int (tk rs j)), some (.ref F), some (.int (tk rs x)), y5, y6, y7] ∧ Same H H' ∧ H' F = some (.lst (tks rs pre)) ∧ wayI (shp rs) 12 i j = pre ++ wayI (shp rs) m x j ∧ (pre = [] ∨ (pre.getLast? = some x ∧ x ≠ j))) 12 ⟨[], i, none, none, none, hi, rfl, sF.trans st, st _ _ upd_same, rfl, .inl rfl⟩ (fun m σ H' hP => ?_)
    obtain ⟨pre, x, y5, y6, y7, hx, rfl, sm, hF, hw, hp⟩ := hP
    have wx := way_ok (shp_ok tr) (i := x) (j := j) (by rw [shp_len]; exact hx) (by rw [shp_len]; exact hj)
    have lpre : pre.length ≤ 12 := by
      rw [hw, List.length_append] at wl
      omega
    have m0 : m ≠ 0 := fun z => by
      rw [z, show wayI (shp rs) 0 x j = [] from rfl, List.append_nil] at hw
      have hl := wo.last
      rw [hw] at hl
      rcases hp with hp | ⟨h1, h2⟩
      · rw [hp] at hl; cases hl
      · rw [h1] at hl
        exact h2 (Option.some.inj hl)
    obtain ⟨m, rfl⟩ : ∃ k, m = k + 1 := ⟨m - 1, by omega⟩
    refine ⟨.ref h, rfl, .int (tk rs x), rfl, .int (tk rs j), rfl, h, nx, rs, x, j, rfl, hh.same sm, g, hx, hj, _, rfl, ?_⟩
    cases es : strI (shp rs) x j with
    | true =>
      have en : nextI (shp rs) x j = j := by unfold nextI; rw [if_pos es]
      rw [way_succ (f := m), en, if_pos rfl] at hw
      refine iteF ⟨.ref F, rfl, .int (tk rs j), rfl, by show 1 ≤ sizeLine; decide, fun L nL => ?_⟩
      have sL := same_upd (o := .lst [V.int (tk rs j)]) nL
      refine ⟨F, L, tks rs pre, [V.int (tk rs j)], rfl, rfl, sL _ _ hF, upd_same, sl (by rw [tks_len]; show pre.length + 1 ≤ 1000; omega), fun M nM => ⟨M, tks rs pre ++ [V.int (tk rs j)], rfl, .inl ⟨SqL.of upd_same, fun t nt => ?_⟩⟩⟩
      have sM := same_upd (o := .lst (tks rs pre ++ [V.int (tk rs j)])) nM
      have st := same_upd (o := .tup (tks rs pre ++ [V.int (tk rs j)])) nt
      refine q _ t (sm.trans (sL.trans (sM.trans st))) ?_
      rw [hw, tks_app]
      exact SqT.of upd_same
    | false =>
      have en := wx.on es
      rw [way_succ (f := m), if_neg en] at hw
      refine iteT ⟨_, fun σ' H'' z => ⟨m, Nat.lt_succ_self _, z⟩, ?_⟩
      have lanc : (ancI (shp rs) j).length ≤ 6 := upI_len _ _ _
      have nFH : H F = none := nF
      -- line
      refine seq_cut (fun σ' H2 => ∃ y6 L, σ' = [some (.ref h), some (.int (tk rs i)), some (.int (tk rs j)), some (.ref F), some (.int (tk rs x)), some (.ref L), y6, y7] ∧ Same H' H2 ∧ H2 L = some (.lst (tks rs ((j :: ancI (shp rs) j).filter fun o => !decide (o = x))))) (fun N hN => ?_) (fun σ' H2 hq => ?_)
      · refine ⟨.int (tk rs j), rfl, by show 1 ≤ sizeLine; decide, fun L1 nL1 => ?_⟩
        have sL := same_upd (o := .lst [V.int (tk rs j)]) nL1
        have hL1 : upd H' L1 (.lst [V.int (tk rs j)]) L1 = some (.lst [V.int (tk rs j)]) := upd_same
        refine ⟨.ref h, rfl, .int (tk rs j), rfl, h, nx, rs, rs[j], by rw [tk_row hj]; rfl, (hh.same sm).same sL, g, List.getElem_mem hj, fun H3 U s3 hU => ?_⟩
        rw [← tk_row hj, up_tk tr hj, ← tks_eq] at hU
        refine ⟨L1, U, [V.int (tk rs j)], tks rs (ancI (shp rs) j), rfl, rfl, s3 _ _ hL1, hU, sl (by rw [tks_len]; show 1 + (ancI (shp rs) j).length ≤ 1000; omega), fun M nM => ⟨M, rfl, ⟨tks rs (j :: ancI (shp rs) j), SqL.of upd_same⟩, fun D nD => ?_⟩⟩
        have sM := same_upd (o := .lst ([V.int (tk rs j)] ++ tks rs (ancI (shp rs) j))) nM
        have hM : upd H3 M (.lst ([V.int (tk rs j)] ++ tks rs (ancI (shp rs) j))) M = some (.lst (tks rs (j :: ancI (shp rs) j))) := upd_same
        have s4 := sL.trans (s3.trans sM)
        generalize upd H3 M (.lst ([V.int (tk rs j)] ++ tks rs (ancI (shp rs) j))) = H4 at nD hM s4 ⊢
        have hin : ∀ o ∈ j :: ancI (shp rs) j, o < rs.length := fun o ho => anc_in tr hj ho
        have hll : (j :: ancI (shp rs) j).length ≤ 7 := Nat.succ_le_succ lanc
        generalize j :: ancI (shp rs) j = ls at hM hin hll hN ⊢
        refine lc_list (xs := tks rs ls) (fun k G => Same H4 G ∧ G D = some (.lst (tks rs ((ls.take k).filter fun o => !decide (o = x))))) ⟨same_upd nD, upd_same⟩ (fun k G _ hP => SqL.of (hP.1 _ _ hM)) (fun k v G hv hP => ?_) fun G hP => ?_
        · obtain ⟨sg, hD⟩ := hP
          obtain ⟨hk, rfl⟩ := tks_at hv
          have lf : ((ls.take k).filter fun o => !decide (o = x)).length ≤ 7 := Nat.le_trans (List.length_filter_le _ _) (by rw [List.length_take]; omega)
          have ho := hin _ (List.getElem_mem hk)
          rw [take_filter hk]
          generalize ls[k] = o at ho ⊢
          refine ⟨rfl, .int (tk rs o), rfl, .int (tk rs x), rfl, rfl, _, rfl, ?_⟩
          by_cases eo : o = x
          · refine iteNF (by rw [eo]) ⟨sg, ?_⟩
            rw [if_neg (by rw [decide_eq_true eo]; exact Bool.false_ne_true), List.append_nil]
            exact hD
          · refine iteNE (fun z => eo (tk_inj tr.rise ho hx (V.int.inj z))) ⟨.int (tk rs o), rfl, _, hD, small1000 (by rw [tks_len]; omega), Same.updNew sg nD, ?_⟩
            rw [upd_same, if_pos (by rw [decide_eq_false eo]; rfl), tks_app]
            rfl
        · obtain ⟨sg, hD⟩ := hP
          rw [tks_len, List.take_length] at hD
          exact hN _ _ ⟨_, D, rfl, s4.trans sg, hD⟩
      obtain ⟨y6, L, rfl, s2, hL⟩ := hq
      have sm2 := sm.trans s2
      obtain ⟨cc, bb, h1, h2, h3⟩ := hh.same sm2
      -- inward
      refine seq_cut (fun σ' H3 => ∃ y6 I, σ' = [some (.ref h), some (.int (tk rs i)), some (.int (tk rs j)), some (.ref F), some (.int (tk rs x)), some (.ref L), y6, some (.ref I)] ∧ Same H2 H3 ∧ H3 I = some (.lst (tks rs (inwI (shp rs) x j)))) (fun N hN => ?_) (fun σ' H3 hq => ?_)
      · have hin : ∀ o ∈ (j :: ancI (shp rs) j).filter (fun o => !decide (o = x)), o < rs.length := fun o ho => anc_in tr hj (List.mem_filter.mp ho).1
        have hll : ((j :: ancI (shp rs) j).filter (fun o => !decide (o = x))).length ≤ 7 := Nat.le_trans (List.length_filter_le _ _) (Nat.succ_le_succ lanc)
        unfold inwI at hN
        generalize (j :: ancI (shp rs) j).filter (fun o => !decide (o = x)) = ls at hL hin hll hN ⊢
        refine ⟨.ref L, rfl, L, rfl, ⟨_, SqL.of hL⟩, fun D nD => ?_⟩
        refine lc_list (xs := tks rs ls) (fun k G => Same H2 G ∧ G D = some (.lst (tks rs ((ls.take k).filter fun o => decide (chI (shp rs) o = some x) || decide (chI (shp rs) o = chI (shp rs) x))))) ⟨same_upd nD, upd_same⟩ (fun k G _ hP => SqL.of (hP.1 _ _ hL)) (fun k v G hv hP => ?_) fun G hP => ?_
        · obtain ⟨sg, hD⟩ := hP
          obtain ⟨hk, rfl⟩ := tks_at hv
          have lf : ((ls.take k).filter fun o => decide (chI (shp rs) o = some x) || decide (chI (shp rs) o = chI (shp rs) x)).length ≤ 7 := Nat.le_trans (List.length_filter_le _ _) (by rw [List.length_take]; omega)
          have ho := hin _ (List.getElem_mem hk)
          rw [take_filter hk]
          generalize ls[k] = o at ho ⊢
          refine ⟨rfl, .ref h, rfl, h, _, rfl, g_chiefs (sg _ _ h1), .int (tk rs o), rfl, cc, _, rfl, ch_get (sg _ _ h2) tr ho, .int (tk rs x), rfl, by cases chI (shp rs) o <;> rfl, ?_⟩
          rw [dec_opt]
          refine ⟨_, rfl, ?_⟩
          have put : ∀ G', Same G G' → (decide (chI (shp rs) o = some x) || decide (chI (shp rs) o = chI (shp rs) x)) = true → ∃ acc, G' D = some (.lst acc) ∧ acc.length < sizeLine ∧ Same H2 (upd G' D (.lst (acc ++ [V.int (tk rs o)]))) ∧ upd G' D (.lst (acc ++ [V.int (tk rs o)])) D = some (.lst (tks rs (((ls.take k).filter fun o => decide (chI (shp rs) o = some x) || decide (chI (shp rs) o = chI (shp rs) x)) ++ (if (decide (chI (shp rs) o = some x) || decide (chI (shp rs) o = chI (shp rs) x)) = true then [o] else [])))) := fun G' s' e => ⟨_, s' _ _ hD, small1000 (by rw [tks_len]; omega), Same.updNew (sg.trans s') nD, by rw [upd_same, if_pos e, tks_app]; rfl⟩
          by_cases c1 : chI (shp rs) o = some x
          · exact iteD ((some_tk tr hx ho).mpr c1) (iteT ⟨.int (tk rs o), rfl, put G (Same.refl _) (by rw [decide_eq_true c1]; rfl)⟩)
          refine iteE (fun z => c1 ((some_tk tr hx ho).mp z)) ⟨.int (tk rs o), rfl, .ref h, rfl, .int (tk rs x), rfl, h, nx, rs, rs[x], by rw [tk_row hx]; rfl, (hh.same sm2).same sg, g, List.getElem_mem hx, fun H4 B s4 hB => ⟨B, _, rfl, .inl (SqL.of hB), rfl, flat_ints _, ?_⟩⟩
          rw [inV_ints]
          refine ⟨_, rfl, ?_⟩
          by_cases c2 : chI (shp rs) o = chI (shp rs) x
          · exact iteD ((mem_cl tr hx ho).mpr c2) ⟨.int (tk rs o), rfl, put H4 s4 (by rw [decide_eq_true c2, Bool.or_true])⟩
          · refine iteE (fun z => c2 ((mem_cl tr hx ho).mp z)) ⟨sg.trans s4, ?_⟩
            rw [if_neg (by rw [decide_eq_false c1, decide_eq_false c2]; exact Bool.false_ne_true), List.append_nil]
            exact s4 _ _ hD
        · obtain ⟨sg, hD⟩ := hP
          rw [tks_len, List.take_length] at hD
          exact hN _ _ ⟨_, D, rfl, sg, hD⟩
      obtain ⟨y6, I, rfl, s3, hI⟩ := hq
      have sm3 := sm2.trans s3
      -- here
      refine seq_cut (fun σ' H4 => σ' = [some (.ref h), some (.int (tk rs i)), some (.int (tk rs j)), some (.ref F), some (.int (tk rs (nextI (shp rs) x j))), some (.ref L), y6, some (.ref I)] ∧ Same H3 H4) (fun N hN => ?_) (fun σ' H4 hq => ?_)
      · refine ⟨.ref I, rfl, by show 0 ≤ sizeLine; decide, fun Z nZ => ?_⟩
        have sZ := same_upd (o := .lst []) nZ
        rw [tks_eq] at hI
        refine ⟨.list (((inwI (shp rs) x j).map (tk rs)).map .int), .list (([] : List Int).map .int), .lst (SqL.of (sZ _ _ hI)) dpInts, .lst (SqL.of upd_same) .nil, shaped_intsL, shaped_intsL, _, rfl, ?_⟩
        rw [eqv_intsL]
        rw [← tks_eq] at hI
        have hs := wx.same es
        unfold hnextI at hs
        by_cases eu : inwI (shp rs) x j = []
        · rw [eu] at hs
          rcases wx.inw es with z | z
          · exact absurd eu z
          obtain ⟨c, hc⟩ := Option.isSome_iff_exists.mp z
          rw [hc] at hs
          refine iteNF (by rw [eu]; rfl) ⟨.ref h, rfl, h, _, rfl, g_chiefs (sZ _ _ (s3 _ _ h1)), .int (tk rs x), rfl, cc, _, rfl, ch_get (sZ _ _ (s3 _ _ h2)) tr hx, ?_⟩
          rw [hc]
          refine hN _ _ ⟨?_, sZ⟩
          rw [← hs]
          rfl
        · refine iteNE (fun z => eu (List.map_eq_nil_iff.mp z)) ?_
          obtain ⟨ps, z, ez⟩ : ∃ ps z, inwI (shp rs) x j = ps ++ [z] := ⟨_, _, (List.dropLast_concat_getLast eu).symm⟩
          rw [ez, List.getLast?_concat] at hs
          have al : atI (tks rs (inwI (shp rs) x j)) (-1) = some (V.int (tk rs z)) := by rw [ez, tks_app]; exact atI_last
          refine ⟨.ref I, rfl, 1, rfl, I, _, -1, _, rfl, rfl, SqL.of (sZ _ _ hI), al, hN _ _ ⟨?_, sZ⟩⟩
          rw [← hs]
          rfl
      obtain ⟨rfl, s4⟩ := hq
      have sm4 := sm3.trans s4
      have hF4 := s4 _ _ (s3 _ _ (s2 _ _ hF))
      have ln : nextI (shp rs) x j < rs.length := by
        have := wx.lt (nextI (shp rs) x j) (by rw [way_succ]; exact List.mem_cons_self)
        rw [shp_len] at this
        exact this
      have hw2 : wayI (shp rs) 12 i j = (pre ++ [nextI (shp rs) x j]) ++ wayI (shp rs) m (nextI (shp rs) x j) j := by
        rw [hw, List.append_assoc]
        rfl
      refine ⟨.ref F, rfl, .inl ⟨rfl, _, SqL.of hF4⟩, .int (tk rs (nextI (shp rs) x j)), rfl, F, tks rs pre, _, rfl, rfl, hF4, small1000 (by rw [tks_len]; omega), pre ++ [nextI (shp rs) x j], nextI (shp rs) x j, _, _, _, ln, rfl, Same.updNew sm4 nFH, ?_, hw2, .inr ⟨List.getLast?_concat .., en⟩⟩
      rw [upd_same, tks_app]
      rfl
end
end K35



set_option maxRecDepth 100000
set_option maxHeartbeats 4000000
/-! k35: whether a way is right. -/
namespace K35
open PySem PySem.Spec PyProof.Rows L2 LamX VG TL
theorem scWayRight : FnScope ["clans", "house", "task", "other", "due", "bars", "stop"] ["clans", "house", "task", "other"] (defScope sWayRight) := ⟨rfl, rfl, rfl, by decide +kernel, rfl, by decide +kernel, by decide +kernel⟩
theorem two_tail {rs : List Row} {nx : Int} {i j : Nat} {F : Nat → Nat → Prop} (g : Good nx rs) (hi : i < rs.length) (hj : j < rs.length) (q : F i j) : ∀ i' j' : Nat, i' < rs.length → j' < rs.length → PyData.int (tk rs i) = .int (tk rs i') → PyData.int (tk rs j) = .int (tk rs j') → F i' j' := fun i' j' hi' hj' e1 e2 => by
  have e1 : i = i' := tk_inj g.rise hi hi' (by injection e1)
  have e2 : j = j' := tk_inj g.rise hj hj' (by injection e2)
  subst e1
  subst e2
  exact q
theorem tk_in {nx : Int} {rs : List Row} (g : Good nx rs) {i : Nat} (hi : i < rs.length) : 0 ≤ tk rs i ∧ tk rs i ≤ 1000 := by
  rw [tk_row hi]
  have := g.low _ (List.getElem_mem hi)
  omega
theorem okN_tks {nx : Int} {rs : List Row} (g : Good nx rs) {xs : List Nat} (lt : ∀ x ∈ xs, x < rs.length) (hl : xs.length ≤ 12) : okN 1 (12 * 51) (.tuple ((xs.map (tk rs)).map .int)) := okNT (k := 0) (m := 50) (n := 12) (fun d hd => by
  obtain ⟨v, hv, rfl⟩ := List.mem_map.mp hd
  obtain ⟨x, hx, rfl⟩ := List.mem_map.mp hv
  have := tk_in g (lt x hx)
  exact okN.int (by omega) (by omega)) (by rw [List.length_map, List.length_map]; exact hl)
theorem nodup_tk {rs : List Row} (h : Rise rs) {xs : List Nat} (lt : ∀ x ∈ xs, x < rs.length) (nd : xs.Nodup) : (xs.map (tk rs)).Nodup := by
  unfold List.Nodup
  rw [List.pairwise_map]
  exact List.Pairwise.imp_of_mem (fun {a b} ha hb n e => n (tk_inj h (lt a ha) (lt b hb) e)) nd
theorem okBar {nx : Int} {rs : List Row} (g : Good nx rs) {s : Nat} (hs : s < rs.length) : okData (.tuple [.str "barred", .int (tk rs s)]) = true := (okNT (k := 0) (m := 50) (n := 2) (fun d hd => by
  simp only [List.mem_cons, List.not_mem_nil, or_false] at hd
  rcases hd with rfl | rfl
  · exact okS.ok (n := 50) ⟨by decide, by decide⟩ (Nat.le_refl _)
  · have := tk_in g hs
    exact okN.int (by omega) (by omega)) (Nat.le_refl _)).ok (by decide) (by decide)
theorem okPass {nx : Int} {rs : List Row} (g : Good nx rs) {xs : List Nat} (lt : ∀ x ∈ xs, x < rs.length) (hl : xs.length ≤ 12) : okData (.tuple [.str "passes", .tuple ((xs.map (tk rs)).map .int)]) = true := (okNT (k := 1) (m := 12 * 51) (n := 2) (fun d hd => by
  simp only [List.mem_cons, List.not_mem_nil, or_false] at hd
  rcases hd with rfl | rfl
  · exact (okS.ok (n := 50) ⟨by decide, by decide⟩ (Nat.le_refl _)).mono (by decide) (by decide)
  · exact okN_tks g lt hl) (Nat.le_refl _)).ok (by decide) (by decide)
section
variable {P : Program} {w : World} {K : PySem.W.Frag} {mg : Str → Option Value} {base : Heap}
def spWayRight (K : PySem.W.Frag) (C : Addr) : Sp := fun vs H Q _ => ∃ (c h : Addr) (nx : Int) (rs : List Row) (i j : Nat), vs = [.ref c, .ref h, .int (tk rs i), .int (tk rs j)] ∧ ClansAt K C H c nx rs ∧ HAt H h nx rs ∧ Good nx rs ∧ i < rs.length ∧ j < rs.length ∧ ∀ H', Same H H' → Q (.bl true) H'
theorem ok_WayRight {k : Nat} {f : Addr} {fd : FuncData} {C C2:Addr} (F : Fun K "_law_is_way_right" "_law_is_way_right" sWayRight f fd) (gHw : Cal P w K mg base CX0 (k + 16) "_law_house_way" ["house", "task", "other"] (spHWay K)) (gWy : Cal P w K mg base (L2.CX P w) (k + 16) "way" ["clans", "task", "other"] (spWay K C C2)) (gNs : Cal P w K mg base (L2.CX P w) (k + 16) "next_stop" ["clans", "task", "other"] (spNextStop K C C2)) (gSg : Cal P w K mg base (L2.CX P w) (k + 16) "straight" ["clans", "task", "other"] (spStraight K C C2)) (gHs : Cal P w K mg base CX0 (k + 16) "_law_house_is_straight" ["house", "task", "other"] (spHStraight K)) (gWs : Cal P w K mg base (L2.CX P w) (k + 16) "way_sort" ["clans", "task", "other"] (spWaySort K C C2)) (gSo : Cal P w K mg base CX0 (k + 16) "_law_sort" ["house", "task", "other"] (spSort K)) (gPa : Cal P w K mg base (L2.CX P w) (k + 16) "passes" ["clans", "task", "other"] (spPasses K C C2)) (T : CF K C) (fint : mg "int" = none) (flen : mg "len" = none) (frepr : mg "repr" = none) (fset : mg "set" = none) : FnG P w K mg base (k + 17) f fd ["clans", "house", "task", "other"] (spWayRight K C) := by
  obtain ⟨fHw, fdHw, GHw, kHw, bHw, mHw⟩ := gHw
  obtain ⟨fWy, fdWy, GWy, kWy, bWy, mWy⟩ := gWy
  obtain ⟨fNs, fdNs, GNs, kNs, bNs, mNs⟩ := gNs
  obtain ⟨fSg, fdSg, GSg, kSg, bSg, mSg⟩ := gSg
  obtain ⟨fHs, fdHs, GHs, kHs, bHs, mHs⟩ := gHs
  obtain ⟨fWs, fdWs, GWs, kWs, bWs, mWs⟩ := gWs
  obtain ⟨fSo, fdSo, GSo, kSo, bSo, mSo⟩ := gSo
  obtain ⟨fPa, fdPa, GPa, kPa, bPa, mPa⟩ := gPa
  refine fnG_of F scWayRight (fun vs H Q E h => ?_) (fun cdv A outer s H vs Q hr gd h => ?_)
  · obtain ⟨c, h, nx, rs, i, j, rfl, _⟩ := h
    rfl
  · obtain ⟨c, h, nx, rs, i, j, rfl, hc, hh, g, hi, hj, q⟩ := h
    refine ⟨_, (pss_cons (ps_set (i := 4) scWayRight.nd rfl (.inl rfl) (pe_call GHw hr (by rfl) mHw kHw bHw .nil pass0 (pa_cons (pv 1) (pa_cons (pv 2) (pa_cons (pv 3) pa_nil))))) (pss_cons (ps_if (PW.pt (pw_or (pt_cmpR op_ne (pe_callB (call_repr gd hr.units) (by rfl) frepr (by decide +kernel) (pa_cons (pe_call GWy hr (by rfl) mWy kWy bWy .nil passX (pa_cons (pv 0) (pa_cons (pv 2) (pa_cons (pv 3) pa_nil)))) pa_nil)) (pe_callB (call_repr gd hr.units) (by rfl) frepr (by decide +kernel) (pa_cons (pv 4) pa_nil)) (nomark _)) (pw_or1 (pt_cmpR op_ne (pe_callB (call_repr gd hr.units) (by rfl) frepr (by decide +kernel) (pa_cons (pe_call GNs hr (by rfl) mNs kNs bNs .nil passX (pa_cons (pv 0) (pa_cons (pv 2) (pa_cons (pv 3) pa_nil)))) pa_nil)) (pe_callB (call_repr gd hr.units) (by rfl) frepr (by decide +kernel) (pa_cons (pe_ix ix_tup (pv 4) pe_int (fun _ _ => rfl)) pa_nil)) (nomark _))))) (pss_one (ps_ret pe_bl)) pss_nil) (pss_cons (ps_if (pt_cmpR op_ne (pe_callB (call_repr gd hr.units) (by rfl) frepr (by decide +kernel) (pa_cons (pe_call GSg hr (by rfl) mSg kSg bSg .nil passX (pa_cons (pv 0) (pa_cons (pv 2) (pa_cons (pv 3) pa_nil)))) pa_nil)) (pe_callB (call_repr gd hr.units) (by rfl) frepr (by decide +kernel) (pa_cons (pe_call GHs hr (by rfl) mHs kHs bHs .nil pass0 (pa_cons (pv 1) (pa_cons (pv 2) (pa_cons (pv 3) pa_nil)))) pa_nil)) (nomark _)) (pss_one (ps_ret pe_bl)) pss_nil) (pss_cons (ps_if (pt_cmpR op_ne (pe_call GWs hr (by rfl) mWs kWs bWs .nil passX (pa_cons (pv 0) (pa_cons (pv 2) (pa_cons (pv 3) pa_nil)))) (pe_call GSo hr (by rfl) mSo kSo bSo .nil pass0 (pa_cons (pv 1) (pa_cons (pv 2) (pa_cons (pv 3) pa_nil)))) (nomark _)) (pss_one (ps_ret pe_bl)) pss_nil) (pss_cons (ps_if (pt_cmpR op_lt (pe_callB call_lenSO (by rfl) flen PySem.boot_len (pa_cons (pe_callTy (call_setTB rfl) (by rfl) fset (by decide +kernel) (pa_cons (pe_op op_catA (pe_tup (pa_cons (pv 2) pa_nil)) (pv 4)) pa_nil)) pa_nil)) (pe_op op_add (pe_callB call_len_seq (by rfl) flen PySem.boot_len (pa_cons (pv 4) pa_nil)) (pe_callTy call_int1 (by rfl) fint (by decide +kernel) (pa_cons (pe_cmpR op_ne (pv 2) (pv 3) (nomark _)) pa_nil))) (nomark _)) (pss_one (ps_ret pe_bl)) pss_nil) (pss_cons (ps_if (pt_cmpR (op_neD hr.units) (pe_slice sl_tupA (pe_call GWy hr (by rfl) mWy kWy bWy .nil passX (pa_cons (pv 0) (pa_cons (pv 3) (pa_cons (pv 2) pa_nil)))) po_none (po_some (pe_un un_neg pe_int))) (pe_revX (pe_slice sl_tupA (pv 4) po_none (po_some (pe_un un_neg pe_int)))) (nomark _)) (pss_one (ps_ret pe_bl)) pss_nil) (pss_cons (ps_setLc (i := 5) (own := [("stop", 6)]) (g := (gName 6)) (tt := _) rfl scWayRight.nd rfl rfl (by rfl) (pi_tup (pe_slice sl_tupA (pv 4) po_none (po_some (pe_un un_neg pe_int)))) (blkOk_by (N := ["clans", "house", "task", "other", "due", "bars", "stop"]) (sc := defScope sWayRight) (by decide +kernel)) (fun _ _ _ _ _ => (pg_name (i := 6) scWayRight.nd rfl (.inl rfl))) (fun _ _ _ _ _ => (pts_one (pt_not (pt_val (pe_dget (hu_of hr) (pe_dget (hu_of hr) (pv 1) pe_str (fun _ _ => rfl)) (pv 6) (fun _ _ => rfl)))))) (fun _ _ _ _ _ => (pv 6))) (pss_one (ps_ret (pe_cmpR op_eq (pe_callB (call_repr gd hr.units) (by rfl) frepr (by decide +kernel) (pa_cons (pe_call GPa hr (by rfl) mPa kPa bPa .nil passX (pa_cons (pv 0) (pa_cons (pv 2) (pa_cons (pv 3) pa_nil)))) pa_nil)) (pe_callB (call_repr gd hr.units) (by rfl) frepr (by decide +kernel) (pa_cons (pe_ifExp (pt_cmpR (op_neD hr.units) (pv 5) (pe_lst pa_nil) (nomark _)) (pe_tup (pa_cons pe_str (pa_cons (pe_ix ix_list (pv 5) pe_int (fun _ _ => rfl)) pa_nil))) (pe_tup (pa_cons pe_str (pa_cons (pv 4) pa_nil)))) pa_nil)) (nomark _))))))))))), ?_⟩
    have tr := g.tree
    have few := g.few
    have two : 2 ≤ sizeLine := by decide
    have wo := way_ok (shp_ok tr) (i := i) (j := j) (by rw [shp_len]; exact hi) (by rw [shp_len]; exact hj)
    have lt := wo.lt
    rw [shp_len] at lt
    have wl := way_len (p := shp rs) (j := j) 12 i
    have okw := okN_tks g lt wl
    have okD := okw.ok (by decide) (by decide)
    have ok1 : ∀ {s : Nat}, s < rs.length → okData (.int (tk rs s)) = true := fun hs => int_ok (tk_in g hs)
    refine ⟨.ref h, rfl, .int (tk rs i), rfl, .int (tk rs j), rfl, h, nx, rs, i, j, rfl, hh, g, hi, hj, fun H1 t0 s1 ht0 => ?_⟩
    refine gn_of ?_
    try dsimp only
    refine ⟨.ref c, rfl, .int (tk rs i), rfl, .int (tk rs j), rfl, c, nx, rs, _, _, .int (tk rs i), .int (tk rs j), rfl, (hc.same s1), g, .dp (.int _), .dp (.int _), no_tk hi, fun _ => no_tk hj, two_tail g hi hj (fun H2 t1 s2 ht1 => ?_)⟩
    rw [tks_eq] at ht0 ht1
    refine ⟨.ref t1, _, rfl, .dp (.tup ht1 dpInts), okD, .ref t0, rfl, .ref t0, _, rfl, .dp (.tup (Same.seqT s2 ht0) dpInts), okD, rfl, _, rfl, iteNF rfl ?_⟩
    have hc2 := (hc.same s1).same s2
    have ht2 := Same.seqT s2 ht0
    have s12 := s1.trans s2
    clear ht1 s2 ht0 s1 t1
    have ln : nextI (shp rs) i j < rs.length := lt _ (by rw [way_succ]; exact List.mem_cons_self)
    refine ⟨.ref c, rfl, .int (tk rs i), rfl, .int (tk rs j), rfl, c, nx, rs, _, _, .int (tk rs i), .int (tk rs j), rfl, hc2, g, .dp (.int _), .dp (.int _), no_tk hi, fun _ => no_tk hj, two_tail g hi hj (fun H3 s3 => ?_)⟩
    refine ⟨.int (tk rs (nextI (shp rs) i j)), .int (tk rs (nextI (shp rs) i j)), rfl, .dp (.int _), ok1 ln, .ref t0, rfl, t0, _, _, _, rfl, rfl, Same.seqT s3 ht2, (by rw [way_succ]; exact at0), _, .int (tk rs (nextI (shp rs) i j)), rfl, .dp (.int _), ok1 ln, rfl, _, rfl, iteNF rfl (next_of ?_)⟩
    refine ⟨.ref c, rfl, .int (tk rs i), rfl, .int (tk rs j), rfl, c, nx, rs, _, _, .int (tk rs i), .int (tk rs j), rfl, (hc2.same s3), g, .dp (.int _), .dp (.int _), no_tk hi, fun _ => no_tk hj, two_tail g hi hj (fun H4 s4 => ?_)⟩
    have s34 := s3.trans s4
    have hc4 := hc2.same s34
    have ht4 := Same.seqT s34 ht2
    have s14 := s12.trans s34
    have hh4 := hh.same s14
    clear s3 s4 s34 hc2 ht2 s12 hc hh
    have okB : okData (.bool (strI (shp rs) i j)) = true := by cases strI (shp rs) i j <;> decide
    refine ⟨_, .bool (strI (shp rs) i j), rfl, .dp (.bl _), okB, .ref h, rfl, .int (tk rs i), rfl, .int (tk rs j), rfl, h, nx, rs, i, j, rfl, hh4, g, hi, hj, ⟨_, .bool (strI (shp rs) i j), rfl, .dp (.bl _), okB, rfl, _, rfl, iteNF rfl (next_of ?_)⟩⟩
    refine ⟨.ref c, rfl, .int (tk rs i), rfl, .int (tk rs j), rfl, c, nx, rs, _, _, .int (tk rs i), .int (tk rs j), rfl, hc4, g, .dp (.int _), .dp (.int _), no_tk hi, fun _ => no_tk hj, two_tail g hi hj (fun H5 s5 => ?_)⟩
    refine ⟨.ref h, rfl, .int (tk rs i), rfl, .int (tk rs j), rfl, h, nx, rs, i, j, rfl, (hh4.same s5), g, hi, hj, fun H6 s6 => ⟨rfl, _, rfl, iteNF rfl (next_of ?_)⟩⟩
    have s56 := s5.trans s6
    have hc6 := hc4.same s56
    have hh6 := hh4.same s56
    have ht6 := Same.seqT s56 ht4
    have s16 := s14.trans s56
    clear s5 s6 s56 hc4 hh4 ht4 s14
    try dsimp only
    generalize hW : wayI (shp rs) 12 i j = W at lt wl okw okD ht6
    have wne : (tks rs W).length ≠ 0 := by
      rw [← hW, way_succ]
      exact Nat.succ_ne_zero _
    have lW : (tks rs W).length = W.length := tks_len
    refine ⟨.int (tk rs i), rfl, by show 1 ≤ sizeLine; decide, fun u nu => ⟨.ref t0, rfl, ?_⟩⟩
    have su := same_upd (o := .tup [V.int (tk rs i)]) nu
    refine catA_one (SqT.of upd_same) (Same.seqT su ht6) (by rw [List.length_map, List.length_map]; show 1 + W.length ≤ sizeLine; unfold sizeLine; omega) fun t7 H7 ht7 s7 => ?_
    have s67 := su.trans s7
    refine ⟨t7, tk rs i :: W.map (tk rs), rfl, ht7, by rw [List.length_cons, List.length_map]; omega, fun a8 cnt H8 na8 s8 hS lower => ⟨a8, _, cnt, rfl, hS, .ref t0, rfl, t0, _, rfl, .inr (Same.seqT (s67.trans s8) ht6), .int (tk rs i), rfl, .int (tk rs j), rfl, rfl, .inr ⟨_, rfl, _, _, rfl, rfl, _, _, rfl, rfl, _, rfl, ?_⟩⟩⟩
    have hc8 := hc6.same (s67.trans s8)
    have hh8 := hh6.same (s67.trans s8)
    have ht8 := Same.seqT (s67.trans s8) ht6
    have s18 := s16.trans (s67.trans s8)
    clear hS ht7 s67 s8 s7 su nu na8 hc6 hh6 ht6 s16
    have sets : ¬ ((cnt : Nat) : Int) < ((((W.map (tk rs)).map V.int).length : Nat) : Int) + (if (!decide (V.int (tk rs i) = V.int (tk rs j))) = true then 1 else 0) := by
      rw [List.length_map, List.length_map]
      by_cases e0 : i = j
      · subst e0
        have e1 := wo.own rfl
        rw [hW] at e1
        have l1 := lower [tk rs i] (by simp) (fun k hk => by rw [List.mem_singleton.mp hk]; exact List.mem_cons_self)
        rw [decide_eq_true rfl, e1]
        show ¬ ((cnt : Nat) : Int) < 1 + 0
        have : 1 ≤ cnt := l1
        omega
      · have nd := wo.apart e0
        rw [hW] at nd
        have l1 := lower _ (nodup_tk tr.rise (xs := i :: W) (fun x hx => by
          rcases List.mem_cons.mp hx with rfl | hx
          · exact hi
          · exact lt x hx) nd) (fun k hk => hk)
        rw [List.length_map, List.length_cons] at l1
        rw [decide_eq_false (fun z => e0 (tk_inj tr.rise hi hj (V.int.inj z)))]
        show ¬ ((cnt : Nat) : Int) < (W.length : Nat) + 1
        omega
    refine iteE sets (next_of ?_)
    clear sets lower
    have wob := way_len (p := shp rs) (j := i) 12 j
    have wneb : (tks rs (wayI (shp rs) 12 j i)).length ≠ 0 := by
      rw [way_succ]
      exact Nat.succ_ne_zero _
    rw [← tks_eq] at ht8
    have edr : ∀ {Y : List Nat}, (tks rs Y).take ((tks rs Y).length - 1) = tks rs Y.dropLast := fun {Y} => by
      unfold tks
      rw [← List.map_take, List.length_map, ← List.dropLast_eq_take]
    refine ⟨.ref c, rfl, .int (tk rs j), rfl, .int (tk rs i), rfl, c, nx, rs, _, _, .int (tk rs j), .int (tk rs i), rfl, hc8, g, .dp (.int _), .dp (.int _), no_tk hj, fun _ => no_tk hi, two_tail g hj hi (fun H9 t9 s9 ht9 => ?_)⟩
    refine ⟨1, rfl, -1, rfl, slice_m1 ht9 wneb fun z9 H10 hz9 s10 => ?_⟩
    refine ⟨.ref t0, rfl, 1, rfl, -1, rfl, slice_m1 (Same.seqT (s9.trans s10) ht8) wne fun z10 H11 hz10 s11 => ⟨z10, _, rfl, hz10, fun p np => ?_⟩⟩
    have sp := same_upd (o := .tup ((tks rs W).take ((tks rs W).length - 1)).reverse) np
    rw [edr, tks_eq] at hz9
    have er : ((tks rs W).take ((tks rs W).length - 1)).reverse = ((W.dropLast.reverse.map (tk rs)).map V.int) := by
      rw [edr, ← tks_eq]
      unfold tks
      rw [List.map_reverse]
    rw [er] at sp ⊢
    have eback := wo.back
    rw [hW] at eback
    refine ⟨.tuple (((wayI (shp rs) 12 j i).dropLast.map (tk rs)).map .int), .tuple ((W.dropLast.reverse.map (tk rs)).map .int), .tup (Same.seqT (s11.trans sp) hz9) dpInts, .tup (SqT.of upd_same) dpInts, shaped_ints, shaped_ints, _, rfl, iteC (by rw [eqv_ints, eback, decide_eq_true rfl]; rfl) (next_of ?_)⟩
    have s12 := s9.trans (s10.trans (s11.trans sp))
    generalize upd H11 p (.tup ((W.dropLast.reverse.map (tk rs)).map V.int)) = H12 at s12 ⊢
    have hc12 := hc8.same s12
    have hh12 := hh8.same s12
    have ht12 := Same.seqT s12 ht8
    have s1c := s18.trans s12
    clear hz9 hz10 ht9 sp s9 s10 s11 s12 np eback er hc8 hh8 ht8 s18
    have lt2 : ∀ x ∈ W.dropLast, x < rs.length := fun x hx => lt x (List.dropLast_subset _ hx)
    have ld : W.dropLast.length ≤ 12 := by rw [List.length_dropLast]; omega
    refine ⟨.ref t0, rfl, 1, rfl, -1, rfl, slice_m1 ht12 wne fun z H13 hz s13 => ⟨z, rfl, ⟨_, hz⟩, fun D nD => ?_⟩⟩
    rw [edr] at hz
    obtain ⟨cc, bb, h1, h2, h3⟩ := hh12.same s13
    refine lc_tup (xs := tks rs W.dropLast) (fun m H' => Same H13 H' ∧ H' D = some (.lst (tks rs ((W.dropLast.take m).filter fun s => !(rs.getD s (0, none, false)).2.2)))) ⟨same_upd nD, upd_same⟩ (fun m H' _ hP => Same.seqT hP.1 hz) (fun m x H' hx hP => ?_) fun H14 hP => ?_
    · obtain ⟨sm, hD⟩ := hP
      obtain ⟨hm, rfl⟩ := tks_at hx
      have ho := lt2 _ (List.getElem_mem hm)
      have lf : ((W.dropLast.take m).filter fun s => !(rs.getD s (0, none, false)).2.2).length ≤ 12 := Nat.le_trans (List.length_filter_le _ _) (by rw [List.length_take]; omega)
      rw [take_filter hm]
      generalize W.dropLast[m] = o at ho ⊢
      have eg : rs.getD o (0, none, false) = rs[o] := by rw [List.getD_eq_getElem?_getD, List.getElem?_eq_getElem ho]; rfl
      rw [eg]
      have gb : DGet H' bb (.int (tk rs o)) (some (.bl (rs[o]).2.2)) := by
        rw [tk_row ho]
        exact dget_of (k := Sum.inl (rs[o]).1) (sm _ _ h3) (val_row (f := fun r => V.bl r.2.2) tr.rise (List.getElem_mem ho))
      refine ⟨rfl, .ref h, rfl, h, _, rfl, g_borders (sm _ _ h1), .int (tk rs o), rfl, bb, _, rfl, gb, _, rfl, ?_⟩
      cases (rs[o]).2.2 with
      | true =>
        refine iteF ⟨sm, ?_⟩
        rw [if_neg (by decide), List.append_nil]
        exact hD
      | false =>
        refine iteT ⟨.int (tk rs o), rfl, _, hD, small1000 (by rw [tks_len]; omega), Same.updNew sm nD, ?_⟩
        rw [upd_same, if_pos (by decide), tks_app]
        rfl
    · obtain ⟨sm, hD⟩ := hP
      rw [tks_len, List.take_length] at hD
      have hc14 := (hc12.same s13).same sm
      have ht14 := Same.seqT (s13.trans sm) ht12
      have s1e := s1c.trans (s13.trans sm)
      refine gn_of ?_
      try dsimp only
      refine ⟨.ref c, rfl, .int (tk rs i), rfl, .int (tk rs j), rfl, c, nx, rs, _, _, .int (tk rs i), .int (tk rs j), rfl, hc14, g, .dp (.int _), .dp (.int _), no_tk hi, fun _ => no_tk hj, two_tail g hi hj (fun H15 t15 s15 hp => ?_)⟩
      have hD15 := s15 _ _ hD
      have ht15 := Same.seqT s15 ht14
      unfold PassAt at hp
      rw [hW] at hp
      rw [tks_eq] at hD15
      have hf : ((W.dropLast.filter fun s => !(rs.getD s (0, none, false)).2.2)).head? = W.dropLast.find? fun s => !(rs.getD s (0, none, false)).2.2 := List.head?_filter ..
      generalize hbs : W.dropLast.filter (fun s => !(rs.getD s (0, none, false)).2.2) = bs at hD15 hf
      rcases hp with ⟨s0, e0, hp⟩ | ⟨e0, z, hp, hz⟩
      · have hs0 := lt2 _ (List.mem_of_find?_eq_some e0)
        rw [e0] at hf
        have okb := okBar g hs0
        refine ⟨.ref t15, .tuple [.str "barred", .int (tk rs s0)], rfl, .dp (.tup hp (.cons (.str _) (.cons (.int _) .nil))), okb, .ref D, rfl, by show 0 ≤ sizeLine; decide, fun Z nZ => ?_⟩
        have sZ := same_upd (o := .lst []) nZ
        have hDZ := sZ _ _ hD15
        refine ⟨.list ((bs.map (tk rs)).map .int), .list (([] : List Int).map .int), .lst (SqL.of hDZ) dpInts, .lst (SqL.of upd_same) .nil, shaped_intsL, shaped_intsL, _, rfl, ?_⟩
        rw [eqv_intsL]
        cases bs with
        | nil => cases hf
        | cons s2 rest =>
          obtain rfl : s2 = s0 := Option.some.inj hf
          refine iteNE (fun z => nomatch z) ⟨.ref D, rfl, D, _, _, _, rfl, rfl, SqL.of hDZ, at0, two, fun t nt => ?_⟩
          have st := same_upd (o := .tup [V.str "barred", .int (tk rs s2)]) nt
          refine ⟨.ref t, .tuple [.str "barred", .int (tk rs s2)], rfl, .dp (.tup (SqT.of upd_same) (.cons (.str _) (.cons (.int _) .nil))), okb, rfl, ?_⟩
          rw [decide_eq_true rfl]
          exact q _ (s1e.trans (s15.trans (sZ.trans st)))
      · rw [e0] at hf
        have okp := okPass g lt wl
        rw [tks_eq] at hz ht15
        refine ⟨.ref t15, .tuple [.str "passes", .tuple ((W.map (tk rs)).map .int)], rfl, .dp (.tup hp (.cons (.str _) (.cons (.tup hz dpInts) .nil))), okp, .ref D, rfl, by show 0 ≤ sizeLine; decide, fun Z nZ => ?_⟩
        have sZ := same_upd (o := .lst []) nZ
        have hDZ := sZ _ _ hD15
        refine ⟨.list ((bs.map (tk rs)).map .int), .list (([] : List Int).map .int), .lst (SqL.of hDZ) dpInts, .lst (SqL.of upd_same) .nil, shaped_intsL, shaped_intsL, _, rfl, ?_⟩
        rw [eqv_intsL]
        cases bs with
        | cons s2 rest => cases hf
        | nil =>
          refine iteNF rfl ⟨.ref t0, rfl, two, fun t nt => ?_⟩
          have st := same_upd (o := .tup [V.str "passes", .ref t0]) nt
          refine ⟨.ref t, .tuple [.str "passes", .tuple ((W.map (tk rs)).map .int)], rfl, .dp (.tup (SqT.of upd_same) (.cons (.str _) (.cons (.tup (Same.seqT (sZ.trans st) ht15) dpInts) .nil))), okp, rfl, ?_⟩
          rw [decide_eq_true rfl]
          exact q _ (s1e.trans (s15.trans (sZ.trans st)))
end
end K35



set_option maxRecDepth 100000
set_option maxHeartbeats 2000000
/-! k35: what is raised. -/
namespace K35
open PySem PySem.Spec PyProof.Rows L2 LamX VG TL
theorem scIsRaised : FnScope ["look", "value", "caught"] ["look", "value"] (defScope sIsRaised) := ⟨rfl, rfl, rfl, by decide +kernel, rfl, by decide +kernel, by decide +kernel⟩
/-- an error of the package, as one of those that are heard -/
structure RefK (K : PySem.W.Frag) (CS C : Addr) : Prop where
  i : IsC K C
  n : PySem.W.findIn K (.ref C) "value" = some none
  x : PySem.W.exmOne K (.ref C) (.ref CS) = some true
  k : PySem.W.kitOne K (.ref C) (.ref C) = some true
/-- what calling it does: this error -/
def Rq (C : Addr) (v : V) (H : Hp) (tb : XK → Hp → VK → Prop) : Prop := ∀ H2 E Q', Same H H2 → (∀ H' dd, Same H2 H' → H' dd = none → E (.ref C) (some dd) (upd H' dd (.xd [("value", v)]))) → tb E H2 Q'
def spIsRaised (P : Program) (w : World) (K : PySem.W.Frag) (mg : Str → Option Value) (base : Heap) (hk : Nat) (C2 : Addr) (Γ : Addr → Option Obj) : Sp := fun vs H Q _ => ∃ (f : Addr) (v : V) (d : PyData) (tb : XK → Hp → VK → Prop), vs = [.ref f, v] ∧ Thk P w K mg base Γ hk f H tb ∧ Dk K H v d ∧ okData d = true ∧ Rq C2 v H tb ∧ ∀ H', Same H H' → Q (.bl true) H'
section
variable {P : Program} {w : World} {K : PySem.W.Frag} {mg : Str → Option Value} {base : Heap}
theorem ok_IsRaised {k : Nat} {f : Addr} {fd : FuncData} {C2 CS g:Addr} {gd2:FuncData} {Γ:Addr → Option Obj} (F : Fun K "_law_is_raised" "_law_is_raised" sIsRaised f fd)  (FH : Fun K "_law_heard" "_law_heard" sHeard g gd2) (bH : L2.Binds K gd2 ["call"] []) (gH : mg "_law_heard" = some (.ref g)) (gS : mg "CoreError" = some (.ref CS)) (gNoTask : mg "NoTask" = some (.ref C2)) (RK : RefK K CS C2) (fisinstance : mg "isinstance" = none) (frepr : mg "repr" = none) : FnC P w K mg base Γ (k + 19) f fd ["look", "value"] (spIsRaised P w K mg base (k+16) C2 Γ) := by
  refine fnC_of F scIsRaised (fun vs H Q E h => ?_) (fun cdv A outer s H vs Q hr gd lv h => ?_)
  · obtain ⟨fl, v, d, tb, rfl, _⟩ := h
    rfl
  · obtain ⟨fl, v, d, tb, rfl, hT, hd, od, hz, q⟩ := h
    refine ⟨_, (pss_cons (ps_set (i := 2) scIsRaised.nd rfl (.inl rfl) (pe_ix ix_tup (pe_heardC (Γ := Γ) (k := (k+16)) FH bH (by rfl) gH gS hr rfl lv (pv 0)) pe_int (fun _ _ => rfl))) (pss_one (ps_ret (pe_and (pe_callB call_isErrB (by rfl) fisinstance (by decide +kernel) (pa_cons (pv 2) (pa_cons (pgr (by rfl) gNoTask) pa_nil))) (pe_one (pe_cmpR op_eq (pe_callB (call_repr gd hr.units) (by rfl) frepr (by decide +kernel) (pa_cons (pe_errF (pv 2)) pa_nil)) (pe_callB (call_repr gd hr.units) (by rfl) frepr (by decide +kernel) (pa_cons (pv 1) pa_nil)) (nomark _))))))), ?_⟩
    refine ⟨.ref fl, rfl, fl, tb, rfl, hT, fun H2 s2 E Q' hE hB => hz H2 E Q' s2 (fun H3 dd s3 nd => ?_)⟩
    refine hE _ _ _ ⟨RK.x, C2, dd, rfl, rfl, fun ea pt nea npt => ?_⟩
    clear hE hB
    have sd := same_upd (o := .xd [("value", v)]) nd
    have se := same_upd (o := ErrO C2 dd ea) nea
    have sp := same_upd (o := .tup [V.ref ea, .non]) npt
    have herr := sp _ _ (upd_same (H := upd H3 dd (.xd [("value", v)])) (a := ea) (o := ErrO C2 dd ea))
    have hdd := (se.trans sp) _ _ (upd_same (H := H3) (a := dd) (o := .xd [("value", v)]))
    have hpt : upd (upd (upd H3 dd (.xd [("value", v)])) ea (ErrO C2 dd ea)) pt (.tup [V.ref ea, .non]) pt = some (.tup [V.ref ea, .non]) := upd_same
    have s4 := s2.trans (s3.trans ((sd.trans se).trans sp))
    generalize upd (upd (upd H3 dd (.xd [("value", v)])) ea (ErrO C2 dd ea)) pt (.tup [V.ref ea, .non]) = H4 at herr hdd hpt s4 ⊢
    refine ⟨pt, _, _, .ref ea, rfl, rfl, SqT.of hpt, at0, ?_⟩
    refine gn_of ?_
    try dsimp only
    have hd4 := Dk.same s4 hd
    refine ⟨.ref ea, rfl, ea, C2, C2, dd, _, _, rfl, herr, hdd, RK.i, RK.k, _, rfl, iteT ?_⟩
    refine ⟨.ref ea, rfl, ea, C2, dd, [("value", v)], v, rfl, herr, RK.i.f, RK.n, hdd, rfl, v, d, rfl, hd4, od, v, rfl, v, d, rfl, hd4, od, rfl, ?_⟩
    rw [decide_eq_true rfl]
    exact q _ s4
end
end K35



set_option maxRecDepth 100000
set_option maxHeartbeats 2000000
/-! k35: a lambda that outlives the def that made it. -/
namespace K35
open PySem PySem.Spec PyProof.Rows L2 LamX VG TL
theorem scTwo : FnScope ["look", "clans", "task", "other"] ["look", "clans", "task", "other"] (defScope sTwo) := ⟨rfl, rfl, rfl, by decide +kernel, rfl, by decide +kernel, by decide +kernel⟩
def lamTwo : LamD := match defBody sTwo with
  | .Return (some (.Lambda a b c _)) _ :: _ => ⟨a, b, c⟩
  | _ => ⟨⟨[], [], none, [], [], none, []⟩, .Constant .none 0 ⟨0, 0, 0, 0⟩, defScope sTwo⟩
theorem lamTwo_sc : LamS (defScope sTwo) lamTwo.scope := lamS_by (by decide +kernel)
section
variable {P : Program} {w : World} {K : PySem.W.Frag} {mg : Str → Option Value} {base : Heap}
/-- what stays of such a lambda, whatever else is laid or appended to -/
structure Stays (Z : Hp → Prop) : Prop where
  ext : ∀ H1 H2, Z H1 → ExtN H1 H2 → Z H2
  lst : ∀ (H1 : Hp) (l : Addr) (xs : List V) (o : HO), Z H1 → H1 l = some (.lst xs) → Z (upd H1 l o)
def spTwoL (P : Program) (w : World) (K : PySem.W.Frag) (mg : Str → Option Value) (base : Heap) (Tz : List (Addr × Str)) (hk : Nat) (C2 : Addr) : Sp := fun vs H Q _ => ∃ (g : Addr) (gd : FuncData) (sp3 : Sp) (x y z v : V) (HL : Hp) (yes : Prop), vs = [.ref g, x, y, z] ∧ FnOk P w K mg base (L2.CX P w) hk g gd ["clans", "task", "other"] sp3 ∧ PySem.W.keepIn K (.ref g) = true ∧ L2.Binds K gd ["clans", "task", "other"] [] ∧ ExtN HL H ∧
  (yes → ∀ H2 E Q2, ExtN HL H2 → Err H2 E C2 v → sp3 [x, y, z] H2 Q2 E) ∧ Tabs Tz H ∧ ∀ H' f (Z : Hp → Prop), ExtN H H' → Tabs Tz H' → Z H' → Stays Z → (yes → ∀ H2, Z H2 → ExtN HL H2 → ∀ Γ, Thk P w K mg base Γ hk f H2 (fun E H3 _ => Err H3 E C2 v)) → H f = none → Q (.ref f) H'
theorem ok_Two {k : Nat} {f cc Pt C2 : Addr} {fd : FuncData} {Tz : List (Addr × Str)} (F : Fun K "_law_two" "_law_two" sTwo f fd) (hcc : fd.code = .ref cc) (TB : TabB base mg cc Pt) (Tm : (Pt, Str.ofString "_law_two.<locals>." ++ "<lambda>") ∈ Tz) (T1 : ∀ p ∈ Tz, p.1 = Pt → p.2 = Str.ofString "_law_two.<locals>." ++ "<lambda>") : FnOk P w K mg base CX0 (k + 1) f fd ["look", "clans", "task", "other"] (spTwoL P w K mg base Tz k C2) := by
  refine ⟨fun vs H Q E h => ?_, fun A outer s H args us vs Q E hr e0 hb r h => ?_⟩
  · obtain ⟨g, gd, sp3, x, y, z, v, HL, yes, rfl, _⟩ := h
    rfl
  · obtain ⟨g, gd, sp3, x, y, z, v, HL, yes, rfl, G, hk, bg, eL, hcall, hT, q⟩ := h
    have M : LamM (cxOf CX0 P w K mg base ["look", "clans", "task", "other"] "_law_two" (defScope sTwo) f (.ref cc) A outer s H E) Tz cc Pt := ⟨TB, rfl, Tm, T1⟩
    refine fin_run (Q1 := fun u H1 => ∃ f1, u = .ref f1 ∧ ExtN H H1 ∧ Tabs Tz H1 ∧ IsLam (cxOf CX0 P w K mg base ["look", "clans", "task", "other"] "_law_two" (defScope sTwo) f (.ref cc) A outer s H E) lamTwo f1 H1 ∧ H f1 = none) F hcc scTwo hr e0 hb r rfl rfl (fun hr' => ⟨pe_lam M lamTwo_sc (by rfl), hT, fun f1 H1 e1 t1 l1 n1 => ⟨f1, rfl, e1, t1, l1, n1⟩⟩) (fun H' s' u uu J rv hq => ?_)
    obtain ⟨f1, rfl, e1, t1, l1, n1⟩ := hq
    refine ce_adopt J rfl rfl e0.hok rv ?_
    have cap := cap_of J
    have sub : ∀ {b : Addr} {o : HO}, H' b = some o → adG (cellsAt (cxOf CX0 P w K mg base ["look", "clans", "task", "other"] "_law_two" (defScope sTwo) f (.ref cc) A outer s H E) s'.heap) H' b = some o := fun {b o} z => by
      cases gc : cellsAt (cxOf CX0 P w K mg base ["look", "clans", "task", "other"] "_law_two" (defScope sTwo) f (.ref cc) A outer s H E) s'.heap b with
      | none => rw [ad_none gc]; exact z
      | some ob =>
        obtain ⟨⟨y, hy⟩, _⟩ := cellsAt_is gc
        have := J.freeC y b hy
        rw [this] at z
        cases z
    have cn : ∀ b o, cellsAt (cxOf CX0 P w K mg base ["look", "clans", "task", "other"] "_law_two" (defScope sTwo) f (.ref cc) A outer s H E) s'.heap b = some o → H' b = none := fun b o gc => by
      obtain ⟨⟨y, hy⟩, _⟩ := cellsAt_is gc
      exact J.freeC y b hy
    generalize hΓ : cellsAt (cxOf CX0 P w K mg base ["look", "clans", "task", "other"] "_law_two" (defScope sTwo) f (.ref cc) A outer s H E) s'.heap = Γ at cap sub cn ⊢
    obtain ⟨c1, lf, lc⟩ := l1
    have gf : Γ f1 = none := by
      cases gc : Γ f1 with
      | none => rfl
      | some ob => rw [cn f1 ob gc] at lf; cases lf
    have gc1 : Γ c1 = none := by
      cases gc : Γ c1 with
      | none => rfl
      | some ob => rw [cn c1 ob gc] at lc; cases lc
    have gL : ∀ b o, HL b = some o → (∀ ps, o ≠ .tbl ps) → Γ b = none := fun b o zb nt => by
      have z1 := e1 b o (eL b o zb nt) nt
      cases gc : Γ b with
      | none => rfl
      | some ob => rw [cn b ob gc] at z1; cases z1
    refine q _ f1 (fun H2 => AdAt Γ H2 ∧ H2 f1 = H' f1 ∧ H2 c1 = H' c1) (e1.trans (ExtN.of fun b o z => sub z)) (t1.ext fun b o z => sub z) ⟨fun a o gc => ad_some gc, ad_none gf, ad_none gc1⟩ ⟨fun H1 H2 hz e => ⟨hz.1.ext e, ?_, ?_⟩, fun H1 l xs o hz hl => ⟨fun a ob gc => ?_, ?_, ?_⟩⟩ (fun hy H2 hz eL2 Γ' => ?_) n1
    · have e2 : H1 f1 = H' f1 := hz.2.1
      rw [lf] at e2 ⊢
      exact e _ _ e2 (fun ps z => by unfold LamO at z; cases z)
    · have e2 : H1 c1 = H' c1 := hz.2.2
      rw [lc] at e2 ⊢
      exact e _ _ e2 (fun ps z => by unfold CodeO at z; cases z)
    · rw [upd_ne (fun z => by have e3 := hz.1 a ob gc; rw [z, hl] at e3; cases e3)]
      exact hz.1 a ob gc
    · rw [upd_ne (fun z => by have e2 := hz.2.1; rw [z, hl, ← z, lf] at e2; unfold LamO at e2; cases e2)]
      exact hz.2.1
    · rw [upd_ne (fun z => by have e2 := hz.2.2; rw [z, hl, ← z, lc] at e2; unfold CodeO at e2; cases e2)]
      exact hz.2.2
    · obtain ⟨A2, hf2, hc2⟩ := hz
      have l2 : IsLam (cxOf CX0 P w K mg base ["look", "clans", "task", "other"] "_law_two" (defScope sTwo) f (.ref cc) A outer s H E) lamTwo f1 (stG Γ H2) := ⟨c1, by rw [st_none gf, hf2]; exact lf, by rw [st_none gc1, hc2]; exact lc⟩
      have T0 := thk_of (tb := fun E1 => tCallV g 0 sp3 E1 (tCons (tVar 1) (tCons (tVar 2) (tCons (tVar 3) tNil)))) (k := k) l2 cap lamTwo_sc (fun _ _ _ => by rfl) (fun A1 outer1 s1 H1 E1 c1 hr1 => pe_callV (X := lamCx _ A1 outer1 s1 H1 E1 lamTwo.scope f1 c1) G hr1 hk bg VG.passL (pa_cons (pv 1) (pa_cons (pv 2) (pa_cons (pv 3) pa_nil))) rfl (.inr (.inr rfl)))
      refine thk_adopt T0 A2 (ExtN.refl _) fun E3 H3 Q3 e3 hE => ?_
      have A3 := A2.ext e3
      refine ⟨rfl, x, rfl, y, rfl, z, rfl, hcall hy _ _ _ (fun b o zb nt => ?_) (fun H4 dd s4 nd prem => ?_)⟩
      · rw [st_none (gL b o zb nt)]
        exact e3 b o (eL2 b o zb nt) nt
      · have gd2 : Γ dd = none := by
          cases gc : Γ dd with
          | none => rfl
          | some ob =>
            have := prem dd ob gc
            rw [upd_same] at this
            cases this
        rw [ad_upd gd2]
        exact hE (adG Γ H4) dd (ad_same A3 s4) (by rw [ad_none gd2]; exact nd)
end
end K35



set_option maxRecDepth 100000
set_option maxHeartbeats 2000000
/-! k35: lambdas kept in a list that grows. -/
namespace VG
open PySem PySem.Spec PyProof.Rows L2 LamX
/-- making a lambda: while it stands it is such a thing, whatever the names hold -/
def tLamD (X : Cx) (T : List (Addr × Str)) (k : Nat) (D : LamD) (tb : XK → TE) : TE := fun _ H Q => Tabs T H ∧ ∀ f H1, ExtN H H1 → Tabs T H1 → IsLam X D f H1 → (∀ (H2 : Hp) (σ2 : L2.St) (Γ : Addr → Option Obj), IsLam X D f H2 → Cap X σ2 Γ → Thk X.prog X.w X.K X.mg X.base Γ k f H2 (fun E => tb E σ2)) → H f = none → Q (.ref f) H1
theorem pe_lamD {X : Cx} {T : List (Addr × Str)} {c P : Addr} {params : Arguments} {body : Expr} {scope : Scope} {pos : Pos} {k : Nat} {tb : XK → TE} (M : LamM X T c P) (L : LamS X.env.scope scope) (hdef : defaultsOf params X.env = ([], []))
    (hbind : ∀ (pm cv ctv : Value), bindArgs (PySem.W.kla_fn "<lambda>" (X.env.qual ++ "<lambda>") params body scope (cloFrom X.env.cells scope.names []) pm cv ctv) ⟨[], []⟩ = pure [])
    (hbody : ∀ (A : Around) (outer : List Env) (s : Shared) (H : Hp) (E : XK) (f c' : Addr), Room k (A.deeper (lamEnv X scope s.heap.objs.size f c')) → PE (lamCx X A outer s H E scope f c') body (tb E)) :
    PE X (.Lambda params body scope pos) (tLamD X T k ⟨params, body, scope⟩ tb) := by
  refine ⟨fun pins s σ H Q I h => ?_⟩
  obtain ⟨hT, q⟩ := h
  refine (pe_lam M L hdef).run pins s σ H Q I ⟨hT, fun f H1 e1 t1 hl nf => q f H1 e1 t1 hl (fun H2 σ2 Γ hl2 C => ?_) nf⟩
  exact thk_of hl2 C L hbind fun A outer s H E c' hr => hbody A outer s H E f c' hr
theorem IsLam.upd_lst {X : Cx} {D : LamD} {f l : Addr} {H : Hp} {xs : List V} {o : HO} (h : IsLam X D f H) (hl : H l = some (.lst xs)) : IsLam X D f (upd H l o) := by
  obtain ⟨c', h1, h2⟩ := h
  refine ⟨c', ?_, ?_⟩
  · rw [upd_ne fun z => by rw [z, hl] at h1; unfold LamO at h1; cases h1]
    exact h1
  · rw [upd_ne fun z => by rw [z, hl] at h2; unfold CodeO at h2; cases h2]
    exact h2
def noN (H : Hp) (l : Addr) : Prop := ∀ o, H l = some o → ∃ ps, o = .tbl ps
theorem noN_of {H H1 : Hp} {l : Addr} (e : ExtN H H1) (n : H1 l = none) : noN H l := none_ext e n
theorem ExtP.ext {H H1 H2 : Hp} {p : Addr} (e : ExtP p H H1) (s : ExtN H1 H2) : ExtP p H H2 := fun b o z ne nt => s _ _ (e b o z ne nt) nt
theorem ExtP.wo {H H' : Hp} {p : Addr} (s : Same (wo H p) (wo H' p)) : ExtP p H H' := fun b o e ne _ => wo_le _ _ (s _ _ (wo_at e ne))
theorem ExtP.trans {H H1 H2 : Hp} {p : Addr} (e : ExtP p H H1) (s : ExtP p H1 H2) : ExtP p H H2 := fun b o z ne nt => s b o (e b o z ne nt) ne nt
/-- lambdas, each of its own kind -/
def Lams (X : Cx) : List (LamD × Addr) → Hp → Prop
  | [], _ => True
  | q :: r, H => IsLam X q.1 q.2 H ∧ Lams X r H
theorem Lams.ext {X : Cx} {H H' : Hp} (e : ExtN H H') : ∀ {Ls : List (LamD × Addr)}, Lams X Ls H → Lams X Ls H'
  | [], h => h
  | _ :: _, h => ⟨h.1.ext e, Lams.ext e h.2⟩
theorem Lams.upd_lst {X : Cx} {l : Addr} {H : Hp} {xs : List V} {o : HO} (hl : H l = some (.lst xs)) : ∀ {Ls : List (LamD × Addr)}, Lams X Ls H → Lams X Ls (upd H l o)
  | [], h => h
  | _ :: _, h => ⟨h.1.upd_lst hl, Lams.upd_lst hl h.2⟩
theorem Lams.snoc {X : Cx} {D : LamD} {f : Addr} {H : Hp} (hf : IsLam X D f H) : ∀ {Ls : List (LamD × Addr)}, Lams X Ls H → Lams X (Ls ++ [(D, f)]) H
  | [], h => ⟨hf, h⟩
  | _ :: _, h => ⟨h.1, Lams.snoc hf h.2⟩
end VG
namespace K35
open PySem PySem.Spec PyProof.Rows L2 LamX VG TL
theorem isW_of {i lo hi : Int} (h0 : lo ≤ i) (h1 : i ≤ hi) : isW (.int i) lo hi = true := by
  show (decide (lo ≤ i) && decide (i ≤ hi)) = true
  rw [decide_eq_true h0, decide_eq_true h1]
  rfl
theorem str_okd {x : Str} (h : VG.okS 50 x) : okData (.str x) = true := (h.ok (Nat.le_refl _)).ok (by decide) (by decide)
theorem rowsAt_extN {K : PySem.W.Frag} {H H' : Hp} {xs : List V} {rs : List Row} (h : RowsAt K H xs rs) (e : ExtN H H') : RowsAt K H' xs rs := ⟨h.1, fun i r z => let ⟨p, a, b⟩ := h.2 i r z; ⟨p, a, sqT_extN b e⟩⟩
theorem ClansAt.extN {K : PySem.W.Frag} {C : Addr} {H H' : Hp} {p : Addr} {nx : Int} {rs : List Row} (h : ClansAt K C H p nx rs) (e : ExtN H H') : ClansAt K C H' p nx rs := by
  obtain ⟨dx, R, T, A, B, h1, ⟨xs, h2, h3⟩, h4, h5, h6⟩ := h
  exact ⟨dx, R, T, A, B, e _ _ h1 (fun _ z => by cases z), ⟨xs, sqT_extN h2 e, rowsAt_extN h3 e⟩, sqT_extN h4 e, e _ _ h5 (fun _ z => by cases z), e _ _ h6 (fun _ z => by cases z)⟩
theorem HAt.extN {H H' : Hp} {h : Addr} {nx : Int} {rs : List Row} (a : HAt H h nx rs) (e : ExtN H H') : HAt H' h nx rs := by
  obtain ⟨c, b, h1, h2, h3⟩ := a
  exact ⟨c, b, e _ _ h1 (fun _ z => by cases z), e _ _ h2 (fun _ z => by cases z), e _ _ h3 (fun _ z => by cases z)⟩
/-- each of them raises this -/
theorem all_raised {P : Program} {w : World} {K : PySem.W.Frag} {mg : Str → Option Value} {base : Heap} {C2 l : Addr} {X : Cx} {σ : L2.St} {H : Hp} {Q : VK} {fs : List Addr} {v : V} {d : PyData} {hk : Nat} (h5 : σ[6]? = some (some (.ref l))) (h4 : σ[5]? = some (some v)) (h7 : 7 < σ.length)
    (hl : H l = some (.lst (fs.map V.ref))) (few : fs.length ≤ 20) (hd : Dk K H v d) (od : okData d = true) (each : ∀ f ∈ fs, ∃ tb, (∀ H' Γ, Same H H' → Cap X σ Γ → Thk P w K mg base Γ hk f H' tb) ∧ Rq C2 v H tb) (q : ∀ H', Same H H' → Q (.bl true) H') :
    tCB (rAll K) (tCons (tLcL X (iList K (tVar 6)) (gName 7) (fun x => tCallCB x (spIsRaised P w K mg base hk C2) (tCons (tVar 7) (tCons (tVar 5) tNil))) [7]) tNil) σ H Q := by
  refine ⟨.ref l, h5, l, rfl, ⟨_, SqL.of hl⟩, fun Γ hΓ D nD => ?_⟩
  refine lc_list (xs := fs.map V.ref) (fun i H' => Same H H' ∧ H' D = some (.lst ((List.replicate i true).map V.bl))) ⟨same_upd nD, upd_same⟩ (fun i H' _ hP => SqL.of (hP.1 _ _ hl)) (fun i x H' hx hP => ?_) fun H2 hP => ?_
  · obtain ⟨sm, hD⟩ := hP
    have hi := (List.getElem?_eq_some_iff.mp hx).1
    rw [List.length_map] at hi
    rw [List.getElem?_map, List.getElem?_eq_getElem hi] at hx
    obtain rfl : V.ref fs[i] = x := Option.some.inj hx
    obtain ⟨tb, ht, hq⟩ := each _ (List.getElem_mem hi)
    generalize fs[i] = f at ht hq ⊢
    refine ⟨by show (((σ.set 7 none).set 7 _).set 7 none) = σ.set 7 none; rw [List.set_set, List.set_set], ?_⟩
    unfold tYes
    refine iteT ⟨.ref f, ?_, v, ?_, f, v, d, tb, rfl, ht _ _ sm hΓ, Dk.same sm hd, od, fun H3 E Q' s3 => hq H3 E Q' (sm.trans s3), fun H3 s3 => ⟨_, s3 _ _ hD, small1000 (by rw [List.length_map, List.length_replicate]; omega), Same.updNew (sm.trans s3) nD, ?_⟩⟩
    · show ((σ.set 7 none).set 7 _)[7]? = _
      rw [List.set_set, List.getElem?_set_self h7]
    · show ((σ.set 7 none).set 7 _)[5]? = _
      rw [List.set_set, List.getElem?_set_ne (by decide)]
      exact h4
    · rw [upd_same, List.replicate_succ', List.map_append]
      rfl
  · obtain ⟨sm, hD⟩ := hP
    refine ⟨D, List.replicate (fs.map V.ref).length true, rfl, SqL.of hD, ?_⟩
    rw [show (List.replicate (fs.map V.ref).length true).all id = true from by simp]
    exact q _ sm
end K35



set_option maxRecDepth 100000
set_option maxHeartbeats 4000000
/-! k35: what is refused. -/
namespace K35
open PySem PySem.Spec PyProof.Rows L2 LamX VG TL
theorem scRefused : FnScope ["pot", "clans", "house", "task", "tasks", "value", "looks", "look", "is_task"] ["pot", "clans", "house"] (defScope sRefused) := ⟨rfl, rfl, rfl, by decide +kernel, rfl, by decide +kernel, by decide +kernel⟩
def lamsQ : Stmt → List LamD
  | .Assign _ v _ => lamsE v
  | _ => []
def lamsR : Stmt → List LamD
  | .For _ _ b _ _ => (b.map lamsQ).flatten
  | _ => []
def lamRefused (i : Nat) : LamD := (((defBody sRefused).map lamsR).flatten).getD i ⟨⟨[], [], none, [], [], none, []⟩, .Constant .none 0 ⟨0, 0, 0, 0⟩, defScope sRefused⟩
theorem lamRefused_sc (i : Nat) (h : i < 1) : LamS (defScope sRefused) (lamRefused i).scope := by
  match i, h with
  | 0, _ => exact lamS_by (by decide +kernel)
section
variable {P : Program} {w : World} {K : PySem.W.Frag} {mg : Str → Option Value} {base : Heap}
def spRefused (K : PySem.W.Frag) (Tz : List (Addr × Str)) (C : Addr) : Sp := fun vs H Q _ => ∃ (p c h : Addr) (nx : Int) (rs : List Row) (n : Nat), vs = [.ref p, .ref c, .ref h] ∧ Pot H p n ∧ n + 10 < 1000000 ∧ ClansAt K C (wo H p) c nx rs ∧ HAt (wo H p) h nx rs ∧ Good nx rs ∧ Tabs Tz H ∧
  ∀ H', ExtP p H H' → Tabs Tz H' → Q (.bl true) H'
theorem ok_Refused {k : Nat} {f : Addr} {fd : FuncData} {C C2 CS g cc Pt:Addr} {gd:FuncData} {Tz:List (Addr × Str)} (F : Fun K "_law_are_refused" "_law_are_refused" sRefused f fd) (hcc : fd.code = .ref cc) (TB : TabB base mg cc Pt) (Tm : (Pt, Str.ofString "_law_are_refused.<locals>." ++ "<lambda>") ∈ Tz) (T1 : ∀ p ∈ Tz, p.1 = Pt → p.2 = Str.ofString "_law_are_refused.<locals>." ++ "<lambda>") (FH : Fun K "_law_heard" "_law_heard" sHeard g gd) (bH : L2.Binds K gd ["call"] []) (gH : mg "_law_heard" = some (.ref g)) (gS : mg "CoreError" = some (.ref CS)) (gOd : Cal P w K mg base CX0 (k + 19) "_law_odd" ["pot"] (spOdd K)) (gOf : Cal P w K mg base CX0 (k + 19) "_law_of" ["pot", "some"] (spOf K)) (gIi : Cal P w K mg base CX0 (k + 19) "_law_is_int" ["value", "low", "high"] (spWithin K)) (gIr : CalC P w K mg base (k + 19) "_law_is_raised" ["look", "value"] (spIsRaised P w K mg base (k + 16) C2)) (gTw : Cal P w K mg base CX0 (k + 19) "_law_two" ["look", "clans", "task", "other"] (spTwoL P w K mg base Tz (k + 16) C2)) (gSg : Cal P w K mg base (L2.CX P w) (k + 16) "straight" ["clans", "task", "other"] (spStraight K C C2)) (gNs : Cal P w K mg base (L2.CX P w) (k + 16) "next_stop" ["clans", "task", "other"] (spNextStop K C C2)) (gWy : Cal P w K mg base (L2.CX P w) (k + 16) "way" ["clans", "task", "other"] (spWay K C C2)) (gWs : Cal P w K mg base (L2.CX P w) (k + 16) "way_sort" ["clans", "task", "other"] (spWaySort K C C2)) (gPa : Cal P w K mg base (L2.CX P w) (k + 16) "passes" ["clans", "task", "other"] (spPasses K C C2)) (gMb : Cal P w K mg base (L2.CX P w) (k + 16) "met_by" ["clans", "stop"] (spMetBy K C C2)) (T : CF K C) (fall : mg "all" = none) (fsorted : mg "sorted" = none) : FnG P w K mg base (k + 20) f fd ["pot", "clans", "house"] (spRefused K Tz C) := by
  obtain ⟨fOd, fdOd, GOd, kOd, bOd, mOd⟩ := gOd
  obtain ⟨fOf, fdOf, GOf, kOf, bOf, mOf⟩ := gOf
  obtain ⟨fIi, fdIi, GIi, kIi, bIi, mIi⟩ := gIi
  obtain ⟨fIr, fdIr, GIr, kIr, bIr, mIr⟩ := gIr
  obtain ⟨fTw, fdTw, GTw, kTw, bTw, mTw⟩ := gTw
  obtain ⟨fSg, fdSg, GSg, kSg, bSg, mSg⟩ := gSg
  obtain ⟨fNs, fdNs, GNs, kNs, bNs, mNs⟩ := gNs
  obtain ⟨fWy, fdWy, GWy, kWy, bWy, mWy⟩ := gWy
  obtain ⟨fWs, fdWs, GWs, kWs, bWs, mWs⟩ := gWs
  obtain ⟨fPa, fdPa, GPa, kPa, bPa, mPa⟩ := gPa
  obtain ⟨fMb, fdMb, GMb, kMb, bMb, mMb⟩ := gMb
  refine fnG_code F hcc scRefused (fun vs H Q E h => ?_) (fun A outer s H vs Q hr gd h => ?_)
  · obtain ⟨p, c, h, nx, rs, n, rfl, _⟩ := h
    rfl
  · have M : LamM (cxOf CX0 P w K mg base ["pot", "clans", "house", "task", "tasks", "value", "looks", "look", "is_task"] "_law_are_refused" (defScope sRefused) f (.ref cc) A outer s H E0).nox Tz cc Pt := ⟨TB, rfl, Tm, T1⟩
    obtain ⟨p, c, h, nx, rs, n, rfl, hp, hn, hc, hh, g, hT, q⟩ := h
    refine ⟨_, (pss_cons (ps_par (i := 3) (j := 4) (by rfl) scRefused.nd rfl rfl (by decide) rfl rfl (pa_cons (pe_call GOf hr (by rfl) mOf kOf bOf .nil pass0 (pa_cons (pv 0) (pa_cons (pe_callB (call_sortedDI rfl) (by rfl) fsorted (by decide +kernel) (pa_cons (pe_dget (hu_of hr) (pv 2) pe_str (fun _ _ => rfl)) pa_nil)) pa_nil))) (pa_cons (pe_callB (call_sortedDI rfl) (by rfl) fsorted (by decide +kernel) (pa_cons (pe_dget (hu_of hr) (pv 2) pe_str (fun _ _ => rfl)) pa_nil)) pa_nil)) (by rfl)) (pss_cons (ps_for PassesOwn.never rfl (pi_list (pe_lst (pa_cons (pe_un un_neg pe_int) (pa_cons (pe_dget (hu_of hr) (pv 2) pe_str (fun _ _ => rfl)) (pa_cons pe_bl (pa_cons pe_non (pa_cons pe_str (pa_cons (pe_tup (pa_cons pe_int pa_nil)) (pa_cons (pe_call GOd hr (by rfl) mOd kOd bOd .nil pass0 (pa_cons (pv 0) pa_nil)) pa_nil))))))))) (pg_name (i := 5) scRefused.nd rfl (.inr rfl)) (pss_cons (ps_set (i := 6) scRefused.nd rfl (.inl rfl) (pe_lst (pa_cons (pe_lamD (k := (k+16)) M (lamRefused_sc 0 (by omega)) (by rfl) (fun _ _ _ => by rfl) (fun A' outer' s' H' E' f' c' hr' => pe_call (X := lamCx _ A' outer' s' H' E' (lamRefused 0).scope f' c') GMb hr' (by rfl) mMb kMb bMb .nil VG.passL (pa_cons (pv 1) (pa_cons (pv 5) pa_nil)))) pa_nil))) (pss_cons (ps_for PassesOwn.never rfl (pi_tup (pe_tup (pa_cons (pgr (by rfl) mSg) (pa_cons (pgr (by rfl) mNs) (pa_cons (pgr (by rfl) mWy) (pa_cons (pgr (by rfl) mWs) (pa_cons (pgr (by rfl) mPa) pa_nil))))))) (pg_name (i := 7) scRefused.nd rfl (.inl rfl)) (pss_cons (ps_expr (pe_bm PySem.F.plainAttrs_list PySem.F.slot_list_append PySem.F.type_list_append mt_append (pv 6) (pa_cons (pe_call GTw hr (by rfl) mTw kTw bTw .nil pass0 (pa_cons (pv 7) (pa_cons (pv 1) (pa_cons (pv 5) (pa_cons pe_str pa_nil))))) pa_nil))) (pss_one (ps_expr (pe_bm PySem.F.plainAttrs_list PySem.F.slot_list_append PySem.F.type_list_append mt_append (pv 6) (pa_cons (pe_call GTw hr (by rfl) mTw kTw bTw .nil pass0 (pa_cons (pv 7) (pa_cons (pv 1) (pa_cons (pv 3) (pa_cons (pv 5) pa_nil))))) pa_nil)))))) (pss_cons (ps_set (i := 8) scRefused.nd rfl (.inl rfl) (pe_and (pe_call GIi hr (by rfl) mIi kIi bIi .nil pass0 (pa_cons (pv 5) (pa_cons pe_int (pa_cons pe_int pa_nil)))) (pe_one (pe_cmpR op_in_seq (pv 5) (pv 4) (by rfl))))) (pss_one (ps_if (PW.pt (pw_and (pt_not (pt_val (pv 8))) (pw_and1 (pt_not (pt_val (pe_callB (cr_all rfl) (by rfl) fall (by decide +kernel) (pa_cons (pe_lcL (own := [("look", 7)]) (g := (gName 7)) rfl scRefused.nd (pi_list (pv 6)) (blkOk_by (N := ["pot", "clans", "house", "task", "tasks", "value", "looks", "look", "is_task"]) (sc := defScope sRefused) (by decide +kernel)) (fun _ _ _ _ _ => (pg_name (i := 7) scRefused.nd rfl (.inl rfl))) (fun _ _ _ _ _ _ lv nf => pe_callCB lv nf GIr hr gd (by rfl) mIr kIr bIr (pa_cons (pv 7) (pa_cons (pv 5) pa_nil)))) pa_nil))))))) (pss_one (ps_ret pe_bl)) pss_nil)))))) (pss_one (ps_ret pe_bl)))), ?_⟩
    obtain ⟨cc0, b0, h1, h2, h3⟩ := id hh
    have few := g.few
    have nhi := g.hi
    have nlo := g.lo
    have hne : (rs.map (·.1)).map V.int ≠ [] := fun z => g.ne (List.map_eq_nil_iff.mp (List.map_eq_nil_iff.mp z))
    refine ⟨.ref p, rfl, .ref h, rfl, h, _, rfl, g_chiefs (wo_le _ _ h1), cc0, chKV rs, rs.map (·.1), rfl, .inl (wo_le _ _ h2), (by unfold chKV; rw [List.map_map, List.map_map]; rfl), (by rw [List.length_map]; omega), fun ys S hpm hs nS => ?_⟩
    rw [sorted_rise g.rise hpm hs]
    clear hpm hs
    have s1 := same_upd (o := .lst ((rs.map (·.1)).map V.int)) nS
    have hp1 := hp.same s1
    have w1 := wo_same_of (a := p) s1
    have hS1 : wo (upd H S (.lst ((rs.map (·.1)).map V.int))) p S = some (.lst ((rs.map (·.1)).map V.int)) := wo_at upd_same (hp.ne nS)
    have hT1 := hT.ext s1
    generalize upd H S (.lst ((rs.map (·.1)).map V.int)) = H1 at hp1 w1 hS1 hT1 ⊢
    refine ⟨p, S, (rs.map (·.1)).map V.int, n, rfl, SqL.of hS1, hne, by rw [List.length_map, List.length_map]; omega, hp1, by omega, fun x hx H2 hp2 w2 => ?_⟩
    obtain ⟨i0, hi0, rfl⟩ := List.mem_map.mp hx
    obtain ⟨r, hr, rfl⟩ := List.mem_map.mp hi0
    have hT2 := tabs_wo hT1 (pot_lst hp1) w2
    have w12 := w1.trans w2
    have hc2 := hc.same w12
    have hh2 := hh.same w12
    have e2 : ExtP p H H2 := ExtP.wo w12
    clear hx hi0 hS1 hp1 w1 w2 w12 hT1 h1 h2 h3 nS hp hT hc hh s1
    obtain ⟨cc1, b1, h1, h2, h3⟩ := id hh2
    refine ⟨.ref h, rfl, h, _, rfl, g_chiefs (wo_le _ _ h1), cc1, chKV rs, rs.map (·.1), rfl, .inl (wo_le _ _ h2), (by unfold chKV; rw [List.map_map, List.map_map]; rfl), (by rw [List.length_map]; omega), fun ys S2 hpm hs nS => ⟨_, _, rfl, ?_⟩⟩
    rw [sorted_rise g.rise hpm hs]
    clear hpm hs
    have s3 := same_upd (o := .lst ((rs.map (·.1)).map V.int)) nS
    have hp3 := hp2.same s3
    have w3 := wo_same_of (a := p) s3
    have hS3 : wo (upd H2 S2 (.lst ((rs.map (·.1)).map V.int))) p S2 = some (.lst ((rs.map (·.1)).map V.int)) := wo_at upd_same (hp2.ne nS)
    have hT3 := hT2.ext s3
    have hc3 := hc2.same w3
    have hh3 := hh2.same w3
    have e3 : ExtP p H (upd H2 S2 (.lst ((rs.map (·.1)).map V.int))) := e2.trans (ExtP.wo w3)
    generalize upd H2 S2 (.lst ((rs.map (·.1)).map V.int)) = H3 at hp3 hS3 hT3 hc3 hh3 e3 ⊢
    clear s3 w3 nS h1 h2 h3 hc2 hh2 e2 hT2 hp2
    obtain ⟨cc, b, h1, h2, h3⟩ := id hh3
    refine gn_of ?_
    try dsimp only
    refine ⟨1, rfl, .ref h, rfl, h, _, rfl, g_next (wo_le _ _ h1), by show 1 ≤ sizeLine; decide, fun t0 nt0 => ⟨.ref p, rfl, p, n + 1, rfl, hp3.same (same_upd nt0), by omega, fun vo do_ H4 hp4 s4 hdo oko => ⟨by show 7 ≤ sizeLine; decide, fun L nL => ?_⟩⟩⟩
    have u1 := same_upd (o := .tup [V.int 0]) nt0
    have ne0 := hp3.ne nt0
    have u2 := same_upd (o := .lst [V.int (-1), .int nx, .bl true, .non, .str "0", .ref t0, vo]) nL
    have okdo : okData do_ = true := by
      unfold okOdd at oko
      rw [Bool.and_eq_true] at oko
      exact oko.1
    have hdo2 : Dk K (wo H4 p) vo do_ := Dk.same (nl_wo (pot_lst (hp3.same u1))) hdo
    have w12 : Same (wo H3 p) (wo (upd H4 L (.lst [V.int (-1), .int nx, .bl true, .non, .str "0", .ref t0, vo])) p) := (wo_same_of u1).trans (s4.trans (wo_same_of u2))
    have all7 : ∀ v ∈ [V.int (-1), .int nx, .bl true, .non, .str "0", .ref t0, vo], ∃ d, Dk K (wo (upd H4 L (.lst [V.int (-1), .int nx, .bl true, .non, .str "0", .ref t0, vo])) p) v d ∧ okData d = true := fun v hv => by
      simp only [List.mem_cons, List.not_mem_nil, or_false] at hv
      rcases hv with rfl | rfl | rfl | rfl | rfl | rfl | rfl
      · exact ⟨_, .dp (.int _), by decide⟩
      · exact ⟨_, .dp (.int _), int_ok ⟨by omega, by omega⟩⟩
      · exact ⟨_, .dp (.bl _), by decide⟩
      · exact ⟨_, .dp .non, by decide⟩
      · exact ⟨_, .dp (.str _), str_okd ⟨by decide, by decide⟩⟩
      · exact ⟨.tuple [.int 0], .dp (.tup (SqT.of ((s4.trans (wo_same_of u2)) _ _ (wo_at upd_same ne0))) (.cons (.int _) .nil)), by decide⟩
      · exact ⟨_, Dk.same (wo_same_of u2) hdo2, okdo⟩
    have hTL := tabs_wo hT3 (pot_lst hp3) w12
    have eL : ExtP p H (upd H4 L (.lst [V.int (-1), .int nx, .bl true, .non, .str "0", .ref t0, vo])) := e3.trans (ExtP.wo w12)
    have hcL := (hc3.same w12).same wo_le
    have hSL := wo_le _ _ (w12 _ _ hS3)
    have hLL : upd H4 L (.lst [V.int (-1), .int nx, .bl true, .non, .str "0", .ref t0, vo]) L = some (.lst [V.int (-1), .int nx, .bl true, .non, .str "0", .ref t0, vo]) := upd_same
    generalize hxs : [V.int (-1), .int nx, .bl true, .non, .str "0", .ref t0, vo] = xs at all7 hLL hTL eL hcL hSL ⊢
    generalize upd H4 L (.lst xs) = HL at all7 hLL hTL eL hcL hSL ⊢
    clear hxs w12 u1 u2 ne0 hdo hdo2 okdo oko nt0 nL s4 hp3 hT3 e3 hc3 hh3 hS3 h1 h2 h3 hp4
    refine ⟨L, rfl, ⟨_, SqL.of hLL⟩, ?_⟩
    refine for_list (xs := xs) (fun i σ H' => ∃ y5 y6 y7 y8, σ = [some (.ref p), some (.ref c), some (.ref h), some (.int r.1), some (.ref S2), y5, y6, y7, y8] ∧ ExtN HL H' ∧ Tabs Tz H') ⟨none, none, none, none, rfl, ExtN.refl _, hTL⟩ (fun i σ H' _ hP => ?_) (fun i v σ H' hvi hP => ?_) (fun σ H' hP => ?_)
    · obtain ⟨_, _, _, _, _, e, _⟩ := hP
      exact SqL.of (e _ _ hLL (fun ps z => by cases z))
    · obtain ⟨y5, y6, y7, y8, rfl, eN, hT'⟩ := hP
      obtain ⟨d, hd0, okd⟩ := all7 v (List.mem_of_getElem? hvi)
      have hdL := Dk.same wo_le hd0
      refine gn_of ?_
      try dsimp only
      refine ⟨hT', fun f0 Ha e1 t1 l1 mk0 n1 => ⟨by show 1 ≤ sizeLine; decide, fun l nl => ?_⟩⟩
      have nn := noN_of (eN.trans e1) nl
      have ea := extN_upd (o := .lst [V.ref f0]) (eN.trans e1) nn
      have ta : Tabs Tz (upd Ha l (.lst [V.ref f0])) := t1.ext (same_upd nl)
      have la := l1.ext (ExtN.of (same_upd (o := .lst [V.ref f0]) nl))
      have hla : upd Ha l (.lst [V.ref f0]) l = some (.lst [V.ref f0]) := upd_same
      generalize upd Ha l (.lst [V.ref f0]) = Ha2 at ea ta la hla ⊢
      clear t1 l1 n1 e1
      refine gn_of ?_
      try dsimp only
      obtain ⟨Z0, la, sZ0, lZ0⟩ : ∃ Z0 : Hp → Prop, Z0 Ha2 ∧ Stays Z0 ∧ ∀ H2, Z0 H2 → IsLam _ _ f0 H2 := ⟨fun H2 => IsLam _ _ f0 H2, la, ⟨fun H1 H2 z e => z.ext e, fun H1 l xs o z hl => z.upd_lst hl⟩, fun H2 z => z⟩
      have five : ∀ x ∈ [V.ref fSg, .ref fNs, .ref fWy, .ref fWs, .ref fPa], ∃ g gd res, x = V.ref g ∧ FnOk P w K mg base (L2.CX P w) (k + 16) g gd ["clans", "task", "other"] (Two K C C2 res) ∧ PySem.W.keepIn K (.ref g) = true ∧ L2.Binds K gd ["clans", "task", "other"] [] := fun x hx => by
        simp only [List.mem_cons, List.not_mem_nil, or_false] at hx
        rcases hx with rfl | rfl | rfl | rfl | rfl
        · exact ⟨_, _, _, rfl, GSg, kSg, bSg⟩
        · exact ⟨_, _, _, rfl, GNs, kNs, bNs⟩
        · exact ⟨_, _, _, rfl, GWy, kWy, bWy⟩
        · exact ⟨_, _, _, rfl, GWs, kWs, bWs⟩
        · exact ⟨_, _, _, rfl, GPa, kPa, bPa⟩
      have l5 : [V.ref fSg, .ref fNs, .ref fWy, .ref fWs, .ref fPa].length = 5 := rfl
      refine seq_cut (fun σ' H5 => ∃ y7 fs, σ' = [some (.ref p), some (.ref c), some (.ref h), some (.int r.1), some (.ref S2), some v, some (.ref l), y7, y8] ∧ ExtN HL H5 ∧ Tabs Tz H5 ∧ H5 l = some (.lst ((f0 :: fs).map V.ref)) ∧ fs.length ≤ 10 ∧ Z0 H5 ∧ ∀ f1 ∈ fs, ∃ Z : Hp → Prop, Z H5 ∧ Stays Z ∧ (hasB d rs = false → ∀ H2, Z H2 → ExtN HL H2 → ∀ Γ, Thk P w K mg base Γ (k + 16) f1 H2 (fun E H3 _ => Err H3 E C2 v))) (fun N hN => ?_) (fun σ' H5 hq => ?_)
      · refine ⟨by show 5 ≤ sizeLine; decide, fun t nt => ⟨t, rfl, ⟨_, SqT.of upd_same⟩, ?_⟩⟩
        have st := same_upd (o := .tup [V.ref fSg, .ref fNs, .ref fWy, .ref fWs, .ref fPa]) nt
        have ntN : noN HL t := noN_of ea nt
        have ht0 : upd Ha2 t (.tup [V.ref fSg, .ref fNs, .ref fWy, .ref fWs, .ref fPa]) t = some (.tup [V.ref fSg, .ref fNs, .ref fWy, .ref fWs, .ref fPa]) := upd_same
        generalize [V.ref fSg, .ref fNs, .ref fWy, .ref fWs, .ref fPa] = x5 at five l5 st ht0 ⊢
        refine for_tup (xs := x5) (fun m σ H5 => ∃ y7 fs, σ = [some (.ref p), some (.ref c), some (.ref h), some (.int r.1), some (.ref S2), some v, some (.ref l), y7, y8] ∧ ExtN HL H5 ∧ Tabs Tz H5 ∧ H5 l = some (.lst ((f0 :: fs).map V.ref)) ∧ fs.length = 2 * m ∧ Z0 H5 ∧ (∀ f1 ∈ fs, ∃ Z : Hp → Prop, Z H5 ∧ Stays Z ∧ (hasB d rs = false → ∀ H2, Z H2 → ExtN HL H2 → ∀ Γ, Thk P w K mg base Γ (k + 16) f1 H2 (fun E H3 _ => Err H3 E C2 v))) ∧ H5 t = some (.tup x5)) ⟨y7, [], rfl, ea.trans (ExtN.of st), ta.ext st, st _ _ hla, rfl, sZ0.ext _ _ la (ExtN.of st), (fun f1 hf => nomatch hf), ht0⟩ (fun m σ H5 _ hP => ?_) (fun m x σ H5 hx hP => ?_) (fun σ H5 hP => ?_)
        · obtain ⟨_, _, _, _, _, _, _, _, _, z⟩ := hP
          exact SqT.of z
        · obtain ⟨z7, fs, rfl, e5, t5, hl5, len5, la5, hz5, ht5⟩ := hP
          have hm := (List.getElem?_eq_some_iff.mp hx).1
          obtain ⟨gg, gd, res, rfl, G, kg, bg⟩ := five x (List.mem_of_getElem? hx)
          refine gn_of ?_
          try dsimp only
          refine ⟨.ref l, rfl, .inl ⟨rfl, _, SqL.of hl5⟩, .ref gg, rfl, .ref c, rfl, v, rfl, gg, gd, Two K C C2 res, .ref c, v, .str "other", v, HL, hasB d rs = false, rfl, G, kg, bg, e5, fun no H6 E6 Q6 e6 herr => ⟨c, nx, rs, v, .str "other", d, .str "other", rfl, hcL.extN e6, g, dk_extN hdL e6, .dp (.str _), fun _ => herr, fun z => (by rw [no] at z; cases z), fun i j hi hj e1 _ => (by rw [e1] at no; exact no_tk hi no)⟩, t5, fun H6 f1 Z1 e6 t6 z6 s6 th6 n6 => ?_⟩
          have hl6 := e6 _ _ hl5 (fun ps z => by cases z)
          refine ⟨l, _, .ref f1, rfl, rfl, hl6, small1000 (by rw [List.length_map, List.length_cons]; omega), ?_⟩
          have e7 := extN_upd (o := .lst ((f0 :: fs).map V.ref ++ [.ref f1])) (e5.trans e6) nn
          have t7 := tabs_upd (o := .lst ((f0 :: fs).map V.ref ++ [.ref f1])) t6 hl6
          have la7 := sZ0.lst _ _ _ (.lst ((f0 :: fs).map V.ref ++ [.ref f1])) (sZ0.ext _ _ la5 e6) hl6
          have z7' := s6.lst _ _ _ (.lst ((f0 :: fs).map V.ref ++ [.ref f1])) z6 hl6
          have old7 : ∀ f1' ∈ fs, ∃ Z : Hp → Prop, Z (upd H6 l (.lst ((f0 :: fs).map V.ref ++ [.ref f1]))) ∧ Stays Z ∧ (hasB d rs = false → ∀ H2, Z H2 → ExtN HL H2 → ∀ Γ, Thk P w K mg base Γ (k + 16) f1' H2 (fun E H3 _ => Err H3 E C2 v)) := fun f1' hf => by
            obtain ⟨Z, a1, a2, a3⟩ := hz5 f1' hf
            exact ⟨Z, a2.lst _ _ _ _ (a2.ext _ _ a1 e6) hl6, a2, a3⟩
          have ht6 := e6 _ _ ht5 (fun ps z => by cases z)
          have ht7 : upd H6 l (.lst ((f0 :: fs).map V.ref ++ [.ref f1])) t = some (.tup x5) := by rw [upd_ne (fun z => by rw [z, hl6] at ht6; cases ht6)]; exact ht6
          have hl7 : upd H6 l (.lst ((f0 :: fs).map V.ref ++ [.ref f1])) l = some (.lst ((f0 :: fs).map V.ref ++ [.ref f1])) := upd_same
          generalize upd H6 l (.lst ((f0 :: fs).map V.ref ++ [.ref f1])) = H7 at e7 t7 la7 z7' old7 ht7 hl7 ⊢
          refine gn_of ?_
          try dsimp only
          refine ⟨.ref l, rfl, .inl ⟨rfl, _, SqL.of hl7⟩, .ref gg, rfl, .ref c, rfl, .int r.1, rfl, v, rfl, gg, gd, Two K C C2 res, .ref c, .int r.1, v, v, HL, hasB d rs = false, rfl, G, kg, bg, e7, fun no H8 E8 Q8 e8 herr => ⟨c, nx, rs, .int r.1, v, .int r.1, d, rfl, hcL.extN e8, g, .dp (.int _), dk_extN hdL e8, fun z => (by rw [hasB_of hr] at z; cases z), fun _ _ => herr, fun i j hi hj _ e2 => (by rw [e2] at no; exact no_tk hj no)⟩, t7, fun H8 f2 Z2 e8 t8 z8 s8 th8 n8 => ?_⟩
          have hl8 := e8 _ _ hl7 (fun ps z => by cases z)
          have ht8 := e8 _ _ ht7 (fun ps z => by cases z)
          refine ⟨l, _, .ref f2, rfl, rfl, hl8, small1000 (by rw [List.length_append, List.length_map, List.length_cons, List.length_singleton]; omega), _, fs ++ [f1] ++ [f2], rfl, extN_upd (e7.trans e8) nn, tabs_upd t8 hl8, ?_, ?_, sZ0.lst _ _ _ _ (sZ0.ext _ _ la7 e8) hl8, fun f3 hf => ?_, ?_⟩
          · rw [upd_same]
            simp
          · rw [List.length_append, List.length_append, len5, List.length_singleton]
            show 2 * m + 1 + 1 = 2 * (m + 1)
            omega
          · rcases List.mem_append.mp hf with hf | hf
            · rcases List.mem_append.mp hf with hf | hf
              · obtain ⟨Z, a1, a2, a3⟩ := old7 f3 hf
                exact ⟨Z, a2.lst _ _ _ _ (a2.ext _ _ a1 e8) hl8, a2, a3⟩
              · obtain rfl := List.mem_singleton.mp hf
                exact ⟨Z1, s6.lst _ _ _ _ (s6.ext _ _ z7' e8) hl8, s6, th6⟩
            · obtain rfl := List.mem_singleton.mp hf
              exact ⟨Z2, s8.lst _ _ _ _ z8 hl8, s8, th8⟩
          · rw [upd_ne (fun z => by rw [z, hl8] at ht8; cases ht8)]
            exact ht8
        · obtain ⟨z7, fs, rfl, e5, t5, hl5, len5, la5, hz5, ht5⟩ := hP
          exact hN _ _ ⟨z7, fs, rfl, e5, t5, hl5, by omega, la5, hz5⟩
      obtain ⟨z7, fs, rfl, e5, t5, hl5, len5, la5, hz5⟩ := hq
      have hc5 := hcL.extN e5
      have hd5 := dk_extN hdL e5
      have hS5 := e5 _ _ hSL (fun ps z => by cases z)
      clear five l5
      refine seq_cut (fun σ' H6 => σ' = [some (.ref p), some (.ref c), some (.ref h), some (.int r.1), some (.ref S2), some v, some (.ref l), z7, some (.bl (hasB d rs))] ∧ H5 = H6) (fun N hN => ?_) (fun σ' H6 hq => ?_)
      · refine ⟨v, rfl, v, d, 0, 999, rfl, hd5, _, rfl, ?_⟩
        cases ew : isW d 0 999 with
        | false =>
          refine iteF (hN _ _ ⟨?_, rfl⟩)
          have : hasB d rs = false := by
            cases ez : hasB d rs with
            | false => rfl
            | true =>
              obtain ⟨r2, hr2, rfl⟩ := hasB_row ez
              have := g.low r2 hr2
              rw [isW_of this.1 (by omega)] at ew
              cases ew
          rw [this]
          rfl
        | true =>
          obtain ⟨i0, rfl, _, _⟩ := isW_int ew
          obtain rfl := dk_int hd5
          refine iteT ⟨.int i0, rfl, .ref S2, rfl, S2, _, rfl, .inl (SqL.of hS5), rfl, flat_ints _, ?_⟩
          rw [inV_ints]
          exact hN _ _ ⟨rfl, rfl⟩
      obtain ⟨rfl, rfl⟩ := hq
      refine ⟨.bl (hasB d rs), rfl, _, rfl, ?_⟩
      have tail : ∀ H2 w0, Same H5 H2 → ∃ w5 w6 w7 w8, ([some (V.ref p), some (V.ref c), some (V.ref h), some (V.int r.1), some (V.ref S2), some v, some (V.ref l), z7, some (V.bl w0)] : L2.St) = [some (.ref p), some (.ref c), some (.ref h), some (.int r.1), some (.ref S2), w5, w6, w7, w8] ∧ ExtN HL H2 ∧ Tabs Tz H2 := fun H2 w0 e2 => ⟨_, _, _, _, rfl, e5.trans (ExtN.of e2), t5.ext e2⟩
      cases eh : hasB d rs with
      | true => exact iteF (iteF (tail _ _ (Same.refl _)))
      | false =>
        refine iteT ?_
        refine all_raised (fs := f0 :: fs) rfl rfl (by show 7 < 9; decide) hl5 (by rw [List.length_cons]; omega) hd5 okd (fun f1 hf => ?_) fun H2 s2 => ⟨true, rfl, iteF (tail _ _ s2)⟩
        rcases List.mem_cons.mp hf with rfl | hf
        · exact ⟨_, fun H3 Γ s3 hΓ => mk0 _ _ Γ (lZ0 _ (sZ0.ext _ _ la5 (ExtN.of s3))) hΓ, fun H2 E2 Q2 s2 herr => ⟨.ref c, rfl, v, rfl, c, nx, rs, v, d, rfl, hc5.same s2, g, Dk.same s2 hd5, fun _ => herr, fun s0 hs0 e0 => (by rw [e0] at eh; exact no_tk hs0 eh)⟩⟩
        · obtain ⟨Z, a1, a2, a3⟩ := hz5 f1 hf
          exact ⟨_, fun H3 Γ s3 _ => a3 eh H3 (a2.ext _ _ a1 (ExtN.of s3)) (e5.trans (ExtN.of s3)) Γ, fun H2 E2 Q2 s2 herr => herr⟩
    · obtain ⟨y5, y6, y7, y8, rfl, eN, hT'⟩ := hP
      exact q _ (eL.ext eN) hT'
end
end K35



set_option maxRecDepth 100000
set_option maxHeartbeats 4000000
/-! k35: one place of the script; the law. -/
namespace K35
open PySem PySem.Spec PyProof.Rows L2 LamX VG TL
theorem scRight : FnScope ["pot", "house", "clans", "tasks", "met", "task", "other", "stop"] ["pot"] (defScope sRight) := ⟨rfl, rfl, rfl, by decide +kernel, rfl, by decide +kernel, by decide +kernel⟩
theorem scLaw : FnScope ["script", "place"] ["script"] (defScope sLaw) := ⟨rfl, rfl, rfl, by decide +kernel, rfl, by decide +kernel, by decide +kernel⟩
def rTupOf (K : PySem.W.Frag) : List V → Hp → VK → Prop := fun xs H Q => ∃ p ys, xs = [V.ref p] ∧ ((SqL K H p ys ∧ ∀ l, H l = none → Q (.ref l) (upd H l (.tup ys))) ∨ SqT K H p ys ∧ Q (.ref p) H)
section
variable {K : PySem.W.Frag}
theorem sqT_wol {H : Hp} {p a : Addr} {xs ys : List V} (h : SqT K H a xs) (hp : H p = some (.lst ys)) : SqT K (wo H p) a xs := by
  rcases h with h | h
  · rcases h with h | ⟨o, h⟩
    · exact .inl (.inl (wo_at h (fun z => by rw [z, hp] at h; cases h)))
    · exact .inl (.inr ⟨o, wo_at h (fun z => by rw [z, hp] at h; cases h)⟩)
  · exact .inr h
theorem clans_wo {C c p : Addr} {H : Hp} {nx : Int} {rs : List Row} {ys : List V} (h : ClansAt K C H c nx rs) (hp : H p = some (.lst ys)) : ClansAt K C (wo H p) c nx rs := by
  obtain ⟨dx, R, T, A, B, h1, ⟨xs, h2, h3⟩, h4, h5, h6⟩ := h
  exact ⟨dx, R, T, A, B, wo_at h1 (fun z => by rw [z, hp] at h1; cases h1), ⟨xs, sqT_wol h2 hp, h3.1, fun i r z => let ⟨q, a, b⟩ := h3.2 i r z; ⟨q, a, sqT_wol b hp⟩⟩, sqT_wol h4 hp, wo_at h5 (fun z => by rw [z, hp] at h5; cases h5), wo_at h6 (fun z => by rw [z, hp] at h6; cases h6)⟩
theorem h_wo {h p : Addr} {H : Hp} {nx : Int} {rs : List Row} {ys : List V} (a : HAt H h nx rs) (hp : H p = some (.lst ys)) : HAt (wo H p) h nx rs := by
  obtain ⟨c, b, h1, h2, h3⟩ := a
  exact ⟨c, b, wo_at h1 (fun z => by rw [z, hp] at h1; cases h1), wo_at h2 (fun z => by rw [z, hp] at h2; cases h2), wo_at h3 (fun z => by rw [z, hp] at h3; cases h3)⟩
end
def PrsD (H : Hp) (rs : List Row) (ys : List V) (qs : List (Nat × Nat)) : Prop := ys.length = qs.length ∧ ∀ (k : Nat) (q : Nat × Nat), qs[k]? = some q → ∃ p, ys[k]? = some (V.ref p) ∧ H p = some (.tup [.int (tk rs q.1), .int (tk rs q.2)])
theorem PrsD.snoc {H : Hp} {rs : List Row} {ys : List V} {qs : List (Nat × Nat)} {p : Addr} {q : Nat × Nat} (h : PrsD H rs ys qs) (hp : H p = some (.tup [.int (tk rs q.1), .int (tk rs q.2)])) : PrsD H rs (ys ++ [.ref p]) (qs ++ [q]) := by
  refine ⟨by rw [List.length_append, List.length_append, h.1]; rfl, fun k z e => ?_⟩
  by_cases c : k < qs.length
  · rw [List.getElem?_append_left c] at e
    obtain ⟨p', a, b⟩ := h.2 k z e
    exact ⟨p', by rw [List.getElem?_append_left (by rw [h.1]; exact c)]; exact a, b⟩
  · rw [List.getElem?_append_right (by omega)] at e
    have hk : k - qs.length = 0 := by
      cases ek : k - qs.length with
      | zero => rfl
      | succ n => rw [ek] at e; cases e
    rw [hk] at e
    obtain rfl : q = z := Option.some.inj e
    exact ⟨p, by rw [List.getElem?_append_right (by rw [h.1]; omega), h.1, hk]; rfl, hp⟩
/-- the law's own lists, one for each task -/
structure MetAt (H0 H : Hp) (M : Addr) (rs : List Row) (LA : Int → Addr) (qs : Nat → List (Nat × Nat)) : Prop where
  d : H M = some (.dK (rs.map fun r => ((Sum.inl r.1 : Key), V.ref (LA r.1))))
  l : ∀ s, s < rs.length → H0 (LA (tk rs s)) = none ∧ ∃ ys, H (LA (tk rs s)) = some (.lst ys) ∧ PrsD H rs ys (qs s)
  i : ∀ s t, s < rs.length → t < rs.length → LA (tk rs s) = LA (tk rs t) → s = t
theorem MetAt.same {H0 H H' : Hp} {M : Addr} {rs : List Row} {LA : Int → Addr} {qs : Nat → List (Nat × Nat)} (m : MetAt H0 H M rs LA qs) (s : Same H H') : MetAt H0 H' M rs LA qs :=
  ⟨s _ _ m.d, fun t ht => let ⟨n, ys, a, b⟩ := m.l t ht; ⟨n, ys, s _ _ a, b.1, fun k q e => let ⟨p, e1, e2⟩ := b.2 k q e; ⟨p, e1, s _ _ e2⟩⟩, m.i⟩
theorem MetAt.eqs {H0 H : Hp} {M : Addr} {rs : List Row} {LA : Int → Addr} {qs qs' : Nat → List (Nat × Nat)} (m : MetAt H0 H M rs LA qs) (e : ∀ s, s < rs.length → qs s = qs' s) : MetAt H0 H M rs LA qs' :=
  ⟨m.d, fun t ht => by rw [← e t ht]; exact m.l t ht, m.i⟩
theorem MetAt.push {H0 H : Hp} {M t : Addr} {rs : List Row} {LA : Int → Addr} {qs : Nat → List (Nat × Nat)} {s0 : Nat} {q : Nat × Nat} {ys : List V} (m : MetAt H0 H M rs LA qs) (hs0 : s0 < rs.length) (ht : H t = some (.tup [.int (tk rs q.1), .int (tk rs q.2)])) (hl : H (LA (tk rs s0)) = some (.lst ys)) :
    MetAt H0 (upd H (LA (tk rs s0)) (.lst (ys ++ [.ref t]))) M rs LA (fun s => if s = s0 then qs s ++ [q] else qs s) := by
  have tup : ∀ {b : Addr} {vs : List V}, H b = some (.tup vs) → upd H (LA (tk rs s0)) (.lst (ys ++ [.ref t])) b = some (.tup vs) := fun {b vs} e => by
    rw [upd_ne fun z => by rw [z, hl] at e; cases e]
    exact e
  have prs : ∀ {zs : List V} {ps : List (Nat × Nat)}, PrsD H rs zs ps → PrsD (upd H (LA (tk rs s0)) (.lst (ys ++ [.ref t]))) rs zs ps := fun b => ⟨b.1, fun k q e => let ⟨p, e1, e2⟩ := b.2 k q e; ⟨p, e1, tup e2⟩⟩
  refine ⟨?_, fun s hs => ?_, m.i⟩
  · rw [upd_ne fun z => by have := m.d; rw [z, hl] at this; cases this]
    exact m.d
  · obtain ⟨n, zs, a, b⟩ := m.l s hs
    refine ⟨n, ?_⟩
    by_cases e : s = s0
    · subst e
      rw [hl] at a
      cases a
      refine ⟨ys ++ [.ref t], upd_same, ?_⟩
      rw [if_pos rfl]
      exact (prs b).snoc (tup ht)
    · rw [if_neg e]
      exact ⟨zs, by rw [upd_ne fun z => e (m.i s s0 hs hs0 z)]; exact a, prs b⟩
def metF (p : Shp) (pre : List (Nat × Nat)) (s : Nat) : List (Nat × Nat) := pre.filter fun q => decide (s ∈ (wayI p 12 q.1 q.2).dropLast)
theorem allP_rise {rs : List Row} (h : Rise rs) : (allP rs.length rs.length).Pairwise fun a b => tk rs a.1 < tk rs b.1 ∨ (tk rs a.1 = tk rs b.1 ∧ tk rs a.2 < tk rs b.2) := by
  have inn : ∀ i m, m ≤ rs.length → ((List.range m).map fun j => (i, j)).Pairwise fun a b : Nat × Nat => tk rs a.1 < tk rs b.1 ∨ (tk rs a.1 = tk rs b.1 ∧ tk rs a.2 < tk rs b.2) := fun i m hm => by
    rw [List.pairwise_map]
    refine List.Pairwise.imp_of_mem (fun {a b} ha hb lt => ?_) (List.pairwise_lt_range (n := m))
    exact .inr ⟨rfl, tk_lt h (by have := List.mem_range.mp hb; omega) lt⟩
  have go : ∀ m, m ≤ rs.length → (allP rs.length m).Pairwise fun a b => tk rs a.1 < tk rs b.1 ∨ (tk rs a.1 = tk rs b.1 ∧ tk rs a.2 < tk rs b.2) := by
    intro m
    induction m with
    | zero => exact fun _ => by simp [allP]
    | succ m ih =>
      intro hm
      have e : allP rs.length (m + 1) = allP rs.length m ++ (List.range rs.length).map fun j => (m, j) := by
        unfold allP
        rw [List.range_succ, List.flatMap_append, List.flatMap_singleton]
      rw [e, List.pairwise_append]
      refine ⟨ih (by omega), inn m _ (Nat.le_refl _), fun a ha b hb => ?_⟩
      obtain ⟨j, _, rfl⟩ := List.mem_map.mp hb
      exact .inl (tk_lt h (by omega) (allP_mem ha).1)
  exact go _ (Nat.le_refl _)
theorem MetAt.get {H0 H : Hp} {M : Addr} {rs : List Row} {LA : Int → Addr} {qs : Nat → List (Nat × Nat)} (m : MetAt H0 H M rs LA qs) (h : Rise rs) {s : Nat} (hs : s < rs.length) : DGet H M (.int (tk rs s)) (some (.ref (LA (tk rs s)))) := by
  rw [tk_row hs]
  exact dget_of (k := Sum.inl (rs[s]).1) m.d (val_row (f := fun r => V.ref (LA r.1)) h (List.getElem_mem hs))
def pairD (rs : List Row) (q : Nat × Nat) : PyData := .tuple [.int (tk rs q.1), .int (tk rs q.2)]
theorem Pairs.dp {K : PySem.W.Frag} {H : Hp} {rs : List Row} : ∀ {qs : List (Nat × Nat)} {ys : List V}, Pairs K H rs ys qs → DpAll K H ys (qs.map (pairD rs))
  | [], [], _ => .nil
  | [], _ :: _, h => by have := h.1; cases this
  | _ :: _, [], h => by have := h.1; cases this
  | q :: qs, y :: ys, h => by
    obtain ⟨p, e1, e2⟩ := h.2 0 q rfl
    obtain rfl : y = .ref p := Option.some.inj e1
    refine .cons (.tup e2 (.cons (.int _) (.cons (.int _) .nil))) (Pairs.dp ⟨?_, fun k z e => h.2 (k + 1) z e⟩)
    have := h.1
    rw [List.length_cons, List.length_cons] at this
    omega
theorem PrsD.prs {K : PySem.W.Frag} {H : Hp} {rs : List Row} {ys : List V} {qs : List (Nat × Nat)} (h : PrsD H rs ys qs) : Pairs K H rs ys qs := ⟨h.1, fun k q e => let ⟨p, a, b⟩ := h.2 k q e; ⟨p, a, SqT.of b⟩⟩
theorem okPairs {nx : Int} {rs : List Row} (g : Good nx rs) {qs : List (Nat × Nat)} (lt : ∀ q ∈ qs, q.1 < rs.length ∧ q.2 < rs.length) (hl : qs.length ≤ 36) : okData (.tuple (qs.map (pairD rs))) = true := (okNT (k := 1) (m := 102) (n := 36) (fun d hd => by
  obtain ⟨q, hq, rfl⟩ := List.mem_map.mp hd
  have hh := lt q hq
  have a := tk_in g hh.1
  have b := tk_in g hh.2
  refine okNT (k := 0) (m := 50) (n := 2) (fun d hd => ?_) (Nat.le_refl _)
  simp only [List.mem_cons, List.not_mem_nil, or_false] at hd
  rcases hd with rfl | rfl
  · exact okN.int (by omega) (by omega)
  · exact okN.int (by omega) (by omega)) (by rw [List.length_map]; exact hl)).ok (by decide) (by decide)
/-- the two numbers of a pair that stands in the heap -/
def kfH (H : Hp) : V → Int × Int
  | .ref t => match H t with
    | some (.tup [.int a, .int b]) => (a, b)
    | _ => (0, 0)
  | _ => (0, 0)
theorem kf_at {H : Hp} {t : Addr} {a b : Int} (e : H t = some (.tup [.int a, .int b])) : kfH H (.ref t) = (a, b) := by
  show (match H t with
    | some (.tup [.int a, .int b]) => (a, b)
    | _ => (0, 0)) = (a, b)
  rw [e]
theorem PrsD.at_ {H : Hp} {rs : List Row} {ys : List V} {qs : List (Nat × Nat)} (h : PrsD H rs ys qs) {k : Nat} (hk : k < ys.length) : ∃ hq : k < qs.length, ∃ t, ys[k] = .ref t ∧ H t = some (.tup [.int (tk rs qs[k].1), .int (tk rs qs[k].2)]) ∧ kfH H ys[k] = (tk rs qs[k].1, tk rs qs[k].2) := by
  have hq : k < qs.length := by rw [← h.1]; exact hk
  obtain ⟨p, e1, e2⟩ := h.2 k _ (List.getElem?_eq_getElem hq)
  rw [List.getElem?_eq_getElem hk] at e1
  have e1 := Option.some.inj e1
  exact ⟨hq, p, e1, e2, by rw [e1]; exact kf_at e2⟩
theorem prs_srtd {H : Hp} {rs : List Row} {ys : List V} {qs : List (Nat × Nat)} (h : PrsD H rs ys qs) (pw : qs.Pairwise fun a b => tk rs a.1 < tk rs b.1 ∨ (tk rs a.1 = tk rs b.1 ∧ tk rs a.2 < tk rs b.2)) : SrtO.Srtd (ltP (kfH H)) ys := by
  refine List.pairwise_iff_getElem.mpr fun i j hi hj lt => ?_
  obtain ⟨hqi, _, _, _, ei⟩ := h.at_ hi
  obtain ⟨hqj, _, _, _, ej⟩ := h.at_ hj
  have := List.pairwise_iff_getElem.mp pw i j hqi hqj lt
  show SrtO.lexB (kfH H ys[j]) (kfH H ys[i]) = false
  rw [ei, ej]
  refine SrtO.lexB_no.mpr ?_
  dsimp only
  omega
section
variable {P : Program} {w : World} {K : PySem.W.Frag} {mg : Str → Option Value} {base : Heap}
def spRight (K : PySem.W.Frag) (Tz : List (Addr × Str)) : Sp := fun vs H Q _ => ∃ (p : Addr), vs = [.ref p] ∧ Pot H p 0 ∧ Tabs Tz H ∧ ∀ H', ExtP p H H' → Tabs Tz H' → Q (.bl true) H'
theorem ok_Right {k : Nat} {f : Addr} {fd : FuncData} {C C2:Addr} {Tz:List (Addr × Str)} (F : Fun K "_law_right" "_law_right" sRight f fd) (gHd : Cal P w K mg base CX0 (k + 20) "_law_house_drawn" ["pot"] (spHouseDrawn K)) (gHt : Cal P w K mg base CX0 (k + 20) "_law_house_text" ["house"] (spHouseText K)) (gCi : CalI P w K mg base (L2.CX P w) C "Clans" (k + 19) ["self", "text"] (spClansI K C)) (gWr : CalG P w K mg base (k + 20) "_law_is_way_right" ["clans", "house", "task", "other"] (spWayRight K C)) (gHw : Cal P w K mg base CX0 (k + 20) "_law_house_way" ["house", "task", "other"] (spHWay K)) (gMb : Cal P w K mg base (L2.CX P w) (k + 20) "met_by" ["clans", "stop"] (spMetBy K C C2)) (gRf : CalG P w K mg base (k + 20) "_law_are_refused" ["pot", "clans", "house"] (spRefused K Tz C))  (fall : mg "all" = none) (fdict : mg "dict" = none) (frepr : mg "repr" = none) (fsorted : mg "sorted" = none) (ftuple : mg "tuple" = none) : FnG P w K mg base (k + 21) f fd ["pot"] (spRight K Tz) := by
  obtain ⟨fHd, fdHd, GHd, kHd, bHd, mHd⟩ := gHd
  obtain ⟨fHt, fdHt, GHt, kHt, bHt, mHt⟩ := gHt
  obtain ⟨fCi, fdCi, GCi, MCi, bCi, mCi⟩ := gCi
  obtain ⟨fWr, fdWr, GWr, kWr, bWr, mWr⟩ := gWr
  obtain ⟨fHw, fdHw, GHw, kHw, bHw, mHw⟩ := gHw
  obtain ⟨fMb, fdMb, GMb, kMb, bMb, mMb⟩ := gMb
  obtain ⟨fRf, fdRf, GRf, kRf, bRf, mRf⟩ := gRf
  refine fnG_of F scRight (fun vs H Q E h => ?_) (fun cdv A outer s H vs Q hr gd h => ?_)
  · obtain ⟨p, rfl, _⟩ := h
    rfl
  · obtain ⟨p, rfl, hp, hT, q⟩ := h
    refine ⟨_, (pss_cons (ps_set (i := 1) scRight.nd rfl (.inl rfl) (pe_call GHd hr (by rfl) mHd kHd bHd .nil pass0 (pa_cons (pv 0) pa_nil))) (pss_cons (ps_asg (pe_tup (pa_cons (pe_make MCi GCi hr (by rfl) mCi bCi .nil passX (pa_cons (pe_call GHt hr (by rfl) mHt kHt bHt .nil pass0 (pa_cons (pv 1) pa_nil)) pa_nil)) (pa_cons (pe_callB (call_sortedDI rfl) (by rfl) fsorted (by decide +kernel) (pa_cons (pe_dget (hu_of hr) (pv 1) pe_str (fun _ _ => rfl)) pa_nil)) pa_nil))) (pg_tup (by rfl) (pgs_cons (pg_name (i := 2) scRight.nd rfl (.inr rfl)) (pgs_cons (pg_name (i := 3) scRight.nd rfl (.inl rfl)) pgs_nil)))) (pss_cons (ps_set (i := 4) scRight.nd rfl (.inr rfl) (pe_callTy (call_dictP rfl) (by rfl) fdict (by decide +kernel) (pa_cons (pe_lc (own := [("task", 5)]) (g := (gName 5)) (tt := tYes) rfl scRight.nd (pi_list (pv 3)) (blkOk_by (N := ["pot", "house", "clans", "tasks", "met", "task", "other", "stop"]) (sc := defScope sRight) (by decide +kernel)) (fun _ _ _ _ _ => (pg_name (i := 5) scRight.nd rfl (.inl rfl))) (fun _ _ _ _ _ => pts_nil) (fun _ _ _ _ _ => (pe_tup (pa_cons (pv 5) (pa_cons (pe_lst pa_nil) pa_nil))))) pa_nil))) (pss_cons (ps_for PassesOwn.never rfl (pi_list (pv 3)) (pg_name (i := 5) scRight.nd rfl (.inl rfl)) (pss_one (ps_for PassesOwn.never rfl (pi_list (pv 3)) (pg_name (i := 6) scRight.nd rfl (.inl rfl)) (pss_cons (ps_if (pt_not (pt_val (pe_callG GWr hr gd (by rfl) mWr kWr bWr (pa_cons (pv 2) (pa_cons (pv 1) (pa_cons (pv 5) (pa_cons (pv 6) pa_nil))))))) (pss_one (ps_ret pe_bl)) pss_nil) (pss_one (ps_for PassesOwn.never rfl (pi_tup (pe_slice sl_tupA (pe_call GHw hr (by rfl) mHw kHw bHw .nil pass0 (pa_cons (pv 1) (pa_cons (pv 5) (pa_cons (pv 6) pa_nil)))) po_none (po_some (pe_un un_neg pe_int)))) (pg_name (i := 7) scRight.nd rfl (.inl rfl)) (pss_one (ps_expr (pe_bm PySem.F.plainAttrs_list PySem.F.slot_list_append PySem.F.type_list_append mt_append (pe_dget (hu_of hr) (pv 4) (pv 7) (fun _ _ => rfl)) (pa_cons (pe_tup (pa_cons (pv 5) (pa_cons (pv 6) pa_nil))) pa_nil)))))))))) (pss_cons (ps_if (pt_not (pt_val (pe_callB (cr_all rfl) (by rfl) fall (by decide +kernel) (pa_cons (pe_lc (own := [("stop", 7)]) (g := (gName 7)) (tt := tYes) rfl scRight.nd (pi_list (pv 3)) (blkOk_by (N := ["pot", "house", "clans", "tasks", "met", "task", "other", "stop"]) (sc := defScope sRight) (by decide +kernel)) (fun _ _ _ _ _ => (pg_name (i := 7) scRight.nd rfl (.inl rfl))) (fun _ _ _ _ _ => pts_nil) (fun _ _ _ _ _ => (pe_cmpR op_eq (pe_callB (show CallR _ (.builtin "repr") (rRepr K) from call_repr gd hr.units) (by rfl) frepr (by decide +kernel) (pa_cons (pe_call GMb hr (by rfl) mMb kMb bMb .nil passX (pa_cons (pv 2) (pa_cons (pv 7) pa_nil))) pa_nil)) (pe_callB (show CallR _ (.builtin "repr") (rRepr K) from call_repr gd hr.units) (by rfl) frepr (by decide +kernel) (pa_cons (pe_callTy (show CallR _ (.type "tuple") (rTupOf K) from call_tuple_of) (by rfl) ftuple (by decide +kernel) (pa_cons (pe_callB (show CallR _ (.builtin "sorted") (rSortedPO K) from cr_sortedPO) (by rfl) fsorted (by decide +kernel) (pa_cons (pe_dget (hu_of hr) (pv 4) (pv 7) (fun _ _ => rfl)) pa_nil)) pa_nil)) pa_nil)) (nomark _)))) pa_nil)))) (pss_one (ps_ret pe_bl)) pss_nil) (pss_one (ps_ret (pe_callG GRf hr gd (by rfl) mRf kRf bRf (pa_cons (pv 0) (pa_cons (pv 2) (pa_cons (pv 1) pa_nil))))))))))), ?_⟩
    have two : 2 ≤ sizeLine := by decide
    refine ⟨.ref p, rfl, p, 0, rfl, hp, by decide, fun H1 h m nx rs m0 m1 hp1 w1 hh1 g n300 nh => ?_⟩
    have few := g.few
    have tr := g.tree
    refine gn_of ?_
    try dsimp only
    refine ⟨.ref h, rfl, h, nx, rs, rfl, hh1, g, fun H2 s2 => fun x dx nxx ndx ne => use_clans g nxx ndx fun H3 s3 hc3 => ?_⟩
    have hh3 := hh1.same (s2.trans s3)
    obtain ⟨cc, bb, h1, h2, h3⟩ := id hh3
    refine ⟨.ref h, rfl, h, _, rfl, g_chiefs h1, cc, chKV rs, rs.map (·.1), rfl, .inl h2, (by unfold chKV; rw [List.map_map, List.map_map]; rfl), (by rw [List.length_map]; omega), fun ys S hpm hs nS => ⟨two, fun t nt => ⟨t, _, rfl, SqT.of upd_same, rfl, _, _, rfl, _, _, rfl, rfl, ?_⟩⟩⟩
    rw [sorted_rise g.rise hpm hs] at nt ⊢
    clear hpm hs
    have sS := same_upd (o := .lst ((rs.map (·.1)).map V.int)) nS
    have st := same_upd (o := .tup [V.ref x, .ref S]) nt
    have s35 := sS.trans st
    have hS5 := st _ _ (upd_same (H := H3) (a := S) (o := .lst ((rs.map (·.1)).map V.int)))
    have hp5 := hp1.same ((s2.trans s3).trans s35)
    have w5 := w1.trans (wo_same_of (a := p) ((s2.trans s3).trans s35))
    have hc5 := hc3.same s35
    have hh5 := hh3.same s35
    generalize upd (upd H3 S (.lst ((rs.map (·.1)).map V.int))) t (.tup [V.ref x, .ref S]) = H5 at hS5 hp5 w5 hc5 hh5 ⊢
    clear s35 st sS nS nt h1 h2 h3 hh3 hc3 nxx ndx ne s2 s3 hh1 hp1 w1 nh
    have hT5 := tabs_wo hT (pot_lst hp) w5
    have eP : ExtP p H H5 := ExtP.wo w5
    have l6 : ((rs.map (·.1)).map V.int).length = rs.length := by rw [List.length_map, List.length_map]
    have at_ : ∀ {m : Nat} {x : V}, ((rs.map (·.1)).map V.int)[m]? = some x → m < rs.length ∧ x = .int (tk rs m) := fun {m x} hx => by
      have hm := (List.getElem?_eq_some_iff.mp hx).1
      rw [l6] at hm
      rw [List.getElem?_map, List.getElem?_map, List.getElem?_eq_getElem hm] at hx
      exact ⟨hm, by rw [tk_row hm]; exact (Option.some.inj hx).symm⟩
    refine gn_of ?_
    try dsimp only
    refine seq_cut (fun σ' H6 => ∃ M LA y5, σ' = [some (.ref p), some (.ref h), some (.ref x), some (.ref S), some (.ref M), y5, none, none] ∧ Same H5 H6 ∧ MetAt H5 H6 M rs LA (fun _ => [])) (fun N hN => ?_) (fun σ' H6 hq => ?_)
    · refine ⟨.ref S, rfl, S, rfl, ⟨_, SqL.of hS5⟩, fun D nD => ?_⟩
      refine lc_list (xs := (rs.map (fun r : Row => r.1)).map V.int) (fun m H' => Same H5 H' ∧ ∃ (ps : List Addr) (LA : Int → Addr), H' D = some (.lst (ps.map V.ref)) ∧ ps.length = m ∧ Paired (fun (p : Addr) (kv : Key × V) => H' p = some (.tup [kV kv.1, kv.2])) ps ((rs.take m).map fun r => ((Sum.inl r.1 : Key), V.ref (LA r.1))) ∧ (∀ s, s < m → H5 (LA (tk rs s)) = none ∧ H' (LA (tk rs s)) = some (.lst []) ∧ LA (tk rs s) ≠ D) ∧ ∀ s t, s < m → t < m → LA (tk rs s) = LA (tk rs t) → s = t) ⟨same_upd nD, [], fun _ => 0, upd_same, rfl, .nil, fun s hs => absurd hs (Nat.not_lt_zero s), fun s t hs => absurd hs (Nat.not_lt_zero s)⟩ (fun m H' _ hP => SqL.of (hP.1 _ _ hS5)) (fun m v H' hx hP => ?_) (fun H' hP => ?_)
      · obtain ⟨sm, ps, LA, hD, lp, hpair, hls, hinj⟩ := hP
        obtain ⟨hm, rfl⟩ := at_ hx
        refine ⟨rfl, ?_⟩
        unfold tYes
        refine iteT ⟨.int (tk rs m), rfl, by show 0 ≤ sizeLine; decide, fun L nL => ⟨two, fun t nt => ?_⟩⟩
        have uL := same_upd (o := .lst []) nL
        have hLL := upd_same (H := H') (a := L) (o := .lst [])
        have ut := same_upd (o := .tup [V.int (tk rs m), .ref L]) nt
        have ht := upd_same (H := upd H' L (.lst [])) (a := t) (o := .tup [V.int (tk rs m), .ref L])
        have hLt := ut _ _ hLL
        have u2 := uL.trans ut
        generalize upd (upd H' L (.lst [])) t (.tup [V.int (tk rs m), .ref L]) = H7 at ht hLt u2 ⊢
        have hD7 := u2 _ _ hD
        have nLD : L ≠ D := fun z => by rw [z, hD] at nL; cases nL
        have keep : ∀ {b : Addr} {o : HO} {o2 : HO}, b ≠ D → H7 b = some o → upd H7 D o2 b = some o := fun {b o o2} n e => by rw [upd_ne n]; exact e
        have tupD : ∀ {b : Addr} {vs : List V}, H7 b = some (.tup vs) → b ≠ D := fun {b vs} e z => by rw [z, hD7] at e; cases e
        have ne_m : ∀ s, s < m → tk rs s ≠ tk rs m := fun s hs z => by
          have := tk_lt tr.rise hm hs
          omega
        have eold : ((rs.take m).map fun r => ((Sum.inl r.1 : Key), V.ref (if r.1 = tk rs m then L else LA r.1))) = (rs.take m).map fun r => ((Sum.inl r.1 : Key), V.ref (LA r.1)) := by
          refine List.map_congr_left fun r hr => ?_
          obtain ⟨s, hs, e⟩ := List.mem_iff_getElem.mp hr
          rw [List.length_take] at hs
          rw [List.getElem_take] at e
          have : r.1 = tk rs s := by rw [tk_row (by omega), e]
          rw [if_neg (by rw [this]; exact ne_m s (by omega))]
        have enew : ((rs.take (m + 1)).map fun r => ((Sum.inl r.1 : Key), V.ref (if r.1 = tk rs m then L else LA r.1))) = ((rs.take m).map fun r => ((Sum.inl r.1 : Key), V.ref (LA r.1))) ++ [((Sum.inl (tk rs m) : Key), V.ref L)] := by
          rw [List.take_add_one, List.getElem?_eq_getElem hm, List.map_append, eold]
          show _ ++ [((Sum.inl (rs[m]).1 : Key), V.ref (if (rs[m]).1 = tk rs m then L else LA (rs[m]).1))] = _
          rw [← tk_row hm, if_pos rfl]
        refine ⟨ps.map V.ref, hD7, small1000 (by rw [List.length_map]; omega), Same.updNew (sm.trans u2) nD, ps ++ [t], fun z => if z = tk rs m then L else LA z, ?_, ?_, ?_, fun s hs => ?_, fun s s' hs hs' e => ?_⟩
        · rw [upd_same, List.map_append]
          rfl
        · rw [List.length_append, lp]
          rfl
        · rw [enew]
          have hnew : (fun (p : Addr) (kv : Key × V) => upd H7 D (.lst (ps.map V.ref ++ [.ref t])) p = some (.tup [kV kv.1, kv.2])) t ((Sum.inl (tk rs m) : Key), V.ref L) := keep (tupD ht) ht
          exact paired_snoc (F := fun (p : Addr) (kv : Key × V) => upd H7 D (.lst (ps.map V.ref ++ [.ref t])) p = some (.tup [kV kv.1, kv.2])) hnew (paired_imp (fun a b e => keep (tupD (u2 _ _ e)) (u2 _ _ e)) hpair)
        · by_cases c : s < m
          · obtain ⟨a1, a2, a3⟩ := hls s c
            show H5 (if tk rs s = tk rs m then L else LA (tk rs s)) = none ∧ upd H7 D _ (if tk rs s = tk rs m then L else LA (tk rs s)) = _ ∧ (if tk rs s = tk rs m then L else LA (tk rs s)) ≠ D
            rw [if_neg (ne_m s c)]
            exact ⟨a1, keep a3 (u2 _ _ a2), a3⟩
          · obtain rfl : s = m := by omega
            show H5 (if tk rs s = tk rs s then L else LA (tk rs s)) = none ∧ upd H7 D _ (if tk rs s = tk rs s then L else LA (tk rs s)) = _ ∧ (if tk rs s = tk rs s then L else LA (tk rs s)) ≠ D
            rw [if_pos rfl]
            refine ⟨?_, keep nLD hLt, nLD⟩
            cases ez : H5 L with
            | none => rfl
            | some o => rw [sm _ _ ez] at nL; cases nL
        · have e : (if tk rs s = tk rs m then L else LA (tk rs s)) = (if tk rs s' = tk rs m then L else LA (tk rs s')) := e
          by_cases c : s < m
          · rw [if_neg (ne_m s c)] at e
            by_cases c' : s' < m
            · rw [if_neg (ne_m s' c')] at e
              exact hinj s s' c c' e
            · obtain rfl : s' = m := by omega
              rw [if_pos rfl] at e
              have := (hls s c).2.1
              rw [e, nL] at this
              cases this
          · obtain rfl : s = m := by omega
            rw [if_pos rfl] at e
            by_cases c' : s' < s
            · rw [if_neg (ne_m s' c')] at e
              have := (hls s' c').2.1
              rw [← e, nL] at this
              cases this
            · omega
      · obtain ⟨sm, ps, LA, hD, lp, hpair, hls, hinj⟩ := hP
        rw [l6, List.take_length] at hpair
        rw [l6] at hls hinj
        refine ⟨D, ps, rs.map fun r => ((Sum.inl r.1 : Key), V.ref (LA r.1)), rfl, SqL.of hD, paired_imp (G := fun (t : Addr) (q : Key × V) => SqT K H' t [kV q.1, q.2]) (fun a b e => SqT.of e) hpair, fun M nM => ?_⟩
        have mk : mergeK [] (rs.map fun r => ((Sum.inl r.1 : Key), V.ref (LA r.1))) = rs.map fun r => ((Sum.inl r.1 : Key), V.ref (LA r.1)) := mergeK_rise (f := fun r => V.ref (LA r.1)) rs [] g.rise
        rw [mk]
        have sM := same_upd (o := .dK (rs.map fun r => ((Sum.inl r.1 : Key), V.ref (LA r.1)))) nM
        exact hN _ _ ⟨M, LA, _, rfl, sm.trans sM, ⟨upd_same, fun s hs => ⟨(hls s hs).1, [], sM _ _ (hls s hs).2.1, rfl, fun k q e => by cases e⟩, hinj⟩⟩
    obtain ⟨M, LA, y5, rfl, s6, hm6⟩ := hq
    have lenF : ∀ pre s, (metF (shp rs) pre s).length ≤ pre.length := fun pre s => List.length_filter_le _ _
    have S_ : ∀ {G : Hp}, Same H5 G → G S = some (.lst ((rs.map (·.1)).map V.int)) := fun z => z _ _ hS5
    refine seq_cut (fun σ' H7 => ∃ y5 y6 y7, σ' = [some (.ref p), some (.ref h), some (.ref x), some (.ref S), some (.ref M), y5, y6, y7] ∧ Same H5 H7 ∧ MetAt H5 H7 M rs LA (metF (shp rs) (allP rs.length rs.length))) (fun N hN => ?_) (fun σ' H7 hq => ?_)
    · refine ⟨.ref S, rfl, S, rfl, ⟨_, SqL.of (S_ s6)⟩, ?_⟩
      refine for_list (xs := (rs.map (fun r : Row => r.1)).map V.int) (fun i σ H' => ∃ y5 y6 y7, σ = [some (.ref p), some (.ref h), some (.ref x), some (.ref S), some (.ref M), y5, y6, y7] ∧ Same H5 H' ∧ MetAt H5 H' M rs LA (metF (shp rs) (allP rs.length i))) ⟨y5, none, none, rfl, s6, hm6⟩ (fun i σ H' _ hP => ?_) (fun i v σ H' hx hP => ?_) (fun σ H' hP => ?_)
      · obtain ⟨_, _, _, _, s, _⟩ := hP
        exact SqL.of (S_ s)
      · obtain ⟨y5, y6, y7, rfl, si, mi⟩ := hP
        obtain ⟨hi, rfl⟩ := at_ hx
        refine gn_of ?_
        try dsimp only
        refine ⟨.ref S, rfl, S, rfl, ⟨_, SqL.of (S_ si)⟩, ?_⟩
        refine for_list (xs := (rs.map (fun r : Row => r.1)).map V.int) (fun j σ H' => ∃ y6 y7, σ = [some (.ref p), some (.ref h), some (.ref x), some (.ref S), some (.ref M), some (.int (tk rs i)), y6, y7] ∧ Same H5 H' ∧ MetAt H5 H' M rs LA (metF (shp rs) (allP rs.length i ++ (List.range j).map fun j => (i, j)))) ⟨y6, y7, rfl, si, by rw [List.range_zero, List.map_nil, List.append_nil]; exact mi⟩ (fun j σ H' _ hP => ?_) (fun j v σ H' hx hP => ?_) (fun σ H' hP => ?_)
        · obtain ⟨_, _, _, s, _⟩ := hP
          exact SqL.of (S_ s)
        · obtain ⟨y6, y7, rfl, sj, mj⟩ := hP
          obtain ⟨hj, rfl⟩ := at_ hx
          refine gn_of ?_
          try dsimp only
          refine ⟨.ref x, rfl, .ref h, rfl, .int (tk rs i), rfl, .int (tk rs j), rfl, x, h, nx, rs, i, j, rfl, hc5.same sj, hh5.same sj, g, hi, hj, fun H8 s8 => ⟨true, rfl, iteF (next_of ?_)⟩⟩
          have sj8 := sj.trans s8
          refine ⟨.ref h, rfl, .int (tk rs i), rfl, .int (tk rs j), rfl, h, nx, rs, i, j, rfl, hh5.same sj8, g, hi, hj, fun H9 t9 s9 ht9 => ?_⟩
          have wo := way_ok (shp_ok tr) (i := i) (j := j) (by rw [shp_len]; exact hi) (by rw [shp_len]; exact hj)
          have lt := wo.lt
          rw [shp_len] at lt
          have wne : (tks rs (wayI (shp rs) 12 i j)).length ≠ 0 := by
            rw [way_succ]
            exact Nat.succ_ne_zero _
          have nd : (wayI (shp rs) 12 i j).dropLast.Nodup := by
            by_cases e0 : i = j
            · rw [wo.own e0]; exact .nil
            · exact ((List.nodup_cons.mp (wo.apart e0)).2).sublist (List.dropLast_sublist _)
          refine ⟨1, rfl, -1, rfl, slice_m1 ht9 wne fun z9 H10 hz9 s10 => ⟨z9, rfl, ⟨_, hz9⟩, ?_⟩⟩
          have ed : (tks rs (wayI (shp rs) 12 i j)).take ((tks rs (wayI (shp rs) 12 i j)).length - 1) = tks rs (wayI (shp rs) 12 i j).dropLast := by
            unfold tks
            rw [← List.map_take, List.length_map, ← List.dropLast_eq_take]
          rw [ed] at hz9
          have s5a := sj8.trans (s9.trans s10)
          have ma := mj.same (s8.trans (s9.trans s10))
          have hin : ∀ s ∈ (wayI (shp rs) 12 i j).dropLast, s < rs.length := fun s hs => lt s (List.dropLast_subset _ hs)
          have lpre : (allP rs.length i ++ (List.range j).map fun j => (i, j)).length ≤ 41 := by
            rw [List.length_append, allP_len, List.length_map, List.length_range]
            have : i * rs.length ≤ 5 * 6 := Nat.mul_le_mul (by omega) few
            omega
          have eF : ∀ s, metF (shp rs) ((allP rs.length i ++ (List.range j).map fun j => (i, j)) ++ [(i, j)]) s = metF (shp rs) (allP rs.length i ++ (List.range j).map fun j => (i, j)) s ++ (if s ∈ (wayI (shp rs) 12 i j).dropLast then [(i, j)] else []) := fun s => by
            unfold metF
            rw [List.filter_append (l₁ := allP rs.length i ++ _)]
            congr 1
            rw [List.filter_cons]
            by_cases c : s ∈ (wayI (shp rs) 12 i j).dropLast
            · rw [if_pos (decide_eq_true c), if_pos c]; rfl
            · rw [if_neg (by rw [decide_eq_false c]; exact Bool.false_ne_true), if_neg c]; rfl
          have epre : (allP rs.length i ++ (List.range (j + 1)).map fun j => (i, j)) = (allP rs.length i ++ (List.range j).map fun j => (i, j)) ++ [(i, j)] := by
            rw [List.range_succ, List.map_append, List.append_assoc]
            rfl
          rw [epre]
          generalize allP rs.length i ++ (List.range j).map (fun j => (i, j)) = pre at ma lpre eF ⊢
          generalize (wayI (shp rs) 12 i j).dropLast = ds at hz9 hin nd eF
          refine for_tup (xs := tks rs ds) (fun m σ H' => ∃ y7, σ = [some (.ref p), some (.ref h), some (.ref x), some (.ref S), some (.ref M), some (.int (tk rs i)), some (.int (tk rs j)), y7] ∧ Same H5 H' ∧ SqT K H' z9 (tks rs ds) ∧ MetAt H5 H' M rs LA (fun s => metF (shp rs) pre s ++ (if s ∈ ds.take m then [(i, j)] else []))) ⟨y7, rfl, s5a, hz9, ma.eqs fun s hs => by simp⟩ (fun m σ H' _ hP => ?_) (fun m v σ H' hx hP => ?_) (fun σ H' hP => ?_)
          · obtain ⟨_, _, _, s, _⟩ := hP
            exact s
          · obtain ⟨y7, rfl, sz, hz, mz⟩ := hP
            obtain ⟨hm, rfl⟩ := tks_at hx
            have hs0 := hin _ (List.getElem_mem hm)
            have et : ds.take (m + 1) = ds.take m ++ [ds[m]] := by rw [List.take_add_one, List.getElem?_eq_getElem hm]; rfl
            have nin : ds[m] ∉ ds.take m := by
              have := nd.sublist (List.take_sublist (m + 1) ds)
              rw [et] at this
              exact fun z => (List.nodup_append.mp this).2.2 _ z _ List.mem_cons_self rfl
            rw [et]
            generalize ds[m] = s0 at hs0 nin ⊢
            refine gn_of ?_
            try dsimp only
            obtain ⟨n0, ys, hl, hpr⟩ := mz.l s0 hs0
            have hly : ys.length ≤ 42 := by
              have h1 := hpr.1
              rw [if_neg nin, List.append_nil] at h1
              have := lenF pre s0
              omega
            refine ⟨.ref M, rfl, .int (tk rs s0), rfl, M, _, rfl, mz.get tr.rise hs0, .inl ⟨rfl, _, SqL.of hl⟩, .int (tk rs i), rfl, .int (tk rs j), rfl, two, fun t nt => ?_⟩
            have ut := same_upd (o := .tup [V.int (tk rs i), .int (tk rs j)]) nt
            have ht := upd_same (H := H') (a := t) (o := .tup [V.int (tk rs i), .int (tk rs j)])
            have hl2 := ut _ _ hl
            refine ⟨LA (tk rs s0), ys, .ref t, rfl, rfl, hl2, small1000 (by omega), _, rfl, Same.updNew (sz.trans ut) n0, sqT_updL (Same.seqT ut hz) hl2, ((mz.same ut).push (q := (i, j)) hs0 ht hl2).eqs fun s hs => ?_⟩
            by_cases e : s = s0
            · subst e
              rw [if_pos rfl, if_neg nin, if_pos (List.mem_append_right _ List.mem_cons_self), List.append_nil]
            · rw [if_neg e]
              by_cases c : s ∈ ds.take m
              · rw [if_pos c, if_pos (List.mem_append_left _ c)]
              · rw [if_neg c, if_neg fun z => (List.mem_append.mp z).elim c fun z => e (List.mem_singleton.mp z)]
          · obtain ⟨y7, rfl, sz, _, mz⟩ := hP
            rw [tks_len, List.take_length] at mz
            exact ⟨_, _, rfl, sz, mz.eqs fun s hs => (eF s).symm⟩
        · obtain ⟨y6, y7, rfl, sj, mj⟩ := hP
          rw [l6] at mj
          refine ⟨_, _, _, rfl, sj, ?_⟩
          have e : allP rs.length (i + 1) = allP rs.length i ++ (List.range rs.length).map fun j => (i, j) := by
            unfold allP
            rw [List.range_succ, List.flatMap_append, List.flatMap_singleton]
          rw [e]
          exact mj
      · obtain ⟨y5, y6, y7, rfl, si, mi⟩ := hP
        rw [l6] at mi
        exact hN _ _ ⟨_, _, _, rfl, si, mi⟩
    obtain ⟨y5, y6, y7, rfl, s7, hm7⟩ := hq
    have hc7 := hc5.same s7
    have hp7 := hp5.same s7
    have S7 := S_ s7
    have metE : ∀ s, metI (shp rs) s = metF (shp rs) (allP rs.length rs.length) s := fun s => by
      unfold metI metF allP
      rw [shp_len]
    refine ⟨.ref S, rfl, S, rfl, ⟨_, SqL.of S7⟩, fun D nD => ?_⟩
    refine lc_list (xs := (rs.map (fun r : Row => r.1)).map V.int) (fun m H' => Same H7 H' ∧ H' D = some (.lst ((List.replicate m true).map V.bl))) ⟨same_upd nD, upd_same⟩ (fun m H' _ hP => SqL.of (hP.1 _ _ S7)) (fun m v H' hx hP => ?_) (fun H8 hP => ?_)
    · obtain ⟨sm, hD⟩ := hP
      obtain ⟨hs, rfl⟩ := at_ hx
      have okp := okPairs g (qs := metI (shp rs) m) (fun q hq => by
        rw [metE] at hq
        exact allP_mem (List.mem_filter.mp hq).1) (by rw [metE]; exact Nat.le_trans (lenF _ _) (by rw [allP_len]; exact Nat.mul_le_mul few few))
      refine ⟨rfl, ?_⟩
      unfold tYes
      refine iteT ⟨.ref x, rfl, .int (tk rs m), rfl, x, nx, rs, _, .int (tk rs m), rfl, hc7.same sm, g, .dp (.int _), no_tk hs, fun s' hs' e' H9 t9 ys9 s9 ht9 pr9 => ?_⟩
      have e' : m = s' := tk_inj tr.rise hs hs' (by injection e')
      subst e'
      have m9 := (hm7.same sm).same s9
      obtain ⟨n0, ys, hl, hpr⟩ := m9.l m hs
      rw [← metE] at hpr
      have pw : (metI (shp rs) m).Pairwise fun a b => tk rs a.1 < tk rs b.1 ∨ (tk rs a.1 = tk rs b.1 ∧ tk rs a.2 < tk rs b.2) := by
        rw [metE]
        exact (allP_rise tr.rise).filter _
      refine ⟨.ref t9, .tuple ((metI (shp rs) m).map (pairD rs)), rfl, .dp (.tup ht9 pr9.dp), okp, .ref M, rfl, .int (tk rs m), rfl, M, _, rfl, m9.get tr.rise hs, _, ys, kfH H9, rfl, SqL.of hl, fun z hz => ?_, fun zs pz hst hsb npz => ?_⟩
      · obtain ⟨k, hk, rfl⟩ := List.mem_iff_getElem.mp hz
        obtain ⟨_, t, e1, e2, e3⟩ := hpr.at_ hk
        exact ⟨t, e1, by rw [e3]; exact e2⟩
      · have ez := SrtO.stb_uniq (ltP_swo (kfH H9)) hst (prs_srtd hpr pw) hsb
        subst ez
        have sz := same_upd (o := .lst zs) npz
        refine ⟨pz, zs, rfl, .inl ⟨SqL.of upd_same, fun l nl => ?_⟩⟩
        have sl := same_upd (o := .tup zs) nl
        have s2 := sz.trans sl
        refine ⟨.ref l, .tuple ((metI (shp rs) m).map (pairD rs)), rfl, .dp (.tup (SqT.of upd_same) (hpr.prs.same s2).dp), okp, rfl, _, s2 _ _ (s9 _ _ hD), small1000 (by rw [List.length_map, List.length_replicate]; omega), Same.updNew (sm.trans (s9.trans s2)) nD, ?_⟩
        rw [upd_same, decide_eq_true rfl, List.replicate_succ', List.map_append]
        rfl
    · obtain ⟨sm, hD⟩ := hP
      refine ⟨D, List.replicate ((rs.map (fun r : Row => r.1)).map V.int).length true, rfl, SqL.of hD, true, ?_, iteF (next_of ?_)⟩
      · rw [show (List.replicate ((rs.map (fun r : Row => r.1)).map V.int).length true).all id = true from by simp]
      · have s58 := s7.trans sm
        have hp8 := hp5.same s58
        obtain ⟨ys, hys⟩ := pot_lst hp8
        exact ⟨.ref p, rfl, .ref x, rfl, .ref h, rfl, p, x, h, nx, rs, m, rfl, hp8, by omega, clans_wo (hc5.same s58) hys, h_wo (hh5.same s58) hys, g, hT5.ext s58, fun H9 e9 t9 => q _ (eP.trans ((ExtP.wo (wo_same_of s58)).trans e9)) t9⟩
def spLaw (K : PySem.W.Frag) (Tz : List (Addr × Str)) : Sp := fun vs H Q _ => ∃ (a : Addr) (ns : List Int), vs = [.ref a] ∧ SqL K H a (ns.map V.int) ∧ ns.length ≤ 63 ∧ Tabs Tz H ∧ ∀ H', Q (.bl true) H'
theorem ok_Law {k : Nat} {f : Addr} {fd : FuncData} {Tz:List (Addr × Str)} (F : Fun K "law" "law" sLaw f fd) (gRt : CalG P w K mg base (k + 21) "_law_right" ["pot"] (spRight K Tz)) (gPo : Cal P w K mg base CX0 (k + 21) "_law_pot" ["script", "place"] (spPot K)) (gCe : Cal P w K mg base CX0 (k + 21) "_law_cells" ["script", "most"] (spCells K))  (fall : mg "all" = none) : FnG P w K mg base (k + 22) f fd ["script"] (spLaw K Tz) := by
  obtain ⟨fRt, fdRt, GRt, kRt, bRt, mRt⟩ := gRt
  obtain ⟨fPo, fdPo, GPo, kPo, bPo, mPo⟩ := gPo
  obtain ⟨fCe, fdCe, GCe, kCe, bCe, mCe⟩ := gCe
  refine fnG_of F scLaw (fun vs H Q E h => ?_) (fun cdv A outer s H vs Q hr gd h => ?_)
  · obtain ⟨a, ns, rfl, _⟩ := h
    rfl
  · obtain ⟨a, ns, rfl, hs, hn, hT, q⟩ := h
    refine ⟨_, (pss_one (ps_ret (pe_callB (cr_all rfl) (by rfl) fall (by decide +kernel) (pa_cons (pe_lc (own := [("place", 1)]) (g := (gName 1)) (tt := tYes) rfl scLaw.nd (pi_list (pe_call GCe hr (by rfl) mCe kCe bCe .nil pass0 (pa_cons (pv 0) (pa_cons pe_int pa_nil)))) (blkOk_by (N := ["script", "place"]) (sc := defScope sLaw) (by decide +kernel)) (fun _ _ _ _ _ => (pg_name (i := 1) scLaw.nd rfl (.inl rfl))) (fun _ _ _ _ _ => pts_nil) (fun _ _ _ _ _ => (pe_callG GRt hr gd (by rfl) mRt kRt bRt (pa_cons (pe_call GPo hr (by rfl) mPo kPo bPo .nil pass0 (pa_cons (pv 0) (pa_cons (pv 1) pa_nil))) pa_nil)))) pa_nil)))), ?_⟩
    refine ⟨.ref a, rfl, a, ns, rfl, hs, hn, fun l m hm nl => ?_⟩
    have s1 := same_upd (o := .lst ((List.range m).map fun i => V.int (i : Nat))) nl
    refine ⟨l, rfl, ⟨_, SqL.of upd_same⟩, fun D nD => ?_⟩
    have s2 := same_upd (o := .lst []) nD
    have hs1 := s1.seq hs
    have hl1 : SqL K (upd H l (.lst ((List.range m).map fun i => V.int (i : Nat)))) l ((List.range m).map fun i => V.int (i : Nat)) := SqL.of upd_same
    have hT1 := hT.ext s1
    generalize upd H l (.lst ((List.range m).map fun i => V.int (i : Nat))) = H0 at nD s2 hs1 hl1 hT1 ⊢
    refine lc_list (xs := (List.range m).map fun i => V.int (i : Nat)) (fun i H' => ExtN H0 H' ∧ Tabs Tz H' ∧ H' D = some (.lst ((List.replicate i true).map V.bl)))
      ⟨ExtN.of s2, hT1.ext s2, upd_same⟩ (fun i H' _ hP => sqL_extN hl1 hP.1) (fun i x H' hx hP => ?_) fun H2 hP => ?_
    · obtain ⟨en, ht, hD⟩ := hP
      obtain ⟨j, hj, rfl⟩ := List.mem_map.mp (List.mem_of_getElem? hx)
      have hjm := List.mem_range.mp hj
      have hi : i < m := by have := (List.getElem?_eq_some_iff.mp hx).1; rw [List.length_map, List.length_range] at this; exact this
      refine ⟨rfl, ?_⟩
      unfold tYes
      refine iteT ⟨.ref a, rfl, .int (j : Nat), rfl, a, ns, j, rfl, sqL_extN hs1 en, hn, by omega, fun p H3 np s3 hp => ⟨p, rfl, hp, ht.ext s3, fun H4 e4 t4 => ?_⟩⟩
      have nDp : D ≠ p := fun z => by rw [z, np] at hD; cases hD
      have hD4 := e4 _ _ (s3 _ _ hD) nDp (fun ps z => by cases z)
      refine ⟨_, hD4, small1000 (by rw [List.length_map, List.length_replicate]; omega), fun b o e nt => ?_, tabs_upd t4 hD4, ?_⟩
      · rw [upd_ne (ne_of_none e nD)]
        have eb := en b o e nt
        exact e4 b o (s3 b o eb) (fun z => by rw [z, np] at eb; cases eb) nt
      · rw [upd_same, List.replicate_succ', List.map_append]
        rfl
    · obtain ⟨en, ht, hD⟩ := hP
      have ea : (List.replicate ((List.range m).map fun i => V.int (i : Nat)).length true).all id = true := List.all_eq_true.mpr fun x hx => by
        rw [List.eq_of_mem_replicate hx]
        rfl
      refine ⟨D, List.replicate ((List.range m).map fun i => V.int (i : Nat)).length true, rfl, SqL.of hD, ?_⟩
      rw [ea]
      exact q _
end
end K35



set_option maxRecDepth 100000
set_option maxHeartbeats 2000000
/-! k36: the law's call from outside, with some empty tables. -/
namespace K35
open PySem PySem.Spec PyProof.Rows L2 LamX VG
/-- the tables, and the script where the written part has it not -/
def startT (K : PySem.W.Frag) (Ps : List Addr) (a : Addr) (o : Obj) (xs : List V) : Hp := fun b =>
  if b ∈ Ps then some (.tbl #[]) else if b = a then (match K.lookup a with
    | none => some (.frz o (.lst xs))
    | some _ => none) else none
theorem startT_cases {K : PySem.W.Frag} {Ps : List Addr} {a b : Addr} {o : Obj} {xs : List V} {u : HO} (h : startT K Ps a o xs b = some u) : (b ∈ Ps ∧ u = .tbl #[]) ∨ (b = a ∧ K.lookup a = none ∧ u = .frz o (.lst xs)) := by
  unfold startT at h
  by_cases c : b ∈ Ps
  · rw [if_pos c] at h
    exact .inl ⟨c, (Option.some.inj h).symm⟩
  · rw [if_neg c] at h
    by_cases c2 : b = a
    · rw [if_pos c2] at h
      cases hk : K.lookup a with
      | some x =>
        rw [hk] at h
        cases h
      | none =>
        rw [hk] at h
        exact .inr ⟨c2, rfl, (Option.some.inj h).symm⟩
    · rw [if_neg c2] at h
      cases h
theorem call_tops {P : Program} {w : World} {K : PySem.W.Frag} {mg mb : Str → Option Value} {k : Nat} {fa a : Addr} {Ts : List (Addr × Addr)} {fd : FuncData} {x : Str} {sp : Sp} {s : Shared} {us : List Value} {ns : List Int}
    (kin : K.In s.heap) (gl : s.heap.Ns mainGlobals mg) (bl : s.heap.Ns builtinsNs mb) (blb : ∀ y : Str, y ≠ "__name__" → mb y = bootBuiltins y) (nol : s.heap.NoLimit) (gens : s.gens = #[])
    (tabs : ∀ t ∈ Ts, s.heap.get? t.2 = some { cls := .none, data := .fields #[] }) (tabsK : ∀ t ∈ Ts, K.lookup t.2 = none) (cods : ∀ t ∈ Ts, PySem.W.CodeHd s.heap t.1 t.2)
    (bmain : ∃ (bm : Addr) (ob : Obj), mg "__builtins__" = some (.ref bm) ∧ bm ≠ builtinsNs ∧ s.heap.get? bm = some ob ∧ ob.cls = .type "module" ∧ ob.dict = some builtinsNs ∧ ob.data = .plain)
    (scr : s.heap.get? a = some { cls := .type "list", data := .seq us.toArray }) (areI : IntsAre us ns) (short : ns.length ≤ sizeLine) (room : Room k callerA)
    (F : ∀ base : Heap, K.In base → base.Ns mainGlobals mg → (∀ t ∈ Ts, TabB base mg t.1 t.2) → FnG P w K mg base k fa fd [x] sp) (bind : ∀ (s : Shared) (u : Value), BindsTo s fd ⟨[u], []⟩ [(x, u)])
    (keep : ∀ H : Hp, (∀ t ∈ Ts, H t.2 = some (.tbl #[])) → SqL K H a (ns.map V.int) → sp [.ref a] H (fun v _ => v = .bl true) E0) :
    codeAny (model P w) callerA (.call (.ref fa) ⟨[.ref a], []⟩) (fun r s' => r = .ok (.ret (.bool true)) ∧ OldK s.heap s'.heap ∧ s'.os = s.os ∧ AllBare s'.gens) s := by
  have vals := vals_ints areI
  have same_len := areI.length
  have tab : ∀ b ∈ Ts.map (·.2), s.heap.get? b = some { cls := .none, data := .fields #[] } := fun b hb => by
    obtain ⟨t, ht, rfl⟩ := List.mem_map.mp hb
    exact tabs t ht
  generalize hH : startT K (Ts.map (·.2)) a { cls := .type "list", data := .seq us.toArray } (ns.map V.int) = H
  have look : ∀ {b : Addr} {u : HO}, H b = some u → (b ∈ Ts.map (·.2) ∧ u = .tbl #[]) ∨ (b = a ∧ K.lookup a = none ∧ u = .frz { cls := .type "list", data := .seq us.toArray } (.lst (ns.map V.int))) := fun {b u} e => startT_cases (hH ▸ e)
  have apart : a ∉ Ts.map (·.2) := fun z => by
    have e := tab a z
    rw [e] at scr
    exact absurd (congrArg Obj.data (Option.some.inj scr)) (fun y => nomatch y)
  have hP : ∀ b ∈ Ts.map (·.2), H b = some (.tbl #[]) := fun b hb => by rw [← hH]; exact if_pos hb
  have hPt : ∀ t ∈ Ts, H t.2 = some (.tbl #[]) := fun t ht => hP _ (List.mem_map.mpr ⟨t, ht, rfl⟩)
  have hseq : SqL K H a (ns.map V.int) := by
    cases hk : K.lookup a with
    | some o =>
      have e := (kin a o hk).symm.trans scr
      exact .inr ⟨_, us.toArray, _, by rw [hk, Option.some.inj e], rfl, rfl, rfl, by rw [List.size_toArray, same_len]; exact short, by simpa using vals⟩
    | none =>
      refine .inl (.inr ⟨{ cls := .type "list", data := .seq us.toArray }, ?_⟩)
      rw [← hH]
      unfold startT
      rw [if_neg apart, if_pos rfl, hk]
  have sound : HOk P w H s.heap := fun b u e => by
    rcases look e with ⟨hb, rfl⟩ | ⟨rfl, _, rfl⟩
    · exact tab b hb
    · exact ⟨scr, by rw [List.length_map]; exact short, us, _, vals, scr⟩
  -- what is no list and no empty record is not tracked
  have out : ∀ {b : Addr} {o : Obj}, s.heap.get? b = some o → (∀ is n, o.data ≠ .seq is n) → o.data ≠ .fields #[] → H b = none := fun {b o} e n1 n2 => by
    cases q : H b with
    | none => rfl
    | some u =>
      rcases look q with ⟨hb, _⟩ | ⟨rfl, _⟩
      · exact absurd (congrArg Obj.data (Option.some.inj ((tab b hb).symm.trans e))).symm n2
      · exact absurd (congrArg Obj.data (Option.some.inj (scr.symm.trans e))).symm (n1 _ _)
  have outD : ∀ {b : Addr} {o : Obj} {es : Array DictEntry} {n : Nat}, s.heap.get? b = some o → o.data = .dict es n → H b = none := fun {b o es n} e d => out e (fun _ _ z => by rw [d] at z; cases z) fun z => by rw [d] at z; cases z
  have dictK : ∀ {b : Addr} {m : Str → Option Value}, s.heap.Ns b m → (hidT s.heap H).Ns b m := fun {b m} hn => by
    obtain ⟨o, es, n, e, d, r⟩ := hn
    exact ⟨o, es, n, hidT_get e (outD e d), d, r⟩
  have kinB : K.In (hidT s.heap H) := fun b o e => hidT_get (kin b o e) (by
    cases q : H b with
    | none => rfl
    | some u =>
      rcases look q with ⟨hb, _⟩ | ⟨rfl, z, _⟩
      · obtain ⟨t, ht, rfl⟩ := List.mem_map.mp hb
        exact absurd ((tabsK t ht).symm.trans e) fun y => nomatch y
      · exact absurd (z.symm.trans e) fun y => nomatch y)
  have module : L2.Mod K mg (hidT s.heap H) := by
    obtain ⟨ml, e1, e2⟩ := nol
    exact ⟨kinB, dictK gl, ⟨mb, dictK bl, blb⟩, ml, dictK e1, e2⟩
  have table : ∀ t ∈ Ts, TabB (hidT s.heap H) mg t.1 t.2 := fun t ht => by
    have cod := cods t ht
    have tab := tabs t ht
    refine ⟨?_, ?_, fun z => ?_⟩
    · obtain ⟨o, vs, file, tf, flags, tg, inF, text, tt, e1, e2, e3, e4, rest⟩ := cod
      refine ⟨o, vs, file, tf, flags, tg, inF, text, tt, hidT_get e1 (out e1 (fun _ _ y => by rw [e3] at y; cases y) fun y => ?_), e2, e3, e4, rest⟩
      rw [e3] at y
      have y' : vs = #[] := Data.fields.inj y
      rw [y'] at e4
      cases e4
    · obtain ⟨bm, ob, m1, m2, m3, m4, m5, m6⟩ := bmain
      refine ⟨bm, ob, m1, m2, fun y => ?_, fun y => ?_, hidT_get m3 (out m3 (fun _ _ y => by rw [m6] at y; cases y) fun y => by rw [m6] at y; cases y), m4, m5, m6⟩
      · obtain ⟨o, es, n, e, d, _⟩ := gl
        rw [← y, m3] at e
        rw [← Option.some.inj e, m6] at d
        cases d
      · have e := m3.symm.trans (y ▸ tab)
        have d := m6
        rw [Option.some.inj e] at d
        cases d
    · obtain ⟨o, es, n, e, d, _⟩ := gl
      have e' := e.symm.trans (z ▸ tab)
      rw [Option.some.inj e'] at d
      cases d
  have env : Env0 P w K mg (hidT s.heap H) callerA [] s H := ⟨rfl, module, fun b o e => of_hidT e, Nat.le_of_eq (hidT_size _ _), trivial, fun b hb => (List.not_mem_nil hb).elim, sound, .of_eq gens⟩
  refine codeAny_mono ((F _ kinB (dictK gl) table).run callerA [] s H ⟨[.ref a], []⟩ [.ref a] [.ref a] _ room rfl env (bind s (.ref a)) (.cons rfl .nil) (keep H hPt hseq)) fun r s' res => ?_
  match r, res with
  | .ok (.ret u), res =>
    obtain ⟨v, H', same_os, bare, un, sound', rv, ev⟩ := res
    have ev' : v = .bl true := ev
    subst ev'
    obtain rfl : u = Value.bool true := rv
    have stays : ∀ b o, b ∉ Ts.map (·.2) → s.heap.get? b = some o → s'.heap.get? b = some o := fun b o nb e => by
      cases q : H b with
      | none => exact un.keep b o e q (fun z => (List.not_mem_nil z).elim) (by simp)
      | some u =>
        rcases look q with ⟨z, _⟩ | ⟨rfl, _, rfl⟩
        · exact absurd z nb
        · have g := (sound' b _ (un.frzs b _ _ q)).1
          rw [← Option.some.inj (scr.symm.trans e)]
          exact g
    refine ⟨rfl, ⟨fun b o e => ?_, fun b o e => ?_⟩, same_os, bare⟩
    · by_cases hb : b ∈ Ts.map (·.2)
      · obtain ⟨more, hm⟩ := un.tbls b #[] (hP b hb)
        have after : s'.heap.get? b = some { cls := .none, data := .fields (#[] ++ more) } := sound' b _ hm
        obtain ⟨t, ht, rfl⟩ := List.mem_map.mp hb
        obtain rfl := Option.some.inj ((tabs t ht).symm.trans e)
        refine .inr (.inl ⟨((cods t ht).tab (tabs t ht)).isCodeTable, rfl, #[], more, rfl, ?_⟩)
        rw [after]
      · exact .inl (stays b o hb e)
    · by_cases hb : b ∈ Ts.map (·.2)
      · obtain ⟨more, hm⟩ := un.tbls b #[] (hP b hb)
        exact ⟨_, sound' b _ hm⟩
      · exact ⟨o, stays b o hb e⟩
  | .ok .next, res => exact False.elim res
  | .ok .brk, res => exact False.elim res
  | .ok .cont, res => exact False.elim res
  | .error e, res => exact False.elim res
end K35



set_option maxRecDepth 100000
set_option maxHeartbeats 16000000
/-! k35: the end. -/
namespace K35
open PySem PySem.Spec PyProof.Rows L2 LamX VG
structure IsE (K : PySem.W.Frag) (CS C : Addr) : Prop where
  i : IsC K C
  n : PySem.W.findIn K (.ref C) "value" = some none
  x : PySem.W.exmOne K (.ref C) (.ref CS) = some true
theorem clB_ok {K : PySem.W.Frag} {C f : Addr} (h : clB K C f = true) (h2 : cfB K C = true) : CF K C ∧ Mk K C f := by
  unfold clB noB at h
  unfold cfB at h2
  simp only [Bool.and_eq_true, decide_eq_true_eq, List.all_cons, List.all_nil, and_true] at h h2
  obtain ⟨⟨a1, a2, a3, a4⟩, ⟨b1, b2, b3, b4, b5, b6⟩, c1, c2, c3, c4⟩ := h
  obtain ⟨d1, d2, d3, d4, d5, d6, t1, t2, t3, t4, t5, t6, t7⟩ := h2
  refine ⟨⟨⟨a1, a2, a3, a4⟩, b1, b2, b3, b4, b5, b6, d1, d2, d3, d4, d5, d6, fun d => ?_⟩, ⟨c1, c2, c3, c4⟩⟩
  cases d with
  | none => exact t1
  | bool _ => exact t2
  | int _ => exact t3
  | str _ => exact t4
  | list _ => exact t5
  | tuple _ => exact t6
  | dict _ => exact t7
abbrev Err1 := IsE
theorem meB_ok {K : PySem.W.Frag} {C f : Addr} {m : Str} (h : meB K C m f = true) : Meth K C m f := by
  unfold meB at h
  simp only [Bool.and_eq_true, decide_eq_true_eq] at h
  exact ⟨h.1, h.2.1, h.2.2⟩
theorem er_ok {K : PySem.W.Frag} {C : Str} (h : er K C = true) : ErrC K (He.ga K C) (He.ma K (He.ga K C) "__init__") ∧ Err1 K (He.ga K "CoreError") (He.ga K C) := by
  unfold er at h
  obtain ⟨a, b⟩ := Bool.and_eq_true_iff.mp h
  obtain ⟨E, _, m⟩ := errB_ok a
  exact ⟨E, isCB_ok b, E.noV, m⟩
def tabL (A0 A1 : Addr) : List (Addr × Str) := [(A0, Str.ofString "_law_are_refused.<locals>." ++ "<lambda>"), (A1, Str.ofString "_law_two.<locals>." ++ "<lambda>")]
def cTs (K : PySem.W.Frag) : List (Addr × Addr) := [He.cT K rfd1, He.cT K rfd2]
theorem all_in {P : Program} {w : World} {K : PySem.W.Frag} {h : Heap} {mg : Str → Option Value} (X : K.In h) (G : h.Ns mainGlobals mg) (c : He.SaysX fas fns tbs cds exs w h K) :
    ∃ fd : FuncData, (∀ (s : Shared) (u : Value), BindsTo s fd ⟨[u], []⟩ [("script", u)]) ∧ mg "law" = some (.ref (He.ga K "law")) ∧
      ∀ base : Heap, K.In base → base.Ns mainGlobals mg → (∀ t ∈ cTs K, TabB base mg t.1 t.2) → FnG P w K mg base 22 (He.ga K "law") fd ["script"] (spLaw K (tabL (He.cT K rfd1).2 (He.cT K rfd2).2)) := by
  have sd := c.t.d
  obtain ⟨fd0, D0⟩ := sd.def_ 0 (d := dd "number_of" sNumberOf) rfl
  have F0 : Fun K "number_of" "number_of" sNumberOf (He.ga K "number_of") fd0 := defFun D0
  have b0 : L2.Binds K fd0 ["text"] [] := F0.binds (ps := ["text"]) fun _ _ _ _ _ _ us hl => match us, hl with | [_], _ => rfl
  have g0 := He.glo_ok X G (sd.fact 0 (f := .glo "number_of") rfl)
  obtain ⟨fd1, D1⟩ := sd.def_ 1 (d := dd "number_in" sNumberIn) rfl
  have F1 : Fun K "number_in" "number_in" sNumberIn (He.ga K "number_in") fd1 := defFun D1
  have b1 : L2.Binds K fd1 ["text", "low", "high"] [] := F1.binds (ps := ["text", "low", "high"]) fun _ _ _ _ _ _ us hl => match us, hl with | [_, _, _], _ => rfl
  have g1 := He.glo_ok X G (sd.fact 1 (f := .glo "number_in") rfl)
  obtain ⟨fd2, D2⟩ := sd.def_ 2 (d := dd "number_told" sNumberTold) rfl
  have F2 : Fun K "number_told" "number_told" sNumberTold (He.ga K "number_told") fd2 := defFun D2
  have b2 : L2.Binds K fd2 ["lines", "at", "head", "bounds"] [] := F2.binds (ps := ["lines", "at", "head", "bounds"]) fun _ _ _ _ _ _ us hl => match us, hl with | [_, _, _, _], _ => rfl
  have g2 := He.glo_ok X G (sd.fact 2 (f := .glo "number_told") rfl)
  obtain ⟨fd3, D3⟩ := sd.def_ 3 (d := dd "clan" sClan) rfl
  have F3 : Fun K "clan" "clan" sClan (He.ga K "clan") fd3 := defFun D3
  have b3 : L2.Binds K fd3 ["clans", "task"] [] := F3.binds (ps := ["clans", "task"]) fun _ _ _ _ _ _ us hl => match us, hl with | [_, _], _ => rfl
  have g3 := He.glo_ok X G (sd.fact 3 (f := .glo "clan") rfl)
  obtain ⟨fd4, D4⟩ := sd.def_ 4 (d := dd "beneath" sBeneath) rfl
  have F4 : Fun K "beneath" "beneath" sBeneath (He.ga K "beneath") fd4 := defFun D4
  have b4 : L2.Binds K fd4 ["clans", "task"] [] := F4.binds (ps := ["clans", "task"]) fun _ _ _ _ _ _ us hl => match us, hl with | [_, _], _ => rfl
  have g4 := He.glo_ok X G (sd.fact 4 (f := .glo "beneath") rfl)
  obtain ⟨fd5, D5⟩ := sd.def_ 5 (d := dd "task_row" sTaskRow) rfl
  have F5 : Fun K "task_row" "task_row" sTaskRow (He.ga K "task_row") fd5 := defFun D5
  have b5 : L2.Binds K fd5 ["line", "fresh"] [] := F5.binds (ps := ["line", "fresh"]) fun _ _ _ _ _ _ us hl => match us, hl with | [_, _], _ => rfl
  have g5 := He.glo_ok X G (sd.fact 5 (f := .glo "task_row") rfl)
  obtain ⟨fd6, D6⟩ := sd.def_ 6 (d := dd "_stands_behind" sStands) rfl
  have F6 : Fun K "_stands_behind" "_stands_behind" sStands (He.ga K "_stands_behind") fd6 := defFun D6
  have b6 : L2.Binds K fd6 ["row", "rows"] [] := F6.binds (ps := ["row", "rows"]) fun _ _ _ _ _ _ us hl => match us, hl with | [_, _], _ => rfl
  have g6 := He.glo_ok X G (sd.fact 6 (f := .glo "_stands_behind") rfl)
  obtain ⟨fd7, D7⟩ := sd.def_ 7 (d := dd "straight" sStraight) rfl
  have F7 : Fun K "straight" "straight" sStraight (He.ga K "straight") fd7 := defFun D7
  have b7 : L2.Binds K fd7 ["clans", "task", "other"] [] := F7.binds (ps := ["clans", "task", "other"]) fun _ _ _ _ _ _ us hl => match us, hl with | [_, _, _], _ => rfl
  have g7 := He.glo_ok X G (sd.fact 7 (f := .glo "straight") rfl)
  obtain ⟨fd8, D8⟩ := sd.def_ 8 (d := dd "next_stop" sNextStop) rfl
  have F8 : Fun K "next_stop" "next_stop" sNextStop (He.ga K "next_stop") fd8 := defFun D8
  have b8 : L2.Binds K fd8 ["clans", "task", "other"] [] := F8.binds (ps := ["clans", "task", "other"]) fun _ _ _ _ _ _ us hl => match us, hl with | [_, _, _], _ => rfl
  have g8 := He.glo_ok X G (sd.fact 8 (f := .glo "next_stop") rfl)
  obtain ⟨fd9, D9⟩ := sd.def_ 9 (d := dd "way" sWay) rfl
  have F9 : Fun K "way" "way" sWay (He.ga K "way") fd9 := defFun D9
  have b9 : L2.Binds K fd9 ["clans", "task", "other"] [] := F9.binds (ps := ["clans", "task", "other"]) fun _ _ _ _ _ _ us hl => match us, hl with | [_, _, _], _ => rfl
  have g9 := He.glo_ok X G (sd.fact 9 (f := .glo "way") rfl)
  obtain ⟨fd10, D10⟩ := sd.def_ 10 (d := dd "way_sort" sWaySort) rfl
  have F10 : Fun K "way_sort" "way_sort" sWaySort (He.ga K "way_sort") fd10 := defFun D10
  have b10 : L2.Binds K fd10 ["clans", "task", "other"] [] := F10.binds (ps := ["clans", "task", "other"]) fun _ _ _ _ _ _ us hl => match us, hl with | [_, _, _], _ => rfl
  have g10 := He.glo_ok X G (sd.fact 10 (f := .glo "way_sort") rfl)
  obtain ⟨fd11, D11⟩ := sd.def_ 11 (d := dd "passes" sPasses) rfl
  have F11 : Fun K "passes" "passes" sPasses (He.ga K "passes") fd11 := defFun D11
  have b11 : L2.Binds K fd11 ["clans", "task", "other"] [] := F11.binds (ps := ["clans", "task", "other"]) fun _ _ _ _ _ _ us hl => match us, hl with | [_, _, _], _ => rfl
  have g11 := He.glo_ok X G (sd.fact 11 (f := .glo "passes") rfl)
  obtain ⟨fd12, D12⟩ := sd.def_ 12 (d := dd "met_by" sMetBy) rfl
  have F12 : Fun K "met_by" "met_by" sMetBy (He.ga K "met_by") fd12 := defFun D12
  have b12 : L2.Binds K fd12 ["clans", "stop"] [] := F12.binds (ps := ["clans", "stop"]) fun _ _ _ _ _ _ us hl => match us, hl with | [_, _], _ => rfl
  have g12 := He.glo_ok X G (sd.fact 12 (f := .glo "met_by") rfl)
  obtain ⟨fd13, D13⟩ := sd.def_ 13 (d := dd "_check_tasks" sCheckTasks) rfl
  have F13 : Fun K "_check_tasks" "_check_tasks" sCheckTasks (He.ga K "_check_tasks") fd13 := defFun D13
  have b13 : L2.Binds K fd13 ["clans", "task", "other"] [] := F13.binds (ps := ["clans", "task", "other"]) fun _ _ _ _ _ _ us hl => match us, hl with | [_, _, _], _ => rfl
  have g13 := He.glo_ok X G (sd.fact 13 (f := .glo "_check_tasks") rfl)
  obtain ⟨fd14, D14⟩ := sd.def_ 14 (d := dd "_law_pot" sPot) rfl
  have F14 : Fun K "_law_pot" "_law_pot" sPot (He.ga K "_law_pot") fd14 := defFun D14
  have b14 : L2.Binds K fd14 ["script", "place"] [] := F14.binds (ps := ["script", "place"]) fun _ _ _ _ _ _ us hl => match us, hl with | [_, _], _ => rfl
  have g14 := He.glo_ok X G (sd.fact 14 (f := .glo "_law_pot") rfl)
  obtain ⟨fd15, D15⟩ := sd.def_ 15 (d := dd "_law_take" sTake) rfl
  have F15 : Fun K "_law_take" "_law_take" sTake (He.ga K "_law_take") fd15 := defFun D15
  have b15 : L2.Binds K fd15 ["pot", "upto"] [] := F15.binds (ps := ["pot", "upto"]) fun _ _ _ _ _ _ us hl => match us, hl with | [_, _], _ => rfl
  have g15 := He.glo_ok X G (sd.fact 15 (f := .glo "_law_take") rfl)
  obtain ⟨fd16, D16⟩ := sd.def_ 16 (d := dd "_law_of" sOf) rfl
  have F16 : Fun K "_law_of" "_law_of" sOf (He.ga K "_law_of") fd16 := defFun D16
  have b16 : L2.Binds K fd16 ["pot", "some"] [] := F16.binds (ps := ["pot", "some"]) fun _ _ _ _ _ _ us hl => match us, hl with | [_, _], _ => rfl
  have g16 := He.glo_ok X G (sd.fact 16 (f := .glo "_law_of") rfl)
  obtain ⟨fd17, D17⟩ := sd.def_ 17 (d := dd "_law_cells" sCells) rfl
  have F17 : Fun K "_law_cells" "_law_cells" sCells (He.ga K "_law_cells") fd17 := defFun D17
  have b17 : L2.Binds K fd17 ["script", "most"] [] := F17.binds (ps := ["script", "most"]) fun _ _ _ _ _ _ us hl => match us, hl with | [_, _], _ => rfl
  have g17 := He.glo_ok X G (sd.fact 17 (f := .glo "_law_cells") rfl)
  obtain ⟨fd18, D18⟩ := sd.def_ 18 (d := dd "_law_heard" sHeard) rfl
  have F18 : Fun K "_law_heard" "_law_heard" sHeard (He.ga K "_law_heard") fd18 := defFun D18
  have b18 : L2.Binds K fd18 ["call"] [] := F18.binds (ps := ["call"]) fun _ _ _ _ _ _ us hl => match us, hl with | [_], _ => rfl
  have g18 := He.glo_ok X G (sd.fact 18 (f := .glo "_law_heard") rfl)
  obtain ⟨fd19, D19⟩ := sd.def_ 19 (d := dd "_law_odd" sOdd) rfl
  have F19 : Fun K "_law_odd" "_law_odd" sOdd (He.ga K "_law_odd") fd19 := defFun D19
  have b19 : L2.Binds K fd19 ["pot"] [] := F19.binds (ps := ["pot"]) fun _ _ _ _ _ _ us hl => match us, hl with | [_], _ => rfl
  have g19 := He.glo_ok X G (sd.fact 19 (f := .glo "_law_odd") rfl)
  obtain ⟨fd20, D20⟩ := sd.def_ 20 (d := dd "_law_is_int" sIsInt) rfl
  have F20 : Fun K "_law_is_int" "_law_is_int" sIsInt (He.ga K "_law_is_int") fd20 := defFun D20
  have b20 : L2.Binds K fd20 ["value", "low", "high"] [] := F20.binds (ps := ["value", "low", "high"]) fun _ _ _ _ _ _ us hl => match us, hl with | [_, _, _], _ => rfl
  have g20 := He.glo_ok X G (sd.fact 20 (f := .glo "_law_is_int") rfl)
  obtain ⟨fd21, D21⟩ := sd.def_ 21 (d := dd "_law_house_text" sHouseText) rfl
  have F21 : Fun K "_law_house_text" "_law_house_text" sHouseText (He.ga K "_law_house_text") fd21 := defFun D21
  have b21 : L2.Binds K fd21 ["house"] [] := F21.binds (ps := ["house"]) fun _ _ _ _ _ _ us hl => match us, hl with | [_], _ => rfl
  have g21 := He.glo_ok X G (sd.fact 21 (f := .glo "_law_house_text") rfl)
  obtain ⟨fd22, D22⟩ := sd.def_ 22 (d := dd "_law_house_up" sHouseUp) rfl
  have F22 : Fun K "_law_house_up" "_law_house_up" sHouseUp (He.ga K "_law_house_up") fd22 := defFun D22
  have b22 : L2.Binds K fd22 ["house", "task"] [] := F22.binds (ps := ["house", "task"]) fun _ _ _ _ _ _ us hl => match us, hl with | [_, _], _ => rfl
  have g22 := He.glo_ok X G (sd.fact 22 (f := .glo "_law_house_up") rfl)
  obtain ⟨fd23, D23⟩ := sd.def_ 23 (d := dd "_law_house_beneath" sHouseBeneath) rfl
  have F23 : Fun K "_law_house_beneath" "_law_house_beneath" sHouseBeneath (He.ga K "_law_house_beneath") fd23 := defFun D23
  have b23 : L2.Binds K fd23 ["house", "task"] [] := F23.binds (ps := ["house", "task"]) fun _ _ _ _ _ _ us hl => match us, hl with | [_, _], _ => rfl
  have g23 := He.glo_ok X G (sd.fact 23 (f := .glo "_law_house_beneath") rfl)
  obtain ⟨fd24, D24⟩ := sd.def_ 24 (d := dd "_law_house_clan" sHouseClan) rfl
  have F24 : Fun K "_law_house_clan" "_law_house_clan" sHouseClan (He.ga K "_law_house_clan") fd24 := defFun D24
  have b24 : L2.Binds K fd24 ["house", "task"] [] := F24.binds (ps := ["house", "task"]) fun _ _ _ _ _ _ us hl => match us, hl with | [_, _], _ => rfl
  have g24 := He.glo_ok X G (sd.fact 24 (f := .glo "_law_house_clan") rfl)
  obtain ⟨fd25, D25⟩ := sd.def_ 25 (d := dd "_law_house_is_straight" sHouseStraight) rfl
  have F25 : Fun K "_law_house_is_straight" "_law_house_is_straight" sHouseStraight (He.ga K "_law_house_is_straight") fd25 := defFun D25
  have b25 : L2.Binds K fd25 ["house", "task", "other"] [] := F25.binds (ps := ["house", "task", "other"]) fun _ _ _ _ _ _ us hl => match us, hl with | [_, _, _], _ => rfl
  have g25 := He.glo_ok X G (sd.fact 25 (f := .glo "_law_house_is_straight") rfl)
  obtain ⟨fd26, D26⟩ := sd.def_ 26 (d := dd "_law_house_way" sHouseWay) rfl
  have F26 : Fun K "_law_house_way" "_law_house_way" sHouseWay (He.ga K "_law_house_way") fd26 := defFun D26
  have b26 : L2.Binds K fd26 ["house", "task", "other"] [] := F26.binds (ps := ["house", "task", "other"]) fun _ _ _ _ _ _ us hl => match us, hl with | [_, _, _], _ => rfl
  have g26 := He.glo_ok X G (sd.fact 26 (f := .glo "_law_house_way") rfl)
  obtain ⟨fd27, D27⟩ := sd.def_ 27 (d := dd "_law_house_made" sHouseMade) rfl
  have F27 : Fun K "_law_house_made" "_law_house_made" sHouseMade (He.ga K "_law_house_made") fd27 := defFun D27
  have b27 : L2.Binds K fd27 ["house", "chief", "border"] [] := F27.binds (ps := ["house", "chief", "border"]) fun _ _ _ _ _ _ us hl => match us, hl with | [_, _, _], _ => rfl
  have g27 := He.glo_ok X G (sd.fact 27 (f := .glo "_law_house_made") rfl)
  obtain ⟨fd28, D28⟩ := sd.def_ 28 (d := dd "_law_house_drawn" sHouseDrawn) rfl
  have F28 : Fun K "_law_house_drawn" "_law_house_drawn" sHouseDrawn (He.ga K "_law_house_drawn") fd28 := defFun D28
  have b28 : L2.Binds K fd28 ["pot"] [] := F28.binds (ps := ["pot"]) fun _ _ _ _ _ _ us hl => match us, hl with | [_], _ => rfl
  have g28 := He.glo_ok X G (sd.fact 28 (f := .glo "_law_house_drawn") rfl)
  obtain ⟨fd29, D29⟩ := sd.def_ 29 (d := dd "_law_sort" sSort) rfl
  have F29 : Fun K "_law_sort" "_law_sort" sSort (He.ga K "_law_sort") fd29 := defFun D29
  have b29 : L2.Binds K fd29 ["house", "task", "other"] [] := F29.binds (ps := ["house", "task", "other"]) fun _ _ _ _ _ _ us hl => match us, hl with | [_, _, _], _ => rfl
  have g29 := He.glo_ok X G (sd.fact 29 (f := .glo "_law_sort") rfl)
  obtain ⟨fd30, D30⟩ := sd.def_ 30 (d := dd "_law_is_way_right" sWayRight) rfl
  have F30 : Fun K "_law_is_way_right" "_law_is_way_right" sWayRight (He.ga K "_law_is_way_right") fd30 := defFun D30
  have b30 : L2.Binds K fd30 ["clans", "house", "task", "other"] [] := F30.binds (ps := ["clans", "house", "task", "other"]) fun _ _ _ _ _ _ us hl => match us, hl with | [_, _, _, _], _ => rfl
  have g30 := He.glo_ok X G (sd.fact 30 (f := .glo "_law_is_way_right") rfl)
  obtain ⟨fd31, D31⟩ := sd.def_ 31 (d := dd "_law_is_raised" sIsRaised) rfl
  have F31 : Fun K "_law_is_raised" "_law_is_raised" sIsRaised (He.ga K "_law_is_raised") fd31 := defFun D31
  have b31 : L2.Binds K fd31 ["look", "value"] [] := F31.binds (ps := ["look", "value"]) fun _ _ _ _ _ _ us hl => match us, hl with | [_, _], _ => rfl
  have g31 := He.glo_ok X G (sd.fact 31 (f := .glo "_law_is_raised") rfl)
  obtain ⟨fd32, D32⟩ := sd.def_ 32 (d := dd "_law_are_refused" sRefused) rfl
  have F32 : Fun K "_law_are_refused" "_law_are_refused" sRefused (He.ga K "_law_are_refused") fd32 := defFun D32
  have b32 : L2.Binds K fd32 ["pot", "clans", "house"] [] := F32.binds (ps := ["pot", "clans", "house"]) fun _ _ _ _ _ _ us hl => match us, hl with | [_, _, _], _ => rfl
  have g32 := He.glo_ok X G (sd.fact 32 (f := .glo "_law_are_refused") rfl)
  obtain ⟨fd33, D33⟩ := sd.def_ 33 (d := dd "_law_two" sTwo) rfl
  have F33 : Fun K "_law_two" "_law_two" sTwo (He.ga K "_law_two") fd33 := defFun D33
  have b33 : L2.Binds K fd33 ["look", "clans", "task", "other"] [] := F33.binds (ps := ["look", "clans", "task", "other"]) fun _ _ _ _ _ _ us hl => match us, hl with | [_, _, _, _], _ => rfl
  have g33 := He.glo_ok X G (sd.fact 33 (f := .glo "_law_two") rfl)
  obtain ⟨fd34, D34⟩ := sd.def_ 34 (d := dd "_law_right" sRight) rfl
  have F34 : Fun K "_law_right" "_law_right" sRight (He.ga K "_law_right") fd34 := defFun D34
  have b34 : L2.Binds K fd34 ["pot"] [] := F34.binds (ps := ["pot"]) fun _ _ _ _ _ _ us hl => match us, hl with | [_], _ => rfl
  have g34 := He.glo_ok X G (sd.fact 34 (f := .glo "_law_right") rfl)
  obtain ⟨fd35, D35⟩ := sd.def_ 35 (d := dd "law" sLaw) rfl
  have F35 : Fun K "law" "law" sLaw (He.ga K "law") fd35 := defFun D35
  have b35 : L2.Binds K fd35 ["script"] [] := F35.binds (ps := ["script"]) fun _ _ _ _ _ _ us hl => match us, hl with | [_], _ => rfl
  have g35 := He.glo_ok X G (sd.fact 35 (f := .glo "law") rfl)
  obtain ⟨fd36, D36⟩ := sd.def_ 36 (d := dIni "BadClans") rfl
  have F36 : Fun K "__init__" "CoreError.__init__" sInit (He.ma K (He.ga K "BadClans") "__init__") fd36 := defFun D36
  have b36 : L2.Binds K fd36 ["self", "value"] [] := F36.binds (ps := ["self", "value"]) fun _ _ _ _ _ _ us hl => match us, hl with | [_, _], _ => rfl
  obtain ⟨fd37, D37⟩ := sd.def_ 37 (d := dIni "NoTask") rfl
  have F37 : Fun K "__init__" "CoreError.__init__" sInit (He.ma K (He.ga K "NoTask") "__init__") fd37 := defFun D37
  have b37 : L2.Binds K fd37 ["self", "value"] [] := F37.binds (ps := ["self", "value"]) fun _ _ _ _ _ _ us hl => match us, hl with | [_, _], _ => rfl
  obtain ⟨fd38, D38⟩ := sd.def_ 38 (d := ⟨("Clans", some "__init__"), "__init__", "Clans.__init__", defArgs sClansI, defBody sClansI, defScope sClansI, [], []⟩) rfl
  have F38 : Fun K "__init__" "Clans.__init__" sClansI (He.ma K (He.ga K "Clans") "__init__") fd38 := defFun D38
  have b38 : L2.Binds K fd38 ["self", "text"] [] := F38.binds (ps := ["self", "text"]) fun _ _ _ _ _ _ us hl => match us, hl with | [_, _], _ => rfl
  obtain ⟨fd39, D39⟩ := sd.def_ 39 (d := ⟨("Clans", some "__eq__"), "__eq__", "Clans.__eq__", defArgs sClansEq, defBody sClansEq, defScope sClansEq, [], []⟩) rfl
  have F39 : Fun K "__eq__" "Clans.__eq__" sClansEq (He.ma K (He.ga K "Clans") "__eq__") fd39 := defFun D39
  have b39 : L2.Binds K fd39 ["self", "other"] [] := F39.binds (ps := ["self", "other"]) fun _ _ _ _ _ _ us hl => match us, hl with | [_, _], _ => rfl
  obtain ⟨fd40, D40⟩ := sd.def_ 40 (d := ⟨("Clans", some "__len__"), "__len__", "Clans.__len__", defArgs sClansLen, defBody sClansLen, defScope sClansLen, [], []⟩) rfl
  have F40 : Fun K "__len__" "Clans.__len__" sClansLen (He.ma K (He.ga K "Clans") "__len__") fd40 := defFun D40
  have b40 : L2.Binds K fd40 ["self"] [] := F40.binds (ps := ["self"]) fun _ _ _ _ _ _ us hl => match us, hl with | [_], _ => rfl
  obtain ⟨fd41, D41⟩ := sd.def_ 41 (d := ⟨("Clans", some "__contains__"), "__contains__", "Clans.__contains__", defArgs sClansHas, defBody sClansHas, defScope sClansHas, [], []⟩) rfl
  have F41 : Fun K "__contains__" "Clans.__contains__" sClansHas (He.ma K (He.ga K "Clans") "__contains__") fd41 := defFun D41
  have b41 : L2.Binds K fd41 ["self", "value"] [] := F41.binds (ps := ["self", "value"]) fun _ _ _ _ _ _ us hl => match us, hl with | [_, _], _ => rfl
  obtain ⟨fd42, D42⟩ := sd.def_ 42 (d := ⟨("Clans", some "chief"), "chief", "Clans.chief", defArgs sChief, defBody sChief, defScope sChief, [], []⟩) rfl
  have F42 : Fun K "chief" "Clans.chief" sChief (He.ma K (He.ga K "Clans") "chief") fd42 := defFun D42
  have b42 : L2.Binds K fd42 ["self", "task"] [] := F42.binds (ps := ["self", "task"]) fun _ _ _ _ _ _ us hl => match us, hl with | [_, _], _ => rfl
  obtain ⟨fd43, D43⟩ := sd.def_ 43 (d := ⟨("Clans", some "has_border"), "has_border", "Clans.has_border", defArgs sHasBorder, defBody sHasBorder, defScope sHasBorder, [], []⟩) rfl
  have F43 : Fun K "has_border" "Clans.has_border" sHasBorder (He.ma K (He.ga K "Clans") "has_border") fd43 := defFun D43
  have b43 : L2.Binds K fd43 ["self", "task"] [] := F43.binds (ps := ["self", "task"]) fun _ _ _ _ _ _ us hl => match us, hl with | [_, _], _ => rfl
  obtain ⟨fd44, D44⟩ := sd.def_ 44 (d := ⟨("Clans", some "check_task"), "check_task", "Clans.check_task", defArgs sCheckTask, defBody sCheckTask, defScope sCheckTask, [], []⟩) rfl
  have F44 : Fun K "check_task" "Clans.check_task" sCheckTask (He.ma K (He.ga K "Clans") "check_task") fd44 := defFun D44
  have b44 : L2.Binds K fd44 ["self", "value"] [] := F44.binds (ps := ["self", "value"]) fun _ _ _ _ _ _ us hl => match us, hl with | [_, _], _ => rfl
  obtain ⟨fd45, D45⟩ := sd.def_ 45 (d := ⟨("Clans", some "tasks_beneath"), "tasks_beneath", "Clans.tasks_beneath", defArgs sTasksBeneath, defBody sTasksBeneath, defScope sTasksBeneath, [], []⟩) rfl
  have F45 : Fun K "tasks_beneath" "Clans.tasks_beneath" sTasksBeneath (He.ma K (He.ga K "Clans") "tasks_beneath") fd45 := defFun D45
  have b45 : L2.Binds K fd45 ["self", "task"] [] := F45.binds (ps := ["self", "task"]) fun _ _ _ _ _ _ us hl => match us, hl with | [_, _], _ => rfl
  have gCoreError := He.glo_ok X G (sd.fact 36 (f := .glo "CoreError") rfl)
  have gBadClans := He.glo_ok X G (sd.fact 37 (f := .glo "BadClans") rfl)
  have gNoTask := He.glo_ok X G (sd.fact 38 (f := .glo "NoTask") rfl)
  have gClans := He.glo_ok X G (sd.fact 39 (f := .glo "Clans") rfl)
  obtain ⟨tNMOST_TASKS, gMOST_TASKS⟩ := He.int_ok X G (sd.fact 40 (f := .int "MOST_TASKS" 6) rfl)
  obtain ⟨tNLAST_NUMBER, gLAST_NUMBER⟩ := He.int_ok X G (sd.fact 41 (f := .int "LAST_NUMBER" 999) rfl)
  have fabs := He.free_ok X G (sd.fact 42 (f := .free "abs") rfl)
  have fall := He.free_ok X G (sd.fact 43 (f := .free "all") rfl)
  have fany := He.free_ok X G (sd.fact 44 (f := .free "any") rfl)
  have fbool := He.free_ok X G (sd.fact 45 (f := .free "bool") rfl)
  have fdict := He.free_ok X G (sd.fact 46 (f := .free "dict") rfl)
  have fenumerate := He.free_ok X G (sd.fact 47 (f := .free "enumerate") rfl)
  have fint := He.free_ok X G (sd.fact 48 (f := .free "int") rfl)
  have fisinstance := He.free_ok X G (sd.fact 49 (f := .free "isinstance") rfl)
  have flen := He.free_ok X G (sd.fact 50 (f := .free "len") rfl)
  have flist := He.free_ok X G (sd.fact 51 (f := .free "list") rfl)
  have fmax := He.free_ok X G (sd.fact 52 (f := .free "max") rfl)
  have fmin := He.free_ok X G (sd.fact 53 (f := .free "min") rfl)
  have frange := He.free_ok X G (sd.fact 54 (f := .free "range") rfl)
  have frepr := He.free_ok X G (sd.fact 55 (f := .free "repr") rfl)
  have fset := He.free_ok X G (sd.fact 56 (f := .free "set") rfl)
  have fsorted := He.free_ok X G (sd.fact 57 (f := .free "sorted") rfl)
  have fstr := He.free_ok X G (sd.fact 58 (f := .free "str") rfl)
  have fsum := He.free_ok X G (sd.fact 59 (f := .free "sum") rfl)
  have ftuple := He.free_ok X G (sd.fact 60 (f := .free "tuple") rfl)
  have ftype := He.free_ok X G (sd.fact 61 (f := .free "type") rfl)
  obtain ⟨xe1, xe2, xk0, xc0, xc1, xq0, xq1, xq2, xq3, xq4, xq5, xq6, xn01⟩ : er K "BadClans" = true ∧ (er K "NoTask" = true ∧ (kiB K (He.ga K "NoTask") (He.ga K "NoTask") true = true ∧ (clB K (He.ga K "Clans") (He.ma K (He.ga K "Clans") "__init__") = true ∧ (cfB K (He.ga K "Clans") = true ∧ (meB K (He.ga K "Clans") "__eq__" (He.ma K (He.ga K "Clans") "__eq__") = true ∧ (meB K (He.ga K "Clans") "__len__" (He.ma K (He.ga K "Clans") "__len__") = true ∧ (meB K (He.ga K "Clans") "__contains__" (He.ma K (He.ga K "Clans") "__contains__") = true ∧ (meB K (He.ga K "Clans") "chief" (He.ma K (He.ga K "Clans") "chief") = true ∧ (meB K (He.ga K "Clans") "has_border" (He.ma K (He.ga K "Clans") "has_border") = true ∧ (meB K (He.ga K "Clans") "check_task" (He.ma K (He.ga K "Clans") "check_task") = true ∧ (meB K (He.ga K "Clans") "tasks_beneath" (He.ma K (He.ga K "Clans") "tasks_beneath") = true ∧ ((He.cT K rfd1).2 ≠ (He.cT K rfd2).2)))))))))))) := by
    have m := c.more
    unfold exs at m
    simpa only [Bool.and_eq_true, decide_eq_true_eq] using m
  obtain ⟨E1, X1⟩ := er_ok xe1
  obtain ⟨E2, X2⟩ := er_ok xe2
  have kq00 : PySem.W.kitOne K (.ref (He.ga K "NoTask")) (.ref (He.ga K "NoTask")) = some true := of_decide_eq_true xk0
  obtain ⟨TCf, MCf⟩ := clB_ok xc0 xc1
  have Meq := meB_ok xq0
  have Mle := meB_ok xq1
  have Mco := meB_ok xq2
  have Mch := meB_ok xq3
  have Mhb := meB_ok xq4
  have Mct := meB_ok xq5
  have Mtb := meB_ok xq6
  have RKf : RefK K (He.ga K "CoreError") (He.ga K "NoTask") := ⟨X2.1, X2.2, X2.3, kq00⟩
  have hcc1 : fd32.code = .ref (He.cT K rfd1).1 := by
    obtain ⟨oc, od, kV, doc, pm, an, cdv, ct, osl, e0, lk, hcd⟩ := F32.ex
    obtain ⟨cc, rfl⟩ := He.codeIn_ref hcd
    have e1 : fd32.code = .ref cc := by rw [e0]
    have e2 : He.codeOf K rfd1 = cc := He.codeOf_eq (p := rfd1) lk e1
    rw [e1, ← e2]
    rfl
  have hcc2 : fd33.code = .ref (He.cT K rfd2).1 := by
    obtain ⟨oc, od, kV, doc, pm, an, cdv, ct, osl, e0, lk, hcd⟩ := F33.ex
    obtain ⟨cc, rfl⟩ := He.codeIn_ref hcd
    have e1 : fd33.code = .ref cc := by rw [e0]
    have e2 : He.codeOf K rfd2 = cc := He.codeOf_eq (p := rfd2) lk e1
    rw [e1, ← e2]
    rfl
  refine ⟨fd35, fun s u => .of_eq (by obtain ⟨oc, od, kV, doc, pm, an, cdv, ct, osl, e0, lk, hcd⟩ := F35.ex; rw [e0]; rfl), g35, fun base KB GB TBs => ?_⟩
  have TB1 := TBs _ List.mem_cons_self
  have TB2 := TBs _ (List.mem_cons_of_mem _ List.mem_cons_self)
  have wpot : FnOk P w K mg base CX0 1 _ fd14 _ (spPot K) := ok_pot (k := 0) F14 flen fsum fint fabs
  have wtake : FnOk P w K mg base CX0 1 _ fd15 _ spTake := ok_take (k := 0) F15 fint
  have wof : FnOk P w K mg base CX0 2 _ fd16 _ (spOf K) := ok_of (k := 0) F16 wtake F15.kp b15 g15 flen
  have wcells : FnOk P w K mg base CX0 1 _ fd17 _ (spCells K) := ok_cells (k := 0) F17 flist frange fmax fmin flen
  have wisInt : FnOk P w K mg base CX0 1 _ fd20 _ (spWithin K) := ok_isInt (k := 0) F20 fisinstance fint fbool
  have wodd : FnOk P w K mg base CX0 3 _ fd19 _ (spOdd K) := ok_odd (k := 0) F19 wof F16.kp b16 g16
  have wNumberOf : FnOk P w K mg base CX0 1 _ fd0 _ (spNumberOf) := ok_NumberOf (k := 0) F0 (fall := fall) (fint := fint)
  have wNumberIn : FnOk P w K mg base CX0 2 _ fd1 _ (spNumberIn) := ok_NumberIn (k := 0) F1 (gNo := ⟨_, _, wNumberOf, F0.kp, b0, g0⟩)
  have wNumberTold : FnOk P w K mg base CX0 3 _ fd2 _ (spNumberTold K) := ok_NumberTold (k := 0) F2 (gNi := ⟨_, _, wNumberIn, F1.kp, b1, g1⟩) (flen := flen)
  have wTaskRow : FnOk P w K mg base CX0 3 _ fd5 _ (spTaskRow K) := ok_TaskRow (k := 0) F5 (gNi := ⟨_, _, wNumberIn, F1.kp, b1, g1⟩) (flen := flen)
  have wStands : FnOk P w K mg base CX0 1 _ fd6 _ (spStands K) := ok_Stands (k := 0) F6 (gMOST_TASKS := gMOST_TASKS) (flen := flen)
  have wClansI : FnOk P w K mg base (L2.CX P w) 5 _ fd38 _ (spClansI K (He.ga K "Clans")) := ok_ClansI (k := 0) F38 (gNt := ⟨_, _, wNumberTold.mono (by omega), F2.kp, b2, g2⟩) (gTr := ⟨_, _, wTaskRow.mono (by omega), F5.kp, b5, g5⟩) (gSb := ⟨_, _, wStands.mono (by omega), F6.kp, b6, g6⟩) (E1 := E1) (I1 := F36) (bI1 := b36) (gBadClans := gBadClans) (T := TCf) (gLAST_NUMBER := gLAST_NUMBER) (fenumerate := fenumerate) (fstr := fstr) (ftuple := ftuple) (ftype := ftype)
  have wHouseText : FnOk P w K mg base CX0 1 _ fd21 _ (spHouseText K) := ok_HouseText (k := 0) F21 (fint := fint) (fsorted := fsorted) (fstr := fstr)
  have wHouseMade : FnOk P w K mg base CX0 1 _ fd27 _ (spHouseMade K) := ok_HouseMade (k := 0) F27 (fdict := fdict) (flist := flist)
  have wHouseDrawn : FnOk P w K mg base CX0 4 _ fd28 _ (spHouseDrawn K) := ok_HouseDrawn (k := 0) F28 (gTa := ⟨_, _, wtake.mono (by omega), F15.kp, b15, g15⟩) (gOf := ⟨_, _, wof.mono (by omega), F16.kp, b16, g16⟩) (gHm := ⟨_, _, wHouseMade.mono (by omega), F27.kp, b27, g27⟩) (flen := flen) (fmax := fmax) (frange := frange) (fsorted := fsorted)
  have wClansEq : FnOk P w K mg base CX0 1 _ fd39 _ (spClansEq K (He.ga K "Clans")) := ok_ClansEq (k := 0) F39 (T := TCf) (gClans := gClans) (fisinstance := fisinstance)
  have wClansLen : FnOk P w K mg base CX0 1 _ fd40 _ (spClansLen K (He.ga K "Clans")) := ok_ClansLen (k := 0) F40 (T := TCf) (flen := flen)
  have wClansHas : FnOk P w K mg base CX0 1 _ fd41 _ (spClansHas K (He.ga K "Clans")) := ok_ClansHas (k := 0) F41 (T := TCf) (fint := fint) (ftype := ftype)
  have wCheckTask : FnOk P w K mg base (L2.CX P w) 4 _ fd44 _ (spCheckTask K (He.ga K "Clans") (He.ga K "NoTask")) := ok_CheckTask (k := 0) F44 (gCh := ⟨_, _, wClansHas.mono (by omega), Mco, b41⟩) (E2 := E2) (I2 := F37) (bI2 := b37) (gNoTask := gNoTask) (T := TCf)
  have wChief : FnOk P w K mg base (L2.CX P w) 5 _ fd42 _ (spChief K (He.ga K "Clans") (He.ga K "NoTask")) := ok_Chief (k := 0) F42 (gCk := ⟨_, _, wCheckTask, Mct, b44⟩) (T := TCf)
  have wHasBorder : FnOk P w K mg base (L2.CX P w) 5 _ fd43 _ (spHasBorder K (He.ga K "Clans") (He.ga K "NoTask")) := ok_HasBorder (k := 0) F43 (gCk := ⟨_, _, wCheckTask, Mct, b44⟩) (T := TCf)
  have wTasksBeneath : FnOk P w K mg base CX0 1 _ fd45 _ (spTasksBeneath K (He.ga K "Clans")) := ok_TasksBeneath (k := 0) F45 (T := TCf)
  have wClan : FnOk P w K mg base (L2.CX P w) 10 _ fd3 _ (spClan K (He.ga K "Clans") (He.ga K "NoTask")) := ok_Clan (k := 0) F3 (gCk := ⟨_, _, wCheckTask.mono (by omega), Mct, b44⟩) (T := TCf) (ftuple := ftuple)
  have wBeneath : FnOk P w K mg base (L2.CX P w) 10 _ fd4 _ (spBeneath K (He.ga K "Clans") (He.ga K "NoTask")) := ok_Beneath (k := 0) F4 (gCk := ⟨_, _, wCheckTask.mono (by omega), Mct, b44⟩) (gTb := ⟨_, _, wTasksBeneath.mono (by omega), Mtb, b45⟩) (T := TCf) (ftuple := ftuple)
  have wHouseUp : FnOk P w K mg base CX0 1 _ fd22 _ (spHouseUp K) := ok_HouseUp (k := 0) F22
  have wHouseBeneath : FnOk P w K mg base CX0 2 _ fd23 _ (spHouseBeneath K) := ok_HouseBeneath (k := 0) F23 (gHu := ⟨_, _, wHouseUp, F22.kp, b22, g22⟩) (fsorted := fsorted)
  have wHouseClan : FnOk P w K mg base CX0 1 _ fd24 _ (spHouseClan K) := ok_HouseClan (k := 0) F24 (fsorted := fsorted)
  have wCheckTasks : FnOk P w K mg base (L2.CX P w) 5 _ fd13 _ (spCheckTasks K (He.ga K "Clans") (He.ga K "NoTask")) := ok_CheckTasks (k := 0) F13 (gCk := ⟨_, _, wCheckTask, Mct, b44⟩) (T := TCf)
  have wStraight : FnOk P w K mg base (L2.CX P w) 12 _ fd7 _ (spStraight K (He.ga K "Clans") (He.ga K "NoTask")) := ok_Straight (k := 0) F7 (gCt := ⟨_, _, wCheckTasks.mono (by omega), F13.kp, b13, g13⟩) (gCl := ⟨_, _, wClan.mono (by omega), F3.kp, b3, g3⟩) (gCc := ⟨_, _, wChief.mono (by omega), Mch, b42⟩) (T := TCf)
  have wNextStop : FnOk P w K mg base (L2.CX P w) 13 _ fd8 _ (spNextStop K (He.ga K "Clans") (He.ga K "NoTask")) := ok_NextStop (k := 0) F8 (gSg := ⟨_, _, wStraight, F7.kp, b7, g7⟩) (gCl := ⟨_, _, wClan.mono (by omega), F3.kp, b3, g3⟩) (gCc := ⟨_, _, wChief.mono (by omega), Mch, b42⟩) (gBn := ⟨_, _, wBeneath.mono (by omega), F4.kp, b4, g4⟩) (T := TCf)
  have wWay : FnOk P w K mg base (L2.CX P w) 14 _ fd9 _ (spWay K (He.ga K "Clans") (He.ga K "NoTask")) := ok_Way (k := 0) F9 (gNs := ⟨_, _, wNextStop, F8.kp, b8, g8⟩) (T := TCf) (ftuple := ftuple)
  have wWaySort : FnOk P w K mg base (L2.CX P w) 14 _ fd10 _ (spWaySort K (He.ga K "Clans") (He.ga K "NoTask")) := ok_WaySort (k := 0) F10 (gCt := ⟨_, _, wCheckTasks.mono (by omega), F13.kp, b13, g13⟩) (gCl := ⟨_, _, wClan.mono (by omega), F3.kp, b3, g3⟩) (gBn := ⟨_, _, wBeneath.mono (by omega), F4.kp, b4, g4⟩) (T := TCf) (fany := fany)
  have wPasses : FnOk P w K mg base (L2.CX P w) 15 _ fd11 _ (spPasses K (He.ga K "Clans") (He.ga K "NoTask")) := ok_Passes (k := 0) F11 (gWy := ⟨_, _, wWay, F9.kp, b9, g9⟩) (gHb := ⟨_, _, wHasBorder.mono (by omega), Mhb, b43⟩) (T := TCf)
  have wMetBy : FnOk P w K mg base (L2.CX P w) 15 _ fd12 _ (spMetBy K (He.ga K "Clans") (He.ga K "NoTask")) := ok_MetBy (k := 0) F12 (gCk := ⟨_, _, wCheckTask.mono (by omega), Mct, b44⟩) (gWy := ⟨_, _, wWay, F9.kp, b9, g9⟩) (T := TCf) (ftuple := ftuple)
  have wHouseStraight : FnOk P w K mg base CX0 1 _ fd25 _ (spHStraight K) := ok_HouseStraight (k := 0) F25
  have wSort : FnOk P w K mg base CX0 3 _ fd29 _ (spSort K) := ok_Sort (k := 0) F29 (gHc := ⟨_, _, wHouseClan.mono (by omega), F24.kp, b24, g24⟩) (gHn := ⟨_, _, wHouseBeneath, F23.kp, b23, g23⟩)
  have wHouseWay : FnOk P w K mg base CX0 3 _ fd26 _ (spHWay K) := ok_HouseWay (k := 0) F26 (gHs := ⟨_, _, wHouseStraight.mono (by omega), F25.kp, b25, g25⟩) (gHu := ⟨_, _, wHouseUp.mono (by omega), F22.kp, b22, g22⟩) (gHc := ⟨_, _, wHouseClan.mono (by omega), F24.kp, b24, g24⟩) (ftuple := ftuple)
  have wWayRight : FnG P w K mg base 17 _ fd30 _ (spWayRight K (He.ga K "Clans")) := ok_WayRight (k := 0) F30 (gHw := ⟨_, _, wHouseWay.mono (by omega), F26.kp, b26, g26⟩) (gWy := ⟨_, _, wWay.mono (by omega), F9.kp, b9, g9⟩) (gNs := ⟨_, _, wNextStop.mono (by omega), F8.kp, b8, g8⟩) (gSg := ⟨_, _, wStraight.mono (by omega), F7.kp, b7, g7⟩) (gHs := ⟨_, _, wHouseStraight.mono (by omega), F25.kp, b25, g25⟩) (gWs := ⟨_, _, wWaySort.mono (by omega), F10.kp, b10, g10⟩) (gSo := ⟨_, _, wSort.mono (by omega), F29.kp, b29, g29⟩) (gPa := ⟨_, _, wPasses.mono (by omega), F11.kp, b11, g11⟩) (T := TCf) (fint := fint) (flen := flen) (frepr := frepr) (fset := fset)
  have wIsRaised : ∀ Γ, FnC P w K mg base Γ 19 _ fd31 _ ((spIsRaised P w K mg base (0+16) (He.ga K "NoTask") Γ)) := fun Γ => ok_IsRaised (k := 0) F31 (FH := F18) (bH := b18) (gH := g18) (gS := gCoreError) (gNoTask := gNoTask) (RK := RKf) (fisinstance := fisinstance) (frepr := frepr)
  have wTwo : FnOk P w K mg base CX0 19 _ fd33 _ (spTwoL P w K mg base (tabL (He.cT K rfd1).2 (He.cT K rfd2).2) 16 (He.ga K "NoTask")) := (ok_Two (k := 16) F33 hcc2 TB2 (List.mem_cons_of_mem _ List.mem_cons_self) (fun p hp ep => by
    rcases List.mem_cons.mp hp with rfl | hp
    · exact absurd ep xn01
    rcases List.mem_singleton.mp hp with rfl
    rfl)).mono (by omega)
  have wRefused : FnG P w K mg base 20 _ fd32 _ (spRefused K (tabL (He.cT K rfd1).2 (He.cT K rfd2).2) (He.ga K "Clans")) := ok_Refused (k := 0) F32 hcc1 TB1 List.mem_cons_self (fun p hp ep => by
    rcases List.mem_cons.mp hp with rfl | hp
    · rfl
    rcases List.mem_singleton.mp hp with rfl
    exact absurd ep.symm xn01) F18 b18 g18 gCoreError (gOd := ⟨_, _, wodd.mono (by omega), F19.kp, b19, g19⟩) (gOf := ⟨_, _, wof.mono (by omega), F16.kp, b16, g16⟩) (gIi := ⟨_, _, wisInt.mono (by omega), F20.kp, b20, g20⟩) (gIr := ⟨_, _, wIsRaised, F31.kp, b31, g31⟩) (gTw := ⟨_, _, wTwo, F33.kp, b33, g33⟩) (gSg := ⟨_, _, wStraight.mono (by omega), F7.kp, b7, g7⟩) (gNs := ⟨_, _, wNextStop.mono (by omega), F8.kp, b8, g8⟩) (gWy := ⟨_, _, wWay.mono (by omega), F9.kp, b9, g9⟩) (gWs := ⟨_, _, wWaySort.mono (by omega), F10.kp, b10, g10⟩) (gPa := ⟨_, _, wPasses.mono (by omega), F11.kp, b11, g11⟩) (gMb := ⟨_, _, wMetBy.mono (by omega), F12.kp, b12, g12⟩) (T := TCf) (fall := fall) (fsorted := fsorted)
  have wRight : FnG P w K mg base 21 _ fd34 _ (spRight K (tabL (He.cT K rfd1).2 (He.cT K rfd2).2)) := ok_Right (k := 0) F34 (gHd := ⟨_, _, wHouseDrawn.mono (by omega), F28.kp, b28, g28⟩) (gHt := ⟨_, _, wHouseText.mono (by omega), F21.kp, b21, g21⟩) (gCi := ⟨_, _, wClansI.mono (by omega), MCf, b38, gClans⟩) (gWr := ⟨_, _, wWayRight.lift (by omega), F30.kp, b30, g30⟩) (gHw := ⟨_, _, wHouseWay.mono (by omega), F26.kp, b26, g26⟩) (gMb := ⟨_, _, wMetBy.mono (by omega), F12.kp, b12, g12⟩) (gRf := ⟨_, _, wRefused, F32.kp, b32, g32⟩) (fall := fall) (fdict := fdict) (frepr := frepr) (fsorted := fsorted) (ftuple := ftuple)
  have wLaw : FnG P w K mg base 22 _ fd35 _ (spLaw K (tabL (He.cT K rfd1).2 (He.cT K rfd2).2)) := ok_Law (k := 0) F35 (gRt := ⟨_, _, wRight, F34.kp, b34, g34⟩) (gPo := ⟨_, _, wpot.mono (by omega), F14.kp, b14, g14⟩) (gCe := ⟨_, _, wcells.mono (by omega), F17.kp, b17, g17⟩) (fall := fall)
  exact wLaw
end K35



set_option maxRecDepth 100000
set_option maxHeartbeats 0
/-! k35: the top's run, and the law. -/
namespace K35
open PySem PySem.Spec PyProof.Rows L2 LamX VG
theorem seen5_eq (s : PySem.W.SharedT) : seen5 s = hook5.obs s.abs := He.obsX_eq (HandSHeadRun.getT_eq s)
end K35



set_option maxRecDepth 100000
set_option maxHeartbeats 8000000
namespace K35
open PySem PySem.Spec PyProof.Rows L2 LamX VG
theorem walk_top : PySem.W.WalkO (PySem.W.view (PySem.W.OpenLaw.row PySem.Challenge.rw_clankernel_k35_whole_ways).prog [47]) bound (PySem.W.XL (PySem.W.view (PySem.W.OpenLaw.row PySem.Challenge.rw_clankernel_k35_whole_ways).prog [47]) []) hook5.says
    PySem.Challenge.rw_clankernel_k35_whole_ways.row.toRowW (HandSHeadRun.topDef (PySem.W.OpenLaw.row PySem.Challenge.rw_clankernel_k35_whole_ways).prog 47) [] (fun f vs => PySem.call f vs) := by
  refine Att.attach_callB (l := PySem.Challenge.rw_clankernel_k35_whole_ways) (n := 63) rfl (by kernel_rfl) fun w s₀ s₁ mg mb fa o pm cd doc a vs ns G Y ho hd hcd hmg hobj hints hlen _ hg => ?_
  obtain ⟨K, KX, c⟩ := Y
  obtain ⟨fd, hb, g, F⟩ := all_in (P := PySem.Challenge.rw_clankernel_k35_whole_ways.prog) KX G.T.g c
  have e : (HandSHeadRun.topDef (PySem.W.OpenLaw.row PySem.Challenge.rw_clankernel_k35_whole_ways).prog 47).name = ("law" : Str) := by kernel_rfl
  rw [e, g] at hmg
  obtain rfl := Value.ref.inj (Option.some.inj hmg)
  have mem : ∀ t ∈ cTs K, ∃ r, r ∈ cds ∧ t = He.cT K r := fun t ht => by
    rcases List.mem_cons.mp ht with rfl | ht
    · exact ⟨rfd1, List.mem_cons_self, rfl⟩
    · exact ⟨rfd2, List.mem_cons_of_mem _ List.mem_cons_self, List.mem_singleton.mp ht⟩
  refine call_tops (Ts := cTs K) KX G.T.g G.T.b G.T.builtins G.T.nolimit hg (fun t ht => by obtain ⟨r, hr, rfl⟩ := mem t ht; exact c.empty _ hr) (fun t ht => by obtain ⟨r, hr, rfl⟩ := mem t ht; exact c.out _ hr) (fun t ht => by obtain ⟨r, hr, rfl⟩ := mem t ht; exact PySem.W.codeHd_of_K KX (c.hd _ hr)) G.T.bmain hobj hints (Nat.le_trans hlen (by decide)) ⟨rfl, by decide, by decide⟩ F hb fun H hT hS => ?_
  refine ⟨a, ns, rfl, hS, hlen, fun p hp => ?_, fun _ => rfl⟩
  have hp2 : H p.1 = some (.tbl #[]) := by
    rcases List.mem_cons.mp hp with rfl | hp
    · exact hT (He.cT K rfd1) List.mem_cons_self
    · rw [List.mem_singleton.mp hp]
      exact hT (He.cT K rfd2) (List.mem_cons_of_mem _ List.mem_cons_self)
  exact ⟨#[], hp2, trivial, fun pos cv hc => by cases hc⟩
end K35
open PySem PySem.W PySem.Calls PyProof.Rows
set_option maxRecDepth 100000 in
set_option maxHeartbeats 0 in
theorem PySem.Challenge.cw_clankernel_k35_whole_ways_holds : PySem.Challenge.rw_clankernel_k35_whole_ways.Holds := by
  w_on; o_law
  refine HandSHeadRun.head_any (r := OpenLaw.row PySem.Challenge.rw_clankernel_k35_whole_ways) (q := view (OpenLaw.row PySem.Challenge.rw_clankernel_k35_whole_ways).prog [47]) (H := K35.hook5) (ob := K35.seen5) (M := 4000) (loose := K35.bound) (d := HandSHeadRun.topDef (OpenLaw.row PySem.Challenge.rw_clankernel_k35_whole_ways).prog 47) (kwd := []) K35.seen5_eq
    (by kernel_rfl) (fun s => by kernel_rfl) K35.top_run (by kernel_rfl) (by kernel_rfl) (by kernel_rfl) (by rfl) (by first | assumption | decide +kernel) (by decide +kernel) ⟨rfl, rfl, rfl, rfl, rfl, by decide +kernel⟩ ?hw ?hc
  case hw => w_witness2
  case hc => exact K35.walk_top
