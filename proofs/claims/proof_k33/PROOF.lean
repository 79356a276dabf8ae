import PyProof.Rows.All
import Wide.All
import OpenK.AllK
import Wide.FinOn
import HandS.Base
import HandS.ForMost
import HandS.ForExc
import HandS.IsInst
import HandS.Zip
import HandS.Star
import HandS.Flow
import HandS.FStr
import HandS.TupAny
import HandS.Wide
import HandS.Conv
import HandS.ExcInit
import HandS.Steps
import HandS.Style
import HandS.ExcField
import HandS.ExcIs
import HandS.ExcValue
import HandS.Lambda
import PyProof.ReprRoads
import PyProof.ReprLen
import HandS.Strs
import HandS.SetFor
import HandS.SetKeys
import HandS.TupSets
import PyProof.SeqIndex
import PyProof.ListStr
import HandS.Defaults
import HandS.Head2
import HandS.HeadHook4
import HandS.HeadWalk
import KE.KStateDown
import HandS.TupMul
import KE.GoesMore
import KE.GoesEnum
import PyProof.Draws
import HandS.MakeKwOnly
import KE.GoesEnumKw
import PyProof.Rows.CallKwBuiltin
import HandS.DictComp
import HandS.ReplaceLit
import HandS.Sort
import PyProof.ListRange
import KE.IntTextLaws
import HandS.Replace
import PySem.Challenge.RW_clankernel_k33_whole_priorities_for_answ
set_option Elab.async false
set_option linter.all false
set_option maxRecDepth 100000
set_option maxHeartbeats 8000000
/-! What serves every law: data on the heap, the pot, kept errors and lambdas, repr, the end. -/
namespace VG
open PySem PySem.Spec PyProof.Rows L2 LamX
/-- a value of any kind: as Dp tells, or one of the dicts that are drawn -/
inductive Dk (K : PySem.W.Frag) (H : Hp) : V → PyData → Prop
  | dp {v : V} {d : PyData} : Dp K H v d → Dk K H v d
  | d0 {a : Addr} : H a = some (.dK []) → Dk K H (.ref a) (.dict [])
  | d1 {a : Addr} : H a = some (.dK [(.inr "a", .int 1)]) → Dk K H (.ref a) (.dict [(.str "a", .int 1)])
def tyName : PyData → String
  | .none => "NoneType"
  | .bool _ => "bool"
  | .int _ => "int"
  | .str _ => "str"
  | .list _ => "list"
  | .tuple _ => "tuple"
  | .dict _ => "dict"
theorem Dk.ty {K : PySem.W.Frag} {H : Hp} {v : V} {d : PyData} (h : Dk K H v d) : TyB K H v (tyName d) := by
  cases h with
  | dp h =>
    cases h with
    | non => exact .non
    | bl b => exact .bl b
    | int i => exact .int i
    | str x => exact .str x
    | lst hs _ => exact .lst hs
    | tup hs _ => exact .tup hs
  | d0 h => exact .dK h
  | d1 h => exact .dK h
theorem Same.seqT {K : PySem.W.Frag} {H H' : Hp} {a : Addr} {xs : List V} (e : Same H H') (h : SqT K H a xs) : SqT K H' a xs := by
  rcases h with (h | ⟨o, h⟩) | h
  · exact .inl (.inl (e _ _ h))
  · exact .inl (.inr ⟨o, e _ _ h⟩)
  · exact .inr h
mutual
theorem dp_same {K : PySem.W.Frag} {H H' : Hp} (e : Same H H') : ∀ (d : PyData) (v : V), Dp K H v d → Dp K H' v d
  | .none, _, h => by cases h; exact .non
  | .bool b, _, h => by cases h; exact .bl b
  | .int i, _, h => by cases h; exact .int i
  | .str x, _, h => by cases h; exact .str x
  | .list ds, _, h => by
    cases h with
    | lst hs ha => exact .lst (e.seq hs) (dpAll_same e ds _ ha)
  | .tuple ds, _, h => by
    cases h with
    | tup hs ha => exact .tup (Same.seqT e hs) (dpAll_same e ds _ ha)
  | .dict _, _, h => by cases h
theorem dpAll_same {K : PySem.W.Frag} {H H' : Hp} (e : Same H H') : ∀ (ds : List PyData) (vs : List V), DpAll K H vs ds → DpAll K H' vs ds
  | [], _, h => by cases h; exact .nil
  | d :: ds, _, h => by
    cases h with
    | cons h1 h2 => exact .cons (dp_same e d _ h1) (dpAll_same e ds _ h2)
end
theorem Dk.same {K : PySem.W.Frag} {H H' : Hp} (e : Same H H') {d : PyData} {v : V} (h : Dk K H v d) : Dk K H' v d := by
  cases h with
  | dp h => exact .dp (dp_same e _ _ h)
  | d0 h => exact .d0 (e _ _ h)
  | d1 h => exact .d1 (e _ _ h)
theorem same_upd {H : Hp} {p : Addr} {o : HO} (h : H p = none) : Same H (upd H p o) := fun b x e => by
  rw [upd_ne (ne_of_none e h)]
  exact e
def isW : PyData → Int → Int → Bool
  | .int i, lo, hi => decide (lo ≤ i) && decide (i ≤ hi)
  | _, _, _ => false
/-- a name of the module that holds an object -/
theorem pgr {X : Cx} {x : Str} {a : Addr} {pos : Pos} (hg : Gl X x) (hm : X.mg x = some (.ref a)) (hd : (x == ("__debug__" : Str)) = false := by decide) : PE X (.Name x pos) (tC (.ref a)) := pe_glob hg hm rfl hd
section
variable {P : Program} {w : World} {K : PySem.W.Frag} {mg : Str → Option Value} {base : Heap}
/-- a tuple of the written part -/
def KT (K : PySem.W.Frag) (a : Addr) (xs : List V) : Prop := ∃ (o : Obj) (its : Array Value) (n : Nat), K.lookup a = some o ∧ o.cls = .type "tuple" ∧ o.data = .seq its n ∧ its.size ≤ sizeLine ∧ Vals xs its.toList
theorem KT.sq {a : Addr} {xs : List V} (h : KT K a xs) {H : Hp} : SqT K H a xs := .inr h
def optS : Option Str → V
  | none => .non
  | some x => .str x
end
theorem cut_take (xs : List V) (j : Nat) : cutV xs none (some (j : Int)) = xs.take j := by
  unfold cutV
  rw [HT.sIx_none, HT.sIx_nat, List.drop_zero, Nat.sub_zero]
  by_cases h : j ≤ xs.length
  · rw [Nat.min_eq_left h]
  · rw [Nat.min_eq_right (by omega), List.take_of_length_le (Nat.le_refl _), List.take_of_length_le (by omega)]
/-- t[:j] of a written tuple -/
theorem slice_to {K : PySem.W.Frag} {H : Hp} {a : Addr} {xs : List V} {j : Nat} {Q : VK} (h : SqT K H a xs) (q : ∀ p H', SqT K H' p (xs.take j) → Same H H' → Q (.ref p) H') : rSlA K (.ref a) none (some (j : Int)) H Q := by
  refine ⟨a, xs, rfl, h, fun hw => q a H ?_ (Same.refl H), fun _ p hp => q p _ ?_ (same_upd hp)⟩
  · have e : xs.length ≤ j := by
      have := hw.2
      rw [HT.sIx_nat] at this
      omega
    rw [List.take_of_length_le e]
    exact h
  · rw [cut_take]
    exact SqT.of upd_same
theorem isW_int {d : PyData} {lo hi : Int} (h : isW d lo hi = true) : ∃ i, d = .int i ∧ lo ≤ i ∧ i ≤ hi := by
  cases d with
  | int i =>
    simp [isW] at h
    exact ⟨i, rfl, h.1, h.2⟩
  | none => cases h
  | bool _ => cases h
  | str _ => cases h
  | list _ => cases h
  | tuple _ => cases h
  | dict _ => cases h
section
variable {P : Program} {w : World} {K : PySem.W.Frag} {mg : Str → Option Value} {base : Heap}
theorem dk_int {H : Hp} {v : V} {i : Int} (h : Dk K H v (.int i)) : v = .int i := by
  cases h with
  | dp h => cases h; rfl
theorem sqT_upd {H : Hp} {a p : Addr} {xs ys : List V} {o : HO} (h : SqT K H a xs) (hp : H p = some (.lst ys)) : SqT K (upd H p o) a xs := by
  rcases h with (h | ⟨u, h⟩) | h
  · exact .inl (.inl (by rw [upd_ne (ne_of h hp (by intro z; cases z))]; exact h))
  · exact .inl (.inr ⟨u, by rw [upd_ne (ne_of h hp (by intro z; cases z))]; exact h⟩)
  · exact .inr h
theorem Same.updNew {H H' : Hp} {p : Addr} {o : HO} (s : Same H H') (h : H p = none) : Same H (upd H' p o) := fun b x e => by
  rw [upd_ne (ne_of_none e h)]
  exact s b x e
end
/-- a comprehension over anything that yields n things -/
theorem lc_any {J : It} {n : Nat} {g : TG} {tt : TT} {te : TE} {vs : List Nat} {σ : L2.St} {H1 : Hp} {D : Addr} {Qd : Hp → Prop} (Pv : Nat → Hp → Prop) (h0 : Pv 0 (upd H1 D (.lst []))) (hgo : ∀ i H, i < n → Pv i H → J.go i H) (hst : ∀ H, Pv n H → J.stop n H)
    (hs : ∀ i x H H', i < n → Pv i H → J.yld i H x H' → g x (wipe σ vs) H' fun σ2 H2 => wipe σ2 vs = wipe σ vs ∧ tt σ2 H2 fun b H3 =>
      if b = true then te σ2 H3 fun y H4 => ∃ acc, H4 D = some (.lst acc) ∧ acc.length < sizeLine ∧ Pv (i + 1) (upd H4 D (.lst (acc ++ [y]))) else Pv (i + 1) H3) (hd : ∀ H, Pv n H → Qd H) :
    ∃ W : Nat → Nat → Hp → Prop, (∃ m, W 0 m (upd H1 D (.lst []))) ∧ ∀ i m H, W i m H →
      (J.stop i H ∧ Qd H) ∨ (J.go i H ∧ ∃ Nx : Hp → Prop, (∀ H', Nx H' → ∃ m', m' < m ∧ W (i + 1) m' H') ∧ ∀ x H', J.yld i H x H' → g x (wipe σ vs) H' fun σ2 H2 => wipe σ2 vs = wipe σ vs ∧ tt σ2 H2 fun b H3 =>
        if b = true then te σ2 H3 fun y H4 => ∃ acc, H4 D = some (.lst acc) ∧ acc.length < sizeLine ∧ Nx (upd H4 D (.lst (acc ++ [y]))) else Nx H3) := by
  refine ⟨fun i m H => i + m = n ∧ Pv i H, ⟨n, Nat.zero_add n, h0⟩, ?_⟩
  rintro i m H ⟨e, p⟩
  by_cases c : i < n
  · exact .inr ⟨hgo i H c p, Pv (i + 1), fun H' q => ⟨m - 1, by omega, by omega, q⟩, fun x H' y => hs i x H H' c p y⟩
  · obtain rfl : i = n := by omega
    exact .inl ⟨hst H p, hd H p⟩
/-- a loop over anything that yields n things -/
theorem for_any {J : It} {n : Nat} {g : TG} {tb : TS} {D : Ends} {σ : L2.St} {H : Hp} (Pv : Nat → L2.St → Hp → Prop) (h0 : Pv 0 σ H) (hgo : ∀ i σ H, i < n → Pv i σ H → J.go i H) (hst : ∀ σ H, Pv n σ H → J.stop n H)
    (hs : ∀ i x σ H H', i < n → Pv i σ H → J.yld i H x H' → g x σ H' fun σ2 H2 => tb { D with nx := Pv (i + 1), ct := Pv (i + 1), bk := D.nx } σ2 H2) (hd : ∀ σ H, Pv n σ H → D.nx σ H) :
    ∃ W : Nat → Nat → L2.St → Hp → Prop, (∃ m, W 0 m σ H) ∧ ∀ i m σ H, W i m σ H →
      (J.stop i H ∧ D.nx σ H) ∨ (J.go i H ∧ ∃ N : L2.St → Hp → Prop, (∀ σ' H', N σ' H' → ∃ m', m' < m ∧ W (i + 1) m' σ' H') ∧ ∀ x H', J.yld i H x H' → g x σ H' fun σ2 H2 => tb { D with nx := N, ct := N, bk := D.nx } σ2 H2) := by
  refine ⟨fun i m σ H => i + m = n ∧ Pv i σ H, ⟨n, Nat.zero_add n, h0⟩, ?_⟩
  rintro i m σ H ⟨e, p⟩
  by_cases c : i < n
  · exact .inr ⟨hgo i σ H c p, Pv (i + 1), fun σ' H' q => ⟨m - 1, by omega, by omega, q⟩, fun x H' y => hs i x σ H H' c p y⟩
  · obtain rfl : i = n := by omega
    exact .inl ⟨hst σ H p, hd σ H p⟩
theorem cut_drop (xs : List V) (j : Nat) : cutV xs (some (j : Int)) none = xs.drop j := by
  unfold cutV
  rw [HT.sIx_none, HT.sIx_nat]
  by_cases h : j ≤ xs.length
  · rw [Nat.min_eq_left h, List.take_of_length_le (by rw [List.length_drop]; omega)]
  · rw [Nat.min_eq_right (by omega), Nat.sub_self, List.take_zero, List.drop_eq_nil_of_le (by omega)]
/-- t[j:] -/
theorem slice_from {K : PySem.W.Frag} {H : Hp} {a : Addr} {xs : List V} {j : Nat} {Q : VK} (h : SqT K H a xs) (q : ∀ p H', SqT K H' p (xs.drop j) → Same H H' → (p = a ∨ H p = none) → Q (.ref p) H') : rSlA K (.ref a) (some (j : Int)) none H Q := by
  refine ⟨a, xs, rfl, h, fun hw => q a H ?_ (Same.refl H) (.inl rfl), fun _ p hp => q p _ ?_ (same_upd hp) (.inr hp)⟩
  · have e := hw.1
    rw [HT.sIx_nat] at e
    by_cases c : xs.length = 0
    · have : xs = [] := List.length_eq_zero_iff.mp c
      subst this
      rw [List.drop_nil]
      exact h
    · obtain rfl : j = 0 := by omega
      exact h
  · rw [cut_drop]
    exact SqT.of upd_same
/-- the heap without a -/
def wo (H : Hp) (a : Addr) : Hp := fun b => if b = a then none else H b
theorem wo_ne {H : Hp} {a b : Addr} (h : b ≠ a) : wo H a b = H b := if_neg h
theorem wo_same {H : Hp} {a : Addr} : wo H a a = none := if_pos rfl
theorem wo_le {H : Hp} {a : Addr} : Same (wo H a) H := fun b o e => by
  by_cases h : b = a
  · rw [h, wo_same] at e
    cases e
  · rw [wo_ne h] at e
    exact e
theorem wo_same_of {H H' : Hp} {a : Addr} (s : Same H H') : Same (wo H a) (wo H' a) := fun b o e => by
  by_cases h : b = a
  · rw [h, wo_same] at e
    cases e
  · rw [wo_ne h] at e ⊢
    exact s b o e
theorem wo_upd {H : Hp} {a : Addr} {o : HO} : wo (upd H a o) a = wo H a := by
  funext b
  by_cases h : b = a
  · rw [h, wo_same, wo_same]
  · rw [wo_ne h, wo_ne h, upd_ne h]
theorem wo_at {H : Hp} {a b : Addr} {o : HO} (h : H b = some o) (n : b ≠ a) : wo H a b = some o := by rw [wo_ne n]; exact h
/-- the law's pot: three numbers, the last one below a bound that grows -/
def Pot (H : Hp) (p : Addr) (n : Nat) : Prop := ∃ a b c : Int, H p = some (.lst [.int a, .int b, .int c]) ∧ 0 ≤ b ∧ b < 2305843009213693951 ∧ 0 ≤ c ∧ c ≤ n
theorem Pot.same {H H' : Hp} {p : Addr} {n : Nat} (h : Pot H p n) (s : Same H H') : Pot H' p n := by
  obtain ⟨a, b, c, e, r⟩ := h
  exact ⟨a, b, c, s _ _ e, r⟩
theorem Pot.mono {H : Hp} {p : Addr} {n m : Nat} (h : Pot H p n) (l : n ≤ m) : Pot H p m := by
  obtain ⟨a, b, c, e, r1, r2, r3, r4⟩ := h
  exact ⟨a, b, c, e, r1, r2, r3, by omega⟩
theorem op_powB {X : Cx} : OpR X (binaryOp .Pow) (rI (fun i j => 0 ≤ j ∧ (Builtin.Int.intBits i : Int) * j ≤ 2 ^ 27) fun i j => .int (i ^ j.toNat)) := opI fun i j t u Q s _ hc q => pow_int hc.1 hc.2 q
theorem Pot.ne {H : Hp} {p c : Addr} {n : Nat} (h : Pot H p n) (nc : H c = none) : c ≠ p := fun z => by
  obtain ⟨a, b, d, e, _⟩ := h
  rw [z, e] at nc
  cases nc
theorem Pot.upd {H : Hp} {p c : Addr} {n : Nat} {o : HO} (h : Pot H p n) (ne : c ≠ p) : Pot (upd H c o) p n := by
  obtain ⟨a, b, d, e, r⟩ := h
  exact ⟨a, b, d, by rw [upd_ne ne.symm]; exact e, r⟩
theorem Dk.tyx {K : PySem.W.Frag} {H : Hp} {v : V} {d : PyData} (h : Dk K H v d) : TyX K H v (.type (tyName d)) := by
  cases h with
  | dp h =>
    cases h with
    | non => exact .base .non
    | bl b => exact .base (.bl b)
    | int i => exact .base (.int i)
    | str x => exact .base (.str x)
    | lst hs _ =>
      rcases hs with (e | ⟨o, e⟩) | ⟨o, its, n, e, c, _⟩
      · exact .base (.lst e)
      · exact .base (.frz e)
      · exact .kList e c
    | tup hs _ =>
      rcases hs with (e | ⟨o, e⟩) | ⟨o, its, n, e, c, _⟩
      · exact .base (.tup e)
      · exact .fTuple e
      · exact .kTuple e c
  | d0 h => exact .base (.dK h)
  | d1 h => exact .base (.dK h)
theorem inV_strs (x : Str) : ∀ l : List Str, inV (.str x) (l.map V.str) = decide (x ∈ l)
  | [] => rfl
  | y :: l => by
    have ih := inV_strs x l
    unfold inV at ih ⊢
    rw [List.map_cons, List.any_cons, ih]
    show ((y == x) || _) = _
    by_cases h : y = x
    · subst h
      simp
    · have h' : ¬ x = y := fun z => h z.symm
      simp [h, h']
theorem flat_strs (l : List Str) : (l.map V.str).all flatV = true := by
  induction l with
  | nil => rfl
  | cons a l ih =>
    rw [List.map_cons, List.all_cons, ih]
    rfl
/-- list.index of a text -/
theorem index_read {K : PySem.W.Frag} {H : Hp} {a : Addr} {l : List Str} {x : Str} {Q : VK} (h : SqL K H a (l.map V.str)) (hx : x ∈ l) (q : Q (.int (l.idxOf x : Nat)) H) : rIndex K (.ref a) [.str x] H Q := by
  have hlt : l.idxOf x < l.length := List.idxOf_lt_length_of_mem hx
  refine ⟨a, l.map V.str, .str x, l.idxOf x, .str x, rfl, rfl, h, rfl, flat_strs l, ?_, by simp [eqV], fun m z hm hz => ?_, q⟩
  · rw [List.getElem?_map, List.getElem?_eq_getElem hlt, List.getElem_idxOf hlt]
    rfl
  · rw [List.getElem?_map] at hz
    cases e : l[m]? with
    | none => rw [e] at hz; cases hz
    | some y =>
      rw [e] at hz
      have hz : V.str y = z := Option.some.inj hz
      subst hz
      show (y == x) = false
      have hne : y ≠ x := fun c => by
        subst c
        have hml : m < l.length := (List.getElem?_eq_some_iff.mp e).1
        have := List.not_of_lt_findIdx (xs := l) (p := (· == y)) (show m < l.findIdx (· == y) from hm)
        have e2 := (List.getElem?_eq_some_iff.mp e).2
        rw [e2] at this
        simp at this
      exact beq_eq_false_iff_ne.mpr hne
theorem wo_updNew {H H' : Hp} {p q : Addr} {o : HO} (s : Same (wo H p) (wo H' p)) (h : H q = none) : Same (wo H p) (wo (upd H' q o) p) := fun b x e => by
  have hb : b ≠ p := fun z => by rw [z, wo_same] at e; cases e
  have hq : b ≠ q := fun z => by rw [wo_ne hb, z, h] at e; cases e
  have := s b x e
  rw [wo_ne hb] at this ⊢
  rw [upd_ne hq]
  exact this
/-- what stands in the written part of an error's class -/
structure ErrC (K : PySem.W.Frag) (C fI : Addr) : Prop where
  oex : OexC K C
  iC : PySem.W.findIn K (.ref C) "__init__" = some (some (.ref fI))
  tI : PySem.W.typeIn K (.ref fI) = some (.type "function")
  noV : PySem.W.findIn K (.ref C) "value" = some none
section
variable {P : Program} {w : World} {K : PySem.W.Frag} {mg : Str → Option Value} {base : Heap}
def spInit (K : PySem.W.Frag) : Sp := fun vs H Q _ => ∃ (a C : Addr) (v : V), vs = [.ref a, v] ∧ H a = some (exo a C none) ∧ OexC K C ∧ PySem.W.findIn K (.ref C) "value" = some none ∧
  ∀ dx, H dx = none → dx ≠ a → Q .non (upd (upd H dx (exd dx [("value", v)])) a (exo a C (some dx)))
/-- the heap behind a made error: its own dict is new, nothing else -/
theorem err_heap {H : Hp} {a d C : Addr} {v : V} (ha : H a = none) (hne : d ≠ a) :
    upd (del (upd (upd (upd H a (exo a C none)) d (exd d [("value", v)])) a (exo a C (some d))) a) d (.xd [("value", v)]) = upd H d (.xd [("value", v)]) := by
  funext b
  by_cases hb : b = d
  · rw [hb, upd_same, upd_same]
  · rw [upd_ne hb, upd_ne hb]
    by_cases hc : b = a
    · rw [hc, del_same, ha]
    · rw [del_ne hc, upd_ne hc, upd_ne hb, upd_ne hc]
/-- what the making of C(v) asks -/
def Need (K : PySem.W.Frag) (C : Addr) (v : V) (H1 : Hp) (Q : XK) : Prop := [v].length ≤ 1000 ∧ ∀ a, H1 a = none → spInit K (.ref a :: ([v] ++ [])) (upd H1 a (exo a C none))
  (fun u H2 => u = .non ∧ ∃ (d : Addr) (fs : List (Str × V)), H2 a = some (exo a C (some d)) ∧ H2 d = some (exd d fs) ∧ H1 d = none ∧ Q (.ref C) (some d) (upd (del H2 a) d (.xd fs))) (fun _ _ _ => False)
theorem need_ok {C fI : Addr} {v : V} {H1 : Hp} {Q : XK} (T : ErrC K C fI) (h : ∀ d, H1 d = none → Q (.ref C) (some d) (upd H1 d (.xd [("value", v)]))) : Need K C v H1 Q := by
  refine ⟨by simp, fun a ha => ⟨a, C, v, rfl, upd_same, T.oex, T.noV, fun dx n ne => ⟨rfl, dx, [("value", v)], upd_same, ?_, ?_, ?_⟩⟩⟩
  · rw [upd_ne ne, upd_same]
  · rw [upd_ne ne] at n
    exact n
  · rw [upd_ne ne] at n
    rw [err_heap ha ne]
    exact h dx n
/-- raise C(e) -/
def tErr (K : PySem.W.Frag) (C : Addr) (W : WX) (te : TE) : TS := fun _ σ H => te σ H fun v H1 => Need K C v H1 fun cls d H' => W cls d σ H'
end
/-- the exception at a: of the class C, its fields in the dict at d -/
def ErrO (C d a : Addr) : HO := .ext fun h => ∃ (oe : Obj) (fv : Array Value), h.get? a = some oe ∧ Zc (.ref C) (some d) oe ∧ oe.data = .fields fv
theorem errO_ok {P : Program} {w : World} {H : Hp} {h : Heap} {a C d : Addr} {oe : Obj} {fv : Array Value} (e : h.get? a = some oe) (z : Zc (.ref C) (some d) oe) (f : oe.data = .fields fv) : ObjOk P w H h a (ErrO C d a) :=
  ⟨⟨oe, fv, e, z, f⟩, ⟨oe, e⟩, fun _ _ ⟨o1, f1, e1, r1⟩ k => ⟨o1, f1, k _ e1, r1⟩⟩
section
variable {X : Cx} {pins : List (Addr × Obj)} {σ : L2.St} {H : Hp} {s : Shared}
theorem err_get {a C d : Addr} (I : Inv X pins σ H s) (ha : H a = some (ErrO C d a)) : ∃ (oe : Obj) (fv : Array Value), s.heap.get? a = some oe ∧ Zc (.ref C) (some d) oe ∧ oe.data = .fields fv := (I.hok a _ ha).1
/-- from now on a is known -/
theorem track {a : Addr} {o : HO} (I : Inv X pins σ H s) (na : H a = none) (new : ∀ b ob, X.s_0.heap.get? b = some ob → X.H_0 b = none → b ∉ X.ex → b ≠ a) (nl : X.env.locals ≠ a) (nc : ∀ x c, X.env.cells.lookup x = some c → c ≠ a)
    (np : ∀ p ∈ X.pn ++ pins, p.1 ≠ a) (ok : ObjOk X.prog X.w (upd H a o) s.heap a o) : Inv X pins σ (upd H a o) s where
  ok := I.ok
  os := I.os
  bare := I.bare
  base := ⟨I.base.keep, I.base.slot, fun b ob e n hx => by rw [upd_ne (new b ob e n hx)]; exact I.base.free b ob e n hx, I.base.there, fun b xs e => by rw [upd_ne (ne_of_none (I.base.tups b xs e) na)]; exact I.base.tups b xs e,
    fun b ob u e => by rw [upd_ne (ne_of_none (I.base.frzs b ob u e) na)]; exact I.base.frzs b ob u e, fun b ps e => by
      obtain ⟨more, q⟩ := I.base.tbls b ps e
      exact ⟨more, by rw [upd_ne (ne_of_none q na)]; exact q⟩⟩
  loc := I.loc
  cell := I.cell
  free := by rw [upd_ne nl]; exact I.free
  freeC := fun x c e => by rw [upd_ne (nc x c e)]; exact I.freeC x c e
  pin := fun p hp => by
    obtain ⟨e1, e2, e3⟩ := I.pin p hp
    exact ⟨e1, by rw [upd_ne (np p hp)]; exact e2, e3⟩
  hok := I.hok.laidN (fun _ _ e => e) na ok
  len := I.len
/-- what 'except x as n: suite' makes of an exception of its own class: the caught one is known behind it -/
def wHeard (K : PySem.W.Frag) (c : Value) (i : Nat) (ts : Addr → Value → Option Addr → TS) (D : Ends) : WX := fun cls d σ H =>
  PySem.W.exmOne K cls c = some true ∧ ∃ (C dd : Addr), cls = .ref C ∧ d = some dd ∧ ∀ a, H a = none → ts a cls d { nx := fun σ' H' => H' a = none → D.nx (σ'.set i none) (upd H' a (ErrO C dd a)), rt := fun _ _ => False } (σ.set i (some (.ref a))) H
variable {x n : Str} {c : Value} {i : Nat} {body suite : List Stmt} {b₀ : Stmt} {np pos pos' : Pos} {tb : WX → TS} {ts : Addr → Value → Option Addr → TS}
theorem ps_heard (hs : X.stack = X.env :: X.outer) (hf : X.env.frame = some X.env.locals) (hN : X.N.Nodup) (hi : X.N[i]? = some n) (hln : X.env.kindOf n = some .local) (hc : Names X x c)
    (hb : ∀ (Wn : WX) (qn : List (Addr × Obj)) (xe : Value → Shared → Prop), Takes (X.tr qn xe) Wn → PassesOwn (model X.prog X.w) X.A X.env xe → PSs (X.tr qn xe) body (tb Wn))
    (hsu : ∀ (a : Addr) (oe : Obj) (cls : Value) (d : Option Addr) (qn : List (Addr × Obj)), Zc cls d oe → (∃ vs, oe.data = .fields vs) → PSs (X.suite a ((a, oe) :: qn)) (b₀ :: suite) (ts a cls d)) :
    PS X (.Try body [.ExceptHandler (some (.Name x np)) (some n) (b₀ :: suite) pos'] [] [] pos) (fun Dn σ H => tb (wHeard X.K c i ts Dn) Dn σ H) := by
  refine ⟨fun pins s σ H Dn I h => wpAny_Try_except ?_⟩
  have ok := I.ok
  have frames : X.A.frames = some (X.env :: X.outer) := by rw [ok.frames, hs]
  refine wpAny_mono ((hb (wHeard X.K c i ts Dn) (X.pn ++ pins) (fun e s₁ => wpAny (model X.prog X.w) X.A (noteFrame e X.env) (fun _ s₂ => wpAny (model X.prog X.w) X.A (setFlight e none) (fun _ s₃ =>
    wpAny (model X.prog X.w) X.A (handleBy e X.env [.ExceptHandler (some (.Name x np)) (some n) (b₀ :: suite) pos']) (SP X pins Dn) X.xe s₃) X.xe s₂) X.xe s₁) (fun u s' xx => ?_) PassesOwn.looking).run [] s σ H Dn (I.toTry _) h) (fun f s1 res => ?_) (fun e s1 he => he)
  · obtain ⟨a, B, s0E, pins', σ', H', cls, d, rfl, J', keeps_, grow, air, naa, osE, bareE, yes, C, dd, rfl, rfl, wish⟩ := xx
    have I0E : Inv X pins σ' H' s0E := J'.ofTry ok
    rw [show (X.tr (X.pn ++ pins) _).stack = X.env :: X.outer from hs] at air
    show wpAny (model X.prog X.w) X.A (noteFrame (.ref a) X.env) _ _ _
    refine Sky.land Zc.steady frames hf air fun hA fly3 more3 => ?_
    have Ba : B.get? a = none := fly3.2.1
    have IA : Inv X pins σ' H' { s' with heap := hA } := I0E.landed keeps_ fly3.1 (grow.trans more3) osE bareE
    obtain ⟨ob3, fv3, at3, zc3, dt3⟩ := fly3.there
    have ne0 : a ∉ frs (X.env :: X.outer) := fun hm => by
      obtain ⟨_, o', e', hnf⟩ := fly3.2.2.1.mem hm
      rw [at3] at e'; cases e'; exact hnf _ dt3
    have ne1 : a ≠ X.env.locals := fun z => ne0 (List.mem_filterMap.mpr ⟨X.env, List.mem_cons_self, by rw [hf, z]⟩)
    have ne2 : a ∉ X.fs := fun hm => by
      obtain ⟨e, he, q⟩ := List.mem_filterMap.mp hm
      exact ne0 (List.mem_filterMap.mpr ⟨e, List.mem_cons_of_mem _ he, q⟩)
    have noA : s0E.heap.get? a = none := by
      cases q : s0E.heap.get? a with
      | none => rfl
      | some o => exact absurd ((keeps_ a o q (by rw [hs]; exact ne0)).symm.trans Ba) (fun z => nomatch z)
    have newA : ∀ b ob, X.s_0.heap.get? b = some ob → X.H_0 b = none → b ∉ X.ex → b ≠ a := fun b ob e _ hx z => by
      obtain ⟨o', q⟩ := I0E.base.there b ob e hx
      rw [z, noA] at q; cases q
    have npA : ∀ p ∈ X.pn ++ pins, p.1 ≠ a := fun p hp z => by
      have q := (I0E.pin p hp).1
      rw [z, noA] at q; cases q
    have SA := IA.suite at3 dt3 naa ne1 ne2
    refine wpAny_handleBy_cons (codeAny_handlers_test ?_) (by intro q; cases q)
    have looks : PySem.W.Looks (model X.prog X.w) hA (typeOf (.ref a)) (.ref C) := fun A Q E s k q => wpAny_typeOf_ref (k _ _ at3) (by rw [zc3.1]; exact q)
    have meets_ := PySem.W.exm_one (M := model X.prog X.w) (IA.kIn) looks yes
    have tst : ∀ {Q : Value → Shared → Prop} {E : Value → Shared → Prop}, Q c { s' with heap := hA } → wpAny (model X.prog X.w) (X.A.mark (some (.ref a))) (eval (.Name x np) X.env) Q E { s' with heap := hA } := fun {Q E} q => by
      obtain ⟨g1, g2, g3 | ⟨g3, g4, g5⟩⟩ := hc
      · exact ld_glob (X := X.suite a ((a, ob3) :: (X.pn ++ pins))) SA g1 g3 q g2
      · exact ld_blt (X := X.suite a ((a, ob3) :: (X.pn ++ pins))) SA g1 g3 g4 q g5 g2
    refine tst (meets_.here (codeAny_handlers_suite_as (HandSPX.lands_againZ fly3 fun hB_ fly4 more4 => ?_)))
    have IB : Inv X pins σ' H' { s' with heap := hB_ } := I0E.landed keeps_ fly4.1 ((grow.trans more3).trans more4) osE bareE
    obtain ⟨ob4, fv4, at4, zc4, dt4⟩ := fly4.there
    refine store_ok (X := X.suite a ((a, ob4) :: (X.pn ++ pins))) (v := .ref a) (IB.suite at4 dt4 naa ne1 ne2) hN hi (.inl hln) rfl (fun sB SB => ?_) (.inr hln)
    refine wpAny_mono ((hsu a ob4 (.ref C) (some dd) (X.pn ++ pins) zc4 ⟨_, dt4⟩).run [] sB _ H' _ SB (wish a naa)) (fun f sC res => ?_) (fun _ _ z => False.elim z)
    cases f with
    | next =>
      obtain ⟨σ6, HC, SC, qC⟩ := res
      obtain ⟨p1, p2, p3, p4, p5⟩ := SC.pin (a, ob4) (List.mem_append_left _ List.mem_cons_self)
      have IC : Inv X pins σ6 HC sC := SC.unsuite ok
      have ID : Inv X pins σ6 (upd HC a (ErrO C dd a)) sC := track IC p2 newA ne1.symm (fun y c' e z => by
        obtain ⟨v, o, ho, hd⟩ := IC.cell y c' e
        rw [z, p1] at ho; cases ho; exact p5 _ hd) npA (errO_ok p1 zc4 dt4)
      exact gone_ok ID hN hi hln fun sE IE => ⟨_, _, IE, qC p2⟩
    | brk =>
      obtain ⟨_, _, _, qC⟩ := res
      exact qC.elim
    | cont =>
      obtain ⟨_, _, _, qC⟩ := res
      exact qC.elim
    | ret u =>
      obtain ⟨_, _, _, _, _, qC⟩ := res
      exact qC.elim
  · cases f with
    | next =>
      obtain ⟨σ', H', J', q⟩ := res
      exact wpAny_execs_nil ⟨σ', H', J'.ofTry ok, q⟩
    | brk => obtain ⟨σ', H', J', q⟩ := res; exact ⟨σ', H', J'.ofTry ok, q⟩
    | cont => obtain ⟨σ', H', J', q⟩ := res; exact ⟨σ', H', J'.ofTry ok, q⟩
    | ret u => obtain ⟨v, σ', H', J', r, q⟩ := res; exact ⟨v, σ', H', J'.ofTry ok, r, q⟩
/-- isinstance(e, C), e of the very class C -/
def rIsErr : List V → Hp → VK → Prop := fun xs H Q => ∃ (a C d : Addr), xs = [.ref a, .ref C] ∧ H a = some (ErrO C d a) ∧ Q (.bl true) H
theorem err_ans {a C : Addr} : Answers (fun s => ∃ oe, s.heap.get? a = some oe ∧ oe.cls = .ref C) (.ref a) (.ref C) true := by
  intro dep tk prog w A R s hs
  obtain ⟨⟨oe, he, hcl⟩, hq⟩ := hs
  unfold Builtin.«isinstance.nested»
  refine wpAny_bind (wpAny_typeOf_ref he ?_)
  rw [hcl, if_pos (beq_self_eq_true (Value.ref C))]
  first
    | exact wpAny_bind (wpAny_rule (wpAny_pure (hq _)))
    | exact wpAny_bind (wpAny_rule (hq _))
theorem call_isErr : CallR X (.builtin "isinstance") rIsErr := by
  intro pp s σ H xs vus Q I r h
  obtain ⟨a, C, d, rfl, ha, q⟩ := h
  obtain ⟨oe, fv, he, hz, hf⟩ := err_get I ha
  obtain ⟨u1, u2, rfl, r1, r2⟩ : ∃ u1 u2, vus = [u1, u2] ∧ RelV (.ref a) u1 ∧ RelV (.ref C) u2 := by
    cases r with
    | cons r rr => cases rr with | cons r' rr => cases rr; exact ⟨_, _, rfl, r, r'⟩
  cases r1; cases r2
  exact call_isinstance (S := fun _ R s => (∃ oe, s.heap.get? a = some oe ∧ oe.cls = .ref C) ∧ ∀ tk, R (.ok (.ret (.bool true))) { s with toks := tk })
    (fun prog w A R s hs => isinstance_outer (err_ans 0 _ prog w A R s hs) (fun z => nomatch z)) ⟨⟨oe, he, hz.1⟩, fun tk => ⟨.bl true, H, I.kept (t' := tk) fun _ _ z => z, rfl, q⟩⟩
/-- e.f, e a caught exception of an own class -/
def tErrF (K : PySem.W.Frag) (f : Str) (te : TE) : TE := fun σ H Q => te σ H fun x H1 => ∃ (a C d : Addr) (fs : List (Str × V)) (v : V), x = .ref a ∧ H1 a = some (ErrO C d a) ∧ XfC K C ∧ PySem.W.findIn K (.ref C) f = some none ∧ H1 d = some (.xd fs) ∧ fs.lookup f = some v ∧ Q v H1
theorem pe_errF {e : Expr} {te : TE} {pos : Pos} {f : Str} (he : PE X e te) (hb : attributeBase e f X.env (eval e X.env) = eval e X.env := by rfl) : PE X (.Attribute e f pos) (tErrF X.K f te) := by
  refine ⟨fun pp s σ H Q I h => attr_of hb (thn (he.run pp s σ H _ I h) fun u s1 hh => ?_)⟩
  obtain ⟨y, H1, I1, rxu, a, C, d, fs, v, rfl, ha, T, hno, hd, l, q⟩ := hh
  obtain rfl : u = Value.ref a := rxu
  obtain ⟨oe, fv, h1, hz, hfv⟩ := err_get I1 ha
  obtain ⟨mA, nsd, hr⟩ := (show ObjOk X.prog X.w H1 s1.heap d (.xd fs) from I1.hok d _ hd)
  obtain ⟨odd_, look_, lkd⟩ := lookIn_ns nsd
  obtain ⟨u2, atu, rvu⟩ := RelO.some_of (v := v) (o := mA f) (by rw [← l]; exact hr f)
  have J : PySem.W.InstAt s1.heap a oe C (some odd_) := ⟨h1, hz.1, by unfold PySem.W.notCls; rw [hfv] <;> rfl, by rw [hz.2]; exact look_⟩
  exact HandSPX.exc_get I1.kIn J T.ga T.gg T.exC (PySem.W.findObj_own T.hdC hno rfl (by rw [lkd, atu])) (handed_of rvu) ⟨v, H1, I1.tok _, rvu, q⟩
end
/-- a lambda's text -/
structure LamD where
  params : Arguments
  body : Expr
  scope : Scope
/-- the lambda at f: made in X -/
def LamO (X : Cx) (D : LamD) (f c' : Addr) : HO := .ext fun h => ∃ pm ctv : Value, h.get? f = some (PySem.W.kla_obj "<lambda>" (X.env.qual ++ "<lambda>") D.params D.body D.scope (cloFrom X.env.cells D.scope.names []) pm c' ctv)
/-- a known lambda and its code -/
def IsLam (X : Cx) (D : LamD) (f : Addr) (H : Hp) : Prop := ∃ c', H f = some (LamO X D f c') ∧ H c' = some (CodeO c' (X.env.qual ++ "<lambda>"))
theorem IsLam.ext {X : Cx} {D : LamD} {f : Addr} {H H' : Hp} (h : IsLam X D f H) (e : ExtN H H') : IsLam X D f H' := by
  obtain ⟨c', h1, h2⟩ := h
  exact ⟨c', e _ _ h1 (fun ps z => by unfold LamO at z; cases z), e _ _ h2 codeO_ne⟩
section
variable {X : Cx} {pins : List (Addr × Obj)} {σ : L2.St} {H : Hp} {s : Shared}
theorem lamO_ok {P : Program} {w : World} {H : Hp} {h : Heap} {D : LamD} {f c' : Addr} {pm ctv : Value} (e : h.get? f = some (PySem.W.kla_obj "<lambda>" (X.env.qual ++ "<lambda>") D.params D.body D.scope (cloFrom X.env.cells D.scope.names []) pm c' ctv)) : ObjOk P w H h f (LamO X D f c') :=
  ⟨⟨pm, ctv, e⟩, ⟨_, e⟩, fun _ _ ⟨a, b, e1⟩ k => ⟨a, b, k _ e1⟩⟩
/-- what the making asks: the maker's code object and table, the tables at hand -/
structure LamM (X : Cx) (T : List (Addr × Str)) (c P : Addr) : Prop where
  tb : TabB X.base X.mg c P
  code : X.env.code = .ref c
  mem : (P, X.env.qual ++ "<lambda>") ∈ T
  one : ∀ p ∈ T, p.1 = P → p.2 = X.env.qual ++ "<lambda>"
def tLamE (X : Cx) (T : List (Addr × Str)) (D : LamD) : TE := fun σ H Q => Tabs T H ∧ ∀ f H1, ExtN H H1 → Tabs T H1 → IsLam X D f H1 → H f = none → Q (.ref f) H1
theorem pe_lam {T : List (Addr × Str)} {c P : Addr} {params : Arguments} {body : Expr} {scope : Scope} {pos : Pos} (M : LamM X T c P) (L : LamS X.env.scope scope) (hdef : defaultsOf params X.env = ([], [])) : PE X (.Lambda params body scope pos) (tLamE X T ⟨params, body, scope⟩) := by
  refine ⟨fun pins s σ H Q I ⟨hT, q⟩ => ?_⟩
  obtain ⟨tbl, tblP, tri, all⟩ := hT _ M.mem
  have hP' : s.heap.get? P = some { cls := .none, data := .fields tbl } := I.hok P _ tblP
  have hcl := closure_ok (L.has I.ok)
  refine PySem.W.kla_eval hdef ?_
  cases hca : codeAmong pos tbl.toList with
  | some cv =>
    obtain ⟨c', rfl, hco⟩ := all pos cv hca
    refine PySem.W.kla_makeFunctionHit (mg := X.mg) (c := c) (P := P) (ps := tbl) hcl I.ok.glob (I.mod.glob.keeps I.bk) M.code (M.tb.code.keeps I.bk) hP' tri hca (M.tb.bm.keeps I.bk) fun ctv h' tk kept_ szle => ?_
    have I1 : Inv X pins σ H { s with heap := h', toks := tk } := I.kept kept_
    have nf : H h'.objs.size = none := I.hok.fresh szle
    have I2 := I1.laid (t' := tk) (o := LamO X ⟨params, body, scope⟩ h'.objs.size c') (h' := h'.push (PySem.W.kla_obj "<lambda>" (X.env.qual ++ "<lambda>") params body scope (cloFrom X.env.cells scope.names []) ((X.mg "__name__").getD .none) c' ctv)) (fun b o e => Heap.get?_push_of_some _ e) (Nat.le_refl _) (lamO_ok (D := ⟨params, body, scope⟩) (Heap.get?_push_size _ rfl))
    have e : ExtN H (upd H h'.objs.size (LamO X ⟨params, body, scope⟩ h'.objs.size c')) := fun b o z _ => by rw [upd_ne (ne_of_none z nf)]; exact z
    exact ⟨.ref h'.objs.size, _, I2, rfl, q _ _ e (hT.ext fun b o z => by rw [upd_ne (ne_of_none z nf)]; exact z) ⟨c', upd_same, e _ _ hco codeO_ne⟩ nf⟩
  | none =>
    refine PySem.W.kla_makeFunction (mg := X.mg) (c := c) (P := P) (ps := tbl) hcl I.ok.glob (I.mod.glob.keeps I.bk) M.code (M.tb.code.keeps I.bk) hP' tri hca M.tb.gP (M.tb.bm.keeps I.bk) fun c' ctv h' tk kept_ gec ltc rec_ htb => ?_
    obtain ⟨c2, oco, flds, t, ecode, hoc, dat, nmq⟩ := rec_
    cases ecode
    have szle : s.heap.objs.size ≤ h'.objs.size := Nat.le_trans gec (Nat.le_of_lt ltc)
    have nn : H c' = none := I.hok.fresh gec
    have I1 := inv_table (t' := tk) (more := #[rawInt pos.line, rawInt pos.col, .ref c']) (h' := h') I tblP (fun b o hb e => kept_ b o hb e) htb gec ⟨oco, flds, t, hoc, dat, nmq⟩
    have nP : h'.objs.size ≠ P := Nat.ne_of_gt (Nat.lt_of_lt_of_le (Heap.lt_size hP') szle)
    have nf0 : H h'.objs.size = none := I.hok.fresh szle
    have nf : upd (upd H P (.tbl (tbl ++ #[rawInt pos.line, rawInt pos.col, .ref c']))) c' (CodeO c' (X.env.qual ++ "<lambda>")) h'.objs.size = none := by rw [upd_ne (Nat.ne_of_gt ltc), upd_ne nP]; exact nf0
    have I2 := I1.laid (t' := tk) (o := LamO X ⟨params, body, scope⟩ h'.objs.size c') (h' := h'.push (PySem.W.kla_obj "<lambda>" (X.env.qual ++ "<lambda>") params body scope (cloFrom X.env.cells scope.names []) ((X.mg "__name__").getD .none) c' ctv)) (fun b o e => Heap.get?_push_of_some _ e) (Nat.le_refl _) (lamO_ok (D := ⟨params, body, scope⟩) (Heap.get?_push_size _ rfl))
    have e1 : ExtN H (upd (upd H P (.tbl (tbl ++ #[rawInt pos.line, rawInt pos.col, .ref c']))) c' (CodeO c' (X.env.qual ++ "<lambda>"))) := fun b o e n => by
      rw [upd_ne (ne_of_none e nn), upd_ne (fun z => n tbl (Option.some.inj (e.symm.trans (by rw [z]; exact tblP))))]
      exact e
    have T1 : Tabs T (upd (upd H P (.tbl (tbl ++ #[rawInt pos.line, rawInt pos.col, .ref c']))) c' (CodeO c' (X.env.qual ++ "<lambda>"))) := fun p hp => by
      have lst_ : (tbl ++ #[rawInt pos.line, rawInt pos.col, .ref c']).toList = tbl.toList ++ [rawInt pos.line, rawInt pos.col, .ref c'] := by simp
      by_cases hb : p.1 = P
      · rw [M.one p hp hb, hb]
        refine ⟨_, by rw [upd_ne (ne_of_none tblP nn), upd_same], by rw [lst_]; exact PySem.TriplesOk_snoc _ _ _ _ tri, fun p' cv hcv => ?_⟩
        rcases among_app _ tri (lst_ ▸ hcv) with z | z
        · obtain ⟨c0, a1, a2⟩ := all p' cv z
          exact ⟨c0, a1, e1 _ _ a2 codeO_ne⟩
        · exact ⟨c', z, upd_same⟩
      · obtain ⟨ps', a1, a2, a3⟩ := hT p hp
        refine ⟨ps', by rw [upd_ne (ne_of_none a1 nn), upd_ne hb]; exact a1, a2, fun p' cv hcv => ?_⟩
        obtain ⟨c0, b1, b2⟩ := a3 p' cv hcv
        exact ⟨c0, b1, e1 _ _ b2 codeO_ne⟩
    have keep : ∀ b o, upd (upd H P (.tbl (tbl ++ #[rawInt pos.line, rawInt pos.col, .ref c']))) c' (CodeO c' (X.env.qual ++ "<lambda>")) b = some o → upd (upd (upd H P (.tbl (tbl ++ #[rawInt pos.line, rawInt pos.col, .ref c']))) c' (CodeO c' (X.env.qual ++ "<lambda>"))) h'.objs.size (LamO X ⟨params, body, scope⟩ h'.objs.size c') b = some o := fun b o z => by
      rw [upd_ne (ne_of_none z nf)]; exact z
    exact ⟨.ref h'.objs.size, _, I2, rfl, q _ _ (e1.trans (ExtN.of keep)) (T1.ext keep) ⟨c', upd_same, keep _ _ upd_same⟩ nf0⟩
variable {HZ : Hp} {s1 : Shared}
/-- x(), in the def that got a known lambda: entered at s, X as it stood -/
theorem pe_actT {Ng : List Str} {qg : Str} {sg : Scope} {g f : Addr} {cdg : Value} {D : LamD} {CXg : CXT} {Eg : XK} {k i : Nat} {a : Str} {pn : List (Addr × Obj)} {xe : Value → Shared → Prop} {W : WX} {tb : XK → TE} {pp1 pp2 : Pos}
    (I : Inv X pins σ H s) (L : LamS X.env.scope D.scope) (hbind : ∀ (pm cv ctv : Value), bindArgs (PySem.W.kla_fn "<lambda>" (X.env.qual ++ "<lambda>") D.params D.body D.scope (cloFrom X.env.cells D.scope.names []) pm cv ctv) ⟨[], []⟩ = pure [])
    (tk : Takes ((cxOf CXg X.prog X.w X.K X.mg X.base Ng qg sg g cdg X.A X.stack s H Eg).tr pn xe) W) (hr : Room (k + 1) (X.A.deeper (envOfC qg sg s.heap.objs.size g cdg)))
    (hbody : ∀ (A : Around) (outer : List Env) (s : Shared) (H : Hp) (E : XK) (c' : Addr), Room k (A.deeper (lamEnv X D.scope s.heap.objs.size f c')) → PE (lamCx X A outer s H E D.scope f c') D.body (tb E))
    (hNg : Ng[i]? = some a) (hvis : Vis sg a) (dbg : (a == ("__debug__" : Str)) = false := by decide) (cdc : (a == ("__classdict__" : Str)) = false := by decide) :
    PE ((cxOf CXg X.prog X.w X.K X.mg X.base Ng qg sg g cdg X.A X.stack s H Eg).tr pn xe) (.Call (.Name a pp1) [] [] pp2)
      (fun σZ HZ Q => σZ[i]? = some (some (.ref f)) ∧ IsLam X D f HZ ∧ tb (fun cls d H' => W cls d σZ H') σ HZ Q) := by
  refine ⟨fun pinsZ sZ σZ HZ Q IZe ⟨slot, ⟨c', lamf, cod⟩, tbq⟩ => ?_⟩
  refine wpAny_Call_Name_kw (thn ((pe_var (pos := pp1) (i := i) hNg hvis dbg cdc).run pinsZ sZ σZ HZ (fun v H1 => v = .ref f ∧ H1 = HZ) IZe ⟨.ref f, slot, rfl, rfl⟩) fun u s1 ⟨v, H1, IA, rA, ev, eH⟩ => ?_)
  subst ev
  rw [eH] at IA
  obtain rfl : u = Value.ref f := rA
  obtain ⟨⟨pm, ctv, atf⟩, _, _⟩ := IA.hok f _ lamf
  obtain ⟨⟨oco, flds, t, atc, datc, nmc⟩, _, _⟩ := IA.hok c' _ cod
  refine PySem.W.callWith_F0 ⟨_, _, _, _, atf⟩ ?_
  have base_ : Un (frs X.stack) [] H HZ s.heap s1.heap := IA.base
  have run_ : codeAny (model X.prog X.w) (X.A.deeper (envOfC qg sg s.heap.objs.size g cdg)) (.call (.ref f) ⟨[], []⟩) (CR (L2.CX X.prog X.w) (envOfC qg sg s.heap.objs.size g cdg :: X.stack) X.prog X.w HZ s1 Q (fun cls d H' => W cls d σZ H')) s1 := by
    refine PySem.W.kla_callFunE hr.depth atf rfl L.co L.gen rfl ⟨c', oco, flds, t, rfl, atc, datc, nmc⟩ ?_
    rw [hbind]
    refine wpAny_pure (wpAny_newFunctionEnv (fun y hy => (L.own y hy).2) (fun y hy => absurd hy (by simp)) (fun h₁ nsn sbt => ⟨IA.nolimit.fresh _ sbt, ?_⟩) L.kind)
    show codeAny _ _ (.expr D.body (lamEnv X D.scope s1.heap.objs.size f c')) _ _
    have J : Inv (lamCx X (X.A.deeper (envOfC qg sg s.heap.objs.size g cdg)) (envOfC qg sg s.heap.objs.size g cdg :: X.stack) s1 HZ (fun cls d H' => W cls d σZ H') D.scope f c') [] σ HZ { s1 with heap := h₁, toks := s1.toks + ([] : List (Str × Value)).length } :=
      lam_start2 I L IA.env0 hr.hd base_ nsn fun b o e => sbt.extBut b o (Nat.ne_of_lt (Heap.lt_size e)) (Heap.get?_push_of_some _ e)
    refine PySem.W.kla_codeExpr (wpAny_mono ((hbody _ _ s1 HZ _ c' (hr.deeper _)).run [] _ _ HZ Q J tbq) (fun v s' ⟨w', H', J', rv, q⟩ => ⟨w', H', J'.os, J'.bare, J'.base, J'.hok, rv, q⟩) fun e s' hq => hq)
  refine wpAny_call (codeAny_mono run_ fun r s' hq => ?_)
  cases r with
  | error e => exact tk e s' (XE.of_call IA (fun cls d H' h => h) hq)
  | ok fl => cases fl with
    | ret u => exact IA.after hq
    | next => exact False.elim hq
    | brk => exact False.elim hq
    | cont => exact False.elim hq
/-- what the hearing makes of an error of the package, and of none -/
def HErr (K : PySem.W.Frag) (CS : Addr) (Q : VK) : XK := fun cls d H' => PySem.W.exmOne K cls (.ref CS) = some true ∧ ∃ (C dd : Addr), cls = .ref C ∧ d = some dd ∧
  ∀ a p, H' a = none → upd H' a (ErrO C dd a) p = none → Q (.ref p) (upd (upd H' a (ErrO C dd a)) p (.tup [.ref a, .non]))
def HBack (Q : VK) : VK := fun v H' => ∀ p, H' p = none → Q (.ref p) (upd H' p (.tup [.non, v]))
def TH (K : PySem.W.Frag) (CS : Addr) (tb : XK → TE) : TE := fun σ H Q => ∀ (E : XK) (Q' : VK), (∀ cls d H', HErr K CS Q cls d H' → E cls d H') → (∀ v H', HBack Q v H' → Q' v H') → tb E σ H Q'
def tHeard (X : Cx) {ι : Type} (CS : Addr) (D : ι → LamD) (tb : ι → XK → TE) (te : TE) : TE := fun σ H Q => te σ H fun v H1 => ∃ (j : ι) (f : Addr), v = .ref f ∧ IsLam X (D j) f H1 ∧ ∀ H2, Same H1 H2 → TH X.K CS (tb j) σ H2 Q
end
def isDict : PyData → Bool
  | .dict _ => true
  | _ => false
/-- data of a kind that can be shown, and compared -/
def okData (d : PyData) : Bool := d.leavesShort 13 && (decide (d.weight ≤ 2 ^ 20) && (d.showable && (decide (d.depth ≤ 8) && (d.canLay0 || isDict d))))
theorem okData.parts {d : PyData} (h : okData d = true) : d.leavesShort 13 = true ∧ d.weight ≤ 2 ^ 20 ∧ d.showable = true ∧ d.depth ≤ 8 ∧ (d.canLay0 = true ∨ isDict d = true) := by
  unfold okData at h
  simp only [Bool.and_eq_true, Bool.or_eq_true, decide_eq_true_eq] at h
  exact h
theorem okData.fits {d : PyData} (h : okData d = true) : d.shown.length ≤ sizeLine := PyData.shown_fits (B := 13) (by decide) (by decide) (okData.parts h).1 (okData.parts h).2.1
theorem okData.shaped {d : PyData} (h : okData d = true) : ∀ ds, d = .tuple ds → SeqAt.shaped d = true := fun ds e => by
  obtain ⟨_, _, _, h4, h5⟩ := okData.parts h
  subst e
  unfold SeqAt.shaped
  rw [Bool.and_eq_true, decide_eq_true_eq]
  exact ⟨h5.elim id (fun z => nomatch z), by omega⟩
mutual
theorem lay_noDict : ∀ d : PyData, d.canLay0 = true → d.hasDict = false
  | .none, _ => rfl
  | .bool _, _ => rfl
  | .int _, _ => rfl
  | .str _, _ => rfl
  | .list xs, h => by
    simp only [PyData.canLay0] at h
    simp only [PyData.hasDict]
    exact lay_noDictAll xs h
  | .tuple xs, h => by
    simp only [PyData.canLay0] at h
    simp only [PyData.hasDict]
    exact lay_noDictAll xs h
  | .dict _, h => by simp [PyData.canLay0] at h
theorem lay_noDictAll : ∀ ds : List PyData, PyData.canLayAll0 ds = true → PyData.hasDictAll ds = false
  | [], _ => rfl
  | d :: ds, h => by
    simp only [PyData.canLayAll0, Bool.and_eq_true] at h
    simp only [PyData.hasDictAll, lay_noDict d h.1, lay_noDictAll ds h.2, Bool.or_false]
end
section
variable {X : Cx} {pins : List (Addr × Obj)} {σ : L2.St} {H : Hp} {s : Shared}
theorem dk_reads (I : Inv X pins σ H s) {d : PyData} {v : V} {u : Value} (h : Dk X.K H v d) (r : RelV v u) : ∃ as, Reads s.heap u d as ∧ (d.hasDict = true → isDict d = true → sysModules ∉ as) := by
  cases h with
  | dp h =>
    obtain ⟨as, hr⟩ := Dp.reads I d v u h r
    refine ⟨as, hr, fun _ z => ?_⟩
    cases h <;> cases z
  | @d0 a h =>
    cases r
    obtain ⟨_, hsys, ws, rel, od, des, dep, ho, hex, hdat, _, hp, _⟩ := dk_of I.hok h
    cases rel
    have e : des = #[] := by
      cases des with | mk l => cases hp; rfl
    subst e
    refine ⟨_, Reads.dict (kvs := []) ho hex.1 hdat .nil .nil, fun _ _ hm => ?_⟩
    rcases List.mem_append.mp hm with hm | hm
    · rcases List.mem_cons.mp hm with rfl | hm
      · rw [beq_self_eq_true] at hsys; cases hsys
      · cases hm
    · cases hm
  | @d1 a h =>
    cases r
    obtain ⟨_, hsys, ws, rel, od, des, dep, ho, hex, hdat, _, hp, _⟩ := dk_of I.hok h
    cases rel with
    | @cons _ q _ _ h1 h2 =>
      cases h2
      obtain ⟨k, u⟩ := q
      obtain ⟨e1, e2⟩ := h1
      cases e1
      obtain ⟨t, rfl⟩ := e2
      cases des with
      | mk l =>
        cases hp with
        | @cons e _ es _ p1 p2 p3 =>
          cases p3
          obtain ⟨tk, ek⟩ := Value.isStrOf_shape (x := Str.ofString "a") (v := e.key) p1
          refine ⟨_, Reads.dict (kvs := [(.str "a", .int 1)]) ho hex.1 hdat (.cons (show Reads s.heap e.key (PyData.str "a") [] from by rw [ek]; exact .str _ _) .nil) (.cons (show Reads s.heap e.val (PyData.int 1) [] from by rw [p2]; exact .int _ _) .nil), fun _ _ hm => ?_⟩
          rcases List.mem_append.mp hm with hm | hm
          · rcases List.mem_cons.mp hm with rfl | hm
            · rw [beq_self_eq_true] at hsys; cases hsys
            · cases hm
          · cases hm
/-- repr(x), x data; nothing under way -/
def rRepr (K : PySem.W.Frag) : List V → Hp → VK → Prop := fun xs H Q => ∃ (v : V) (d : PyData), xs = [v] ∧ Dk K H v d ∧ okData d = true ∧ Q (.str d.shown) H
theorem call_repr (hg : X.A.guards = some []) (hu : X.A.units + 64 < cLine) : CallR X (.builtin "repr") (rRepr X.K) := by
  intro pins s σ H xs us Q I r h
  obtain ⟨v, d, rfl, hd, ho, q⟩ := h
  obtain ⟨u, rfl, rv⟩ := vals1 r
  obtain ⟨h1, h2, h3, h4, h5⟩ := okData.parts ho
  have fits := okData.fits ho
  obtain ⟨as, hr, hsys⟩ := dk_reads I hd rv
  have at_ref : ∀ a : Addr, u = .ref a → wpAny (model X.prog X.w) X.A (call (.builtin "repr") [u]) (EP X pins σ Q) X.xe s := fun a e => by
    subst e
    refine repr_of_reads' hr h3 (fun z => hsys z ?_) hg (by omega) (fun _ _ e => e) (fun h' w tk hk => ⟨.str d.shown, H, I.kept (t' := tk) hk, ⟨w, rfl⟩, q⟩) fits
    rcases h5 with c | c
    · rw [lay_noDict d c] at z; cases z
    · exact c
  cases hd with
  | d0 h => exact at_ref _ rv
  | d1 h => exact at_ref _ rv
  | dp hd =>
    cases hd with
    | lst _ _ => exact at_ref _ rv
    | tup _ _ => exact at_ref _ rv
    | non => cases rv; exact PySem.P.repr_of_none ⟨.str "None", H, I.tok _, ⟨_, rfl⟩, q⟩
    | bl b => cases rv; exact PySem.P.repr_of_bool ⟨.str (if b then "True" else "False"), H, I.tok _, ⟨_, by cases b <;> rfl⟩, by cases b <;> exact q⟩
    | int i =>
      obtain ⟨t, rfl⟩ := rv
      exact PySem.P.repr_of_int (by simpa [PyData.showable] using h3) ⟨.str (toString i), H, I.tok _, ⟨_, rfl⟩, q⟩
    | str x =>
      obtain ⟨t, rfl⟩ := rv
      exact PySem.P.repr_of_str ⟨.str (reprText x), H, I.tok _, ⟨_, rfl⟩, q⟩ fits
end
/-- as FnOk, of the rooms in which nothing guarded is under way -/
structure FnG (P : Program) (w : World) (K : PySem.W.Frag) (mg : Str → Option Value) (base : Heap) (k : Nat) (f : Addr) (fd : FuncData) (ps : List Str) (sp : Sp) : Prop where
  len : ∀ vs H Q E, sp vs H Q E → vs.length = ps.length
  run : ∀ (A : Around) (outer : List Env) (s : Shared) (H : Hp) (args : Args) (us : List Value) (vs : List V) (Q : VK), Room k A → A.guards = some [] → Env0 P w K mg base A outer s H → BindsTo s fd args (ps.zip us) → Vals vs us → sp vs H Q E0 →
    codeAny (model P w) A (.call (.ref f) args) (CR CX0 outer P w H s Q E0) s
section
variable {P : Program} {w : World} {K : PySem.W.Frag} {mg : Str → Option Value} {base : Heap}
theorem fnG_of {x qual : Str} {st : Stmt} {f : Addr} {fd : FuncData} {N ps : List Str} {k : Nat} {sp : Sp} (F : Fun K x qual st f fd) (S : FnScope N ps (defScope st)) (len : ∀ vs H Q E, sp vs H Q E → vs.length = ps.length)
    (hbody : ∀ (cdv : Value) (A : Around) (outer : List Env) (s : Shared) (H : Hp) (vs : List V) (Q : VK), Room k (A.deeper (envOfC qual (defScope st) s.heap.objs.size f cdv)) → (A.deeper (envOfC qual (defScope st) s.heap.objs.size f cdv)).guards = some [] → sp vs H Q E0 →
      ∃ t, PSs (cxOf CX0 P w K mg base N qual (defScope st) f cdv A outer s H E0).nox (defBody st) t ∧ t { nx := fun _ H' => Q .non H', rt := Q } (L2.start N vs) H) : FnG P w K mg base (k + 1) f fd ps sp := by
  obtain ⟨oc, od, kV, doc, pm, an, cdv, ct, osl, rfl, lk, hcd⟩ := F.ex
  refine ⟨len, fun A outer s H args us vs Q hr hg e0 hb r hsp => ?_⟩
  exact run_ofS lk hcd S hr e0 hb r (len _ _ _ _ hsp) fun hr' => by
    obtain ⟨t, h, q⟩ := hbody cdv A outer s H vs Q hr' hg hsp
    exact ⟨t, h.nox, q⟩
theorem FnG.ofOk {k : Nat} {f : Addr} {fd : FuncData} {ps : List Str} {sp : Sp} (F : FnOk P w K mg base CX0 k f fd ps sp) : FnG P w K mg base k f fd ps sp := ⟨F.len, fun A outer s H args us vs Q hr _ e0 hb r h => F.run A outer s H args us vs Q E0 hr e0 hb r h⟩
end
section
variable {X : Cx} {k : Nat} {f : Addr} {fd : FuncData} {ps : List Str} {sp : Sp} {x : Str} {p pos : Pos} {e : Expr} {es : List Expr} {t : TA}
theorem pe_callG (F : FnG X.prog X.w X.K X.mg X.base k f fd ps sp) (hr : Room k X.A) (gd : X.A.guards = some []) (hg : Gl X x) (hm : X.mg x = some (.ref f)) (hk : PySem.W.keepIn X.K (.ref f) = true) (hb : L2.Binds X.K fd ps [])
    (ha : PA X (e :: es) t) (hdb : (x == ("__debug__" : Str)) = false := by decide) (he : starEach (e :: es) X.env = (false, eval e X.env) :: starEach es X.env := by rfl) (hpl : (backTo pos (starEach es X.env)).any (·.1) = false := by rfl) :
    PE X (.Call (.Name x p) (e :: es) [] pos) (tCall sp [] E0 t) := by
  refine ⟨fun pins s σ H Q I h => wpAny_Call_Name_kw (ld_glob I hg hm ?_ hdb)⟩
  refine PySem.W.callWith_K (h₀ := X.base) I.ok.mod.kin hk (thn (ha.run pos pins s σ H _ I h) fun us s1 ⟨vs, H1, I1, r, q⟩ => ⟨I1.kIn, ?_⟩) he hpl
  have q' : sp vs H1 Q E0 := by
    have q0 : sp (vs ++ []) H1 Q E0 := q
    rw [List.append_nil] at q0
    exact q0
  have hl : us.length = ps.length := by rw [← r.length]; exact F.len _ _ _ _ q'
  have bt : BindsTo s1 fd ⟨us, []⟩ (ps.zip us) := by
    have z := hb s1 us I1.kIn (by rw [List.append_nil]; exact hl)
    rw [List.append_nil] at z
    exact z
  refine wpAny_call (codeAny_mono (F.run X.A X.stack s1 H1 ⟨us, []⟩ us vs Q hr gd I1.env0 bt r q') fun r s' hq => ?_)
  cases r with
  | error e => exact (show False from hq).elim
  | ok fl => cases fl with
    | ret u => exact I1.after hq
    | next => exact False.elim hq
    | brk => exact False.elim hq
    | cont => exact False.elim hq
end
/-- what stands in H', without what was a list in H -/
def nl (H H' : Hp) : Hp := fun b => match H b with
  | some (.lst _) => none
  | _ => H' b
theorem nl_not {H H' : Hp} {c : Addr} (h : ∀ xs, H c ≠ some (.lst xs)) : nl H H' c = H' c := by
  unfold nl
  split
  · exact absurd ‹_› (h _)
  · rfl
theorem nl_new {H H' : Hp} {c : Addr} (h : H c = none) : nl H H' c = H' c := nl_not fun xs z => by rw [h] at z; cases z
theorem nl_lst {H H' : Hp} {c : Addr} {xs : List V} (h : H c = some (.lst xs)) : nl H H' c = none := by
  unfold nl
  rw [h]
/-- what is found there was no list -/
theorem nl_out {H H' : Hp} {c : Addr} {o : HO} (h : nl H H' c = some o) : (∀ xs, H c ≠ some (.lst xs)) ∧ H' c = some o := by
  have a : ∀ xs, H c ≠ some (.lst xs) := fun xs z => by rw [nl_lst z] at h; cases h
  exact ⟨a, by rw [nl_not a] at h; exact h⟩
theorem nl_at {H H' : Hp} {p c : Addr} {o : HO} (g : Same (wo H p) (wo H' p)) (h : wo H' p c = some o) (no : ∀ xs, o ≠ .lst xs) : nl H H' c = some o := by
  have ne : c ≠ p := fun z => by rw [z, wo_same] at h; cases h
  rw [nl_not fun xs z => ?_]
  · exact wo_le _ _ h
  · have e := g _ _ (wo_at z ne)
    rw [h] at e
    exact no xs (Option.some.inj e)
theorem nl_wo {H H' : Hp} {p : Addr} (hp : ∃ xs, H p = some (.lst xs)) : Same (nl H H') (wo H' p) := fun b o e => by
  obtain ⟨xs, hp⟩ := hp
  obtain ⟨a, e⟩ := nl_out e
  exact wo_at e fun z => a xs (z ▸ hp)
theorem nl_fresh {H H' : Hp} {p c : Addr} (g : Same (wo H p) (wo H' p)) (h : H' c = none) (ne : c ≠ p) : H c = none := by
  cases e : H c with
  | none => rfl
  | some o =>
    have z := wo_le _ _ (g _ _ (wo_at e ne))
    rw [h] at z
    cases z
theorem nl_mono {H H1 H2 H3 : Hp} {p : Addr} (g : Same (wo H p) (wo H1 p)) (hp : ∃ xs, H1 p = some (.lst xs)) (s : Same H2 H3) : Same (nl H1 H2) (nl H H3) := fun b o e => by
  obtain ⟨ys, hp⟩ := hp
  obtain ⟨a, e⟩ := nl_out e
  have ne : b ≠ p := fun z => a ys (z ▸ hp)
  rw [nl_not fun xs z => a xs (wo_le _ _ (g _ _ (wo_at z ne)))]
  exact s _ _ e
theorem sqT_nl {K : PySem.W.Frag} {H H' : Hp} {p c : Addr} {xs : List V} (g : Same (wo H p) (wo H' p)) (h : SqT K (wo H' p) c xs) : SqT K (nl H H') c xs := by
  rcases h with (h | ⟨o, h⟩) | h
  · exact .inl (.inl (nl_at g h fun _ z => nomatch z))
  · exact .inl (.inr ⟨o, nl_at g h fun _ z => nomatch z⟩)
  · exact .inr h
theorem none_of {H H' : Hp} {c : Addr} (s : Same H H') (h : H' c = none) : H c = none := by
  cases e : H c with
  | none => rfl
  | some o =>
    have z := s _ _ e
    rw [h] at z
    cases z
theorem pot_lst {H : Hp} {p : Addr} {n : Nat} (h : Pot H p n) : ∃ xs, H p = some (.lst xs) := by
  obtain ⟨a, b, c, e, _⟩ := h
  exact ⟨_, e⟩
section
variable {P : Program} {w : World} {K : PySem.W.Frag} {mg : Str → Option Value} {base : Heap}
/-- all but the tables and the pot stay -/
def ExtP (p : Addr) (H H' : Hp) : Prop := ∀ b o, H b = some o → b ≠ p → (∀ ps, o ≠ .tbl ps) → H' b = some o
def CalG (P : Program) (w : World) (K : PySem.W.Frag) (mg : Str → Option Value) (base : Heap) (k : Nat) (x : Str) (ps : List Str) (sp : Sp) : Prop :=
  ∃ (f : Addr) (fd : FuncData), FnG P w K mg base k f fd ps sp ∧ PySem.W.keepIn K (.ref f) = true ∧ L2.Binds K fd ps [] ∧ mg x = some (.ref f)
theorem tabs_wo {T : List (Addr × Str)} {H H' : Hp} {p : Addr} (t : Tabs T H) (hp : ∃ xs, H p = some (.lst xs)) (s : Same (wo H p) (wo H' p)) : Tabs T H' := fun x hx => by
  obtain ⟨ps, h1, h2, h3⟩ := t x hx
  obtain ⟨xs, hl⟩ := hp
  refine ⟨ps, wo_le _ _ (s _ _ (wo_at h1 fun z => by rw [z, hl] at h1; cases h1)), h2, fun pos cv hc => ?_⟩
  obtain ⟨c, e1, e2⟩ := h3 pos cv hc
  exact ⟨c, e1, wo_le _ _ (s _ _ (wo_at e2 fun z => by rw [z, hl] at e2; unfold CodeO at e2; cases e2))⟩
end
/-- a def that may be called by its name -/
def Cal (P : Program) (w : World) (K : PySem.W.Frag) (mg : Str → Option Value) (base : Heap) (CX : CXT) (k : Nat) (x : Str) (ps : List Str) (sp : Sp) : Prop :=
  ∃ (f : Addr) (fd : FuncData), FnOk P w K mg base CX k f fd ps sp ∧ PySem.W.keepIn K (.ref f) = true ∧ L2.Binds K fd ps [] ∧ mg x = some (.ref f)
/-- what never raises passes -/
theorem passX {X : Cx} : Passes (L2.CX X.prog X.w) X E0 := fun _ _ _ _ _ _ _ ⟨_, _, _, _, _, _, _, _, _, _, _, _, h⟩ => h.elim
theorem same_ne {x : V} {Pr : Prop} (e : (!decide (x = x)) = true) : Pr := by simp at e
theorem eq_ne {x y : V} {Pr : Prop} (h : x = y) (e : (!decide (x = y)) = true) : Pr := by
  subst h
  exact same_ne e
/-- data without dicts, of nesting at most k and weight at most m -/
def okN (k m : Nat) (d : PyData) : Prop := d.leavesShort 13 = true ∧ d.weight ≤ m ∧ d.showable = true ∧ d.depth ≤ k ∧ d.canLay0 = true
theorem okN.mono {k m k' m' : Nat} {d : PyData} (h : okN k m d) (hk : k ≤ k') (hm : m ≤ m') : okN k' m' d := ⟨h.1, Nat.le_trans h.2.1 hm, h.2.2.1, Nat.le_trans h.2.2.2.1 hk, h.2.2.2.2⟩
theorem okN.ok {k m : Nat} {d : PyData} (h : okN k m d) (hk : k ≤ 8) (hm : m ≤ 2 ^ 20) : okData d = true := by
  unfold okData
  simp only [Bool.and_eq_true, Bool.or_eq_true, decide_eq_true_eq]
  exact ⟨h.1, Nat.le_trans h.2.1 hm, h.2.2.1, Nat.le_trans h.2.2.2.1 hk, .inl h.2.2.2.2⟩
theorem okN.all {k m : Nat} : ∀ {ds : List PyData}, (∀ d ∈ ds, okN k m d) → PyData.leavesShortAll 13 ds = true ∧ PyData.weightAll ds ≤ (m + 1) * ds.length ∧ PyData.showableAll ds = true ∧ PyData.depthAll ds ≤ k ∧ PyData.canLayAll0 ds = true
  | [], _ => ⟨rfl, Nat.le_refl _, rfl, Nat.zero_le _, rfl⟩
  | d :: ds, h => by
    obtain ⟨i1, i2, i3, i4, i5⟩ := okN.all fun y hy => h y (List.mem_cons_of_mem _ hy)
    obtain ⟨j1, j2, j3, j4, j5⟩ := h d List.mem_cons_self
    refine ⟨?_, ?_, ?_, ?_, ?_⟩
    · simp only [PyData.leavesShortAll, j1, i1, Bool.and_self]
    · simp only [PyData.weightAll, List.length_cons, Nat.mul_add, Nat.mul_one]
      omega
    · simp only [PyData.showableAll, j3, i3, Bool.and_self]
    · simp only [PyData.depthAll]
      omega
    · simp only [PyData.canLayAll0, j5, i5, Bool.and_self]
theorem okN.tup {k m : Nat} {ds : List PyData} (h : ∀ d ∈ ds, okN k m d) (hl : ds.length ≤ 8) : okN (k + 1) (8 * (m + 1)) (.tuple ds) := by
  obtain ⟨i1, i2, i3, i4, i5⟩ := okN.all h
  have : (m + 1) * ds.length ≤ (m + 1) * 8 := Nat.mul_le_mul_left _ hl
  refine ⟨by simpa [PyData.leavesShort] using i1, by simp only [PyData.weight]; omega, by simpa [PyData.showable] using i3, by simp only [PyData.depth]; omega, by simpa [PyData.canLay0] using i5⟩
theorem okN.lst {k m : Nat} {ds : List PyData} (h : ∀ d ∈ ds, okN k m d) (hl : ds.length ≤ 8) : okN (k + 1) (8 * (m + 1)) (.list ds) := by
  obtain ⟨i1, i2, i3, i4, i5⟩ := okN.all h
  have : (m + 1) * ds.length ≤ (m + 1) * 8 := Nat.mul_le_mul_left _ hl
  refine ⟨by simpa [PyData.leavesShort] using i1, by simp only [PyData.weight]; omega, by simpa [PyData.showable] using i3, by simp only [PyData.depth]; omega, by simpa [PyData.canLay0] using i5⟩
theorem okN.int {i : Int} (h0 : -100000 ≤ i) (h1 : i ≤ 1000000) : okN 0 50 (.int i) := by
  have ht : (Str.ofString (toString i)).length ≤ 13 := by
    by_cases c : 0 ≤ i
    · exact Nat.le_trans (toString_length_le (k := 7) c (by decide) (by omega)) (by decide)
    · obtain ⟨n, rfl⟩ : ∃ n : Nat, i = Int.negSucc n := by
        cases i with
        | ofNat n => exact absurd (Int.natCast_nonneg n) c
        | negSucc n => exact ⟨n, rfl⟩
      have hn : (n + 1 : Int) < 10 ^ 6 := by omega
      have e : toString (Int.negSucc n) = "-" ++ toString (n + 1) := rfl
      have t := toString_length_le (v := ((n + 1 : Nat) : Int)) (k := 6) (by omega) (by decide) (by exact_mod_cast hn)
      have len : ∀ a b : String, (Str.ofString (a ++ b)).length = (Str.ofString a).length + (Str.ofString b).length := fun a b => by
        show (Str.ofString (a ++ b)).cps.size = (Str.ofString a).cps.size + (Str.ofString b).cps.size
        rw [Str.ofString_eq_toList, Str.ofString_eq_toList, Str.ofString_eq_toList]
        simp [String.toList_append]
      rw [e, len]
      have h1' : (Str.ofString "-").length = 1 := by decide
      have t' : (Str.ofString (toString (n + 1))).length ≤ 6 := t
      omega
  have hl : i.natAbs.log2 ≤ 20 := by
    by_cases z : i.natAbs = 0
    · rw [z]; decide
    · exact Nat.le_of_lt_succ ((Nat.log2_lt z).mpr (by omega))
  refine ⟨by simp only [PyData.leavesShort, decide_eq_true_eq]; exact ht, ?_, ?_, Nat.le_refl 0, rfl⟩
  · simp only [PyData.weight]
    split <;> omega
  · simp only [PyData.showable, decide_eq_true_eq]
    omega
/-- texts that can be shown -/
def okS (n : Nat) (x : Str) : Prop := x.length ≤ n ∧ ∀ c ∈ x.cps.toList, c < 0x110000
theorem okS.ok {n : Nat} {x : Str} (h : okS n x) (hn : n ≤ 50) : okN 0 50 (.str x) := by
  refine ⟨?_, Nat.le_trans h.1 hn, rfl, Nat.le_refl 0, ?_⟩
  · simp only [PyData.leavesShort, List.all_eq_true, decide_eq_true_eq]
    exact fun c hc => Nat.lt_of_lt_of_le (h.2 c hc) (by decide)
  · simp only [PyData.canLay0, PyData.strOk]
    rw [← Array.all_toList, List.all_eq_true]
    exact fun c hc => decide_eq_true (h.2 c hc)
theorem str_chars (z : String) : ∀ c ∈ (Str.ofString z).cps.toList, c < 0x110000 := fun c hc => by
  rw [Str.ofString_eq_toList] at hc
  simp only [List.toList_toArray, List.mem_map] at hc
  obtain ⟨ch, _, rfl⟩ := hc
  rcases ch.valid with h | ⟨_, h⟩
  · exact Nat.lt_of_lt_of_le h (by decide)
  · exact h
theorem okS.cut {n : Nat} {x : Str} (h : okS n x) (lo hi : Option Int) : okS n (cutS x lo hi) := by
  refine ⟨Nat.le_trans (cutS_length x lo hi) h.1, fun c hc => h.2 c ?_⟩
  have hc : c ∈ ((x.cps.toList.drop (HT.sIx x.length 0 lo)).take (HT.sIx x.length x.length hi - HT.sIx x.length 0 lo)).toArray.toList := hc
  rw [List.toList_toArray] at hc
  exact List.mem_of_mem_drop (List.mem_of_mem_take hc)
theorem okS.cat {n m : Nat} {x y : Str} (h : okS n x) (g : okS m y) : okS (n + m) (x ++ y) := by
  have e : (x ++ y).cps = x.cps ++ y.cps := rfl
  refine ⟨?_, fun c hc => ?_⟩
  · show (x ++ y).cps.size ≤ _
    rw [e, Array.size_append]
    exact Nat.add_le_add h.1 g.1
  · rw [e, Array.toList_append] at hc
    exact (List.mem_append.mp hc).elim (h.2 c) (g.2 c)
theorem sqT_wo {K : PySem.W.Frag} {H : Hp} {c p : Addr} {xs ys : List V} (h : SqT K H c xs) (hp : H p = some (.lst ys)) : SqT K (wo H p) c xs := by
  rcases h with (h | ⟨o, h⟩) | h
  · exact .inl (.inl (wo_at h fun z => by rw [z, hp] at h; cases h))
  · exact .inl (.inr ⟨o, wo_at h fun z => by rw [z, hp] at h; cases h⟩)
  · exact .inr h
theorem catA_one {K : PySem.W.Frag} {H : Hp} {a b : Addr} {xs ys : List V} {Q : VK} (ha : SqT K H a xs) (hb : SqT K H b ys) (hl : xs.length + ys.length ≤ sizeLine) (q : ∀ c H', SqT K H' c (xs ++ ys) → Same H H' → Q (.ref c) H') : rCatA K (.ref a) (.ref b) H Q := by
  refine ⟨a, b, xs, ys, rfl, rfl, ha, hb, hl, fun e => ?_, fun _ e => ?_, fun _ _ p np => q p _ (SqT.of upd_same) (same_upd np)⟩
  · subst e
    exact q b H hb (Same.refl H)
  · subst e
    refine q a H ?_ (Same.refl H)
    rw [List.append_nil]
    exact ha
theorem slice_any {K : PySem.W.Frag} {H : Hp} {a : Addr} {xs : List V} {lo hi : Option Int} {Q : VK} (h : SqT K H a xs) (q : ∀ c H' ys, SqT K H' c ys → (∀ y ∈ ys, y ∈ xs) → ys.length ≤ xs.length → Same H H' → Q (.ref c) H') : rSlA K (.ref a) lo hi H Q :=
  ⟨a, xs, rfl, h, fun _ => q a H xs h (fun y hy => hy) (Nat.le_refl _) (Same.refl H), fun _ p np => q p _ _ (SqT.of upd_same) (fun y hy => List.mem_of_mem_drop (List.mem_of_mem_take hy)) (cutV_length xs lo hi) (same_upd np)⟩
theorem dpAll_app {K : PySem.W.Frag} {H : Hp} : ∀ {xs ys : List V} {ds es : List PyData}, DpAll K H xs ds → DpAll K H ys es → DpAll K H (xs ++ ys) (ds ++ es)
  | [], _, [], _, _, g => g
  | _ :: _, _, _ :: _, _, .cons h1 h2, g => .cons h1 (dpAll_app h2 g)
section
variable {P : Program} {w : World} {K : PySem.W.Frag} {mg : Str → Option Value} {base : Heap}
theorem sqL_extN {H H' : Hp} {c : Addr} {xs : List V} (h : SqL K H c xs) (e : ExtN H H') : SqL K H' c xs := by
  rcases h with (h | ⟨o, h⟩) | h
  · exact .inl (.inl (e _ _ h (fun ps z => by cases z)))
  · exact .inl (.inr ⟨o, e _ _ h (fun ps z => by cases z)⟩)
  · exact .inr h
theorem tabs_upd {T : List (Addr × Str)} {H : Hp} {D : Addr} {xs : List V} {o : HO} (t : Tabs T H) (hD : H D = some (.lst xs)) : Tabs T (upd H D o) := fun x hx => by
  obtain ⟨ps, h1, h2, h3⟩ := t x hx
  refine ⟨ps, by rw [upd_ne (fun z => by rw [z, hD] at h1; cases h1)]; exact h1, h2, fun pos cv hc => ?_⟩
  obtain ⟨c, e1, e2⟩ := h3 pos cv hc
  exact ⟨c, e1, by rw [upd_ne (fun z => by rw [z, hD] at e2; unfold CodeO at e2; cases e2)]; exact e2⟩
end
def lamsE : Expr → List LamD
  | .Lambda p b s _ => [⟨p, b, s⟩]
  | .Subscript o _ _ => lamsE o
  | .Call _ [e] _ _ => lamsE e
  | .List [e] _ => lamsE e
  | _ => []
def lamsS : Stmt → List LamD
  | .Assign _ v _ => lamsE v
  | .Expr v _ => lamsE v
  | _ => []
def bodyOf : Stmt → List Stmt
  | .For _ _ b _ _ => b
  | _ => []
/-- a callee's exception leaves the lambda -/
theorem passL {X : Cx} {A : Around} {outer : List Env} {s : Shared} {H : Hp} {E : XK} {scope : Scope} {f c' : Addr} : Passes (L2.CX X.prog X.w) (lamCx X A outer s H E scope f c') E :=
  passes_call (takes_of rfl rfl rfl rfl) fun _ _ _ _ h => h
section
variable {P : Program} {w : World} {K : PySem.W.Frag} {mg : Str → Option Value} {base : Heap}
theorem sqT_extN {H H' : Hp} {c : Addr} {xs : List V} (h : SqT K H c xs) (e : ExtN H H') : SqT K H' c xs := by
  rcases h with (h | ⟨o, h⟩) | h
  · exact .inl (.inl (e _ _ h (fun ps z => by cases z)))
  · exact .inl (.inr ⟨o, e _ _ h (fun ps z => by cases z)⟩)
  · exact .inr h
mutual
theorem dp_extN {H H' : Hp} (e : ExtN H H') : ∀ (d : PyData) (v : V), Dp K H v d → Dp K H' v d
  | .none, _, h => by cases h; exact .non
  | .bool _, _, h => by cases h; exact .bl _
  | .int _, _, h => by cases h; exact .int _
  | .str _, _, h => by cases h; exact .str _
  | .list ds, _, h => by
    cases h with
    | lst hs ha => exact .lst (sqL_extN hs e) (dpAll_extN e ds _ ha)
  | .tuple ds, _, h => by
    cases h with
    | tup hs ha => exact .tup (sqT_extN hs e) (dpAll_extN e ds _ ha)
  | .dict _, _, h => by cases h
theorem dpAll_extN {H H' : Hp} (e : ExtN H H') : ∀ (ds : List PyData) (vs : List V), DpAll K H vs ds → DpAll K H' vs ds
  | [], _, h => by cases h; exact .nil
  | d :: ds, _, h => by
    cases h with
    | cons h1 h2 => exact .cons (dp_extN e d _ h1) (dpAll_extN e ds _ h2)
end
theorem dk_extN {H H' : Hp} {v : V} {d : PyData} (h : Dk K H v d) (e : ExtN H H') : Dk K H' v d := by
  cases h with
  | dp h => exact .dp (dp_extN e _ _ h)
  | d0 h => exact .d0 (e _ _ h (fun ps z => by cases z))
  | d1 h => exact .d1 (e _ _ h (fun ps z => by cases z))
theorem nl_le {H H' : Hp} : Same (nl H H') H' := fun b o e => (nl_out e).2
theorem none_ext {H H' : Hp} {c : Addr} (e : ExtN H H') (h : H' c = none) : ∀ o, H c = some o → ∃ ps, o = .tbl ps := fun o z => by
  cases o with
  | tbl ps => exact ⟨ps, rfl⟩
  | _ => exact absurd ((e _ _ z (fun ps y => by cases y)).symm.trans h) (fun y => nomatch y)
/-- what stood stays over a new list -/
theorem extN_upd {H H' : Hp} {c : Addr} {o : HO} (e : ExtN H H') (h : ∀ o, H c = some o → ∃ ps, o = .tbl ps) : ExtN H (upd H' c o) := fun b x z nt => by
  rw [upd_ne fun y => ?_]
  · exact e b x z nt
  · obtain ⟨ps, q⟩ := h x (y ▸ z)
    exact nt ps q
theorem extN_comp {H1 H2 H3 : Hp} (e : ExtN H1 H2) (g : ExtN H2 H3) : ExtN H1 H3 := e.trans g
theorem IsLam.updL {X : Cx} {D : LamD} {f c : Addr} {H : Hp} {o : HO} {xs : List V} (h : IsLam X D f H) (hc : H c = some (.lst xs)) : IsLam X D f (upd H c o) := by
  obtain ⟨c', h1, h2⟩ := h
  refine ⟨c', ?_, ?_⟩
  · rw [upd_ne fun z => by rw [z, hc] at h1; unfold LamO at h1; cases h1]
    exact h1
  · rw [upd_ne fun z => by rw [z, hc] at h2; unfold CodeO at h2; cases h2]
    exact h2
theorem bent_old {HM HX H' : Hp} {D p : Addr} {o : HO} (hp : ∃ ys, HM p = some (.lst ys)) (nD : D ≠ p) (s : Same (wo HX p) (wo H' p)) : Same (nl (upd HM D (.lst [])) HX) (nl (upd HM D (.lst [])) (upd H' D o)) := fun b x e => by
  obtain ⟨x1, e⟩ := nl_out e
  have n1 : b ≠ D := fun z => x1 [] (by rw [z, upd_same])
  have n2 : b ≠ p := fun z => by
    obtain ⟨ys, hy⟩ := hp
    exact x1 ys (by rw [z, upd_ne (Ne.symm nD)]; exact hy)
  rw [nl_not x1, upd_ne n1]
  exact wo_le _ _ (s _ _ (wo_at e n2))
theorem bent_new {HM HX H' : Hp} {D p : Addr} {o : HO} {bs : List V} (hD : HX D = some (.lst bs)) (hp : ∃ ys, HX p = some (.lst ys)) (s : Same (wo HM p) (wo HX p)) : Same (nl HX H') (nl (upd HM D (.lst [])) (upd H' D o)) := fun b x e => by
  obtain ⟨x1, e⟩ := nl_out e
  have n1 : b ≠ D := fun z => x1 bs (by rw [z]; exact hD)
  have n2 : b ≠ p := fun z => by
    obtain ⟨ys, hy⟩ := hp
    exact x1 ys (by rw [z]; exact hy)
  rw [nl_not fun ys z => ?_, upd_ne n1]
  · exact e
  · rw [upd_ne n1] at z
    exact x1 ys (wo_le _ _ (s _ _ (wo_at z n2)))
/-- a small value -/
def Atom (x : V) : Prop := (∃ i : Int, x = .int i ∧ -100000 ≤ i ∧ i ≤ 1000000) ∨ (∃ z : Str, x = .str z ∧ okS 20 z) ∨ ∃ b, x = .bl b
theorem Atom.data {H : Hp} {x : V} (h : Atom x) : ∃ d, Dp K H x d ∧ okN 0 50 d := by
  rcases h with ⟨i, rfl, h0, h1⟩ | ⟨z, rfl, hz⟩ | ⟨b, rfl⟩
  · exact ⟨_, .int i, okN.int h0 h1⟩
  · exact ⟨_, .str z, hz.ok (by omega)⟩
  · exact ⟨_, .bl b, rfl, by simp [PyData.weight], rfl, Nat.le_refl 0, rfl⟩
theorem atoms_data {H : Hp} : ∀ {xs : List V}, (∀ x ∈ xs, Atom x) → ∃ ds, DpAll K H xs ds ∧ (∀ d ∈ ds, okN 0 50 d) ∧ ds.length = xs.length
  | [], _ => ⟨[], .nil, fun d hd => (List.not_mem_nil hd).elim, rfl⟩
  | x :: xs, h => by
    obtain ⟨ds, h1, h2, h3⟩ := atoms_data (H := H) fun y hy => h y (List.mem_cons_of_mem _ hy)
    obtain ⟨d, g1, g2⟩ := (h x List.mem_cons_self).data (K := K) (H := H)
    exact ⟨d :: ds, .cons g1 h1, fun e he => (List.mem_cons.mp he).elim (fun z => z ▸ g2) (h2 e), by rw [List.length_cons, List.length_cons, h3]⟩
/-- data that may be shown -/
def Fit (K : PySem.W.Frag) (H : Hp) (x : V) : Prop := ∃ d, Dk K H x d ∧ okData d = true
theorem Fit.same {H H' : Hp} {x : V} (h : Fit K H x) (s : Same H H') : Fit K H' x := by
  obtain ⟨d, h1, h2⟩ := h
  exact ⟨d, Dk.same s h1, h2⟩
theorem Fit.tup {H : Hp} {c : Addr} {xs : List V} (h : SqT K H c xs) (ha : ∀ x ∈ xs, Atom x) (hl : xs.length ≤ 8) : Fit K H (.ref c) := by
  obtain ⟨ds, h1, h2, h3⟩ := atoms_data (K := K) (H := H) ha
  exact ⟨.tuple ds, .dp (.tup h h1), (okN.tup h2 (by omega)).ok (by omega) (by decide)⟩
theorem Fit.lst {H : Hp} {c : Addr} {xs : List V} (h : SqL K H c xs) (ha : ∀ x ∈ xs, Atom x) (hl : xs.length ≤ 8) : Fit K H (.ref c) := by
  obtain ⟨ds, h1, h2, h3⟩ := atoms_data (K := K) (H := H) ha
  exact ⟨.list ds, .dp (.lst h h1), (okN.lst h2 (by omega)).ok (by omega) (by decide)⟩
theorem same_wo_new {H : Hp} {c : Addr} {o : HO} (h : H c = none) : Same H (wo (upd H c o) c) := fun b x e => by
  have ne : b ≠ c := ne_of_none e h
  rw [wo_ne ne, upd_ne ne]
  exact e
/-- a def whose code object is known -/
theorem fnG_code {x qual : Str} {st : Stmt} {f cc : Addr} {fd : FuncData} {N ps : List Str} {k : Nat} {sp : Sp} (F : Fun K x qual st f fd) (hcc : fd.code = .ref cc) (S : FnScope N ps (defScope st)) (len : ∀ vs H Q E, sp vs H Q E → vs.length = ps.length)
    (hbody : ∀ (A : Around) (outer : List Env) (s : Shared) (H : Hp) (vs : List V) (Q : VK), Room k (A.deeper (envOfC qual (defScope st) s.heap.objs.size f (.ref cc))) → (A.deeper (envOfC qual (defScope st) s.heap.objs.size f (.ref cc))).guards = some [] → sp vs H Q E0 →
      ∃ t, PSs (cxOf CX0 P w K mg base N qual (defScope st) f (.ref cc) A outer s H E0).nox (defBody st) t ∧ t { nx := fun _ H' => Q .non H', rt := Q } (L2.start N vs) H) : FnG P w K mg base (k + 1) f fd ps sp := by
  obtain ⟨oc, od, kV, doc, pm, an, cdv, ct, osl, rfl, lk, hcd⟩ := F.ex
  have e : cdv = .ref cc := hcc
  subst e
  refine ⟨len, fun A outer s H args us vs Q hr hg e0 hb r hsp => ?_⟩
  exact run_ofS lk hcd S hr e0 hb r (len _ _ _ _ hsp) fun hr' => by
    obtain ⟨t, h, q⟩ := hbody A outer s H vs Q hr' hg hsp
    exact ⟨t, h.nox, q⟩
end
theorem defFun {K : PySem.W.Frag} {x qual : Str} {st : Stmt} {f : Addr} {fd : FuncData} (F : FunD K x qual (defArgs st) (defBody st) (defScope st) [] [] f fd) : Fun K x qual st f fd := by
  obtain ⟨oc, od, dV, kV, doc, pm, an, cdv, ct, osl, h1, h2, h3, h4, _⟩ := F.ex
  rcases h4 with ⟨_, rfl⟩ | ⟨z, _⟩
  · exact ⟨⟨oc, od, kV, doc, pm, an, cdv, ct, osl, h1, h2, h3⟩, F.kp⟩
  · exact absurd rfl z
/-- a tuple that the top has laid -/
def ktB (K : PySem.W.Frag) (a : Addr) (vs : List V) : Bool := match K.lookup a with
  | some ⟨.type c, _, .seq its _, _⟩ => decide (c = "tuple") && (decide (its.size ≤ 1000) && He.relAll vs its.toList)
  | _ => false
theorem ktB_ok {K : PySem.W.Frag} {a : Addr} {vs : List V} (h : ktB K a vs = true) : KT K a vs := by
  unfold ktB at h
  split at h
  · rename_i c od its n sl ho
    simp only [Bool.and_eq_true, decide_eq_true_eq] at h
    obtain ⟨rfl, h2, h3⟩ := h
    exact ⟨_, its, n, ho, rfl, rfl, Nat.le_trans h2 (by decide), He.relAll_ok h3⟩
  · cases h
/-- an error's class -/
def oexB (K : PySem.W.Frag) (C : Addr) : Bool := match K.lookup C with
  | some ⟨.type c, _, .cls cd, sl⟩ => decide (c = "type") && (match cd.mro, sl.toList with
    | .ref D :: bm, [_, _, _, _, some (.builtin n), _] => decide (D = C) && (decide (n = "ValueError.__new__") && (!cd.hasDel && (cd.hasDict && PySem.HandSPX.refsVE bm)))
    | _, _ => false)
  | _ => false
theorem oexB_ok {K : PySem.W.Frag} {C : Addr} (h : oexB K C = true) : ∃ nm q N bs bm sn sub ab col dd k0 k1 k2 k3 k5, K.lookup C = some (excClassObj nm q C N bs bm true sn sub ab col dd k0 k1 k2 k3 k5 "ValueError.__new__") ∧ PySem.HandSPX.refsVE bm = true := by
  unfold oexB at h
  split at h
  · rename_i c dd cd sl ho
    simp only [Bool.and_eq_true, decide_eq_true_eq] at h
    obtain ⟨rfl, h⟩ := h
    split at h
    · rename_i D bm k0 k1 k2 k3 n k5 hm hs
      simp only [Bool.and_eq_true, decide_eq_true_eq, Bool.not_eq_true'] at h
      obtain ⟨rfl, rfl, h3, h4, h5⟩ := h
      obtain ⟨nm, bs, mro, ns, qn, hd, sn, sub, ab, col, del⟩ := cd
      dsimp only at hm h3 h4
      subst hm h3 h4
      obtain ⟨l⟩ := sl
      dsimp only at hs
      subst hs
      exact ⟨nm, qn, ns, bs, bm, sn, sub, ab, col, dd, k0, k1, k2, k3, k5, ho, h5⟩
    · cases h
  · cases h
/-- all that is asked of an error's class -/
def errB (K : PySem.W.Frag) (C fI CS : Addr) : Bool := oexB K C && (decide (PySem.W.findIn K (.ref C) "__setattr__" = some (some (.builtin "object.__setattr__"))) && (decide (PySem.W.typeIn K (.ref C) = some (.type "type")) && (PySem.W.keepIn K (.ref C) &&
  (decide (PySem.W.findIn K (.ref C) "__init__" = some (some (.ref fI))) && (decide (PySem.W.typeIn K (.ref fI) = some (.type "function")) && (decide (PySem.W.findIn K (.ref C) "value" = some none) && (xfB K C && decide (PySem.W.exmOne K (.ref C) (.ref CS) = some true))))))))
theorem errB_ok {K : PySem.W.Frag} {C fI CS : Addr} (h : errB K C fI CS = true) : ErrC K C fI ∧ XfC K C ∧ PySem.W.exmOne K (.ref C) (.ref CS) = some true := by
  unfold errB at h
  simp only [Bool.and_eq_true, decide_eq_true_eq] at h
  obtain ⟨h1, h2, h3, h4, h5, h6, h7, h8, h9⟩ := h
  have X := xfB_ok h8
  exact ⟨⟨⟨oexB_ok h1, h2, X.exC, h3, h4⟩, h5, h6, h7⟩, X, h9⟩
theorem keys_none {P : Params} {z : Str} : ∀ {l : List DictEntry} {ks : List Str}, l.map He.keyOf = He.keysIn P ks → z ∉ ks → (l.find? (·.key.isStr z) = none) ∧ l.any (·.refKey) = false
  | [], _, _, _ => ⟨rfl, rfl⟩
  | e :: r, [], h, _ => by cases h
  | e :: r, k :: ks, h, nz => by
    have h1 : He.keyOf e :: r.map He.keyOf = some (k, PyData.keyHash P k) :: He.keysIn P ks := h
    injection h1 with h2 h3
    obtain ⟨i1, i2⟩ := keys_none h3 fun y => nz (List.mem_cons_of_mem _ y)
    unfold He.keyOf at h2
    split at h2
    · rename_i x t hk
      obtain ⟨rfl, _⟩ := Prod.mk.inj (Option.some.inj h2)
      have ne : x ≠ z := fun y => nz (y ▸ List.mem_cons_self)
      have e1 : e.key.isStr z = false := by rw [hk]; simpa [Value.isStr] using ne
      have e2 : e.refKey = false := by unfold DictEntry.refKey; rw [hk]
      exact ⟨by rw [List.find?_cons, e1]; exact i1, by rw [List.any_cons, e2, i2]; rfl⟩
    · cases h2
theorem dicW_none {K : PySem.W.Frag} {P : Params} {a : Addr} {ks : List Str} {z : Str} (h : He.dicW K a = some (He.keysIn P ks)) (nz : z ∉ ks) : PySem.W.nsIn K a z = some none := by
  unfold He.dicW at h
  split at h
  · rename_i c es n sl ho
    split at h
    · obtain ⟨e1, e2⟩ := keys_none (Option.some.inj h) nz
      unfold PySem.W.nsIn
      rw [ho]
      show (match es.toList.find? (·.key.isStr z) with | some e => some (some e.val) | none => if es.toList.any (·.refKey) then none else some none) = some none
      rw [e1]
      show (if es.toList.any (·.refKey) = true then none else some none) = some none
      rw [e2]
      rfl
    · cases h
  · cases h
/-- the one table, and the script where the written part has it not -/
def start0 (K : PySem.W.Frag) (Pt a : Addr) (o : Obj) (xs : List V) : Hp := fun b =>
  if b = Pt then some (.tbl #[]) else if b = a then (match K.lookup a with
    | none => some (.frz o (.lst xs))
    | some _ => none) else none
theorem start0_cases {K : PySem.W.Frag} {Pt a b : Addr} {o : Obj} {xs : List V} {u : HO} (h : start0 K Pt a o xs b = some u) : (b = Pt ∧ u = .tbl #[]) ∨ (b = a ∧ K.lookup a = none ∧ u = .frz o (.lst xs)) := by
  unfold start0 at h
  by_cases c : b = Pt
  · rw [if_pos c] at h
    exact .inl ⟨c, (Option.some.inj h).symm⟩
  · rw [if_neg c] at h
    by_cases c2 : b = a
    · rw [if_pos c2] at h
      cases hk : K.lookup a with
      | some x =>
        rw [hk] at h
        cases h
      | none =>
        rw [hk] at h
        exact .inr ⟨c2, rfl, (Option.some.inj h).symm⟩
    · rw [if_neg c2] at h
      cases h
theorem call_top {P : Program} {w : World} {K : PySem.W.Frag} {mg mb : Str → Option Value} {k : Nat} {fa a c Pt : Addr} {fd : FuncData} {x : Str} {sp : Sp} {s : Shared} {us : List Value} {ns : List Int}
    (kin : K.In s.heap) (gl : s.heap.Ns mainGlobals mg) (bl : s.heap.Ns builtinsNs mb) (blb : ∀ y : Str, y ≠ "__name__" → mb y = bootBuiltins y) (nol : s.heap.NoLimit) (gens : s.gens = #[])
    (tab : s.heap.get? Pt = some { cls := .none, data := .fields #[] }) (tabK : K.lookup Pt = none) (cod : PySem.W.CodeHd s.heap c Pt)
    (bmain : ∃ (bm : Addr) (ob : Obj), mg "__builtins__" = some (.ref bm) ∧ bm ≠ builtinsNs ∧ s.heap.get? bm = some ob ∧ ob.cls = .type "module" ∧ ob.dict = some builtinsNs ∧ ob.data = .plain)
    (scr : s.heap.get? a = some { cls := .type "list", data := .seq us.toArray }) (areI : IntsAre us ns) (short : ns.length ≤ sizeLine) (room : Room k callerA)
    (F : ∀ base : Heap, K.In base → base.Ns mainGlobals mg → TabB base mg c Pt → FnG P w K mg base k fa fd [x] sp) (bind : ∀ (s : Shared) (u : Value), BindsTo s fd ⟨[u], []⟩ [(x, u)])
    (keep : ∀ H : Hp, H Pt = some (.tbl #[]) → SqL K H a (ns.map V.int) → sp [.ref a] H (fun v _ => v = .bl true) E0) :
    codeAny (model P w) callerA (.call (.ref fa) ⟨[.ref a], []⟩) (fun r s' => r = .ok (.ret (.bool true)) ∧ OldK s.heap s'.heap ∧ s'.os = s.os ∧ AllBare s'.gens) s := by
  have vals := vals_ints areI
  have same_len := areI.length
  generalize hH : start0 K Pt a { cls := .type "list", data := .seq us.toArray } (ns.map V.int) = H
  have look : ∀ {b : Addr} {u : HO}, H b = some u → (b = Pt ∧ u = .tbl #[]) ∨ (b = a ∧ K.lookup a = none ∧ u = .frz { cls := .type "list", data := .seq us.toArray } (.lst (ns.map V.int))) := fun {b u} e => start0_cases (hH ▸ e)
  have apart : a ≠ Pt := fun z => by
    rw [z, tab] at scr
    exact absurd (congrArg Obj.data (Option.some.inj scr)) (fun y => nomatch y)
  have hPt : H Pt = some (.tbl #[]) := by rw [← hH]; exact if_pos rfl
  have hseq : SqL K H a (ns.map V.int) := by
    cases hk : K.lookup a with
    | some o =>
      have e := (kin a o hk).symm.trans scr
      exact .inr ⟨_, us.toArray, _, by rw [hk, Option.some.inj e], rfl, rfl, rfl, by rw [List.size_toArray, same_len]; exact short, by simpa using vals⟩
    | none =>
      refine .inl (.inr ⟨{ cls := .type "list", data := .seq us.toArray }, ?_⟩)
      rw [← hH]
      unfold start0
      rw [if_neg apart, if_pos rfl, hk]
  have sound : HOk P w H s.heap := fun b u e => by
    rcases look e with ⟨rfl, rfl⟩ | ⟨rfl, _, rfl⟩
    · exact tab
    · exact ⟨scr, by rw [List.length_map]; exact short, us, _, vals, scr⟩
  -- what is no list and no empty record is not tracked
  have out : ∀ {b : Addr} {o : Obj}, s.heap.get? b = some o → (∀ is n, o.data ≠ .seq is n) → o.data ≠ .fields #[] → H b = none := fun {b o} e n1 n2 => by
    cases q : H b with
    | none => rfl
    | some u =>
      rcases look q with ⟨rfl, _⟩ | ⟨rfl, _⟩
      · exact absurd (congrArg Obj.data (Option.some.inj (tab.symm.trans e))).symm n2
      · exact absurd (congrArg Obj.data (Option.some.inj (scr.symm.trans e))).symm (n1 _ _)
  have outD : ∀ {b : Addr} {o : Obj} {es : Array DictEntry} {n : Nat}, s.heap.get? b = some o → o.data = .dict es n → H b = none := fun {b o es n} e d => out e (fun _ _ z => by rw [d] at z; cases z) fun z => by rw [d] at z; cases z
  have dictK : ∀ {b : Addr} {m : Str → Option Value}, s.heap.Ns b m → (hidT s.heap H).Ns b m := fun {b m} hn => by
    obtain ⟨o, es, n, e, d, r⟩ := hn
    exact ⟨o, es, n, hidT_get e (outD e d), d, r⟩
  have kinB : K.In (hidT s.heap H) := fun b o e => hidT_get (kin b o e) (by
    cases q : H b with
    | none => rfl
    | some u =>
      rcases look q with ⟨rfl, _⟩ | ⟨rfl, z, _⟩
      · exact absurd (tabK.symm.trans e) fun y => nomatch y
      · exact absurd (z.symm.trans e) fun y => nomatch y)
  have module : L2.Mod K mg (hidT s.heap H) := by
    obtain ⟨ml, e1, e2⟩ := nol
    exact ⟨kinB, dictK gl, ⟨mb, dictK bl, blb⟩, ml, dictK e1, e2⟩
  have table : TabB (hidT s.heap H) mg c Pt := by
    refine ⟨?_, ?_, fun z => ?_⟩
    · obtain ⟨o, vs, file, tf, flags, tg, inF, text, tt, e1, e2, e3, e4, rest⟩ := cod
      refine ⟨o, vs, file, tf, flags, tg, inF, text, tt, hidT_get e1 (out e1 (fun _ _ y => by rw [e3] at y; cases y) fun y => ?_), e2, e3, e4, rest⟩
      rw [e3] at y
      have y' : vs = #[] := Data.fields.inj y
      rw [y'] at e4
      cases e4
    · obtain ⟨bm, ob, m1, m2, m3, m4, m5, m6⟩ := bmain
      refine ⟨bm, ob, m1, m2, fun y => ?_, fun y => ?_, hidT_get m3 (out m3 (fun _ _ y => by rw [m6] at y; cases y) fun y => by rw [m6] at y; cases y), m4, m5, m6⟩
      · obtain ⟨o, es, n, e, d, _⟩ := gl
        rw [← y, m3] at e
        rw [← Option.some.inj e, m6] at d
        cases d
      · have e := m3.symm.trans (y ▸ tab)
        have d := m6
        rw [Option.some.inj e] at d
        cases d
    · obtain ⟨o, es, n, e, d, _⟩ := gl
      have e' := e.symm.trans (z ▸ tab)
      rw [Option.some.inj e'] at d
      cases d
  have env : Env0 P w K mg (hidT s.heap H) callerA [] s H := ⟨rfl, module, fun b o e => of_hidT e, Nat.le_of_eq (hidT_size _ _), trivial, fun b hb => (List.not_mem_nil hb).elim, sound, .of_eq gens⟩
  refine codeAny_mono ((F _ kinB (dictK gl) table).run callerA [] s H ⟨[.ref a], []⟩ [.ref a] [.ref a] _ room rfl env (bind s (.ref a)) (.cons rfl .nil) (keep H hPt hseq)) fun r s' res => ?_
  match r, res with
  | .ok (.ret u), res =>
    obtain ⟨v, H', same_os, bare, un, sound', rv, ev⟩ := res
    have ev' : v = .bl true := ev
    subst ev'
    obtain rfl : u = Value.bool true := rv
    obtain ⟨more, hm⟩ := un.tbls Pt #[] hPt
    have after : s'.heap.get? Pt = some { cls := .none, data := .fields (#[] ++ more) } := sound' Pt _ hm
    have stays : ∀ b o, b ≠ Pt → s.heap.get? b = some o → s'.heap.get? b = some o := fun b o nb e => by
      cases q : H b with
      | none => exact un.keep b o e q (fun z => (List.not_mem_nil z).elim) (by simp)
      | some u =>
        rcases look q with ⟨z, _⟩ | ⟨rfl, _, rfl⟩
        · exact absurd z nb
        · have g := (sound' b _ (un.frzs b _ _ q)).1
          rw [← Option.some.inj (scr.symm.trans e)]
          exact g
    refine ⟨rfl, ⟨fun b o e => ?_, fun b o e => ?_⟩, same_os, bare⟩
    · by_cases hb : b = Pt
      · subst hb
        obtain rfl := Option.some.inj (tab.symm.trans e)
        refine .inr (.inl ⟨(cod.tab tab).isCodeTable, rfl, #[], more, rfl, ?_⟩)
        rw [after]
      · exact .inl (stays b o hb e)
    · by_cases hb : b = Pt
      · exact ⟨_, by rw [hb]; exact after⟩
      · exact ⟨o, stays b o hb e⟩
  | .ok .next, res => exact False.elim res
  | .ok .brk, res => exact False.elim res
  | .ok .cont, res => exact False.elim res
  | .error e, res => exact False.elim res
theorem FnG.lift {P : Program} {w : World} {K : PySem.W.Frag} {mg : Str → Option Value} {base : Heap} {j k : Nat} {f : Addr} {fd : FuncData} {ps : List Str} {sp : Sp} (F : FnG P w K mg base j f fd ps sp) (h : j ≤ k) : FnG P w K mg base k f fd ps sp :=
  ⟨F.len, fun A outer s H args us vs Q hr => F.run A outer s H args us vs Q (hr.mono h)⟩
end VG

set_option maxRecDepth 100000
set_option maxHeartbeats 8000000
/-! Rules of our own: enumerate of a tuple, keywords alone, count and index of texts, isinstance of a kept error. -/
namespace VG
open PySem PySem.Spec PyProof.Rows L2 LamX
/-! ### enumerate(t) -/
theorem meets_enumB {v : Value} {ob : Obj} {Hh : Heap → Prop} (B : PySem.Begins v ob Hh) :
    Meets (Builtin.«enumerate.__new__» ⟨[.type "enumerate", v], []⟩) (fun _ R s => Hh s.heap ∧
      R (.ok (.ret (.ref (s.heap.push ob).objs.size))) { s with heap := (s.heap.push ob).push { cls := .type "enumerate", data := .fields #[.none, .bool false, .ref s.heap.objs.size, rawInt 0, .none, .none] } }) :=
  .of_wp fun prog w A R s all => by
    obtain ⟨hp, g, d, tk, os⟩ := s; obtain ⟨h1, fin⟩ := all
    have hsub := sub_enumerate
    have walk : ∀ {A' : Around} {E' : Value → Shared → Prop} {Q' : Value → Shared → Prop}, Q' (.ref hp.objs.size) ⟨hp.push ob, g, d, tk, os⟩ → wpAny (model prog w) A' (pyIter v) Q' E' ⟨hp, g, d, tk, os⟩ :=
      fun q => B.iter prog w _ _ ⟨hp, g, d, tk, os⟩ _ h1 q
    wp_walk using walk
    refine wpAny_stack_any fun stk => wpAny_pure ?_
    split
    · rename_i cc _ _ _ _ _
      cases (cc == Value.type "enumerate")
      · wp_walk using walk
        exact ⟨_, rfl, fin⟩
      · wp_walk using walk
        exact ⟨_, rfl, fin⟩
    · wp_walk using walk
      exact ⟨_, rfl, fin⟩
theorem call_enumB {P : Program} {w : World} {A : Around} {E : Value → Shared → Prop} {s : Shared} {v : Value} {ob : Obj} {Hh : Heap → Prop} {Q : Value → Shared → Prop} (B : PySem.Begins v ob Hh) (h1 : Hh s.heap)
    (q : ∀ h', IsEnum h' (s.heap.objs.size + 1) s.heap.objs.size 0 .none → h'.get? s.heap.objs.size = some ob → h'.objs.size = s.heap.objs.size + 2 → (∀ b o, s.heap.get? b = some o → h'.get? b = some o) → Q (.ref (s.heap.objs.size + 1)) { s with heap := h' }) :
    wpAny (model P w) A (call (.type "enumerate") [v]) Q E s := by
  refine callType_new F.called_enumerate (by decide) (F.typeCall_enumerate_1 _) (F.newCall_enumerate_1 _) (fun obj => F.args_object_init_2 obj _) F.entry_enumerate_new (meets_enumB B) ⟨h1, ?_⟩
  have two : (s.heap.push ob).objs.size = s.heap.objs.size + 1 := Heap.size_push ..
  show _ ∧ _
  rw [two]
  have made := Heap.get?_push_size (s.heap.push ob) (o := { cls := .type "enumerate", data := .fields #[.none, .bool false, .ref s.heap.objs.size, rawInt 0, .none, .none] }) rfl
  rw [two] at made
  exact ⟨⟨_, made, rfl⟩, q _ made (Heap.get?_push_of_some _ (Heap.get?_push_size _ B.free)) (by rw [Heap.size_push, two]) fun b o e => Heap.get?_push_of_some _ (Heap.get?_push_of_some _ e)⟩
/-- the tuple at a as it stands at each turn, each item in a new pair -/
def IteT (K : PySem.W.Frag) (a : Addr) : It :=
  ⟨fun i H => ∃ (xs : List V) (x : V), SqT K H a xs ∧ xs[i]? = some x, fun i H v H' => ∃ T x, v = .ref T ∧ H T = none ∧ H' = upd H T (.tup [.int (i : Nat), x]) ∧ ∀ xs, SqT K H a xs → xs[i]? = some x, fun i H => ∃ xs : List V, SqT K H a xs ∧ xs.length ≤ i⟩
theorem enum_not_tup {h : Heap} {e it a : Addr} {c : Int} {old : Value} {its : Array Value} (he : IsEnum h e it c old) (ht : h.IsTuple a its) : e ≠ a := fun z => by
  obtain ⟨o, ho, hc, _⟩ := ht
  rw [← z] at ho
  have e2 := Option.some.inj (he.symm.trans ho)
  rw [← e2] at hc
  have hc' : ("enumerate" : String) = "tuple" := Value.type.inj hc
  exact absurd hc' (by decide)
theorem turn_enumT {P : Program} {w : World} {K : PySem.W.Frag} {elts : List Expr} {kk : Nat} {tpos : Pos} (a e it : Addr) (hai : a ≠ it) :
    Turn P w K (.Tuple elts kk tpos) (IteT K a) [e, it] e (fun i h => (∃ old, IsEnum h e it ((i : Nat) : Int) old) ∧ h.IsTupleIter it a i ∧ e ≠ it) where
  mem := by simp
  obj := fun i h st b hb => by
    obtain ⟨⟨old, he⟩, ⟨o, ho, hc, hd⟩, _⟩ := st
    rcases (show b = e ∨ b = it by simpa using hb) with rfl | rfl
    · exact ⟨_, he, fun v q => nomatch q⟩
    · exact ⟨o, ho, fun v q => by rw [hd] at q; cases q⟩
  keep := fun i h h' st k => ⟨⟨st.1.choose, k e (by simp) _ st.1.choose_spec⟩, st.2.1.at fun o q => k it (by simp) o q, st.2.2⟩
  item := by
    intro X hP hw hK hc i pins s σ H E I hf st hg
    subst hP hw hK
    obtain ⟨⟨old, he⟩, hit, hne⟩ := st
    obtain ⟨xs, x, hq, hx⟩ := hg
    obtain ⟨its, rv, p, hz⟩ := I.tuple hq
    have p' : s.heap.IsTuple a its.toArray := p
    obtain ⟨u, hu, ru⟩ := rv.get hx
    have hea := enum_not_tup he p'
    have hel : e < s.heap.objs.size := Heap.lt_size he
    have hil : it < s.heap.objs.size := by obtain ⟨_, q, _⟩ := hit; exact Heap.lt_size q
    have hlt : i < its.toArray.size := by
      have := (List.getElem?_eq_some_iff.mp hu).1
      simpa using this
    refine wpAny_pyNext_enum_itemD (PySem.Draws.tuple (prog := X.prog) (w := X.w) (A := X.A.in1) (show X.A.in1.handled = none from I.ok.hd hc) it a hai its.toArray) he ⟨hit, p'⟩ hlt hne (by simp [hne, hea]) fun y h' tk hy ho st' hT hsz hk => ?_
    obtain rfl : u = y := by
      have hy' : its.toArray[i]? = some y := hy
      rw [List.getElem?_toArray, hu] at hy'
      exact Option.some.inj hy'
    refine ⟨_, rfl, wpAny_letOwnedTupleGo_enum (s := { s with heap := h', toks := tk + 1 }) ho fun h'' he' sb => ?_⟩
    have hT2 : h''.get? s.heap.objs.size = some { cls := .type "tuple", data := .seq #[.int i tk, u] } := (sb.2 _ (Nat.ne_of_gt hel)).trans hT
    have fresh_ : ObjOk X.prog X.w (upd H s.heap.objs.size (.tup [.int (i : Nat), x])) h'' s.heap.objs.size (.tup [.int (i : Nat), x]) :=
      ⟨by show 2 ≤ sizeLine; decide, [.int i tk, u], .cons ⟨_, rfl⟩ (.cons ru .nil), ⟨_, hT2, rfl, _, rfl⟩⟩
    have I1 : Inv X pins σ (upd H s.heap.objs.size (.tup [.int (i : Nat), x])) { s with heap := h'', toks := tk + 1 } :=
      I.turnedNew (ch := [e, it]) (fun b o hb q => (sb.2 b (fun z => hb (by simp [z]))).trans (hk b o (fun z => hb (by simp [z])) (fun z => hb (by simp [z])) q)) hf (Nat.le_refl _) fresh_
    refine ⟨.ref s.heap.objs.size, _, I1, rfl, ⟨_, x, rfl, I.hok.fresh (Nat.le_refl _), rfl, fun ys hy => by rw [I.tuple_inj hy hq]; exact hx⟩, ⟨⟨u, ?_⟩, st'.1.at fun o q => (sb.2 it (Ne.symm hne)).trans q, hne⟩, fun b hb => ?_⟩
    · rw [show ((i + 1 : Nat) : Int) = (i : Int) + 1 by omega]
      exact he'
    · have hb' : b < s.heap.objs.size := by
        rcases (show b = e ∨ b = it by simpa using hb) with rfl | rfl
        · exact hel
        · exact hil
      rw [upd_ne (Nat.ne_of_lt hb')]
      exact (hf b hb).1
  done := by
    intro X hP hw hK hc i pins s σ H E I hf st hg
    subst hP hw hK
    obtain ⟨⟨old, he⟩, hit, hne⟩ := st
    obtain ⟨xs, hq, hx⟩ := hg
    obtain ⟨its, rv, p, hz⟩ := I.tuple hq
    have p' : s.heap.IsTuple a its.toArray := p
    obtain ⟨f0, f1, f2, f3, f4, f5⟩ := hf it (by simp)
    have hl := rv.length
    have hnone : its.toArray[i]? = none := by simp; omega
    have hT : s.TypeIs (.ref e) "enumerate" := ⟨_, he, rfl⟩
    unfold pyNext
    refine wpAny_bind (wpAny_attempt (wpAny_callSpecial?_slot (name := Str.ofString "__next__") hT F.slot_enumerate_next (wpAny_call_entry F.slot_enumerate_next hT F.entry_enumerate_next ?_ (F.args_enumerate_next_1 _))))
    show wpAny _ _ (field (.ref e) 2 >>= _) _ _ _
    refine wpAny_bind (wpAny_field he rfl (x := .ref it) rfl ?_)
    refine wpAny_bind (PySem.wpAny_nextOf_tuple_end (I.ok.hd hc) hit p' hnone fun h' x eb hx' => ?_)
    obtain ⟨o, ho, hcl⟩ := hx'
    refine wpAny_bind (wpAny_isInstance (T := "StopIteration") (b := true) ⟨o, ho, hcl⟩ isSubtype_stop ?_)
    exact wpAny_pure ⟨rfl, I.turned (t' := s.toks) (fun b o hb q => eb b o hb q) f0 f1 f3 f4 f5⟩
  self := fun A i s Q E st h => wpAny_pyIter_enum st.1.choose_spec h
def iEnumT (K : PySem.W.Frag) (ta : TA) : TI := fun σ H R => ta σ H fun vs H1 => ∃ a xs, vs = [.ref a] ∧ SqT K H1 a xs ∧ R (IteT K a) H1
theorem pi_enumT {X : Cx} {e : Expr} {ta : TA} {p pos tpos : Pos} {elts : List Expr} {kk : Nat} (hg : Gl X "enumerate") (hm : X.mg "enumerate" = none) (ha : PA X [e] ta) (hs : starEach [e] X.env = [(false, eval e X.env)] := by rfl) :
    PI X (.Tuple elts kk tpos) (.Call (.Name "enumerate" p) [e] [] pos) (iEnumT X.K ta) := by
  refine ⟨fun pins s σ H R I h => Call_ (ld_blt I hg hm boot_enumerate (PyProof.Rows.callWith_type1 (thn (ha.run pos pins s σ H _ I h) fun us s1 ⟨vs, H1, I1, r1, a, xs, ex, hq, q⟩ => ?_) hs rfl))⟩
  subst ex
  cases r1 with
  | cons r rr =>
    cases rr
    cases r
    obtain ⟨its, rv, pt, hz⟩ := I1.tuple hq
    have hla : a < s1.heap.objs.size := by obtain ⟨_, z, _⟩ := id pt; exact Heap.lt_size z
    refine call_enumB (PySem.begins_tuple a its.toArray) pt fun h' he hit hsz hk => wpAny_pyIter_enum he ?_
    have I2 : Inv X pins σ H1 { s1 with heap := h' } := I1.kept (t' := s1.toks) hk
    refine ⟨s1.heap.objs.size + 1, [s1.heap.objs.size + 1, s1.heap.objs.size], _, _, H1, rfl, I2, turn_enumT a (s1.heap.objs.size + 1) s1.heap.objs.size (Nat.ne_of_lt hla), ⟨⟨.none, he⟩, ⟨_, hit, rfl, rfl⟩, Nat.succ_ne_self _⟩, fun b hb => ?_, q⟩
    have hle : s1.heap.objs.size ≤ b := by
      rcases (show b = s1.heap.objs.size + 1 ∨ b = s1.heap.objs.size by simpa using hb) with rfl | rfl
      · exact Nat.le_add_right _ _
      · exact Nat.le_refl _
    exact I1.fpOk hle (I1.hok.fresh hle)
/-! ### f(k = v, ..), keywords alone -/
theorem pe_callK0 {X : Cx} {CX : CXT} {k : Nat} {f : Addr} {fd : FuncData} {ps ks : List Str} {sp : Sp} {E : XK} {x : Str} {p pos : Pos} {kws : List Keyword} {tk : TA} {g : List Value → List Value → List Value} {gV : List V → List V → List V}
    (F : FnOk X.prog X.w X.K X.mg X.base CX k f fd ps sp) (hr : Room k X.A) (hg : Gl X x) (hm : X.mg x = some (.ref f)) (hk : PySem.W.keepIn X.K (.ref f) = true) (hb : KBinds X.K fd ps ks g gV) (hx : Passes CX X E) (hkw : PK X kws tk)
    (hall : (backToKw pos (keywordEach kws X.env)).all (·.1.isSome) = true := by rfl) (hks : (backToKw pos (keywordEach kws X.env)).filterMap (·.1) = ks := by rfl) (hdb : (x == ("__debug__" : Str)) = false := by decide)
    (hpl : ((backTo pos (starEach [] X.env)).any (·.1) || (backToKw pos (keywordEach kws X.env)).any (·.1.isNone)) = false := by rfl) :
    PE X (.Call (.Name x p) [] kws pos) (tCallK sp gV E tNil tk) := by
  refine ⟨fun pins s σ H Q I h => wpAny_Call_Name_kw (ld_glob I hg hm ?_ hdb)⟩
  refine PySem.W.callWith_KW0 (h₀ := X.base) I.ok.mod.kin hk hall (thn (hkw.run pos pins s σ H _ I h) fun ws s2 ⟨zs, H2, I2, rz, q2⟩ => ⟨I2.kIn, ?_⟩) hpl
  rw [hks]
  exact run_fnk (us := []) (vs := []) F hr hb hx I2 .nil rz q2
/-! ### xs.count(z), texts -/
theorem eqU_count {z : Str} {t : Tok} : ∀ {us : List Value} {ys : List Str}, Vals (ys.map V.str) us → us.countP (eqU (.str z)) = ys.count z
  | [], [], _ => rfl
  | u :: us, y :: ys, h => by
    cases h with
    | cons r rr =>
      have ih := eqU_count (z := z) (t := t) rr
      obtain ⟨t', rfl⟩ := r
      rw [List.countP_cons, List.count_cons, ih]
      rfl
  | [], _ :: _, h => by cases h
  | _ :: _, [], h => by cases h
def rCntS (K : PySem.W.Frag) : V → List V → Hp → VK → Prop := fun x xs H Q => ∃ (p : Addr) (ys : List Str) (z : Str), x = .ref p ∧ xs = [.str z] ∧ SqL K H p (ys.map V.str) ∧ Q (.int (ys.count z : Nat)) H
theorem mt_countS {X : Cx} : MtR X "list.count" (rCntS X.K) := by
  intro pins s σ H x xs v us Q I rx rxs h
  obtain ⟨p, ys, z, rfl, rfl, hs, q⟩ := h
  cases rx
  obtain ⟨u, rfl, t, rfl⟩ := vals1 rxs
  obtain ⟨its, rv, ⟨⟨cls, dd, data, sl⟩, n, ho, hc, hdn, hd⟩, hlen⟩ := I.list hs
  simp only at hc hd
  subst hc hd
  refine call_meets PySem.F.slot_list_count ⟨_, ho, rfl⟩ PySem.F.entry_list_count (PySem.F.args_list_count_2 _ _) (SeqAt.list_countAt p its.toArray n dd sl (.str z t) (eqU (.str z)))
    ⟨ho, fun w hw => mem_eqAt (x := .str z) ⟨t, rfl⟩ rfl rv (L2.flat_strs ys) w (by simpa using hw), .int (ys.count z : Nat), H, I.tok _, ⟨s.toks, ?_⟩, q⟩
  show Value.int ((its.toArray.toList.countP (eqU (.str z)) : Nat) : Int) s.toks = Value.int ((ys.count z : Nat) : Int) s.toks
  rw [show its.toArray.toList.countP (eqU (.str z)) = ys.count z from eqU_count (t := t) rv]
end VG

set_option maxRecDepth 100000
set_option maxHeartbeats 8000000
/-! isinstance(e, C), e a caught and kept error of an own class, C that class or another one; t.index of flat things. -/
namespace VG
open PySem PySem.Spec PySem.Calls PyProof.Rows L2 LamX
/-- what an error's class tells, so that its instances answer isinstance -/
structure IsC (K : PySem.W.Frag) (D : Addr) : Prop where
  f : XfC K D
  a : PySem.W.findIn K (.ref D) "__class__" = some (some (.builtin "object.__class__"))
  g : PySem.W.specialIn K (.builtin "object.__class__") "__get__" = some (some (.builtin "getset_descriptor.__get__"))
  t : PySem.W.takesIn K (.builtin "object.__class__") = some true
  m : PySem.W.mroIn K D (.type "object") = some true
def isCB (K : PySem.W.Frag) (D : Addr) : Bool := xfB K D && (decide (PySem.W.findIn K (.ref D) "__class__" = some (some (.builtin "object.__class__"))) && (decide (PySem.W.specialIn K (.builtin "object.__class__") "__get__" = some (some (.builtin "getset_descriptor.__get__"))) &&
  (decide (PySem.W.takesIn K (.builtin "object.__class__") = some true) && decide (PySem.W.mroIn K D (.type "object") = some true))))
theorem isCB_ok {K : PySem.W.Frag} {D : Addr} (h : isCB K D = true) : IsC K D := by
  unfold isCB at h
  simp only [Bool.and_eq_true, decide_eq_true_eq] at h
  exact ⟨xfB_ok h.1, h.2.1, h.2.2.1, h.2.2.2.1, h.2.2.2.2⟩
section
variable {K : PySem.W.Frag} {D x : Addr} {ob : Obj} {od : Option Obj}
theorem IsC.cls (C : IsC K D) : ∃ cd, PySem.W.clsIn K D = some cd := by
  obtain ⟨cd, e, _⟩ := PySem.W.any_some C.f.hdC
  exact ⟨cd, e⟩
theorem IsC.bound (C : IsC K D) : PySem.W.findObj K D od "__class__" = some (.bind (.builtin "getset_descriptor.__get__") (.builtin "object.__class__")) := by
  obtain ⟨cd, e⟩ := C.cls
  unfold PySem.W.findObj
  simp only [e, C.a, C.g, C.t, Option.bind_some]
/-- e.__class__ -/
theorem IsC.ask {prog : Program} {w : World} {A : Around} {E : Value → Shared → Prop} {s : Shared} {Q : Option Value → Shared → Prop} (C : IsC K D) (kin : K.In s.heap) (J : PySem.W.InstAt s.heap x ob D od) (q : Q (some (.ref D)) { s with toks := s.toks + 1 }) :
    wpAny (model prog w) A (getAttr? (.ref x) "__class__") Q E s := by
  obtain ⟨hp, gs, dr, tk, os⟩ := s
  have ty := J.type (M := model prog w)
  have below : PySem.W.Looks (model prog w) hp (isInstance (.ref x) (.type "BaseException")) true := ty.andThen (PySem.W.looks_subIn kin C.f.exC)
  have far : (Value.builtin "BaseException.__getattribute__" == Value.builtin "object.__getattribute__") = false := by decide +kernel
  have far2 : (onTheHeap (Value.ref D) && Value.builtin "BaseException.__getattribute__" == Value.builtin "object.__getattribute__") = false := by rw [far]; rfl
  unfold getAttr? getAttrBy? getAttrBy
  refine wpAny_bind (wpAny_mkText (wpAny_bind (wpAny_attempt (wpAny_holding (wpAny_bind (ty.at (wpAny_bind ((PySem.W.looks_findIn (M := model prog w) kin C.f.ga).at ?_))))))))
  show wpAny _ _ (if (onTheHeap (Value.ref D) && Value.builtin "BaseException.__getattribute__" == Value.builtin "object.__getattribute__") = true then _ else _) _ _ _
  rw [far2, if_neg Bool.false_ne_true]
  unfold getAttrByItsOwn hookBefore
  refine wpAny_bind ?_
  rw [if_pos (show onTheHeap (Value.ref D) = true from rfl)]
  refine (PySem.W.looks_findIn (M := model prog w) kin C.f.gg).at (wpAny_bind (wpAny_attempt (wpAny_holding ?_)))
  unfold callGetattribute
  rw [show (false && onTheHeap (Value.builtin "BaseException.__getattribute__")) = false from rfl, if_neg Bool.false_ne_true]
  unfold boundAndCalled
  rw [PySem.F.excAttr_ValueError.ga.bind (.ref x)]
  refine wpAny_bind (wpAny_pure ?_)
  show wpAny _ _ (call (.builtin "BaseException.__getattribute__") [.ref x, .str "__class__" tk]) _ _ _
  refine wpAny_call (codeAny_call_builtin PySem.F.excAttr_ValueError.ga.plain PySem.F.entry_bexc_ga (@PySem.W.check_slot (model prog w) _ _ ⟨hp, gs, dr, tk + 1, os⟩ "BaseException.__getattribute__" "BaseException" "__getattribute__" (.ref x) [.str "__class__" tk] [] _ (by decide +kernel) (by decide +kernel) below (PySem.F.args_bexc_ga (.ref x) (.str "__class__" tk)) ?_))
  unfold Builtin.«object.__getattribute__»
  refine wpAny_bind (wpAny_of_eq (a := ((Value.ref x : Value), [Value.str "__class__" tk])) (by first | rfl | (simp only [slotArgs]; rfl)) (wpAny_bind (wpAny_pure (wpAny_bind (ty.at (wpAny_bind ((PySem.W.looks_find (M := model prog w) kin J C.bound).at ?_)))))))
  show wpAny _ _ (holding [Value.builtin "object.__class__"] (call (.builtin "getset_descriptor.__get__") [.builtin "object.__class__", .ref x, .ref D]) >>= ret) _ _ _
  refine wpAny_bind (wpAny_holding (wpAny_call (PySem.W.class_get (s := ⟨hp, gs, dr, tk + 1, os⟩) (ox := ob) (od := od) kin J C.m (wpAny_pure ?_))))
  show wpAny _ _ (handedOut (.ref D)) _ _ _
  rw [PySem.W.handedOut_of (v := .ref D) rfl]
  first
    | exact wpAny_pure (wpAny_pure q)
    | exact wpAny_pure q
    | exact wpAny_pure (wpAny_bind (wpAny_pure (wpAny_pure q)))
theorem IsC.kit (C : IsC K D) : PySem.W.KitX K (.ref x) (.ref D) (fun h => PySem.W.InstAt h x ob D od) where
  ty := fun _ _ _ J => J.type
  it := fun _ h kin _ => by
    obtain ⟨cd, e⟩ := C.cls
    unfold PySem.W.clsIn at e
    split at e
    · rename_i c1 d1 cd1 sl1 ho
      intro A' Q' E' s' k q
      unfold isType loadHead
      exact wpAny_bind (wpAny_loadPart (k _ _ (kin _ _ ho)) (wpAny_pure q))
    · cases e
  ne := fun h tp dd its n sl kin htp => by
    obtain ⟨cd, e⟩ := C.cls
    refine Bool.eq_false_iff.mpr fun z => ?_
    obtain rfl := Value.ref.inj (beq_iff_eq.mp z)
    unfold PySem.W.clsIn at e
    split at e
    · rename_i c1 d1 cd1 sl1 ho
      have y := (kin _ _ ho).symm.trans htp
      cases y
    · cases e
  ca := fun kin J k => C.ask kin J k
end
/-- isinstance(e, C) -/
def rIsErrB (K : PySem.W.Frag) : List V → Hp → VK → Prop := fun xs H Q => ∃ (a D C d : Addr) (fs : List (Str × V)) (b : Bool), xs = [.ref a, .ref C] ∧ H a = some (ErrO D d a) ∧ H d = some (.xd fs) ∧ IsC K D ∧ PySem.W.kitOne K (.ref D) (.ref C) = some b ∧ Q (.bl b) H
theorem call_isErrB {X : Cx} : CallR X (.builtin "isinstance") (rIsErrB X.K) := by
  intro pp s σ H xs vus Q I r h
  obtain ⟨a, D, C, d, fs, b, rfl, ha, hd, T, e, q⟩ := h
  obtain ⟨u1, u2, rfl, r1, r2⟩ := vals2 r
  cases r1; cases r2
  obtain ⟨oe, fv, h1, hz, hfv⟩ := err_get I ha
  obtain ⟨mA, nsd, hr⟩ := (show ObjOk X.prog X.w H s.heap d (.xd fs) from I.hok d _ hd)
  obtain ⟨odd_, look_, lkd⟩ := lookIn_ns nsd
  have J : PySem.W.InstAt s.heap a oe D (some odd_) := ⟨h1, hz.1, by unfold PySem.W.notCls; rw [hfv] <;> rfl, by rw [hz.2]; exact look_⟩
  exact PySem.W.kia_one T.kit I.kIn J e (fun z => nomatch z) fun tk => ⟨.bl b, H, I.kept (t' := tk) fun _ _ z => z, rfl, q⟩
/-- t.index(y), flat things -/
def rTupIx (K : PySem.W.Frag) : V → List V → Hp → VK → Prop := fun x xs H Q => ∃ (p : Addr) (ys : List V) (y z : V) (j : Nat), x = .ref p ∧ xs = [y] ∧ SqT K H p ys ∧ flatV y = true ∧ ys.all flatV = true ∧ ys[j]? = some z ∧ eqV z y = true ∧ (∀ m z', m < j → ys[m]? = some z' → eqV z' y = false) ∧ Q (.int (j : Nat)) H
theorem mt_tup_indexF {X : Cx} : MtR X "tuple.index" (rTupIx X.K) := by
  intro pins s σ H x xs v us Q I rx rs h
  obtain ⟨p, ys, y, z, j, rfl, rfl, hq, fy, fys, hj, ej, no, q⟩ := h
  cases rx
  obtain ⟨u, rfl, ru⟩ := vals1 rs
  obtain ⟨its, r, ⟨⟨cls, dd, dt, sl⟩, ho, hc, n, hd⟩, hz⟩ := I.tuple hq
  simp only at hc hd
  subst hc hd
  have len := r.length
  have item : ∀ (m : Nat) (hm : m < its.toArray.size) (w : V), ys[m]? = some w → eqU y its.toArray[m] = eqV w y := fun m hm w hw => by
    obtain ⟨u', hu', ru'⟩ := r.get hw
    have e : its.toArray[m] = u' := by
      have := (List.getElem?_eq_some_iff.mp hu').2
      simpa using this
    rw [e, eqU_of ru' (List.all_eq_true.mp fys w (List.mem_of_getElem? hw))]
  have jlt : j < its.toArray.size := by
    have := (List.getElem?_eq_some_iff.mp hj).1
    rw [List.size_toArray]
    omega
  refine call_meets PySem.F.slot_tuple_index ⟨_, ho, rfl⟩ PySem.F.entry_tuple_index (PySem.F.args_tuple_index_2 _ _) (TI.tuple_indexAt p its.toArray n dd sl u (eqU y) j jlt ?_ ?_)
    ⟨ho, fun w hw => mem_eqAt ru fy r fys w (by simpa using hw), ⟨.int (j : Nat), H, I.tok _, ⟨_, rfl⟩, q⟩⟩
  · rw [item j jlt z hj]
    exact ej
  · intro m hm hmj
    have hm' : m < ys.length := by rw [List.size_toArray] at hm; omega
    rw [item m hm ys[m] (List.getElem?_eq_getElem hm')]
    exact no m _ hmj (List.getElem?_eq_getElem hm')
/-- xs.extend(t), t a tuple -/
theorem meets_extT (l : Addr) (its : Array Value) (n : Nat) (b : Addr) (more : Array Value) (n2 : Nat) (dd : Option Addr) (slo : Array (Option Value)) (h0 : ¬(!its.isEmpty && Builtin.List.listTooLong (its.size + more.size)) = true) (h1 : its.size ≤ sizeLine) (h2 : its.size + more.size ≤ sizeLine + 1) :
    Meets (Builtin.«list.extend» ⟨[.ref l, .ref b], []⟩) (fun _ R s => s.heap.get? l = some { cls := .type "list", dict := none, data := .seq its n, slots := #[] } ∧ s.heap.get? b = some { cls := .type "tuple", dict := dd, data := .seq more n2, slots := slo } ∧
      R (.ok (.ret Value.none)) { s with heap := s.heap.update l (Obj.mapSeq fun x => x ++ more), toks := s.toks }) :=
  .of_wp fun prog w A R s all => by
    obtain ⟨hp, gs, dr, tk, os⟩ := s
    obtain ⟨hl, hb, fin⟩ := all
    have k1 := AutoSeq1.idx_int; have k2 := AutoSeq1.sub_tuple_tuple; have k3 := AutoSeq1.sub_list_list; have k4 := AutoSeq1.sub_tuple_list; have k5 := AutoSeq1.sub_list_tuple
    have hz : (its ++ more).size ≤ sizeLine + 1 := by rw [Array.size_append]; exact h2
    wp_walk using (wpAny_updateSeq hl rfl (hz := h1) (_hz' := hz)), AutoSeq1.wpAny_loadPart' hl, AutoSeq1.wpAny_loadPart' hb
    exact ⟨_, rfl, fin⟩
def rExtT (K : PySem.W.Frag) : V → List V → Hp → VK → Prop := fun x vs H Q => ∃ l b xs zs, x = .ref l ∧ vs = [.ref b] ∧ H l = some (.lst xs) ∧ SqT K H b zs ∧ xs.length + zs.length ≤ sizeLine ∧ Q .non (upd H l (.lst (xs ++ zs)))
theorem mt_extT {X : Cx} : MtM X "list.extend" (rExtT X.K) := by
  intro pins s σ H x vs v us Q I rx rv h
  obtain ⟨l, b, xs, zs, rfl, rfl, hH, hB, hz, q⟩ := h
  cases rx
  obtain ⟨u, rfl, ru⟩ := rv.one
  cases ru
  obtain ⟨z, its, n, r, hl, e⟩ := I.lstM hH
  obtain ⟨more, r2, ⟨⟨cls, dd, dt, slo⟩, ho, hc, n2, hd⟩, _⟩ := I.tuple hB
  simp only at hc hd
  subst hc hd
  have l1 := r.length
  have l2 := r2.length
  have room : its.toArray.size + more.toArray.size ≤ sizeLine := by rw [List.size_toArray, List.size_toArray]; omega
  have short : ¬ (!its.toArray.isEmpty && Builtin.List.listTooLong (its.toArray.size + more.toArray.size)) = true := by
    rw [notLongL room, Bool.and_false]
    exact Bool.false_ne_true
  refine call_meets PySem.F.slot_list_extend ⟨_, e, rfl⟩ PySem.F.entry_list_extend (PySem.F.args_list_extend_2 _ _) (meets_extT l its.toArray n b more.toArray n2 dd slo short (by rw [List.size_toArray]; omega) (by omega)) ⟨e, ho, ?_⟩
  refine ⟨.non, _, I.lset (its' := its ++ more) hH e (by simp) (r.append r2) ?_, rfl, q⟩
  rw [List.length_append]
  omega
end VG

set_option maxRecDepth 100000
set_option maxHeartbeats 8000000
/-! Rules of our own: enumerate of a text; d.update(e). -/
namespace VG
open PySem PySem.Spec PyProof.Rows L2 LamX
/-- the text's signs, each in a new pair -/
def IteS (x : Str) : It :=
  ⟨fun i _ => i < x.cps.size, fun i H v H' => ∃ T c, x.cps[i]? = some c ∧ v = .ref T ∧ H T = none ∧ H' = upd H T (.tup [.int (i : Nat), .str ⟨#[c]⟩]), fun i _ => x.cps.size ≤ i⟩
theorem turn_enumS {P : Program} {w : World} {K : PySem.W.Frag} {elts : List Expr} {kk : Nat} {tpos : Pos} (x : Str) (t : Tok) (e it : Addr) :
    Turn P w K (.Tuple elts kk tpos) (IteS x) [e, it] e (fun i h => (∃ old, IsEnum h e it ((i : Nat) : Int) old) ∧ h.IsStrIter it (strIterType x) x t i ∧ e ≠ it) where
  mem := by simp
  obj := fun i h st b hb => by
    obtain ⟨⟨old, he⟩, ⟨o, ho, hc, hd⟩, _⟩ := st
    rcases (show b = e ∨ b = it by simpa using hb) with rfl | rfl
    · exact ⟨_, he, fun v q => nomatch q⟩
    · exact ⟨o, ho, fun v q => by rw [hd] at q; cases q⟩
  keep := fun i h h' st k => ⟨⟨st.1.choose, k e (by simp) _ st.1.choose_spec⟩, (let ⟨o, ho, r⟩ := st.2.1; ⟨o, k it (by simp) o ho, r⟩), st.2.2⟩
  item := by
    intro X hP hw hK hc i pins s σ H E I hf st hg
    subst hP hw hK
    obtain ⟨⟨old, he⟩, hit, hne⟩ := st
    have hel : e < s.heap.objs.size := Heap.lt_size he
    have hil : it < s.heap.objs.size := by obtain ⟨_, q, _⟩ := id hit; exact Heap.lt_size q
    refine wpAny_pyNext_enum_itemD (PySem.Draws.text (prog := X.prog) (w := X.w) (A := X.A.in1) (show X.A.in1.handled = none from I.ok.hd hc) it x t) he hit hg hne (by simp [hne]) fun y h' tk hy ho st' hT hsz hk => ?_
    obtain ⟨c, u, hcx, rfl⟩ := hy
    refine ⟨_, rfl, wpAny_letOwnedTupleGo_enum (s := { s with heap := h', toks := tk + 1 }) ho fun h'' he' sb => ?_⟩
    have hT2 : h''.get? s.heap.objs.size = some { cls := .type "tuple", data := .seq #[.int i tk, .str ⟨#[c]⟩ u] } := (sb.2 _ (Nat.ne_of_gt hel)).trans hT
    have fresh_ : ObjOk X.prog X.w (upd H s.heap.objs.size (.tup [.int (i : Nat), .str ⟨#[c]⟩])) h'' s.heap.objs.size (.tup [.int (i : Nat), .str ⟨#[c]⟩]) :=
      ⟨by show 2 ≤ sizeLine; decide, [.int i tk, .str ⟨#[c]⟩ u], .cons ⟨_, rfl⟩ (.cons ⟨_, rfl⟩ .nil), ⟨_, hT2, rfl, _, rfl⟩⟩
    have I1 : Inv X pins σ (upd H s.heap.objs.size (.tup [.int (i : Nat), .str ⟨#[c]⟩])) { s with heap := h'', toks := tk + 1 } :=
      I.turnedNew (ch := [e, it]) (fun b o hb q => (sb.2 b (fun z => hb (by simp [z]))).trans (hk b o (fun z => hb (by simp [z])) (fun z => hb (by simp [z])) q)) hf (Nat.le_refl _) fresh_
    refine ⟨.ref s.heap.objs.size, _, I1, rfl, ⟨_, c, hcx, rfl, I.hok.fresh (Nat.le_refl _), rfl⟩, ⟨⟨.str ⟨#[c]⟩ u, ?_⟩, (let ⟨o, ho, r⟩ := st'; ⟨o, (sb.2 it (Ne.symm hne)).trans ho, r⟩), hne⟩, fun b hb => ?_⟩
    · rw [show ((i + 1 : Nat) : Int) = (i : Int) + 1 by omega]
      exact he'
    · have hb' : b < s.heap.objs.size := by
        rcases (show b = e ∨ b = it by simpa using hb) with rfl | rfl
        · exact hel
        · exact hil
      rw [upd_ne (Nat.ne_of_lt hb')]
      exact (hf b hb).1
  done := by
    intro X hP hw hK hc i pins s σ H E I hf st hg
    subst hP hw hK
    obtain ⟨⟨old, he⟩, hit, hne⟩ := st
    obtain ⟨f0, f1, f2, f3, f4, f5⟩ := hf it (by simp)
    have hnone : x.cps[i]? = none := Array.getElem?_eq_none hg
    have hT : s.TypeIs (.ref e) "enumerate" := ⟨_, he, rfl⟩
    unfold pyNext
    refine wpAny_bind (wpAny_attempt (wpAny_callSpecial?_slot (name := Str.ofString "__next__") hT F.slot_enumerate_next (wpAny_call_entry F.slot_enumerate_next hT F.entry_enumerate_next ?_ (F.args_enumerate_next_1 _))))
    show wpAny _ _ (field (.ref e) 2 >>= _) _ _ _
    refine wpAny_bind (wpAny_field he rfl (x := .ref it) rfl ?_)
    cases ha : x.cps.all (· < 128)
    · have hit : s.heap.IsStrIter it "str_iterator" x t i := by unfold strIterType at hit; rw [ha] at hit; exact hit
      refine wpAny_bind (wpAny_nextOf_wide_end (I.ok.hd hc) hit hnone fun h' x eb hx' => ?_)
      obtain ⟨o, ho, hcl⟩ := hx'
      refine wpAny_bind (wpAny_isInstance (T := "StopIteration") (b := true) ⟨o, ho, hcl⟩ isSubtype_stop ?_)
      exact wpAny_pure ⟨rfl, I.turned (t' := s.toks) (fun b o hb q => eb b o hb q) f0 f1 f3 f4 f5⟩
    · have hit : s.heap.IsStrIter it "str_ascii_iterator" x t i := by unfold strIterType at hit; rw [ha] at hit; exact hit
      refine wpAny_bind (wpAny_nextOf_ascii_end (I.ok.hd hc) hit hnone fun h' x eb hx' => ?_)
      obtain ⟨o, ho, hcl⟩ := hx'
      refine wpAny_bind (wpAny_isInstance (T := "StopIteration") (b := true) ⟨o, ho, hcl⟩ isSubtype_stop ?_)
      exact wpAny_pure ⟨rfl, I.turned (t' := s.toks) (fun b o hb q => eb b o hb q) f0 f1 f3 f4 f5⟩
  self := fun A i s Q E st h => wpAny_pyIter_enum st.1.choose_spec h
def iEnumS (ta : TA) : TI := fun σ H R => ta σ H fun vs H1 => ∃ x : Str, vs = [.str x] ∧ R (IteS x) H1
theorem pi_enumS {X : Cx} {e : Expr} {ta : TA} {p pos tpos : Pos} {elts : List Expr} {kk : Nat} (hg : Gl X "enumerate") (hm : X.mg "enumerate" = none) (ha : PA X [e] ta) (hs : starEach [e] X.env = [(false, eval e X.env)] := by rfl) :
    PI X (.Tuple elts kk tpos) (.Call (.Name "enumerate" p) [e] [] pos) (iEnumS ta) := by
  refine ⟨fun pins s σ H R I h => Call_ (ld_blt I hg hm boot_enumerate (PyProof.Rows.callWith_type1 (thn (ha.run pos pins s σ H _ I h) fun us s1 ⟨vs, H1, I1, r1, x, ex, q⟩ => ?_) hs rfl))⟩
  subst ex
  cases r1 with
  | cons r rr =>
    cases rr
    obtain ⟨t, rfl⟩ := r
    refine call_enumB (PySem.begins_text x t) trivial fun h' he hit hsz hk => wpAny_pyIter_enum he ?_
    have I2 : Inv X pins σ H1 { s1 with heap := h' } := I1.kept (t' := s1.toks) hk
    refine ⟨s1.heap.objs.size + 1, [s1.heap.objs.size + 1, s1.heap.objs.size], _, _, H1, rfl, I2, turn_enumS x t (s1.heap.objs.size + 1) s1.heap.objs.size, ⟨⟨.none, he⟩, ⟨_, hit, rfl, rfl⟩, Nat.succ_ne_self _⟩, fun b hb => ?_, q⟩
    have hle : s1.heap.objs.size ≤ b := by
      rcases (show b = s1.heap.objs.size + 1 ∨ b = s1.heap.objs.size by simpa using hb) with rfl | rfl
      · exact Nat.le_add_right _ _
      · exact Nat.le_refl _
    exact I1.fpOk hle (I1.hok.fresh hle)
section
variable {X : Cx}
def rUpdate : V → List V → Hp → VK → Prop := fun x vs H Q => ∃ (a b : Addr) (kvs more : List (Key × V)), x = .ref a ∧ vs = [.ref b] ∧ a ≠ b ∧ H a = some (.dK kvs) ∧ H b = some (.dK more) ∧ kvs.length + more.length ≤ sizeLine ∧ Q .non (upd H a (.dK (mergeK kvs more)))
theorem mt_update : MtM X "dict.update" rUpdate := by
  intro pins s σ H x vs v us Q I rx rv h
  obtain ⟨a, b, kvs, more, rfl, rfl, hne, ha, hb, hz, q⟩ := h
  cases rx
  cases rv with
  | cons r1 r2 =>
    cases r2
    cases r1
    obtain ⟨z, hd, ws, rel, dd⟩ := dk_of I.hok ha
    obtain ⟨z2, hd2, ws2, rel2, dd2⟩ := dk_of I.hok hb
    have hz' : ws.length + ws2.length ≤ sizeLine := by rw [← rel.length, ← rel2.length]; exact hz
    refine call_meetsIn PySem.F.slot_dict_update dd.typeIs PySem.F.entry_dict_update (PySem.F.args_dict_update_2 _ _) (meets_dict_update (mixKind X.prog X.w) a b hne hd2) ⟨ws, ws2, dd, dd2, hz', fun h' dd' _ sb => ?_⟩
    have he : ∃ q, h'.get? a = some q := let ⟨q, _, _, hq, _⟩ := dd'; ⟨q, hq⟩
    refine ⟨.non, _, d_write (t' := s.toks) I (by rw [ha]; exact True.intro) sb he (dk_new ?_ hd (KV.merge rel2 rel) dd'), rfl, q⟩
    exact Nat.le_trans (length_mergeK more kvs) hz
end
end VG

set_option maxRecDepth 100000
set_option maxHeartbeats 4000000
/-! enumerate(xs, start=k), walked. -/
namespace VG
open PySem PySem.Spec PyProof.Rows L2 LamX
section
variable {M : Model} {A : Around} {E : Value → Shared → Prop} {s : Shared} {env : Env}
theorem evalArgs_kwT {f : Value} {x : Sem Value} {rest : List (Bool × Sem Value)} {keywords : List (Option Str × Sem Value)} {Q : Args → Shared → Prop} (hall : keywords.all (·.1.isSome) = true)
    (h : wpAny M A (spliced ((false, x) :: rest)) (fun vs s₁ => wpAny M A (evalAll (keywords.map (·.2))) (fun kvs s₂ => Q ⟨vs, (keywords.filterMap (·.1)).zip kvs⟩ s₂) E s₁) E s) :
    wpAny M A (evalArgs f true ((false, x) :: rest) keywords) Q E s := evalArgs_kwB hall h
theorem callWith_typeK {pos : Pos} {T : String} {e : Expr} {rest : List Expr} {kws : List Keyword} {Q : Value → Shared → Prop}
    (h : wpAny M A (spliced (backTo pos (starEach (e :: rest) env))) (fun vs s₁ => wpAny M A (evalAll ((backToKw pos (keywordEach kws env)).map (·.2)))
      (fun kvs s₂ => wpAny M A (call (.type T) vs (((backToKw pos (keywordEach kws env)).filterMap (·.1)).zip kvs)) Q E s₂) E s₁) E s)
    (he : backTo pos (starEach (e :: rest) env) = (false, eval e env) :: backTo pos (starEach rest env))
    (hplain : ((backTo pos (starEach (e :: rest) env)).any (·.1) || (backToKw pos (keywordEach kws env)).any (·.1.isNone)) = false)
    (hall : (backToKw pos (keywordEach kws env)).all (·.1.isSome) = true) :
    wpAny M A (callWith pos (.type T) [] (backTo pos (starEach (e :: rest) env)) (backToKw pos (keywordEach kws env))) Q E s := by
  unfold callWith
  have h2 : wpAny M A (evalArgs (.type T) true (backTo pos (starEach (e :: rest) env)) (backToKw pos (keywordEach kws env))) (fun a s₁ => wpAny M A (call (.type T) ([] ++ a.pos) a.kw) Q E s₁) E s := by
    rw [he] at h ⊢
    exact evalArgs_kwT hall h
  refine wpAny_bind (wpAny_holding (wpAny_mono h2 (fun a s₁ h₁ => wpAny_bind (wpAny_standAt ?_)) fun _ _ x => x))
  simp only [hplain]
  refine wpAny_bind (wpAny_pure ?_)
  exact wpAny_bind (wpAny_mono h₁ (fun r s₂ hr => wpAny_bind (wpAny_holding (wpAny_point (wpAny_pure hr)))) fun _ _ x => x)
end
/-- the list at a as it stands at each turn, counted from k₀ on -/
def IteK (K : PySem.W.Frag) (a : Addr) (k₀ : Int) : It :=
  ⟨fun i H => ∃ (xs : List V) (x : V), SqL K H a xs ∧ xs[i]? = some x, fun i H v H' => ∃ T x, v = .ref T ∧ H T = none ∧ H' = upd H T (.tup [.int (k₀ + (i : Nat)), x]) ∧ ∀ xs, SqL K H a xs → xs[i]? = some x, fun i H => ∃ xs : List V, SqL K H a xs ∧ xs.length ≤ i⟩
theorem enum_not_list {h : Heap} {e it a : Addr} {c : Int} {old : Value} {its : Array Value} (he : IsEnum h e it c old) (ht : h.IsList a its) : e ≠ a := fun z => by
  obtain ⟨o, ho, hc, _⟩ := ht
  rw [← z] at ho
  have e2 := Option.some.inj (he.symm.trans ho)
  rw [← e2] at hc
  have hc' : ("enumerate" : String) = "list" := Value.type.inj hc
  exact absurd hc' (by decide)
theorem turn_enumK {P : Program} {w : World} {K : PySem.W.Frag} {elts : List Expr} {kk : Nat} {tpos : Pos} (a e it : Addr) (k₀ : Int) (hai : a ≠ it) :
    Turn P w K (.Tuple elts kk tpos) (IteK K a k₀) [e, it] e (fun i h => (∃ old, IsEnum h e it (k₀ + (i : Nat)) old) ∧ h.IsListIter it a i ∧ e ≠ it) where
  mem := by simp
  obj := fun i h st b hb => by
    obtain ⟨⟨old, he⟩, ⟨o, ho, hc, hd⟩, _⟩ := st
    rcases (show b = e ∨ b = it by simpa using hb) with rfl | rfl
    · exact ⟨_, he, fun v q => nomatch q⟩
    · exact ⟨o, ho, fun v q => by rw [hd] at q; cases q⟩
  keep := fun i h h' st k => let ⟨⟨old, he⟩, hi, hne⟩ := st; ⟨⟨old, k e (by simp) _ he⟩, hi.at fun o q => k it (by simp) o q, hne⟩
  item := by
    intro X hP hw hK hc i pins s σ H E I hf st hg
    subst hP hw hK
    obtain ⟨⟨old, he⟩, hit, hne⟩ := st
    obtain ⟨xs, x, hq, hx⟩ := hg
    obtain ⟨its, rv, p, hz⟩ := I.list hq
    obtain ⟨u, hu, ru⟩ := rv.get hx
    have hel : e < s.heap.objs.size := Heap.lt_size he
    have hil : it < s.heap.objs.size := by obtain ⟨_, q, _⟩ := hit; exact Heap.lt_size q
    have hea := enum_not_list he p.isList
    have hlt : i < its.toArray.size := by
      have := (List.getElem?_eq_some_iff.mp hu).1
      simpa using this
    refine wpAny_pyNext_enum_itemC (PySem.Draws.list (prog := X.prog) (w := X.w) (A := X.A.in1) (show X.A.in1.handled = none from I.ok.hd hc) it a hai its.toArray) he ⟨hit, p.isList⟩ hlt hne (by simp [hne, hea]) fun y h' tk hy ho st' hT hsz hk => ?_
    obtain rfl : u = y := by
      have hy' : its.toArray[i]? = some y := hy
      rw [List.getElem?_toArray, hu] at hy'
      exact Option.some.inj hy'
    refine ⟨_, rfl, wpAny_letOwnedTupleGo_enum (s := { s with heap := h', toks := tk + 1 }) ho fun h'' he' sb => ?_⟩
    have hT2 : h''.get? s.heap.objs.size = some { cls := .type "tuple", data := .seq #[.int (k₀ + (i : Nat)) tk, u] } := (sb.2 _ (Nat.ne_of_gt hel)).trans hT
    have fresh_ : ObjOk X.prog X.w (upd H s.heap.objs.size (.tup [.int (k₀ + (i : Nat)), x])) h'' s.heap.objs.size (.tup [.int (k₀ + (i : Nat)), x]) :=
      ⟨by show 2 ≤ sizeLine; decide, [.int (k₀ + (i : Nat)) tk, u], .cons ⟨_, rfl⟩ (.cons ru .nil), ⟨_, hT2, rfl, _, rfl⟩⟩
    have I1 : Inv X pins σ (upd H s.heap.objs.size (.tup [.int (k₀ + (i : Nat)), x])) { s with heap := h'', toks := tk + 1 } :=
      I.turnedNew (ch := [e, it]) (fun b o hb q => (sb.2 b (fun z => hb (by simp [z]))).trans (hk b o (fun z => hb (by simp [z])) (fun z => hb (by simp [z])) q)) hf (Nat.le_refl _) fresh_
    refine ⟨.ref s.heap.objs.size, _, I1, rfl, ⟨_, x, rfl, I.hok.fresh (Nat.le_refl _), rfl, fun ys hy => by rw [I.list_inj hy hq]; exact hx⟩, ⟨⟨u, ?_⟩, st'.1.at fun o q => (sb.2 it (Ne.symm hne)).trans q, hne⟩, fun b hb => ?_⟩
    · rw [show k₀ + ((i + 1 : Nat) : Int) = k₀ + (i : Nat) + 1 by omega]
      exact he'
    · have hb' : b < s.heap.objs.size := by
        rcases (show b = e ∨ b = it by simpa using hb) with rfl | rfl
        · exact hel
        · exact hil
      rw [upd_ne (Nat.ne_of_lt hb')]
      exact (hf b hb).1
  done := by
    intro X hP hw hK hc i pins s σ H E I hf st hg
    subst hP hw hK
    obtain ⟨⟨old, he⟩, hit, hne⟩ := st
    obtain ⟨xs, hq, hx⟩ := hg
    obtain ⟨its, rv, p, hz⟩ := I.list hq
    obtain ⟨f0, f1, f2, f3, f4, f5⟩ := hf it (by simp)
    have hl := rv.length
    have hnone : its.toArray[i]? = none := by simp; omega
    have hT : s.TypeIs (.ref e) "enumerate" := ⟨_, he, rfl⟩
    unfold pyNext
    refine wpAny_bind (wpAny_attempt (wpAny_callSpecial?_slot (name := Str.ofString "__next__") hT F.slot_enumerate_next (wpAny_call_entry F.slot_enumerate_next hT F.entry_enumerate_next ?_ (F.args_enumerate_next_1 _))))
    show wpAny _ _ (field (.ref e) 2 >>= _) _ _ _
    refine wpAny_bind (wpAny_field he rfl (x := .ref it) rfl ?_)
    refine wpAny_bind (PySem.wpAny_nextOf_list_end (I.ok.hd hc) hit p.isList hnone fun h' x eb hx' => ?_)
    obtain ⟨o, ho, hcl⟩ := hx'
    refine wpAny_bind (wpAny_isInstance (T := "StopIteration") (b := true) ⟨o, ho, hcl⟩ isSubtype_stop ?_)
    exact wpAny_pure ⟨rfl, I.turned (t' := s.toks) (fun b o hb q => eb b o hb q) f0 f1 f3 f4 f5⟩
  self := fun A i s Q E st h => let ⟨⟨_, he⟩, _⟩ := st; wpAny_pyIter_enum he h
def iEnumK (K : PySem.W.Frag) (ta tk : TA) : TI := fun σ H R => ta σ H fun vs H1 => ∃ a, vs = [.ref a] ∧ tk σ H1 fun zs H2 => ∃ k xs, zs = [.int k] ∧ SqL K H2 a xs ∧ -1000 ≤ k ∧ k ≤ 1000 ∧ R (IteK K a k) H2
theorem pi_enumK {X : Cx} {e : Expr} {ta tk : TA} {kws : List Keyword} {p pos tpos : Pos} {elts : List Expr} {kk : Nat} (hg : Gl X "enumerate") (hm : X.mg "enumerate" = none) (ha : PA X [e] ta) (hkw : PK X kws tk)
    (hs : backTo pos (starEach [e] X.env) = (false, eval e X.env) :: backTo pos (starEach [] X.env) := by rfl)
    (hpl : ((backTo pos (starEach [e] X.env)).any (·.1) || (backToKw pos (keywordEach kws X.env)).any (·.1.isNone)) = false := by rfl)
    (hall : (backToKw pos (keywordEach kws X.env)).all (·.1.isSome) = true := by rfl) (hks : (backToKw pos (keywordEach kws X.env)).filterMap (·.1) = [Str.ofString "start"] := by rfl) :
    PI X (.Tuple elts kk tpos) (.Call (.Name "enumerate" p) [e] kws pos) (iEnumK X.K ta tk) := by
  refine ⟨fun pins s σ H R I h => wpAny_Call_Name_kw (ld_blt I hg hm boot_enumerate (callWith_typeK (thn (ha.run pos pins s σ H _ I h) fun us s1 ⟨vs, H1, I1, r1, a, ex, q1⟩ => ?_) hs hpl hall))⟩
  subst ex
  cases r1 with
  | cons r rr =>
    cases rr
    cases r
    refine thn (hkw.run pos pins s1 σ H1 _ I1 q1) fun ws s2 ⟨zs, H2, I2, rz, k, xs, ez, hq, k0, k1, q⟩ => ?_
    subst ez
    rw [hks]
    cases rz with
    | cons rk rr =>
      cases rr
      obtain ⟨t, rfl⟩ := rk
      obtain ⟨its, rv, p', hz⟩ := I2.list hq
      have hla : a < s2.heap.objs.size := by obtain ⟨_, z, _⟩ := id p'.isList; exact Heap.lt_size z
      refine enum_begins_start (PySem.begins_list a its.toArray) p'.isList (by omega) (by omega) fun h' he hit hsz hk => wpAny_pyIter_enum he ?_
      have I3 : Inv X pins σ H2 { s2 with heap := h' } := I2.kept (t' := s2.toks) hk
      refine ⟨s2.heap.objs.size + 1, [s2.heap.objs.size + 1, s2.heap.objs.size], _, _, H2, rfl, I3, turn_enumK a (s2.heap.objs.size + 1) s2.heap.objs.size k (Nat.ne_of_lt hla), ⟨⟨.none, by rw [show k + ((0 : Nat) : Int) = k by omega]; exact he⟩, ⟨_, hit, rfl, rfl⟩, Nat.succ_ne_self _⟩, fun b hb => ?_, q⟩
      have hle : s2.heap.objs.size ≤ b := by
        rcases (show b = s2.heap.objs.size + 1 ∨ b = s2.heap.objs.size by simpa using hb) with rfl | rfl
        · exact Nat.le_add_right _ _
        · exact Nat.le_refl _
      exact I2.fpOk hle (I2.hok.fresh hle)
end VG

set_option maxRecDepth 100000
set_option maxHeartbeats 4000000
/-! A dict made by a comprehension over anything that yields n things. -/
namespace VG
open PySem PySem.Spec PyProof.Rows L2 LamX
theorem dc_any {J : It} {n : Nat} {g : TG} {tt : TT} {tk tv : TE} {vs : List Nat} {σ : L2.St} {H1 : Hp} {D : Addr} {Qd : Hp → Prop} (Pv : Nat → Hp → Prop) (h0 : Pv 0 (upd H1 D (.dK []))) (hgo : ∀ i H, i < n → Pv i H → J.go i H) (hst : ∀ H, Pv n H → J.stop n H)
    (hs : ∀ i x H H', i < n → Pv i H → J.yld i H x H' → g x (wipe σ vs) H' fun σ2 H2 => wipe σ2 vs = wipe σ vs ∧ tt σ2 H2 fun b H3 =>
      if b = true then tk σ2 H3 fun y H4 => tv σ2 H4 fun z H5 => ∃ kvs k, y = kV k ∧ H5 D = some (.dK kvs) ∧ kvs.length < sizeLine ∧ Pv (i + 1) (upd H5 D (.dK (putK kvs k z))) else Pv (i + 1) H3) (hd : ∀ H, Pv n H → Qd H) :
    ∃ W : Nat → Nat → Hp → Prop, (∃ m, W 0 m (upd H1 D (.dK []))) ∧ ∀ i m H, W i m H →
      (J.stop i H ∧ Qd H) ∨ (J.go i H ∧ ∃ Nx : Hp → Prop, (∀ H', Nx H' → ∃ m', m' < m ∧ W (i + 1) m' H') ∧ ∀ x H', J.yld i H x H' → g x (wipe σ vs) H' fun σ2 H2 => wipe σ2 vs = wipe σ vs ∧ tt σ2 H2 fun b H3 =>
        if b = true then tk σ2 H3 fun y H4 => tv σ2 H4 fun z H5 => ∃ kvs k, y = kV k ∧ H5 D = some (.dK kvs) ∧ kvs.length < sizeLine ∧ Nx (upd H5 D (.dK (putK kvs k z))) else Nx H3) := by
  refine ⟨fun i m H => i + m = n ∧ Pv i H, ⟨n, Nat.zero_add n, h0⟩, ?_⟩
  rintro i m H ⟨e, p⟩
  by_cases c : i < n
  · exact .inr ⟨hgo i H c p, Pv (i + 1), fun H' q => ⟨m - 1, by omega, by omega, q⟩, fun x H' y => hs i x H H' c p y⟩
  · obtain rfl : i = n := by omega
    exact .inl ⟨hst H p, hd H p⟩
/-! ### a value whose making leaves a token: what stands behind it may ask for one -/
section
variable {X : Cx} {a e o : Expr} {es : List Expr} {ta te to : TE} {tas : TA} {rest : List Stmt} {u : TS}
def PEG (X : Cx) (e : Expr) (te : TE) : Prop := ∀ (pins : List (Addr × Obj)) (s : Shared) (σ : L2.St) (H : Hp) (Q : VK), Inv X pins σ H s → te σ H Q →
  wpAny (model X.prog X.w) X.A (eval e X.env) (fun v s' => 1 ≤ s'.toks ∧ EP X pins σ Q v s') X.xe s
/-- a op 'text' -/
theorem peg_opC {op : Operator} {r : R2} {y : Str} {j : Nat} {p pos : Pos} (ho : OpR X (binaryOp op) r) (ha : PE X a ta) : PEG X (.BinOp a op (.Constant (.str y) j p) pos) (tOp r ta (tC (.str y))) := by
  intro pins s σ H Q I h
  refine wpAny_BinOp (thn (ha.run pins s σ H _ I h) fun v s1 ⟨x, H1, I1, r1, q1⟩ => Calls.Constant_str ?_)
  refine wpAny_mono (PySem.wpAny_toks (ho pins { s1 with toks := s1.toks + 1 } σ H1 x (.str y) v (.str y s1.toks) Q (I1.tok _) r1 ⟨_, rfl⟩ q1)) (fun v2 s2 q => ⟨?_, q.2⟩) fun _ _ z => z.2
  have hk : s1.toks + 1 ≤ s2.toks := q.1
  omega
theorem pag_cons (ha : PEG X e te) (hr : PAT X es tas) (hs : starEach (e :: es) X.env = (false, eval e X.env) :: starEach es X.env := by rfl) : PA X (e :: es) (tCons te tas) := by
  refine ⟨fun pos pins s σ H Q I h => ?_⟩
  rw [hs]
  show wpAny _ _ (spliced ((false, eval e X.env) :: backTo pos (starEach es X.env))) _ _ s
  refine Calls.spliced_cons (wpAny_mono (ha pins s σ H _ I h) (fun v s1 q => ?_) fun _ _ z => z)
  obtain ⟨hk, x, H1, I1, r1, q1⟩ := q
  exact thn (hr pos pins s1 σ H1 _ hk I1 q1) fun us s2 ⟨xs, H2, I2, r2, q2⟩ => ⟨x :: xs, H2, I2, .cons r1 r2, q2⟩
theorem patg_cons (ha : PE X e te) (hr : PAT X es tas) (hs : starEach (e :: es) X.env = (false, eval e X.env) :: starEach es X.env := by rfl) : PAT X (e :: es) (tCons te tas) := pat_cons (fun pins s σ H Q _ I q => ha.run pins s σ H Q I q) hr hs
/-- 'text'.m(e) -/
theorem peg_m1 {id : String} {name z : Str} {j : Nat} {p apos pos : Pos} {r : V → List V → Hp → VK → Prop} (slot : Slot "str" name id) (ty : typeOf (.builtin id) = pure (.type "method_descriptor")) (rule : MtR X id r) (he : PE X e te)
    (hs : starEach [e] X.env = [(false, eval e X.env)] := by rfl) (hbase : attributeBase (.Constant (.str z) j p) name X.env (eval (.Constant (.str z) j p) X.env) = eval (.Constant (.str z) j p) X.env := by rfl) (hline : (apos.endLine == pos.line) = true := by rfl) :
    PEG X (.Call (.Attribute (.Constant (.str z) j p) name apos) [e] [] pos) (tM1 r (tC (.str z)) te) := by
  intro pins s σ H Q I h
  obtain ⟨_, h⟩ := h
  refine PySem.Call_method1 hbase hs hline (Calls.Constant_str ?_)
  refine ⟨"str", _, F.plainAttrs_str, slot, ty, typeIs_str _ _ _, (fun _ e => nomatch e), Calls.callWith_builtin rfl (Calls.evalArgs_plain (Calls.spliced_cons ?_))⟩
  refine wpAny_mono (PySem.wpAny_toks (he.run pins { s with toks := s.toks + 1 } σ H _ (I.tok _) h)) (fun u s2 q => ?_) fun _ _ z => z.2
  obtain ⟨hk, y, H2, I2, r2, q2⟩ := q
  refine Calls.spliced_nil (wpAny_mono (PySem.wpAny_toks (rule pins s2 σ H2 (.str z) [y] (.str z s.toks) [u] Q I2 ⟨_, rfl⟩ (.cons r2 .nil) q2)) (fun v3 s3 q => ⟨?_, q.2⟩) fun _ _ z => z.2)
  have h1 : s.toks + 1 ≤ s2.toks := hk
  have h2 := q.1
  omega
theorem pssg_set {i : Nat} {x : Str} {pos' pos : Pos} (hN : X.N.Nodup) (hi : X.N[i]? = some x) (hx : Loc X.env.scope x) (he : PEG X e te) (h2 : PSsT X rest u)
    (hs : swapsWith e (some (.Name x pos')) pos.line X.env = pure false := by rfl) (hf : X.fn x = true ∨ X.env.scope.names.lookup x = some .local := by first | exact .inl rfl | exact .inr rfl | assumption) :
    PSs X (.Assign [.Name x pos'] e pos :: rest) (tSeq (tAsg te (gName i)) u) := by
  refine ⟨fun pins s σ H D I h => ?_⟩
  refine wpAny_execs_cons (wpAny_Assign_Name (wpAny_mono (he pins s σ H _ I h) (fun v s1 q => ?_) fun _ _ z => z) hs)
  obtain ⟨hk, y, H1, I1, r1, q1⟩ := q
  refine wpAny_mono (PySem.wpAny_toks (store_ok (v := y) (u := v) (Q := fun _ s2 => Inv X pins (σ.set i (some y)) H1 s2) I1 hN hi hx r1 (fun _ I2 => I2) hf)) (fun _ s2 q => ?_) fun _ _ z => z.2
  exact h2 pins s2 _ H1 D (Nat.le_trans hk q.1) q.2 q1
end
section
variable {X : Cx}
theorem vals_at : ∀ {xs : List V} {us : List Value}, xs.length = us.length → (∀ (j : Nat) (v : Value), us[j]? = some v → ∃ x, xs[j]? = some x ∧ RelV x v) → Vals xs us
  | [], [], _, _ => .nil
  | x :: xs, u :: us, hl, h => by
    obtain ⟨y, e, r⟩ := h 0 u rfl
    obtain rfl : x = y := Option.some.inj e
    exact .cons r (vals_at (by simpa using hl) fun j v e => h (j + 1) v (by simpa using e))
  | [], _ :: _, hl, _ => by simp at hl
  | _ :: _, [], hl, _ => by simp at hl
/-- list(text): its signs, one by one -/
def signs (x : Str) : List Str := x.cps.toList.map fun c => ⟨#[c]⟩
def rListS : List V → Hp → VK → Prop := fun xs H Q => ∃ x : Str, xs = [.str x] ∧ x.length ≤ sizeLine ∧ ∀ p, H p = none → Q (.ref p) (upd H p (.lst ((signs x).map V.str)))
theorem call_listS {X : Cx} (hc : X.calm = true) : CallR X (.type "list") rListS := by
  intro pins s σ H xs us Q I r h
  obtain ⟨x, rfl, hz, q⟩ := h
  obtain ⟨u, rfl, rv⟩ := vals1 r
  obtain ⟨t, rfl⟩ := rv
  refine PySem.call_list_str (I.ok.hd hc) x t (fun h' tk acc' c' k ho hi => ?_) hz
  have lenE : acc'.toList.length = x.cps.toList.length := by rw [Array.length_toList, Array.length_toList, hi.1]
  have new : ObjOk X.prog X.w (upd H s.heap.objs.size (.lst ((signs x).map V.str))) h' s.heap.objs.size (.lst ((signs x).map V.str)) := by
    refine ⟨by rw [List.length_map, signs, List.length_map]; exact hz, acc'.toList, c', vals_at ?_ (fun j v e => ?_), by rw [Array.toArray_toList]; exact ho⟩
    · rw [List.length_map, signs, List.length_map, lenE]
    · obtain ⟨c, u, e1, rfl⟩ := hi.2 j v (by rw [← Array.getElem?_toList]; exact e)
      refine ⟨.str ⟨#[c]⟩, ?_, ⟨u, rfl⟩⟩
      rw [signs, List.getElem?_map, List.getElem?_map, Array.getElem?_toList, e1]
      rfl
  exact ⟨.ref _, _, I.laid (t' := tk) k (Nat.le_refl _) new, rfl, q _ (I.hok.fresh (Nat.le_refl _))⟩
end
end VG

set_option maxRecDepth 100000
set_option maxHeartbeats 4000000
/-! Sets of whole numbers made of a tuple, ranges as values. -/
namespace VG
open PySem PySem.Spec PyProof.Rows L2 LamX
mutual
/-- no list or tuple in it has more than sixty-four parts -/
def slim : PyData → Bool
  | .list ds => decide (ds.length ≤ 64) && slimAll ds
  | .tuple ds => decide (ds.length ≤ 64) && slimAll ds
  | _ => true
def slimAll : List PyData → Bool
  | [] => true
  | d :: ds => slim d && slimAll ds
end
theorem val_any {t : TE} {σ : L2.St} {H : Hp} {Q : VK} (Pv : V → Hp → Prop) (h : ∀ R : VK, (∀ v H', Pv v H' → R v H') → t σ H R) (q : ∀ v H', Pv v H' → Q v H') : t σ H Q := h _ q
theorem yesT {σ : L2.St} {H : Hp} {F G : Hp → Prop} (h : F H) : tYes σ H (fun b H3 => if b = true then F H3 else G H3) := by
  show (if true = true then F H else G H)
  rw [if_pos rfl]
  exact h
theorem sub_len {l : List Int} : ∀ {ns : List Int}, l.Nodup → (∀ x ∈ l, x ∈ ns) → l.length ≤ ns.length := by
  induction l with
  | nil => exact fun _ _ => Nat.zero_le _
  | cons a r ih =>
    intro ns nd h
    obtain ⟨h1, h2⟩ := List.nodup_cons.mp nd
    have ha := h a (List.mem_cons_self ..)
    have := ih (ns := ns.erase a) h2 fun x hx => (List.mem_erase_of_ne (by rintro rfl; exact h1 hx)).mpr (h x (List.mem_cons_of_mem _ hx))
    rw [List.length_erase_of_mem ha] at this
    have : 0 < ns.length := List.length_pos_of_mem ha
    rw [List.length_cons]
    omega
theorem set_count {l ns : List Int} (nd : l.Nodup) (h : ∀ k, k ∈ l ↔ k ∈ ns) : l.length ≤ ns.length ∧ (l.length < ns.length ↔ ¬ ns.Nodup) := by
  refine ⟨sub_len nd fun x hx => (h x).mp hx, fun hl hn => ?_, fun hn => ?_⟩
  · have := sub_len hn fun x hx => (h x).mpr hx
    omega
  · obtain ⟨a, ha⟩ : ∃ a, ¬ ns.count a ≤ 1 := Classical.byContradiction fun c => hn (List.nodup_iff_count.mpr fun a => Classical.byContradiction fun d => c ⟨a, d⟩)
    have h2 : a ∈ ns := List.count_pos_iff.mp (by omega)
    have h3 : 0 < (ns.erase a).count a := by rw [List.count_erase_self]; omega
    have := sub_len (l := l) (ns := ns.erase a) nd fun x hx => by
      by_cases e : x = a
      · rw [e]; exact List.count_pos_iff.mp h3
      · exact (List.mem_erase_of_ne e).mpr ((h x).mp hx)
    rw [List.length_erase_of_mem h2] at this
    have : 0 < ns.length := List.length_pos_of_mem h2
    omega
section
variable {X : Cx}
def rLenK (K : PySem.W.Frag) : List V → Hp → VK → Prop := fun xs H Q => ∃ p ys, xs = [.ref p] ∧ (SqL K H p ys ∨ SqT K H p ys) ∧ Q (.int (ys.length : Nat)) H
def rJoinK (K : PySem.W.Frag) : V → List V → Hp → VK → Prop := fun x xs H Q => ∃ a p, ∃ ys : List Str, x = .str a ∧ xs = [.ref p] ∧ (SqL K H p (ys.map V.str) ∨ SqT K H p (ys.map V.str)) ∧ (ys.map (·.length)).sum + ys.length * a.length ≤ 16777216 ∧ Q (.str (Txt.join a ys)) H
/-- set(t) of a tuple of ints -/
def rSetT (K : PySem.W.Frag) (w : World) : List V → Hp → VK → Prop := fun xs H Q => ∃ (l : Addr) (ns : List Int), xs = [.ref l] ∧ SqT K H l (ns.map V.int) ∧ ns.length ≤ 4000 ∧
  ∀ (a : Addr) (c : Nat) (H' : Hp), H a = none → Same H H' → H' a = some (SetO w a (fun k => decide (k ∈ ns)) c) → c ≤ ns.length → (c < ns.length ↔ ¬ ns.Nodup) → (∀ L : List Int, (∀ k ∈ ns, k ∈ L) → c ≤ L.length) → Q (.ref a) H'
theorem call_setT (hc : X.calm = true) : CallR X (.type "set") (rSetT X.K X.w) := by
  intro pins s σ H xs us Q I r h
  obtain ⟨l, ns, rfl, hq, hl, q⟩ := h
  obtain ⟨u, rfl, rx⟩ := vals1 r
  cases rx
  obtain ⟨its, rv, p, hz⟩ := I.tuple hq
  refine call_set_tupI ns (I.ok.hd hc) p (by simpa using RZ.intsAre_vals rv) (by unfold scanBound; omega) fun h' tk c hS hcl hk => ?_
  obtain ⟨o, es, ep, t, ho, hex, hd, hg, hnd, hm, hb, hf, hn, r1, r2⟩ := id hS
  have hcnt := set_count hnd fun k => (hm k).symm.trans (decide_eq_true_iff)
  rw [List.length_map, Array.length_toList, hn] at hcnt
  refine ⟨.ref _, _, I.laid (t' := tk) (o := SetO X.w s.heap.objs.size (fun k => decide (k ∈ ns)) c) hk (Nat.le_refl _) (setO_new hS), rfl, q _ c _ (I.hok.fresh (Nat.le_refl _)) (same_upd (I.hok.fresh (Nat.le_refl _))) upd_same hcnt.1 hcnt.2 fun L hL => ?_⟩
  have h3 := sub_len hnd (ns := L) fun x hx => hL x (of_decide_eq_true ((hm x).mpr hx))
  rw [List.length_map, Array.length_toList, hn] at h3
  exact h3
/-- len(s) of a set of ints -/
theorem call_lenSO : CallR X (.builtin "len") (fun xs H Q => ∃ (a : Addr) (S : Int → Bool) (n : Nat), xs = [.ref a] ∧ H a = some (SetO X.w a S n) ∧ Q (.int (n : Nat)) H) := by
  intro pins s σ H xs us Q I r h
  obtain ⟨a, S, n, rfl, ha, q⟩ := h
  obtain ⟨u, rfl, rx⟩ := vals1 r
  cases rx
  obtain ⟨o, es, ep, t, ho, hex, hd, hg, hnd, hm, hb, hf, hn, r1, r2⟩ := setO_get I ha
  have hsb : scanBound < 2 ^ 63 := by unfold scanBound; decide
  exact call_len_set ho hex hd hf (by omega) ⟨.int (n : Nat), H, I.tok _, ⟨_, by rw [hn]⟩, q⟩
/-- range(n) as a value -/
theorem cr_range1 : CallR X (.type "range") (fun vs H Q => ∃ j, vs = [V.int j] ∧ ∀ p, H p = none → Q (.ref p) (upd H p (.rng 0 j))) := by
  intro pins s σ H vs us Q I r h
  obtain ⟨j, rfl, q⟩ := h
  obtain ⟨u1, rfl, ri⟩ := vals1 r
  obtain ⟨t, rfl⟩ := ri
  refine call_range_1 ⟨.ref s.heap.objs.size, upd H s.heap.objs.size (.rng 0 j), I.laid (t' := s.toks + 2) (fun b o e => Heap.get?_push_of_some _ e) (Nat.le_refl _) ?_, rfl, q _ (I.hok.fresh (Nat.le_refl _))⟩
  exact ⟨_, t, _, Heap.get?_push_size _ rfl⟩
/-- len(r) of a range -/
theorem call_lenR : CallR X (.builtin "len") (fun xs H Q => ∃ (a : Addr) (n : Nat), xs = [.ref a] ∧ H a = some (.rng 0 (n : Nat)) ∧ n ≤ 1000 ∧ Q (.int (n : Nat)) H) := by
  intro pins s σ H xs us Q I r h
  obtain ⟨a, n, rfl, ha, hn, q⟩ := h
  obtain ⟨u, rfl, rx⟩ := vals1 r
  cases rx
  obtain ⟨t1, t2, t3, ho⟩ := I.hok a _ ha
  refine call_len_range (n := n) ho ?_ (by omega) ?_
  · rw [rangeSize_one]
    split <;> omega
  · exact ⟨.int (n : Nat), H, I.tok _, ⟨_, rfl⟩, q⟩
/-- a range that stands, walked -/
def iRngV (te : TE) : TI := fun σ H R => te σ H fun x H1 => ∃ (a : Addr) (n : Nat), x = .ref a ∧ H1 a = some (.rng 0 (n : Nat)) ∧ n ≤ 1000 ∧ R (Itr 0 n) H1
theorem pi_rngV {tg e : Expr} {te : TE} (he : PE X e te) : PI X tg e (iRngV te) := by
  refine ⟨fun pins s σ H R I h => ?_⟩
  refine thn (he.run pins s σ H _ I h) fun v s1 ⟨x, H1, I1, r1, a, n, e, ha, hn, q⟩ => ?_
  subst e
  cases r1
  obtain ⟨t1, t2, t3, ho⟩ := I1.hok a _ ha
  refine wpAny_pyIter_range ho (small_one (by omega) (by omega) (by omega) (by omega)) ?_
  refine ⟨s1.heap.objs.size, [s1.heap.objs.size], _, _, H1, rfl, I1.kept (t' := s1.toks) fun b o e => Heap.get?_push_of_some _ e, turn_range _ 0 n, ?_, fun b hb => ?_, q⟩
  · have e2 : ((n : Nat) : Int) - ((0 : Nat) : Int) = Builtin.Range.rangeSize 0 (n : Nat) 1 := by rw [rangeSize_one]; split <;> omega
    show IsRangeIter _ _ (0 + ((0 : Nat) : Int) * 1) (((n : Nat) : Int) - ((0 : Nat) : Int)) 1
    rw [e2]
    exact Heap.get?_push_size _ rfl
  · have e : b = s1.heap.objs.size := by simpa using hb
    subst e
    exact I1.fpOk (Nat.le_refl _) (I1.hok.fresh (Nat.le_refl _))
end
end VG

set_option maxRecDepth 100000
set_option maxHeartbeats 4000000
/-! t[::-1] of a tuple: some of what stands in it. -/
namespace VG
open PySem PySem.Spec PyProof.Rows L2 HT LamX
theorem vals_pick {xs : List V} {its : List Value} (r : Vals xs its) (f : Nat → Nat) : ∀ ks : List Nat, ∃ ys : List V, Vals ys (ks.filterMap fun k => its.toArray[f k]?) ∧ (∀ y ∈ ys, y ∈ xs) ∧ ys.length ≤ ks.length
  | [] => ⟨[], .nil, fun y hy => (List.not_mem_nil hy).elim, Nat.le_refl 0⟩
  | k :: ks => by
    obtain ⟨ys, h1, h2, h3⟩ := vals_pick r f ks
    cases e : its[f k]? with
    | none => exact ⟨ys, by simpa [e] using h1, h2, Nat.le_succ_of_le h3⟩
    | some u =>
      have hl : f k < xs.length := by rw [r.length]; exact (List.getElem?_eq_some_iff.mp e).1
      obtain ⟨u', hu', ru⟩ := r.get (List.getElem?_eq_getElem hl)
      rw [e] at hu'
      cases hu'
      refine ⟨xs[f k] :: ys, by simpa [e] using Paired.cons ru h1, fun y hy => ?_, Nat.succ_le_succ h3⟩
      rcases List.mem_cons.mp hy with rfl | hy
      · exact List.getElem_mem hl
      · exact h2 y hy
section
variable {P : Program} {w : World} {A : Around} {E : Value → Shared → Prop} {s : Shared}
theorem tup_rev {t sl : Addr} {items : Array Value} {vs : Value} {Q : Value → Shared → Prop} (ht : IsTup s.heap t items) (hs : s.heap.IsSliceOf sl .none .none vs) (ps : IsPart vs (some (-1)))
    (h : Q (.ref s.heap.objs.size) { s with heap := s.heap.push { cls := .type "tuple", data := .seq ((List.range items.size).filterMap fun (k : Nat) => items[(((items.size : Int) - 1) + (k : Int) * (-1)).toNat]?).toArray } })
    (hsz : items.size ≤ sizeLine) : wpAny (model P w) A (getItem (.ref t) (.ref sl)) Q E s := by
  obtain ⟨os, hos, hcs, hds⟩ := id hs
  have T : s.TypeIs (.ref sl) "slice" := ⟨os, hos, hcs⟩
  have hz : sizeOk (.seq ((List.range items.size).filterMap fun (k : Nat) => items[(((items.size : Int) - 1) + (k : Int) * (-1)).toNat]?).toArray) := by
    show _ ≤ sizeLine
    rw [List.size_toArray]
    exact Nat.le_trans (List.length_filterMap_le _ _) (by rw [List.length_range]; exact hsz)
  unfold getItem
  try with_reducible refine wpAny_holding ?_
  first | refine wpAny_bind (wpAny_pure ?_) | skip
  refine wpAny_bind (wpAny_sequenceKey ht.typeIs (by decide) (wpAny_bind (wpAny_callSpecial?_slot (name := Str.ofString "__getitem__") ht.typeIs PyProof.Rows.slot_tuple_getitem (wpAny_call_entry PyProof.Rows.slot_tuple_getitem ht.typeIs PyProof.Rows.entry_tuple_getitem ?_ (PyProof.Rows.args_tuple_getitem _ _)))))
  show wpAny _ _ (Builtin.Tuple.tupleItemsOf (.ref t) >>= _) _ E s
  refine wpAny_bind (tupleItemsOf_ ht (wpAny_bind (wpAny_typeOf T ?_)))
  rw [if_pos (by decide)]
  refine wpAny_bind ?_
  unfold Builtin.Slice.sliceApplied; unfold Builtin.Slice.sliceFields
  refine wpAny_bind (wpAny_bind (wpAny_field hos hds (x := .none) rfl (wpAny_bind (wpAny_field hos hds (x := .none) rfl (wpAny_bind (wpAny_field hos hds (x := vs) rfl (wpAny_pure ?_)))))))
  refine wpAny_bind (slicePart_ ps ?_)
  show wpAny _ _ (if ((-1 : Int) == 0) = true then _ else _) _ E s
  rw [if_neg (by decide)]
  refine wpAny_bind (slicePart_ .none (wpAny_bind (slicePart_ .none (wpAny_bind (wpAny_pure ?_)))))
  show wpAny _ _ (match Builtin.Slice.sliceAdjust none none (-1) (items.size : Int) with | (lo, hi) => pure (lo, (-1 : Int), Builtin.Slice.slicePlaces lo hi (-1))) _ E s
  have ea : Builtin.Slice.sliceAdjust none none (-1) (items.size : Int) = ((items.size : Int) - 1, -1) := by
    unfold Builtin.Slice.sliceAdjust
    simp
  have ep : Builtin.Slice.slicePlaces ((items.size : Int) - 1) (-1) (-1) = items.size := by
    unfold Builtin.Slice.slicePlaces
    simp
    omega
  rw [ea]
  dsimp only
  rw [ep]
  refine wpAny_pure ?_
  dsimp only
  rw [if_neg (by simp)]
  first
    | exact wpAny_bind (m := Builtin.Tuple.tupleExact _) (wpAny_newObj_type (wpAny_pure ⟨_, rfl, wpAny_pure h⟩) hz)
    | exact wpAny_bind (m := Builtin.Tuple.tupleExact _) (wpAny_newObj_type (wpAny_bind (wpAny_pure (wpAny_pure ⟨_, rfl, wpAny_pure h⟩))) hz)
    | exact wpAny_bind (wpAny_bind (m := Builtin.Tuple.tupleExact _) (wpAny_newObj_type (wpAny_pure (wpAny_pure ⟨_, rfl, wpAny_pure h⟩)) hz))
    | exact wpAny_bind (wpAny_bind (m := Builtin.Tuple.tupleExact _) (wpAny_newObj_type (wpAny_pure ⟨_, rfl, wpAny_pure h⟩) hz))
end
section
variable {X : Cx}
/-- t[::-1]: some of its own items, no more than it has -/
def tRevT (K : PySem.W.Frag) (te : TE) : TE := fun σ H Q => te σ H fun x H1 => ∃ a xs, x = .ref a ∧ SqT K H1 a xs ∧ ∀ ys p, (∀ y ∈ ys, y ∈ xs) → ys.length ≤ xs.length → H1 p = none → Q (.ref p) (upd H1 p (.tup ys))
theorem pe_revT {e : Expr} {te : TE} {k : Nat} {p1 p2 p3 pos : Pos} (he : PE X e te) : PE X (.Subscript e (.Slice none none (some (.UnaryOp .USub (.Constant (.int 1) k p1) p2)) p3) pos) (tRevT X.K te) := by
  refine ⟨fun pins s σ H Q I h => Subscript_ (thn (he.run pins s σ H _ I h) fun v s1 ⟨x, H1, I1, r1, a, xs, ex, hx, q⟩ => ?_)⟩
  subst ex
  cases r1
  have hst : PO X (some (.UnaryOp .USub (.Constant (.int 1) k p1) p2)) (tPart (tUn (rU fun i => .int (-i)) (tC (.int 1)))) := po_some (pe_un un_neg pe_int)
  refine wpAny_Slice (thn (po_none.run pins s1 σ H1 (fun o H2 => o = none ∧ H2 = H1) I1 ⟨rfl, rfl⟩) fun vl s2 ⟨l, H2, I2, pl, el, e2⟩ => ?_)
  subst el e2
  refine thn (po_none.run pins s2 σ H2 (fun o H3 => o = none ∧ H3 = H2) I2 ⟨rfl, rfl⟩) fun vu s3 ⟨u, H3, I3, pu, eu, e3⟩ => ?_
  subst eu e3
  refine thn (hst.run pins s3 σ H3 (fun o H4 => o = some (-1) ∧ H4 = H3) I3 ⟨1, rfl, -1, rfl, rfl, rfl⟩) fun vs s4 ⟨o, H4, I4, ps, eo, e4⟩ => ?_
  subst eo e4
  cases pl; cases pu
  have I5 : Inv X pins σ H4 { s4 with heap := s4.heap.push { cls := .type "slice", data := .fields #[.none, .none, vs] } } := I4.kept (t' := s4.toks) fun b ob q => Heap.get?_push_of_some _ q
  obtain ⟨its, r, ht, hz⟩ := I5.tuple hx
  have hlen := r.length
  obtain ⟨ys, y1, y2, y3⟩ := vals_pick r (fun k => (((its.toArray.size : Int) - 1) + (k : Int) * (-1)).toNat) (List.range its.toArray.size)
  rw [List.length_range, List.size_toArray, ← hlen] at y3
  show wpAny (model X.prog X.w) X.A (subscriptTail e (.Slice none none (some (.UnaryOp .USub (.Constant (.int 1) k p1) p2)) p3) (.ref a) (.ref s4.heap.objs.size)) (EP X pins σ Q) X.xe { s4 with heap := s4.heap.push { cls := .type "slice", data := .fields #[.none, .none, vs] } }
  refine tail_any (ops := [.ref a, .ref s4.heap.objs.size]) (IsTup.typeIs ht) (PyProof.Rows.slot_tuple_getitem.lookup) ?_ (by with_unfolding_all rfl)
  refine tup_rev ht (Heap.IsSliceOf.new _ _ _ vs) ps ?_ (by rw [List.size_toArray, ← hlen]; exact hz)
  refine ⟨.ref _, _, I5.laid (t' := s4.toks) (o := .tup ys) (fun b ob q => Heap.get?_push_of_some _ q) (Nat.le_refl _) ?_, rfl, q ys _ y2 y3 (I5.hok.fresh (Nat.le_refl _))⟩
  exact ⟨Nat.le_trans y3 hz, _, y1, IsTup.new _ _⟩
end
end VG

set_option maxRecDepth 100000
set_option maxHeartbeats 2000000
/-! zip of a tuple and a list, walked. -/
namespace VG
open PySem PySem.Spec PyProof.Rows L2 RZ
section
variable {P : Program} {w : World} {A : Around} {E : Value → Shared → Prop} {s : Shared} {la lb ja jb : Addr} {xs ys : Array Value} {zp pI pO : Addr}
/-- an iterator at j: its n-th state, kept while what it stands on is kept; its items -/
structure Steps (P : Program) (w : World) (j : Addr) (own : List Addr) (J : Nat → Heap → Prop) (xs : Array Value) : Prop where
  keep : ∀ {n : Nat} {h h' : Heap}, J n h → (∀ c ∈ own, ∀ o, h.get? c = some o → h'.get? c = some o) → J n h'
  item : ∀ {A : Around} {E : Value → Shared → Prop} {s : Shared} {n : Nat} {x : Value} {Q : Value → Shared → Prop}, J n s.heap → xs[n]? = some x → (∀ h', J (n + 1) h' → Heap.SameBut j s.heap h' → Q x { s with heap := h' }) →
    wpAny (model P w) A (Builtin.SmallTypes.nextOf (.ref j)) Q E s
  stop : ∀ {A : Around} {E : Value → Shared → Prop} {s : Shared} {n : Nat} {Q : Value → Shared → Prop}, A.handled = none → J n s.heap → xs[n]? = none →
    (∀ h' e, Heap.ExtBut j s.heap h' → (∃ o, h'.get? e = some o ∧ o.cls = .type "StopIteration") → E (.ref e) { s with heap := h' }) → wpAny (model P w) A (Builtin.SmallTypes.nextOf (.ref j)) Q E s
theorem steps_tup (hne : la ≠ ja) : Steps P w ja [ja, la] (fun n h => h.IsTupleIter ja la n ∧ h.IsTuple la xs) xs where
  keep := fun {n h h'} ⟨p, q⟩ k => ⟨p.at (k ja (by simp)), by obtain ⟨o, ho, r⟩ := q; exact ⟨o, k la (by simp) o ho, r⟩⟩
  item := fun {A E s n x Q} ⟨p, q⟩ hx h => nextOf_tuple_item p q hx fun h' p' sb => h h' ⟨p', by obtain ⟨o, ho, r⟩ := q; exact ⟨o, (sb.2 la hne).trans ho, r⟩⟩ sb
  stop := fun {A E s n Q} hh ⟨p, q⟩ hx h => nextOf_tuple_end hh p q hx h
theorem steps_lst (hne : lb ≠ jb) : Steps P w jb [jb, lb] (fun n h => h.IsListIter jb lb n ∧ h.IsList lb ys) ys where
  keep := fun {n h h'} ⟨p, q⟩ k => ⟨by obtain ⟨o, ho, r⟩ := p; exact ⟨o, k jb (by simp) o ho, r⟩, by obtain ⟨o, ho, r⟩ := q; exact ⟨o, k lb (by simp) o ho, r⟩⟩
  item := fun {A E s n x Q} ⟨p, q⟩ hx h => wpAny_nextOf_list_item p q hx fun h' p' sb => h h' ⟨p', by obtain ⟨o, ho, r⟩ := q; exact ⟨o, (sb.2 lb hne).trans ho, r⟩⟩ sb
  stop := fun {A E s n Q} hh ⟨p, q⟩ hx h => wpAny_nextOf_list_end hh p q hx h
variable {oa ob : List Addr} {J1 J2 : Nat → Heap → Prop} {n : Nat} {a b x y : Value}
/-- what stands apart from the zip -/
structure Off (zp pI pO ja jb : Addr) (oa ob : List Addr) : Prop where
  pz : pI ≠ zp ∧ pO ≠ zp ∧ ja ≠ zp ∧ jb ≠ zp
  pp : pI ≠ pO ∧ pI ≠ ja ∧ pI ≠ jb ∧ pO ≠ ja ∧ pO ≠ jb ∧ ja ≠ jb
  oa_ : ∀ c ∈ oa, c ≠ zp ∧ c ≠ pO ∧ c ≠ jb
  ob_ : ∀ c ∈ ob, c ≠ zp ∧ c ≠ pO ∧ c ≠ ja
theorem zm_item {Q : Value → Shared → Prop} (S1 : Steps P w ja oa J1 xs) (S2 : Steps P w jb ob J2 ys) (D : Off zp pI pO ja jb oa ob) (hz : IsZip s.heap zp pI pO .none) (hI : IsPair s.heap pI (.ref ja) (.ref jb)) (hO : IsPair s.heap pO a b)
    (h1 : J1 n s.heap) (h2 : J2 n s.heap) (hx : xs[n]? = some x) (hy : ys[n]? = some y)
    (q : ∀ h', IsZip h' zp pI pO (rawInt s.heap.objs.size) → IsPair h' pO x y → J1 (n + 1) h' → J2 (n + 1) h' → IsPair h' s.heap.objs.size x y → h'.objs.size = s.heap.objs.size + 1 →
      (∀ c o, c ≠ zp → c ≠ pO → c ≠ ja → c ≠ jb → s.heap.get? c = some o → h'.get? c = some o) → Q (.ref s.heap.objs.size) { s with heap := h' }) :
    wpAny (model P w) A (Builtin.«zip.__next__» ⟨[.ref zp], []⟩) (fun fin s' => ∃ v, fin = .done (.ret v) ∧ Q v s') E s := by
  obtain ⟨z1, z2, z3, z4⟩ := D.pz
  obtain ⟨p1, p2, p3, p4, p5, p6⟩ := D.pp
  show wpAny _ _ (field (.ref zp) 2 >>= _) _ E s
  refine wpAny_bind (wpAny_field hz rfl (x := .bool false) rfl ?_)
  show wpAny _ _ (field (.ref zp) 3 >>= _) _ E s
  refine wpAny_bind (wpAny_field hz rfl (x := .ref pI) rfl (wpAny_bind (wpAny_seqItems hI rfl ?_)))
  show wpAny _ _ (Builtin.SmallTypes.ownedTupleIsFree (.ref zp) >>= _) _ E s
  refine wpAny_bind ?_; unfold Builtin.SmallTypes.ownedTupleIsFree
  refine wpAny_bind (wpAny_field hz rfl (x := .none) rfl (wpAny_pure ?_)); simp only [if_true]
  refine wpAny_bind (wpAny_rule (wpAny_bind (wpAny_field hz rfl (x := .ref pO) rfl (wpAny_bind (wpAny_setField_rec hz (by simp) fun g1 hz1 b1 => ?_)))))
  replace hz1 : IsZip g1 zp pI pO .ellipsis := hz1
  refine wpAny_bind ?_; simp only [List.zipIdx_cons, List.zipIdx_nil, List.forIn_cons, List.forIn_nil]
  -- the first
  refine wpAny_bind (wpAny_bind (wpAny_onRaise ?_))
  show wpAny _ _ (Builtin.SmallTypes.nextOf (.ref ja) >>= _) _ _ _
  refine wpAny_bind (S1.item (s := { s with heap := g1 }) (S1.keep h1 fun c hc o e => (b1.2 c (D.oa_ c hc).1).trans e) hx fun g2 k1 b2 => wpAny_pure ?_)
  have hO2 : IsPair g2 pO a b := (b2.2 _ p4).trans ((b1.2 _ z2).trans hO)
  refine wpAny_bind (wpAny_seqItems hO2 rfl (wpAny_bind (wpAny_updateSeq_pair hO2 fun g3 hO3 b3 => ?_)))
  replace hO3 : IsPair g3 pO x b := hO3
  refine wpAny_bind (wpAny_letGo (wpAny_pure ?_))
  -- the second
  refine wpAny_bind (wpAny_bind (wpAny_onRaise ?_))
  show wpAny _ _ (Builtin.SmallTypes.nextOf (.ref jb) >>= _) _ _ _
  refine wpAny_bind (S2.item (s := { s with heap := g3 }) (S2.keep h2 fun c hc o e => (b3.2 c (D.ob_ c hc).2.1).trans ((b2.2 c (D.ob_ c hc).2.2).trans ((b1.2 c (D.ob_ c hc).1).trans e))) hy fun g4 k2 b4 => wpAny_pure ?_)
  have hO4 : IsPair g4 pO x b := (b4.2 _ p5).trans hO3
  refine wpAny_bind (wpAny_seqItems hO4 rfl (wpAny_bind (wpAny_updateSeq_pair hO4 fun g5 hO5 b5 => ?_)))
  replace hO5 : IsPair g5 pO x y := hO5
  refine wpAny_bind (wpAny_letGo (wpAny_pure (wpAny_pure ?_)))
  refine wpAny_bind (wpAny_seqItems hO5 rfl (wpAny_bind (wpAny_newTuple ?_)))
  have gs : g5.objs.size = s.heap.objs.size := by rw [b5.1, b4.1, b3.1, b2.1, b1.1]
  have hz5 : IsZip g5 zp pI pO .ellipsis := (b5.2 _ z2.symm).trans ((b4.2 _ z4.symm).trans ((b3.2 _ z2.symm).trans ((b2.2 _ z3.symm).trans hz1)))
  have k5 : ∀ c o, c ≠ zp → c ≠ pO → c ≠ ja → c ≠ jb → s.heap.get? c = some o → g5.get? c = some o := fun c o c1 c2 c3 c4 e => (b5.2 _ c2).trans ((b4.2 _ c4).trans ((b3.2 _ c2).trans ((b2.2 _ c3).trans ((b1.2 _ c1).trans e))))
  have m1 : J1 (n + 1) g5 := S1.keep k1 fun c hc o e => (b5.2 c (D.oa_ c hc).2.1).trans ((b4.2 c (D.oa_ c hc).2.2).trans ((b3.2 c (D.oa_ c hc).2.1).trans e))
  have m2 : J2 (n + 1) g5 := S2.keep k2 fun c hc o e => (b5.2 c (D.ob_ c hc).2.1).trans e
  have zlt : zp < g5.objs.size := Heap.lt_size hz5
  show wpAny _ _ (Builtin.SmallTypes.ownedTupleHandOut (.ref zp) (.ref g5.objs.size) >>= _) _ _ _
  refine wpAny_bind ?_; unfold Builtin.SmallTypes.ownedTupleHandOut
  have hz6 : IsZip (g5.push { cls := .type "tuple", data := .seq #[x, y] }) zp pI pO .ellipsis := Heap.get?_push_of_some _ hz5
  refine wpAny_bind (wpAny_setField_rec hz6 (by simp) fun g7 hz7 b7 => ?_)
  replace hz7 : IsZip g7 zp pI pO (rawInt g5.objs.size) := hz7
  refine wpAny_setField_rec hz7 (by simp) fun g8 hz8 b8 => ?_
  replace hz8 : IsZip g8 zp pI pO (rawInt g5.objs.size) := hz8
  have up : ∀ c o, c ≠ zp → g5.get? c = some o → g8.get? c = some o := fun c o c1 e => (b8.2 _ c1).trans ((b7.2 _ c1).trans (Heap.get?_push_of_some _ e))
  have new : IsPair g8 g5.objs.size x y := (b8.2 _ (Nat.ne_of_gt zlt)).trans ((b7.2 _ (Nat.ne_of_gt zlt)).trans (Heap.get?_push_size _ rfl))
  have size8 : g8.objs.size = g5.objs.size + 1 := by rw [b8.1, b7.1]; exact Heap.size_push ..
  rw [gs] at hz8 new size8
  refine wpAny_pure ⟨_, rfl, ?_⟩; show Q (.ref g5.objs.size) _; rw [gs]
  exact q g8 hz8 (up _ _ z2 hO5) (S1.keep m1 fun c hc o e => up c o (D.oa_ c hc).1 e) (S2.keep m2 fun c hc o e => up c o (D.ob_ c hc).1 e) new size8 fun c o c1 c2 c3 c4 e => up c o c1 (k5 c o c1 c2 c3 c4 e)
theorem zm_end {Q : Fin → Shared → Prop} (hh : A.handled = none) (S1 : Steps P w ja oa J1 xs) (S2 : Steps P w jb ob J2 ys) (D : Off zp pI pO ja jb oa ob) (hz : IsZip s.heap zp pI pO .none) (hI : IsPair s.heap pI (.ref ja) (.ref jb)) (hO : IsPair s.heap pO a b)
    (h1 : J1 n s.heap) (h2 : J2 n s.heap) (out : xs[n]? = none ∨ ys[n]? = none)
    (q : ∀ h' e, (∀ c o, c ≠ zp → c ≠ pO → c ≠ ja → c ≠ jb → s.heap.get? c = some o → h'.get? c = some o) → (∃ o, h'.get? e = some o ∧ o.cls = .type "StopIteration") → E (.ref e) { s with heap := h' }) :
    wpAny (model P w) A (Builtin.«zip.__next__» ⟨[.ref zp], []⟩) Q E s := by
  obtain ⟨z1, z2, z3, z4⟩ := D.pz
  obtain ⟨p1, p2, p3, p4, p5, p6⟩ := D.pp
  show wpAny _ _ (field (.ref zp) 2 >>= _) _ E s
  refine wpAny_bind (wpAny_field hz rfl (x := .bool false) rfl ?_)
  show wpAny _ _ (field (.ref zp) 3 >>= _) _ E s
  refine wpAny_bind (wpAny_field hz rfl (x := .ref pI) rfl (wpAny_bind (wpAny_seqItems hI rfl ?_)))
  show wpAny _ _ (Builtin.SmallTypes.ownedTupleIsFree (.ref zp) >>= _) _ E s
  refine wpAny_bind ?_; unfold Builtin.SmallTypes.ownedTupleIsFree
  refine wpAny_bind (wpAny_field hz rfl (x := .none) rfl (wpAny_pure ?_)); simp only [if_true]
  refine wpAny_bind (wpAny_rule (wpAny_bind (wpAny_field hz rfl (x := .ref pO) rfl (wpAny_bind (wpAny_setField_rec hz (by simp) fun g1 hz1 b1 => ?_)))))
  replace hz1 : IsZip g1 zp pI pO .ellipsis := hz1
  refine wpAny_bind ?_; simp only [List.zipIdx_cons, List.zipIdx_nil, List.forIn_cons, List.forIn_nil]
  refine wpAny_bind (wpAny_bind (wpAny_onRaise ?_))
  show wpAny _ _ (Builtin.SmallTypes.nextOf (.ref ja) >>= _) _ _ _
  have m1 : J1 n g1 := S1.keep h1 fun c hc o e => (b1.2 c (D.oa_ c hc).1).trans e
  cases hx : xs[n]? with
  | none =>
    refine wpAny_bind (S1.stop (s := { s with heap := g1 }) hh m1 hx fun g2 e b2 he => ?_)
    obtain ⟨oe, hoe, hce⟩ := he
    have hz2 : IsZip g2 zp pI pO .ellipsis := b2 _ _ z3.symm hz1
    have ez : e ≠ zp := fun v => by subst v; rw [hz2] at hoe; cases hoe; simp at hce
    exact wpAny_setField_rec hz2 (by simp) fun g3 _ b3 => q g3 e (fun c o c1 _ c3 _ v => (b3.2 _ c1).trans (b2 _ _ c3 ((b1.2 _ c1).trans v))) ⟨oe, (b3.2 _ ez).trans hoe, hce⟩
  | some x =>
    have hy : ys[n]? = none := out.elim (fun v => by rw [hx] at v; cases v) id
    refine wpAny_bind (S1.item (s := { s with heap := g1 }) m1 hx fun g2 k1 b2 => wpAny_pure ?_)
    have hO2 : IsPair g2 pO a b := (b2.2 _ p4).trans ((b1.2 _ z2).trans hO)
    refine wpAny_bind (wpAny_seqItems hO2 rfl (wpAny_bind (wpAny_updateSeq_pair hO2 fun g3 hO3 b3 => wpAny_bind (wpAny_letGo (wpAny_pure ?_)))))
    refine wpAny_bind (wpAny_bind (wpAny_onRaise ?_))
    show wpAny _ _ (Builtin.SmallTypes.nextOf (.ref jb) >>= _) _ _ _
    refine wpAny_bind (S2.stop (s := { s with heap := g3 }) hh (S2.keep h2 fun c hc o e => (b3.2 c (D.ob_ c hc).2.1).trans ((b2.2 c (D.ob_ c hc).2.2).trans ((b1.2 c (D.ob_ c hc).1).trans e))) hy fun g4 e b4 he => ?_)
    obtain ⟨oe, hoe, hce⟩ := he
    have hz4 : IsZip g4 zp pI pO .ellipsis := b4 _ _ z4.symm ((b3.2 _ z2.symm).trans ((b2.2 _ z3.symm).trans hz1))
    have ez : e ≠ zp := fun v => by subst v; rw [hz4] at hoe; cases hoe; simp at hce
    exact wpAny_setField_rec hz4 (by simp) fun g5 _ b5 => q g5 e (fun c o c1 c2 c3 c4 v => (b5.2 _ c1).trans (b4 _ _ c4 ((b3.2 _ c2).trans ((b2.2 _ c3).trans ((b1.2 _ c1).trans v))))) ⟨oe, (b5.2 _ ez).trans hoe, hce⟩
theorem next_item {Q : Option Value → Shared → Prop} (S1 : Steps P w ja oa J1 xs) (S2 : Steps P w jb ob J2 ys) (D : Off zp pI pO ja jb oa ob) (hz : IsZip s.heap zp pI pO .none) (hI : IsPair s.heap pI (.ref ja) (.ref jb)) (hO : IsPair s.heap pO a b)
    (h1 : J1 n s.heap) (h2 : J2 n s.heap) (hx : xs[n]? = some x) (hy : ys[n]? = some y)
    (q : ∀ h', IsZip h' zp pI pO (rawInt s.heap.objs.size) → IsPair h' pO x y → J1 (n + 1) h' → J2 (n + 1) h' → IsPair h' s.heap.objs.size x y → h'.objs.size = s.heap.objs.size + 1 →
      (∀ c o, c ≠ zp → c ≠ pO → c ≠ ja → c ≠ jb → s.heap.get? c = some o → h'.get? c = some o) → Q (some (.ref s.heap.objs.size)) { s with heap := h' }) : wpAny (model P w) A (pyNext (.ref zp)) Q E s := by
  have T : s.TypeIs (.ref zp) "zip" := ⟨_, hz, rfl⟩
  unfold pyNext
  exact wpAny_bind (wpAny_attempt (wpAny_callSpecial?_slot (name := Str.ofString "__next__") T PySem.F.slot_zip_next (wpAny_call_entry PySem.F.slot_zip_next T PySem.F.entry_zip_next (zm_item S1 S2 D hz hI hO h1 h2 hx hy fun h' a1 a2 a3 a4 a5 a6 a7 => wpAny_pure (q h' a1 a2 a3 a4 a5 a6 a7)) (PySem.F.args_zip_next_1 _))))
theorem next_end {Q : Option Value → Shared → Prop} (hh : A.handled = none) (S1 : Steps P w ja oa J1 xs) (S2 : Steps P w jb ob J2 ys) (D : Off zp pI pO ja jb oa ob) (hz : IsZip s.heap zp pI pO .none) (hI : IsPair s.heap pI (.ref ja) (.ref jb)) (hO : IsPair s.heap pO a b)
    (h1 : J1 n s.heap) (h2 : J2 n s.heap) (out : xs[n]? = none ∨ ys[n]? = none) (q : ∀ h', (∀ c o, c ≠ zp → c ≠ pO → c ≠ ja → c ≠ jb → s.heap.get? c = some o → h'.get? c = some o) → Q none { s with heap := h' }) : wpAny (model P w) A (pyNext (.ref zp)) Q E s := by
  have T : s.TypeIs (.ref zp) "zip" := ⟨_, hz, rfl⟩
  unfold pyNext
  refine wpAny_bind (wpAny_attempt (wpAny_callSpecial?_slot (name := Str.ofString "__next__") T PySem.F.slot_zip_next (wpAny_call_entry PySem.F.slot_zip_next T PySem.F.entry_zip_next (zm_end hh S1 S2 D hz hI hO h1 h2 out fun h' e hk he => ?_) (PySem.F.args_zip_next_1 _))))
  obtain ⟨o, ho, hc⟩ := he
  exact wpAny_bind (wpAny_isInstance (T := "StopIteration") (b := true) ⟨o, ho, hc⟩ isSubtype_stop (wpAny_pure (q _ hk)))
end
/-- pairs of a tuple's and a list's items -/
def ItzM (K : PySem.W.Frag) (a b : Addr) : It :=
  ⟨fun i H => ∃ (xs ys : List V) (x y : V), SqT K H a xs ∧ SqL K H b ys ∧ xs[i]? = some x ∧ ys[i]? = some y,
    fun i H v H' => ∃ T x y, v = .ref T ∧ H T = none ∧ H' = upd H T (.tup [x, y]) ∧ (∀ xs, SqT K H a xs → xs[i]? = some x) ∧ ∀ ys, SqL K H b ys → ys[i]? = some y,
    fun i H => ∃ xs ys : List V, SqT K H a xs ∧ SqL K H b ys ∧ (xs.length ≤ i ∨ ys.length ≤ i)⟩
def iZipM (K : PySem.W.Frag) (ta : TA) : TI := fun σ H R => ta σ H fun vs H1 => ∃ a b xs ys, vs = [.ref a, .ref b] ∧ SqT K H1 a xs ∧ SqL K H1 b ys ∧ R (ItzM K a b) H1
theorem off_of {zp pI pO ja jb a b : Addr} (D : ZipApart zp pI pO ja jb a b) : Off zp pI pO ja jb [ja, a] [jb, b] where
  pz := ⟨D.TIz, D.TOz, D.i1z, D.i2z⟩
  pp := ⟨D.TITO, D.TIi1, D.TIi2, D.TOi1, D.TOi2, D.i12⟩
  oa_ := fun c hc => by
    rcases List.mem_cons.mp hc with rfl | h
    · exact ⟨D.i1z, D.TOi1.symm, D.i12⟩
    · obtain rfl := List.mem_singleton.mp h; exact ⟨D.l1z, D.l1TO, D.l1i2⟩
  ob_ := fun c hc => by
    rcases List.mem_cons.mp hc with rfl | h
    · exact ⟨D.i2z, D.TOi2.symm, D.i12.symm⟩
    · obtain rfl := List.mem_singleton.mp h; exact ⟨D.l2z, D.l2TO, D.l2i1⟩
theorem turn_zipM {P : Program} {w : World} {K : PySem.W.Frag} {elts : List Expr} {kk : Nat} {tpos : Pos} {a b zp pI pO ja jb : Addr} (D : ZipApart zp pI pO ja jb a b) :
    Turn P w K (.Tuple elts kk tpos) (ItzM K a b) [zp, pI, pO, ja, jb] zp (fun i h => IsZip h zp pI pO .none ∧ IsPair h pI (.ref ja) (.ref jb) ∧ (∃ x y, IsPair h pO x y) ∧ h.IsTupleIter ja a i ∧ h.IsListIter jb b i) where
  mem := by simp
  obj := fun i h st c hc => by
    obtain ⟨f1, f2, ⟨x, y, f3⟩, ⟨o1, e1, _, d1⟩, ⟨o2, e2, _, d2⟩⟩ := st
    simp only [List.mem_cons, List.not_mem_nil, or_false] at hc
    rcases hc with rfl | rfl | rfl | rfl | rfl
    · exact ⟨_, f1, fun v q => nomatch q⟩
    · exact ⟨_, f2, fun v q => nomatch q⟩
    · exact ⟨_, f3, fun v q => nomatch q⟩
    · exact ⟨o1, e1, fun v q => by rw [d1] at q; cases q⟩
    · exact ⟨o2, e2, fun v q => by rw [d2] at q; cases q⟩
  keep := fun i h h' st k => by
    obtain ⟨f1, f2, ⟨x, y, f3⟩, g1, g2⟩ := st
    exact ⟨k zp (by simp) _ f1, k pI (by simp) _ f2, ⟨x, y, k pO (by simp) _ f3⟩, g1.at fun o q => k ja (by simp) o q, g2.at fun o q => k jb (by simp) o q⟩
  item := by
    intro X eP eW eK calm_ i pins s σ H E Iv fresh_ stt goes
    subst eP eW eK
    obtain ⟨f1, f2, ⟨x0, y0, f3⟩, g1, g2⟩ := stt
    obtain ⟨xs, ys, x, y, qx, qy, atx, aty⟩ := goes
    obtain ⟨ia, va, pa, _⟩ := Iv.tuple qx
    obtain ⟨ib, vb, pb, _⟩ := Iv.list qy
    obtain ⟨u, hu, ru⟩ := va.get atx
    obtain ⟨u2, hu2, ru2⟩ := vb.get aty
    have zl : zp < s.heap.objs.size := Heap.lt_size f1
    refine next_item (steps_tup D.l1i1) (steps_lst D.l2i2) (off_of D) f1 f2 f3 ⟨g1, pa⟩ ⟨g2, pb.isList⟩ (x := u) (y := u2) (by simpa using hu) (by simpa using hu2) fun h' z' o' k1 k2 hT hsz kk => ?_
    refine ⟨_, rfl, wpAny_letOwnedTupleGo_zip (s := { s with heap := h' }) z' fun h'' z'' sb => ?_⟩
    have hT2 : h''.get? s.heap.objs.size = some { cls := .type "tuple", data := .seq #[u, u2] } := (sb.2 _ (Nat.ne_of_gt zl)).trans hT
    have new : ObjOk X.prog X.w (upd H s.heap.objs.size (.tup [x, y])) h'' s.heap.objs.size (.tup [x, y]) := ⟨by show 2 ≤ sizeLine; decide, [u, u2], .cons ru (.cons ru2 .nil), ⟨_, hT2, rfl, _, rfl⟩⟩
    have I1 : Inv X pins σ (upd H s.heap.objs.size (.tup [x, y])) { s with heap := h'' } := Iv.turnedNew (t' := s.toks) (ch := [zp, pI, pO, ja, jb]) (fun c o hb q => (sb.2 c (fun q' => hb (by simp [q']))).trans (kk c o (fun q' => hb (by simp [q'])) (fun q' => hb (by simp [q'])) (fun q' => hb (by simp [q'])) (fun q' => hb (by simp [q'])) q)) fresh_ (Nat.le_refl _) new
    refine ⟨.ref s.heap.objs.size, _, I1, rfl, ⟨_, x, y, rfl, Iv.hok.fresh (Nat.le_refl _), rfl, fun l hl => by rw [Iv.tuple_inj hl qx]; exact atx, fun l hl => by rw [Iv.list_inj hl qy]; exact aty⟩, ⟨z'', ?_, ⟨u, u2, ?_⟩, ?_, ?_⟩, fun c hcm => ?_⟩
    · exact (sb.2 _ D.TIz).trans (kk _ _ D.TIz D.TITO D.TIi1 D.TIi2 f2)
    · exact (sb.2 _ D.TOz).trans o'
    · exact k1.1.at fun o q => (sb.2 _ D.i1z).trans q
    · exact k2.1.at fun o q => (sb.2 _ D.i2z).trans q
    · have hlt : c < s.heap.objs.size := by
        simp only [List.mem_cons, List.not_mem_nil, or_false] at hcm
        rcases hcm with rfl | rfl | rfl | rfl | rfl
        · exact zl
        · exact Heap.lt_size f2
        · exact Heap.lt_size f3
        · obtain ⟨_, e1, _⟩ := g1; exact Heap.lt_size e1
        · obtain ⟨_, e2, _⟩ := g2; exact Heap.lt_size e2
      rw [upd_ne (Nat.ne_of_lt hlt)]
      exact (fresh_ c hcm).1
  done := by
    intro X eP eW eK calm_ i pins s σ H E Iv fresh_ stt goes
    subst eP eW eK
    obtain ⟨f1, f2, ⟨x0, y0, f3⟩, g1, g2⟩ := stt
    obtain ⟨xs, ys, qx, qy, ends⟩ := goes
    obtain ⟨ia, va, pa, _⟩ := Iv.tuple qx
    obtain ⟨ib, vb, pb, _⟩ := Iv.list qy
    have la_ := va.length
    have lb_ := vb.length
    have out : ia.toArray[i]? = none ∨ ib.toArray[i]? = none := ends.imp (fun q => by simp; omega) (fun q => by simp; omega)
    exact next_end (Iv.ok.hd calm_) (steps_tup D.l1i1) (steps_lst D.l2i2) (off_of D) f1 f2 f3 ⟨g1, pa⟩ ⟨g2, pb.isList⟩ out fun h' kk => ⟨rfl, Iv.turnedL (t' := s.toks) (ch := [zp, pI, pO, ja, jb]) (fun c o hb q =>
      kk c o (fun q' => hb (by simp [q'])) (fun q' => hb (by simp [q'])) (fun q' => hb (by simp [q'])) (fun q' => hb (by simp [q'])) q) fresh_⟩
  self := fun A i s Q E stt h => wpAny_pyIter_zip stt.1 h
abbrev zm1 (h : Heap) (a : Addr) : Heap := h.push { cls := .type "tuple_iterator", data := .fields #[.ref a, .int 0 0] }
abbrev zm2 (h : Heap) (a b : Addr) : Heap := (zm1 h a).push { cls := .type "list_iterator", data := .fields #[.ref b, .int 0 0] }
abbrev zm3 (h : Heap) (a b : Addr) : Heap := (zm2 h a b).push { cls := .type "tuple", data := .seq #[.ref h.objs.size, .ref (zm1 h a).objs.size] }
abbrev zm4 (h : Heap) (a b : Addr) : Heap := (zm3 h a b).push { cls := .type "tuple", data := .seq #[.none, .none] }
abbrev zm5 (h : Heap) (a b : Addr) : Heap := (zm4 h a b).push { cls := .type "zip", data := .fields #[.none, .bool false, .bool false, .ref (zm2 h a b).objs.size, .ref (zm3 h a b).objs.size] }
theorem meets_zipM (a b : Addr) (xs ys : Array Value) : Meets (Builtin.«zip.__new__» ⟨[.type "zip", .ref a, .ref b], []⟩) (fun _ R s => s.heap.IsTuple a xs ∧ s.heap.IsList b ys ∧ R (.ok (.ret (.ref (zm4 s.heap a b).objs.size))) { s with heap := zm5 s.heap a b }) :=
  .of_wp fun prog w A R s h => by
    obtain ⟨hp, g, d, tk, os⟩ := s; obtain ⟨ha, hb, h⟩ := h
    have hsub := sub_zip
    have fa : Heap.IsTuple (Shared.heap ⟨hp, g, d, tk, os⟩) a xs := ha
    have fb : Heap.IsList (Shared.heap ⟨hp.push { cls := .type "tuple_iterator", data := .fields #[.ref a, .int 0 0] }, g, d, tk, os⟩) b ys := by obtain ⟨o, ho, r⟩ := hb; exact ⟨o, Heap.get?_push_of_some _ ho, r⟩
    wp_walk using wpAny_pyIter_tuple fa, wpAny_pyIter_list fb
    exact ⟨_, rfl, h⟩
theorem pi_zipM {X : Cx} {e e2 : Expr} {ta : TA} {p pos tpos : Pos} {elts : List Expr} {kk : Nat} (hg : Gl X "zip") (hm : X.mg "zip" = none) (ha : PA X [e, e2] ta)
    (hs : starEach [e, e2] X.env = (false, eval e X.env) :: starEach [e2] X.env := by rfl) (hpl : (backTo pos (starEach [e2] X.env)).any (·.1) = false := by rfl) :
    PI X (.Tuple elts kk tpos) (.Call (.Name "zip" p) [e, e2] [] pos) (iZipM X.K ta) := by
  refine ⟨fun pins s σ H R I h => ?_⟩
  refine Call_ (ld_blt I hg hm PyProof.Rows.boot_zip (PyProof.Rows.callWith_type1 (thn (ha.run pos pins s σ H _ I h) fun us s1 ⟨vs, H1, I1, r1, a, b, xs, ys, ex, hqx, hqy, q⟩ => ?_) hs hpl))
  subst ex
  obtain ⟨ua, ub, rfl, ra, rb⟩ : ∃ ua ub, us = [ua, ub] ∧ RelV (.ref a) ua ∧ RelV (.ref b) ub := by
    cases r1 with
    | cons r rr => cases rr with | cons r' rr => cases rr; exact ⟨_, _, rfl, r, r'⟩
  cases ra; cases rb
  have fresh5 : ∀ c, c ∈ [s1.heap.objs.size + 4, s1.heap.objs.size + 2, s1.heap.objs.size + 3, s1.heap.objs.size, s1.heap.objs.size + 1] → FpOk X pins H1 c := fun c hcm => by
    have hle : s1.heap.objs.size ≤ c := by
      simp only [List.mem_cons, List.not_mem_nil, or_false] at hcm
      omega
    exact I1.fpOk hle (I1.hok.fresh hle)
  obtain ⟨its, rv, p1, _⟩ := I1.tuple hqx
  obtain ⟨its2, rv2, p2, _⟩ := I1.list hqy
  obtain ⟨o1, ho1, _⟩ := id p1
  refine callType_new PySem.F.called_zip (by decide) (PySem.F.typeCall_zip_2 _ _) (PySem.F.newCall_zip_2 _ _) (fun obj => PySem.F.args_object_init_3 obj _ _) PySem.F.entry_zip_new (meets_zipM a b its.toArray its2.toArray) ⟨p1, p2.isList, ?_⟩
  have k : ∀ c o, s1.heap.get? c = some o → (zm5 s1.heap a b).get? c = some o := fun c o x => Heap.get?_push_of_some _ (Heap.get?_push_of_some _ (Heap.get?_push_of_some _ (Heap.get?_push_of_some _ (Heap.get?_push_of_some _ x))))
  have z1 : (zm1 s1.heap a).objs.size = s1.heap.objs.size + 1 := Heap.size_push ..
  have z2 : (zm2 s1.heap a b).objs.size = s1.heap.objs.size + 2 := by rw [Heap.size_push, z1]
  have z3 : (zm3 s1.heap a b).objs.size = s1.heap.objs.size + 3 := by rw [Heap.size_push, z2]
  have z4 : (zm4 s1.heap a b).objs.size = s1.heap.objs.size + 4 := by rw [Heap.size_push, z3]
  have c5 : (zm5 s1.heap a b).get? (zm4 s1.heap a b).objs.size = some _ := Heap.get?_push_size _ rfl
  have c4 : (zm5 s1.heap a b).get? (zm3 s1.heap a b).objs.size = some _ := Heap.get?_push_of_some _ (Heap.get?_push_size _ rfl)
  have c3 : (zm5 s1.heap a b).get? (zm2 s1.heap a b).objs.size = some _ := Heap.get?_push_of_some _ (Heap.get?_push_of_some _ (Heap.get?_push_size _ rfl))
  have c2 : (zm5 s1.heap a b).get? (zm1 s1.heap a).objs.size = some _ := Heap.get?_push_of_some _ (Heap.get?_push_of_some _ (Heap.get?_push_of_some _ (Heap.get?_push_size _ rfl)))
  have c1 : (zm5 s1.heap a b).get? s1.heap.objs.size = some _ := Heap.get?_push_of_some _ (Heap.get?_push_of_some _ (Heap.get?_push_of_some _ (Heap.get?_push_of_some _ (Heap.get?_push_size _ rfl))))
  show _ ∧ _
  rw [z2, z3, z4] at c5
  rw [z1, z2] at c3
  rw [z3] at c4
  rw [z1] at c2
  rw [z4]
  refine ⟨⟨_, c5, rfl⟩, wpAny_pyIter_zip c5 ?_⟩
  exact ⟨s1.heap.objs.size + 4, [s1.heap.objs.size + 4, s1.heap.objs.size + 2, s1.heap.objs.size + 3, s1.heap.objs.size, s1.heap.objs.size + 1], _, _, H1, rfl, I1.kept (t' := s1.toks) k, turn_zipM (PySem.W.ktu_apart s1.heap.objs.size a b (Heap.lt_size ho1) p2.lt), ⟨c5, c3, ⟨_, _, c4⟩, ⟨_, c1, rfl, rfl⟩, ⟨_, c2, rfl, rfl⟩⟩, fresh5, q⟩
end VG

set_option maxRecDepth 100000
set_option maxHeartbeats 8000000
/-! K33: the text by places; what laws share. -/
namespace K33
open PySem PySem.Spec PyProof.Rows L2 LamX VG
def topS (i : Nat) : Stmt := PySem.Challenge.pw_clankernel_k33_whole_priorities_for_answ.main.body.getD i (.Pass ⟨0, 0, 0, 0⟩)
abbrev sWithin : Stmt := topS 1
abbrev sIsTupleOf : Stmt := topS 2
abbrev sIsAscending : Stmt := topS 3
abbrev sNumberOf : Stmt := topS 4
abbrev sNumberIn : Stmt := topS 5
abbrev sCoreError : Stmt := topS 7
abbrev sJobRow : Stmt := topS 13
abbrev sPriorities : Stmt := topS 14
abbrev sShows : Stmt := topS 15
abbrev sShowsNumbers : Stmt := topS 16
abbrev sCanLast : Stmt := topS 17
abbrev sInTime : Stmt := topS 18
abbrev sAnswerTime : Stmt := topS 19
abbrev sTimesAsked : Stmt := topS 20
abbrev sCheckWithin : Stmt := topS 21
abbrev sPot : Stmt := topS 23
abbrev sTake : Stmt := topS 24
abbrev sOf : Stmt := topS 25
abbrev sSome : Stmt := topS 26
abbrev sCells : Stmt := topS 27
abbrev sHeard : Stmt := topS 28
abbrev sOdd : Stmt := topS 29
abbrev sBent : Stmt := topS 30
abbrev sIsInt : Stmt := topS 31
abbrev sLoadsText : Stmt := topS 32
abbrev sLoadsDrawn : Stmt := topS 33
abbrev sLongest : Stmt := topS 34
abbrev sFits : Stmt := topS 35
abbrev sSequences : Stmt := topS 36
abbrev sIsThere : Stmt := topS 37
abbrev sIsTold : Stmt := topS 38
abbrev sLIsWithin : Stmt := topS 39
abbrev sValues : Stmt := topS 40
abbrev sRight : Stmt := topS 41
abbrev sLaw : Stmt := topS 42
theorem scWithin : FnScope ["value", "low", "high"] ["value", "low", "high"] (defScope sWithin) := ⟨rfl, rfl, rfl, by decide +kernel, rfl, by decide +kernel, by decide +kernel⟩
section
variable {P : Program} {w : World} {K : PySem.W.Frag} {mg : Str → Option Value} {base : Heap}
def spWithin (K : PySem.W.Frag) : Sp := fun vs H Q _ => ∃ (v : V) (d : PyData) (lo hi : Int), vs = [v, .int lo, .int hi] ∧ Dk K H v d ∧ Q (.bl (isW d lo hi)) H
theorem ok_within {f : Addr} {fd : FuncData} {k : Nat} (F : Fun K "is_within" "is_within" sWithin f fd) (mt : mg "type" = none) (mi : mg "int" = none) : FnOk P w K mg base CX0 (k + 1) f fd ["value", "low", "high"] (spWithin K) := by
  refine F.ok scWithin (fun vs H Q E h => ?_) (fun cdv A outer s H vs Q E hr h => ?_)
  · obtain ⟨v, d, lo, hi, rfl, _⟩ := h
    rfl
  · obtain ⟨v, d, lo, hi, rfl, hd, q⟩ := h
    refine ⟨_, pss_one (ps_ret (pe_and (pe_cmpR op_isTyB (pe_callTy call_type1 (by rfl) mt (by decide +kernel) (pa_cons (pv 0) pa_nil)) (pe_bltn (v := .ty "int") (by rfl) mi (by decide +kernel) rfl) (nomark _))
      (pe_one (pe_chain op_le op_le (pv 1) (pv 0) (pv 2))))), ?_⟩
    refine ⟨v, rfl, v, tyName d, rfl, hd.ty, _, _, rfl, rfl, _, rfl, ?_⟩
    cases hd with
    | d0 h => exact iteF q
    | d1 h => exact iteF q
    | dp hd =>
      cases hd with
      | non => exact iteF q
      | bl b => exact iteF q
      | str x => exact iteF q
      | lst hs _ => exact iteF q
      | tup hs _ => exact iteF q
      | int i =>
        refine iteT ?_
        refine ⟨_, rfl, _, rfl, lo, i, rfl, rfl, _, rfl, ?_⟩
        by_cases c : lo ≤ i
        · rw [decide_eq_true c]
          refine iteT ⟨_, rfl, i, hi, rfl, rfl, ?_⟩
          have e : isW (.int i) lo hi = decide (i ≤ hi) := by simp [isW, c]
          rw [e] at q
          exact q
        · rw [decide_eq_false c]
          have e : isW (.int i) lo hi = false := by simp [isW, c]
          rw [e] at q
          exact iteF q
end
abbrev sInit : Stmt := inClass (topS 7) 0
theorem scInit : FnScope ["self", "value"] ["self", "value"] (defScope sInit) := ⟨rfl, rfl, rfl, by decide +kernel, rfl, by decide +kernel, by decide +kernel⟩
section
variable {P : Program} {w : World} {K : PySem.W.Frag} {mg : Str → Option Value} {base : Heap}
theorem ok_init {f : Addr} {fd : FuncData} {k : Nat} (F : Fun K "__init__" "CoreError.__init__" sInit f fd) : FnOk P w K mg base CX0 (k + 1) f fd ["self", "value"] (spInit K) := by
  refine F.ok scInit (fun vs H Q E h => ?_) (fun cdv A outer s H vs Q E hr h => ?_)
  · obtain ⟨a, C, v, rfl, _⟩ := h
    rfl
  · obtain ⟨a, C, v, rfl, ha, T, hn, q⟩ := h
    refine ⟨_, pss_one (ps_ost (pv 0) (pv 1)), ?_⟩
    exact ⟨v, rfl, .ref a, rfl, a, C, rfl, T, hn, .inl ⟨ha, fun dx n ne => q dx n ne⟩⟩
end
section
variable {X : Cx}
theorem ps_err {W : WX} {x : Str} {C fI : Addr} {fd : FuncData} {k : Nat} {e : Expr} {te : TE} {p pos pos2 : Pos} (hc : X.calm = true) (T : ErrC X.K C fI) (F : Fun X.K "__init__" "CoreError.__init__" sInit fI fd) (b : Binds X.K fd ["self", "value"] []) (hr : Room (k + 2) X.A) (tk : Takes X W)
    (hg : Gl X x) (hm : X.mg x = some (.ref C)) (he : PE X e te) (hdb : (x == ("__debug__" : Str)) = false := by decide) (hs : starEach (e :: []) X.env = (false, eval e X.env) :: starEach [] X.env := by rfl) :
    PS X (.Raise (some (.Call (.Name x p) [e] [] pos)) none pos2) (tErr X.K C W te) := by
  have G : FnOk X.prog X.w X.K X.mg X.base CX0 (k + 1) fI fd ["self", "value"] (spInit X.K) := ok_init F
  have R := ps_raise (pos := pos2) hc tk (pmk_oex (p := p) (pos := pos) (sp := spInit X.K) T.oex T.iC T.tI G hr b .nil pass0 hg hm (pa_cons he pa_nil hs) hdb hs)
  exact ⟨fun pins s σ H D I h => R.run pins s σ H D I h⟩
end
theorem scTake : FnScope ["pot", "upto", "digit", "prime", "blend"] ["pot", "upto"] (defScope sTake) := ⟨rfl, rfl, rfl, by decide +kernel, rfl, by decide +kernel, by decide +kernel⟩
theorem scPot : FnScope ["script", "place", "cell", "own", "small"] ["script", "place"] (defScope sPot) := ⟨rfl, rfl, rfl, by decide +kernel, rfl, by decide +kernel, by decide +kernel⟩
theorem scOf : FnScope ["pot", "some"] ["pot", "some"] (defScope sOf) := ⟨rfl, rfl, rfl, by decide +kernel, rfl, by decide +kernel, by decide +kernel⟩
theorem scCells : FnScope ["script", "most"] ["script", "most"] (defScope sCells) := ⟨rfl, rfl, rfl, by decide +kernel, rfl, by decide +kernel, by decide +kernel⟩
section
variable {P : Program} {w : World} {K : PySem.W.Frag} {mg : Str → Option Value} {base : Heap}
def spTake : Sp := fun vs H Q _ => ∃ (p : Addr) (u : Int) (n : Nat), vs = [.ref p, .int u] ∧ 0 < u ∧ u < 1000000 ∧ Pot H p n ∧ n < 1000000 ∧ ∀ d H', 0 ≤ d → d < u → Pot H' p (n + 1) → Same (wo H p) (wo H' p) → Q (.int d) H'
theorem ok_take {f : Addr} {fd : FuncData} {k : Nat} (F : Fun K "_law_take" "_law_take" sTake f fd) (mi : mg "int" = none) : FnOk P w K mg base CX0 (k + 1) f fd ["pot", "upto"] spTake := by
  refine F.ok scTake (fun vs H Q E h => ?_) (fun cdv A outer s H vs Q E hr h => ?_)
  · obtain ⟨p, u, n, rfl, _⟩ := h
    rfl
  · obtain ⟨p, u, n, rfl, hu0, hu1, ⟨a, b, c, hp, hb0, hb1, hc0, hc1⟩, hn, q⟩ := h
    refine ⟨_, pss_cons (ps_if (pt_cmpR op_gt (pe_ix ix_list (pv 0) pe_int (fun _ _ => rfl)) pe_int (nomark _))
        (pss_cons (ps_set (i := 2) scTake.nd rfl (.inl rfl) (pe_op op_mod (pe_callTy call_int1 (by rfl) mi (by decide +kernel) (pa_cons (pe_ix ix_list (pv 0) pe_int (fun _ _ => rfl)) pa_nil)) (pv 1)))
        (pss_cons (ps_asg (pe_op op_fdiv (pe_ix ix_list (pv 0) pe_int (fun _ _ => rfl)) (pv 1)) (pg_sub (pv 0) pe_int set_list))
        (pss_one (ps_ret (pv 2))))) pss_nil)
      (pss_cons (ps_asg (pe_op op_add (pe_ix ix_list (pv 0) pe_int (fun _ _ => rfl)) pe_int) (pg_sub (pv 0) pe_int set_list))
      (pss_cons (ps_set (i := 3) scTake.nd rfl (.inl rfl) (pe_ix ix_list (pe_lst (pa_cons pe_int (pa_cons pe_int (pa_cons pe_int (pa_cons pe_int (pa_cons pe_int pa_nil)))))) (pe_op op_mod (pe_callTy call_int1 (by rfl) mi (by decide +kernel) (pa_cons (pe_ix ix_list (pv 0) pe_int (fun _ _ => rfl)) pa_nil)) pe_int) (fun _ _ => rfl)))
      (pss_cons (ps_set (i := 4) scTake.nd rfl (.inl rfl) (pe_op op_mod (pe_callTy call_int1 (by rfl) mi (by decide +kernel) (pa_cons (pe_op op_pow (pe_callTy call_int1 (by rfl) mi (by decide +kernel) (pa_cons
          (pe_op op_add (pe_op op_add (pe_ix ix_list (pv 0) pe_int (fun _ _ => rfl)) (pe_op op_mul (pe_op op_mul pe_int (pe_ix ix_list (pv 0) pe_int (fun _ _ => rfl))) (pe_ix ix_list (pv 0) pe_int (fun _ _ => rfl)))) pe_int) pa_nil)) pe_int) pa_nil)) (pv 3)))
      (pss_cons (ps_set (i := 4) scTake.nd rfl (.inl rfl) (pe_op op_mod (pe_callTy call_int1 (by rfl) mi (by decide +kernel) (pa_cons (pe_op op_mul (pv 4)
          (pe_op op_add (pe_op op_mod (pe_callTy call_int1 (by rfl) mi (by decide +kernel) (pa_cons (pv 4) pa_nil)) pe_int) (pe_op op_mul pe_int (pe_ix ix_list (pv 0) pe_int (fun _ _ => rfl))))) pa_nil)) pe_int))
      (pss_one (ps_ret (pe_op op_mod (pe_callTy call_int1 (by rfl) mi (by decide +kernel) (pa_cons (pe_op op_fdiv (pv 4) pe_int) pa_nil)) (pv 1)))))))), ?_⟩
    have i0 : ∀ {x y z : Int}, atI [V.int x, V.int y, V.int z] 0 = some (.int x) := at_of (j := 0) rfl rfl
    have i1 : ∀ {x y z : Int}, atI [V.int x, V.int y, V.int z] 1 = some (.int y) := at_of (j := 1) rfl rfl
    have i2 : ∀ {x y z : Int}, atI [V.int x, V.int y, V.int z] 2 = some (.int z) := at_of (j := 2) rfl rfl
    refine ⟨.ref p, rfl, p, _, 0, _, rfl, rfl, SqL.of hp, i0, a, 0, rfl, rfl, _, rfl, ite2 (fun e => ?_) (fun e => ?_)⟩
    · have ha : 0 < a := of_decide_eq_true e
      refine ⟨.ref p, rfl, p, _, 0, _, rfl, rfl, SqL.of hp, i0, .inl ⟨a, rfl, _, rfl, a, u, rfl, rfl, hu0, ?_⟩⟩
      refine ⟨.ref p, rfl, p, _, 0, _, rfl, rfl, SqL.of hp, i0, _, rfl, a, u, rfl, rfl, ⟨hu0, by omega⟩, ?_⟩
      refine ⟨.ref p, rfl, p, _, 0, 0, rfl, rfl, hp, rfl, _, rfl, ?_⟩
      refine q (a % u) _ (Int.emod_nonneg _ (by omega)) (Int.emod_lt_of_pos _ hu0) ⟨a / u, b, c, upd_same, hb0, hb1, hc0, by omega⟩ ?_
      rw [wo_upd]
      exact Same.refl _
    · refine ⟨.ref p, rfl, p, _, 2, _, rfl, rfl, SqL.of hp, i2, c, 1, rfl, rfl, ?_⟩
      refine ⟨.ref p, rfl, p, _, 2, 2, rfl, rfl, hp, rfl, ?_⟩
      have hp2 : upd H p (.lst ([V.int a, .int b, .int c].set 2 (.int (c + 1)))) p = some (.lst [.int a, .int b, .int (c + 1)]) := upd_same
      refine ⟨by show 5 ≤ sizeLine; decide, fun l nl => ?_⟩
      have hpl : p ≠ l := ne_of_none hp2 nl
      have hp3 : upd (upd H p (.lst ([V.int a, .int b, .int c].set 2 (.int (c + 1))))) l (.lst [.int 2147483647, .int 2147483629, .int 2147483587, .int 2147483579, .int 2147483563]) p = some (.lst [.int a, .int b, .int (c + 1)]) := by rw [upd_ne hpl]; exact hp2
      have hprime : ∃ pr : Int, atI [V.int 2147483647, .int 2147483629, .int 2147483587, .int 2147483579, .int 2147483563] ((c + 1) % 5) = some (.int pr) ∧ 0 < pr ∧ pr < 2147483648 := by
        have h5 : (c + 1) % 5 = 0 ∨ (c + 1) % 5 = 1 ∨ (c + 1) % 5 = 2 ∨ (c + 1) % 5 = 3 ∨ (c + 1) % 5 = 4 := by omega
        rcases h5 with h | h | h | h | h <;> rw [h]
        · exact ⟨_, at_of (j := 0) rfl rfl, by decide, by decide⟩
        · exact ⟨_, at_of (j := 1) rfl rfl, by decide, by decide⟩
        · exact ⟨_, at_of (j := 2) rfl rfl, by decide, by decide⟩
        · exact ⟨_, at_of (j := 3) rfl rfl, by decide, by decide⟩
        · exact ⟨_, at_of (j := 4) rfl rfl, by decide, by decide⟩
      obtain ⟨pr, hpr, pr0, pr1⟩ := hprime
      refine ⟨.ref p, rfl, p, _, 2, _, rfl, rfl, SqL.of hp3, i2, .inl ⟨c + 1, rfl, c + 1, 5, rfl, rfl, (by show (0 : Int) < 5; decide), ?_⟩⟩
      refine ⟨l, _, (c + 1) % 5, .int pr, rfl, rfl, SqL.of upd_same, hpr, ?_⟩
      -- blend
      refine ⟨.ref p, rfl, p, _, 1, _, rfl, rfl, SqL.of hp3, i1, .ref p, rfl, p, _, 2, _, rfl, rfl, SqL.of hp3, i2, 111224, c + 1, rfl, rfl, .inl ⟨by decide, by decide⟩, ?_⟩
      have hcc : 0 ≤ 111224 * (c + 1) ∧ 111224 * (c + 1) ≤ 111224 * 1000000 := by omega
      refine ⟨.ref p, rfl, p, _, 2, _, rfl, rfl, SqL.of hp3, i2, 111224 * (c + 1), c + 1, rfl, rfl, .inl ⟨by omega, by omega⟩, ?_⟩
      have hsq : 0 ≤ 111224 * (c + 1) * (c + 1) ∧ 111224 * (c + 1) * (c + 1) ≤ 111224 * 1000000 * 1000000 := ⟨Int.mul_nonneg hcc.1 (by omega), Int.mul_le_mul hcc.2 (by omega) (by omega) (by omega)⟩
      refine ⟨b, 111224 * (c + 1) * (c + 1), rfl, rfl, b + 111224 * (c + 1) * (c + 1), 2249, rfl, rfl, .inl ⟨_, rfl, ?_⟩⟩
      refine ⟨_, 3, rfl, rfl, ⟨by decide, by decide, by omega⟩, .inl ⟨_, rfl, _, rfl, _, pr, rfl, rfl, pr0, ?_⟩⟩
      generalize hz : (b + 111224 * (c + 1) * (c + 1) + 2249) ^ (3 : Int).toNat = z
      have hm1 : 0 ≤ z % pr := Int.emod_nonneg _ (by omega)
      have hm2 : z % pr < pr := Int.emod_lt_of_pos _ pr0
      refine ⟨_, rfl, _, rfl, .inl ⟨_, rfl, _, 13208, rfl, rfl, (by show (0 : Int) < 13208; decide), ?_⟩⟩
      refine ⟨.ref p, rfl, p, _, 2, _, rfl, rfl, SqL.of hp3, i2, 519, c + 1, rfl, rfl, .inl ⟨by decide, by decide⟩, _, _, rfl, rfl, ?_⟩
      refine ⟨z % pr, _, rfl, rfl, .inl ⟨by omega, by omega⟩, .inl ⟨_, rfl, _, 2305843009213693907, rfl, rfl, (by show (0 : Int) < 2305843009213693907; decide), ?_⟩⟩
      refine ⟨_, rfl, _, 167, rfl, rfl, ⟨by decide, by decide⟩, .inl ⟨_, rfl, _, rfl, _, u, rfl, rfl, hu0, ?_⟩⟩
      refine q _ _ (Int.emod_nonneg _ (by omega)) (Int.emod_lt_of_pos _ hu0) ⟨a, b, c + 1, hp3, hb0, hb1, by omega, by omega⟩ fun x o e => ?_
      have hx : x ≠ p := fun z => by
        rw [z, wo_same] at e
        cases e
      rw [wo_ne hx] at e ⊢
      have nl2 := nl
      rw [upd_ne hpl.symm] at nl2
      rw [upd_ne (fun z => by rw [z, nl2] at e; cases e), upd_ne hx]
      exact e
/-- some[..]: any item of it -/
def spOf (K : PySem.W.Frag) : Sp := fun vs H Q _ => ∃ (p l : Addr) (xs : List V) (n : Nat), vs = [.ref p, .ref l] ∧ SqL K (wo H p) l xs ∧ xs ≠ [] ∧ xs.length ≤ 1000 ∧ Pot H p n ∧ n < 1000000 ∧ ∀ x ∈ xs, ∀ H', Pot H' p (n + 1) → Same (wo H p) (wo H' p) → Q x H'
theorem ok_of {f f1 : Addr} {fd fd1 : FuncData} {k : Nat} (F : Fun K "_law_of" "_law_of" sOf f fd) (G1 : FnOk P w K mg base CX0 (k + 1) f1 fd1 ["pot", "upto"] spTake) (k1 : PySem.W.keepIn K (.ref f1) = true) (b1 : Binds K fd1 ["pot", "upto"] []) (g1 : mg "_law_take" = some (.ref f1)) (ml : mg "len" = none) :
    FnOk P w K mg base CX0 (k + 2) f fd ["pot", "some"] (spOf K) := by
  refine F.ok scOf (fun vs H Q E h => ?_) (fun cdv A outer s H vs Q E hr h => ?_)
  · obtain ⟨p, l, xs, n, rfl, _⟩ := h
    rfl
  · obtain ⟨p, l, xs, n, rfl, hl, hne, hlen, hp, hn, q⟩ := h
    refine ⟨_, pss_one (ps_ret (pe_ix ix_list (pv 1) (pe_call G1 hr (by rfl) g1 k1 b1 .nil pass0 (pa_cons (pv 0) (pa_cons (pe_callB call_len_seq (by rfl) ml PySem.boot_len (pa_cons (pv 1) pa_nil)) pa_nil))) (fun _ _ => rfl))), ?_⟩
    have h0 : 0 < xs.length := List.length_pos_iff.mpr hne
    refine ⟨.ref l, rfl, .ref p, rfl, .ref l, rfl, l, xs, rfl, .inl (wo_le.seq hl), ?_⟩
    refine ⟨p, (xs.length : Nat), n, rfl, by omega, by omega, hp, hn, fun d H' d0 d1 hp' s' => ?_⟩
    have ed : d = ((d.toNat : Nat) : Int) := by omega
    have hd : d.toNat < xs.length := by omega
    exact ⟨l, xs, d, xs[d.toNat], rfl, rfl, wo_le.seq (s'.seq hl), at_of ed (List.getElem?_eq_getElem hd), q _ (List.getElem_mem hd) H' hp' s'⟩
end
section
variable {P : Program} {w : World} {K : PySem.W.Frag} {mg : Str → Option Value} {base : Heap}
/-- the cells: [0], or [0, 1] -/
def spCells (K : PySem.W.Frag) : Sp := fun vs H Q _ => ∃ (a : Addr) (ns : List Int), vs = [.ref a, .int 2] ∧ SqL K H a (ns.map V.int) ∧ ns.length ≤ 63 ∧ ∀ (q : Addr) (m : Nat), m ≤ 2 → H q = none → Q (.ref q) (upd H q (.lst ((List.range m).map fun i => V.int (i : Nat))))
theorem ok_cells {f : Addr} {fd : FuncData} {k : Nat} (F : Fun K "_law_cells" "_law_cells" sCells f fd) (ml : mg "list" = none) (mr : mg "range" = none) (mx : mg "max" = none) (mn : mg "min" = none) (me : mg "len" = none) : FnOk P w K mg base CX0 (k + 1) f fd ["script", "most"] (spCells K) := by
  refine F.ok scCells (fun vs H Q E h => ?_) (fun cdv A outer s H vs Q E hr h => ?_)
  · obtain ⟨a, ns, rfl, _⟩ := h
    rfl
  · obtain ⟨a, ns, rfl, hs, hn, q⟩ := h
    refine ⟨_, pss_one (ps_ret (pe_listRg rfl (by rfl) ml (prg_1 (by rfl) mr (pe_callB (call_max2 rfl) (by rfl) mx (by decide +kernel) (pa_cons pe_int (pa_cons (pe_callB (call_min2 rfl) (by rfl) mn (by decide +kernel) (pa_cons (pv 1) (pa_cons (pe_callB call_len_seq (by rfl) me PySem.boot_len (pa_cons (pv 0) pa_nil)) pa_nil))) pa_nil)))))), ?_⟩
    refine ⟨_, rfl, .ref a, rfl, a, _, rfl, .inl hs, 2, _, rfl, 1, _, rfl, _, rfl, ?_⟩
    have key : ∀ x : Int, 0 ≤ x → x ≤ 2 → RgOk 0 x ∧ ∀ q_1, H q_1 = none → Q (.ref q_1) (upd H q_1 (.lst (rgV 0 x))) := fun x h0 h2 => by
      refine ⟨RgOk.of_le (by omega) (by omega) (by omega) (by omega), fun p hp => ?_⟩
      have e : rgV 0 x = (List.range x.toNat).map fun i => V.int (i : Nat) := by
        unfold rgV
        rw [Int.sub_zero]
        simp
      rw [e]
      exact q p x.toNat (by omega) hp
    have l63 : ((((ns.map V.int).length : Nat)) : Int) ≥ 0 := Int.natCast_nonneg _
    refine key _ ?_ ?_ <;> split <;> (try split) <;> omega
/-- a new pot of a cell -/
def spPot (K : PySem.W.Frag) : Sp := fun vs H Q _ => ∃ (a : Addr) (ns : List Int) (i : Nat), vs = [.ref a, .int (i : Nat)] ∧ SqL K H a (ns.map V.int) ∧ ns.length ≤ 63 ∧ i ≤ 2 ∧ ∀ (q : Addr) (H' : Hp), H q = none → Same H H' → Pot H' q 0 → Q (.ref q) H'
theorem ok_pot {f : Addr} {fd : FuncData} {k : Nat} (F : Fun K "_law_pot" "_law_pot" sPot f fd) (ml : mg "len" = none) (ms : mg "sum" = none) (mi : mg "int" = none) (ma : mg "abs" = none) : FnOk P w K mg base CX0 (k + 1) f fd ["script", "place"] (spPot K) := by
  refine F.ok scPot (fun vs H Q E h => ?_) (fun cdv A outer s H vs Q E hr h => ?_)
  · obtain ⟨a, ns, i, rfl, _⟩ := h
    rfl
  · obtain ⟨a, ns, i, rfl, hs, hn, hi, q⟩ := h
    refine ⟨_, pss_cons (ps_set (i := 2) scPot.nd rfl (.inl rfl) (pe_ifExp (pt_cmpR op_lt (pv 1) (pe_callB call_len_seq (by rfl) ml PySem.boot_len (pa_cons (pv 0) pa_nil)) (nomark _)) (pe_ix ix_list (pv 0) (pv 1) (fun _ _ => rfl))
        (pe_op op_add (pe_op op_add (pe_op op_mod (pe_callB (cr_sum rfl) (by rfl) ms (by decide +kernel) (pa_cons (pe_slice sl_list (pv 0) po_none (po_some pe_int)) pa_nil)) pe_int) (pe_op op_mul pe_int (pv 1))) pe_int)))
      (pss_cons (ps_set (i := 3) scPot.nd rfl (.inl rfl) (pe_op op_mul (pe_op op_mod (pe_callTy call_int1 (by rfl) mi (by decide +kernel) (pa_cons (pe_callB call_abs (by rfl) ma (by decide +kernel) (pa_cons (pv 2) pa_nil)) pa_nil)) (pe_op op_powB (pe_op op_pow pe_int pe_int) pe_int))
        (pe_callTy call_int1 (by rfl) mi (by decide +kernel) (pa_cons (pe_cmpR op_ge (pe_callB call_abs (by rfl) ma (by decide +kernel) (pa_cons (pv 2) pa_nil)) (pe_op op_pow pe_int pe_int) (nomark _)) pa_nil))))
      (pss_cons (ps_set (i := 4) scPot.nd rfl (.inl rfl) (pe_op op_mod (pe_callTy call_int1 (by rfl) mi (by decide +kernel) (pa_cons (pv 2) pa_nil)) pe_int))
      (pss_one (ps_ret (pe_lst (pa_cons (pv 3) (pa_cons (pe_op op_mod (pe_callTy call_int1 (by rfl) mi (by decide +kernel) (pa_cons (pe_op op_add (pe_op op_add (pe_op op_mul (pv 4) pe_int) (pe_op op_mul (pe_op op_mul pe_int (pv 1)) (pv 1))) pe_int) pa_nil)) pe_int) (pa_cons pe_int pa_nil)))))))), ?_⟩
    refine st_seq (st_setH (PV := fun v H' => ∃ c : Int, v = .int c ∧ Same H H') (fun Q1 q1 => ?_) ?_)
    · refine ⟨_, rfl, .ref a, rfl, a, _, rfl, .inl hs, (i : Nat), ((ns.map V.int).length : Nat), rfl, rfl, _, rfl, ite2 (fun e => ?_) (fun e => ?_)⟩
      · have hlt : i < (ns.map V.int).length := by
          have := of_decide_eq_true e
          omega
        have hlt2 : i < ns.length := by rw [List.length_map] at hlt; exact hlt
        refine ⟨.ref a, rfl, _, rfl, a, _, (i : Nat), .int ns[i], rfl, rfl, hs, at_of rfl (by rw [List.getElem?_map, List.getElem?_eq_getElem hlt2]; rfl), ?_⟩
        exact q1 _ _ ⟨_, rfl, Same.refl H⟩
      · refine ⟨.ref a, rfl, ?_⟩
        unfold tNoPart
        refine ⟨((1 : Nat) : Int), rfl, a, _, rfl, hs, fun l nl => ?_⟩
        have e1 : cutV (ns.map V.int) none (some ((1 : Nat) : Int)) = (ns.take 1).map V.int := by rw [cut_take, List.map_take]
        refine ⟨l, ns.take 1, rfl, SqL.of (by rw [upd_same, ← e1]), ?_⟩
        refine ⟨_, 1000003, rfl, rfl, (by show (0 : Int) < 1000003; decide), _, rfl, 2356, (i : Nat), rfl, rfl, .inl ⟨by decide, by decide⟩, _, _, rfl, rfl, _, 962, rfl, rfl, ?_⟩
        exact q1 _ _ ⟨_, rfl, same_upd nl⟩
    rintro v H1 ⟨c, rfl, s1⟩
    refine ⟨_, rfl, c, rfl, .inl ⟨_, rfl, 10, 60, rfl, rfl, ⟨by decide, by decide, by decide⟩, _, 5, rfl, rfl, ⟨by decide, by decide +kernel⟩, _, _, rfl, rfl, (by show (0 : Int) < _; decide +kernel), ?_⟩⟩
    refine ⟨_, rfl, c, rfl, 10, 18, rfl, rfl, ⟨by decide, by decide, by decide⟩, _, _, rfl, rfl, .inr ⟨_, rfl, _, _, rfl, rfl, .inr ?_, ?_⟩⟩
    · exact (by decide : ∀ z : Bool, -(2 ^ 64) < (if z = true then (1 : Int) else 0) ∧ (if z = true then (1 : Int) else 0) < 2 ^ 64) _
    refine ⟨_, rfl, .inl ⟨c, rfl, c, 2305843009213693951, rfl, rfl, (by show (0 : Int) < 2305843009213693951; decide), ?_⟩⟩
    refine ⟨_, rfl, _, rfl, _, 90230, rfl, rfl, .inr ⟨by decide, by decide⟩, _, rfl, 13964, (i : Nat), rfl, rfl, .inl ⟨by decide, by decide⟩, _, rfl, _, (i : Nat), rfl, rfl, .inr ⟨by omega, by omega⟩, ?_⟩
    refine ⟨_, _, rfl, rfl, _, 1257, rfl, rfl, .inl ⟨_, rfl, _, 2305843009213693921, rfl, rfl, (by show (0 : Int) < 2305843009213693921; decide), ?_⟩⟩
    refine ⟨by show 3 ≤ sizeLine; decide, fun p hp => ?_⟩
    refine q p _ (s1.free hp) (s1.trans (same_upd hp)) ⟨_, _, 0, upd_same, Int.emod_nonneg _ (by decide), ?_, by decide, by decide⟩
    have := Int.emod_lt_of_pos (c % 2305843009213693951 * 90230 + 13964 * (i : Int) * (i : Int) + 1257) (show (0 : Int) < 2305843009213693921 by decide)
    omega
end
theorem scSome : FnScope ["pot", "pool", "many", "left", "found", "lap"] ["pot", "pool", "many"] (defScope sSome) := ⟨rfl, rfl, rfl, by decide +kernel, rfl, by decide +kernel, by decide +kernel⟩
section
variable {P : Program} {w : World} {K : PySem.W.Frag} {mg : Str → Option Value} {base : Heap}
/-- so many of a pool -/
theorem erase_perm : ∀ (l : List V) (i : Nat) (h : i < l.length), (l[i] :: l.eraseIdx i).Perm l
  | a :: l, 0, _ => List.Perm.refl _
  | a :: l, i + 1, h => (List.Perm.swap a (l[i]'(Nat.lt_of_succ_lt_succ h)) _).trans ((erase_perm l i (Nat.lt_of_succ_lt_succ h)).cons a)
  | [], i, h => absurd h (Nat.not_lt_zero i)
def spSome (K : PySem.W.Frag) : Sp := fun vs H Q _ => ∃ (p l : Addr) (xs : List V) (m n : Nat), vs = [.ref p, .ref l, .int (m : Nat)] ∧ SqL K (wo H p) l xs ∧ m ≤ xs.length ∧ xs.length ≤ 1000 ∧ Pot H p n ∧ n + m < 1000000 ∧
  ∀ H' q ys, Pot H' p (n + m) → Same (wo H p) (wo H' p) → wo H' p q = some (.lst ys) → ys.length = m → (∀ y ∈ ys, y ∈ xs) → (∃ zs, (ys ++ zs).Perm xs) → Q (.ref q) H'
theorem ok_some {f f1 : Addr} {fd fd1 : FuncData} {k : Nat} (F : Fun K "_law_some" "_law_some" sSome f fd) (G1 : FnOk P w K mg base CX0 (k + 1) f1 fd1 ["pot", "upto"] spTake) (k1 : PySem.W.keepIn K (.ref f1) = true) (b1 : Binds K fd1 ["pot", "upto"] []) (g1 : mg "_law_take" = some (.ref f1))
    (ml : mg "list" = none) (mr : mg "range" = none) (me : mg "len" = none) : FnOk P w K mg base CX0 (k + 2) f fd ["pot", "pool", "many"] (spSome K) := by
  refine F.ok scSome (fun vs H Q E h => ?_) (fun cdv A outer s H vs Q E hr h => ?_)
  · obtain ⟨p, l, xs, m, n, rfl, _⟩ := h
    rfl
  · obtain ⟨p, l, xs, m, n, rfl, hl, hm, hlen, hp, hn, q⟩ := h
    refine ⟨_, pss_cons (ps_par (i := 3) (j := 4) (by rfl) scSome.nd rfl rfl (by decide) rfl rfl (pa_cons (pe_callTy call_list_of (by rfl) ml (by decide +kernel) (pa_cons (pv 1) pa_nil)) (pa_cons (pe_lst pa_nil) pa_nil)) (by rfl))
      (pss_cons (ps_for PassesOwn.never rfl (pi_range1 (by rfl) mr (pa_cons (pv 2) pa_nil)) (pg_name (i := 5) scSome.nd rfl (.inl rfl))
        (pss_one (ps_expr (pe_bm PySem.F.plainAttrs_list PySem.F.slot_list_append PySem.F.type_list_append mt_append (pv 4) (pa_cons (pe_bm PySem.F.plainAttrs_list PySem.F.slot_list_pop PySem.F.type_list_pop mt_popAt (pv 3) (pa_cons
          (pe_call G1 hr (by rfl) g1 k1 b1 .nil pass0 (pa_cons (pv 0) (pa_cons (pe_callB call_len_seq (by rfl) me PySem.boot_len (pa_cons (pv 3) pa_nil)) pa_nil))) pa_nil)) pa_nil)))))
      (pss_one (ps_ret (pv 4)))), ?_⟩
    refine ⟨.ref l, rfl, l, xs, rfl, .inl (wo_le.seq hl), fun L nL => ?_⟩
    have s1 := same_upd (o := .lst xs) nL
    refine ⟨Nat.zero_le _, fun Fo nF => ⟨.ref L, .ref Fo, rfl, ?_⟩⟩
    have s2 := s1.trans (same_upd (o := .lst []) nF)
    have nF0 : H Fo = none := s1.free nF
    obtain ⟨pa, pb, pc, epp, _⟩ := id hp
    have pL : L ≠ p := (ne_of_none epp nL).symm
    have pF : Fo ≠ p := (ne_of_none epp nF0).symm
    have LF : L ≠ Fo := ne_of_none upd_same nF
    refine ⟨_, rfl, (m : Nat), rfl, by omega, by omega, for_range (n := m) (fun i σ H' => ∃ y5 ls fs, σ = [some (.ref p), some (.ref l), some (.int (m : Nat)), some (.ref L), some (.ref Fo), y5] ∧ Pot H' p (n + i) ∧ Same (wo H p) (wo H' p) ∧
      H' L = some (.lst ls) ∧ H' Fo = some (.lst fs) ∧ ls.length = xs.length - i ∧ fs.length = i ∧ (∀ y ∈ ls, y ∈ xs) ∧ (∀ y ∈ fs, y ∈ xs) ∧ (fs ++ ls).Perm xs) ⟨none, xs, [], rfl, hp.same s2, wo_same_of s2, ?_, upd_same, by omega, rfl, fun y h => h, (fun y h => by cases h), List.Perm.refl _⟩ (fun i σ H' hi hP => ?_) fun σ H' hP => ?_⟩
    · rw [upd_ne LF]
      exact upd_same
    · obtain ⟨y5, ls, fs, rfl, hp', sm, hL, hF, ll, lf, al, af, pm⟩ := hP
      refine ⟨.ref Fo, rfl, .inl ⟨rfl, _, SqL.of hF⟩, .ref L, rfl, .inl ⟨rfl, _, SqL.of hL⟩, .ref p, rfl, .ref L, rfl, L, ls, rfl, .inl (SqL.of hL), ?_⟩
      refine ⟨p, (ls.length : Nat), n + i, rfl, by omega, by omega, hp', by omega, fun d H2 d0 d1 hp2 sd => ?_⟩
      have hL2 : H2 L = some (.lst ls) := wo_le _ _ (sd _ _ (wo_at hL pL))
      have hF2 : H2 Fo = some (.lst fs) := wo_le _ _ (sd _ _ (wo_at hF pF))
      have hd : d.toNat < ls.length := by omega
      have eix : ixN ls.length d = some d.toNat := by
        unfold ixN
        rw [if_pos d0, if_pos d1]
      refine ⟨L, ls, d, d.toNat, ls[d.toNat], rfl, rfl, hL2, by omega, by omega, (ixN_seq eix).1, List.getElem?_eq_getElem hd, ?_⟩
      refine ⟨Fo, _, _, rfl, rfl, (by rw [upd_ne LF.symm]; exact hF2), small1000 (by omega), ?_⟩
      refine ⟨_, ls.eraseIdx d.toNat, fs ++ [ls[d.toNat]], rfl, ?_, wo_updNew (wo_updNew (sm.trans sd) nL) nF0, ?_, upd_same, ?_, ?_, ?_, ?_, ?_⟩
      · obtain ⟨a1, b1', c1, e1, r1⟩ := hp2
        exact ⟨a1, b1', c1, (by rw [upd_ne pF.symm, upd_ne pL.symm]; exact e1), r1⟩
      · rw [upd_ne LF]
        exact upd_same
      · rw [List.length_eraseIdx, if_pos hd]
        omega
      · rw [List.length_append, lf]
        rfl
      · exact fun y hy => al y (List.mem_of_mem_eraseIdx hy)
      · intro y hy
        rcases List.mem_append.mp hy with h | h
        · exact af y h
        · rw [List.mem_singleton.mp h]
          exact al _ (List.getElem_mem hd)
      · rw [List.append_assoc]
        exact ((erase_perm ls _ hd).append_left fs).trans pm
    · obtain ⟨y5, ls, fs, rfl, hp', sm, hL, hF, ll, lf, al, af, pm⟩ := hP
      exact ⟨_, rfl, q H' Fo fs hp' sm (wo_at hF pF) lf af ⟨_, pm⟩⟩
end
section
variable {X : Cx} {pins : List (Addr × Obj)} {σ : L2.St} {H : Hp} {s : Shared}
theorem scHeard : FnScope ["call", "caught", "back", "error"] ["call"] (defScope sHeard) := ⟨rfl, rfl, rfl, by decide +kernel, rfl, by decide +kernel, by decide +kernel⟩
theorem pe_heard {ι : Type} {D : ι → LamD} {tb : ι → XK → TE} {te : TE} {g CS : Addr} {fd : FuncData} {e : Expr} {k : Nat} {p pos : Pos} (F : Fun X.K "_law_heard" "_law_heard" sHeard g fd) (b : L2.Binds X.K fd ["call"] []) (hg : Gl X "_law_heard") (hm : X.mg "_law_heard" = some (.ref g))
    (gS : X.mg "CoreError" = some (.ref CS)) (hr : Room (k + 2) X.A) (he : PE X e te) (L : ∀ j, LamS X.env.scope (D j).scope)
    (hbind : ∀ (j : ι) (pm cv ctv : Value), bindArgs (PySem.W.kla_fn "<lambda>" (X.env.qual ++ "<lambda>") (D j).params (D j).body (D j).scope (cloFrom X.env.cells (D j).scope.names []) pm cv ctv) ⟨[], []⟩ = pure [])
    (hbody : ∀ (j : ι) (A : Around) (outer : List Env) (s : Shared) (H : Hp) (E : XK) (f c' : Addr), Room k (A.deeper (lamEnv X (D j).scope s.heap.objs.size f c')) → PE (lamCx X A outer s H E (D j).scope f c') (D j).body (tb j E))
    (hs : starEach [e] X.env = (false, eval e X.env) :: starEach [] X.env := by rfl) (hpl : (backTo pos (starEach [] X.env)).any (·.1) = false := by rfl) :
    PE X (.Call (.Name "_law_heard" p) [e] [] pos) (tHeard X CS D tb te) := by
  obtain ⟨oc, od, kV, doc, pm, an, cdv, ct, osl, rfl, lk, hcd⟩ := F.ex
  refine ⟨fun pins s σ H Q I h => wpAny_Call_Name_kw (ld_glob I hg hm ?_ (by decide))⟩
  refine PySem.W.callWith_K (h₀ := X.base) I.ok.mod.kin F.kp ?_ hs hpl
  rw [hs] at *
  refine Calls.spliced_cons (thn (he.run pins s σ H _ I h) fun u s1 ⟨v, H1, I1, r1, j, f, ev, hl, th⟩ => Calls.spliced_nil ⟨I1.kIn, ?_⟩)
  subst ev
  obtain rfl : u = Value.ref f := r1
  have rc : codeAny (model X.prog X.w) X.A (.call (.ref g) ⟨[.ref f], []⟩) (CR CX0 X.stack X.prog X.w H1 s1 Q (fun _ _ _ => False)) s1 := by
    refine run_ofS (N := ["call", "caught", "back", "error"]) (ps := ["call"]) (us := [.ref f]) (vs := [.ref f]) lk hcd scHeard hr I1.env0 (b s1 [.ref f] I1.kIn rfl) (.cons rfl .nil) rfl fun hr' => ?_
    have hge : (defScope sHeard).names.lookup (Str.ofString "CoreError") = some NameKind.globalImplicit := by decide +kernel
    refine ⟨_, PSs.nox (pss_cons (ps_asg (pe_tup (pa_cons pe_non (pa_cons pe_non pa_nil))) (pg_tup (by rfl) (pgs_cons (pg_name (i := 1) scHeard.nd rfl (.inl rfl)) (pgs_cons (pg_name (i := 2) scHeard.nd rfl (.inl rfl)) pgs_nil))))
      (pss_cons (ps_heard (c := .ref CS) (i := 3) rfl rfl scHeard.nd rfl rfl ⟨hge, by decide, .inl gS⟩
        (fun W pn xe tk _ => pss_one (ps_set (i := 2) scHeard.nd rfl (.inl rfl) (pe_actT (CXg := CX0) (Eg := fun _ _ _ => False) (i := 0) I1 (L j) (hbind j) tk hr' (fun A outer s H E c' hr2 => hbody j A outer s H E f c' hr2) rfl (.inl rfl))))
        (fun a oe cls d pn _ _ => pss_one (ps_set (i := 1) scHeard.nd rfl (.inl rfl) (pv 3))))
      (pss_one (ps_ret (pe_tup (pa_cons (pv 1) (pa_cons (pv 2) pa_nil))))))), ?_⟩
    refine ⟨by show 2 ≤ sizeLine; decide, fun pn nn => ⟨pn, [.non, .non], rfl, SqT.of upd_same, rfl, .non, [.non], rfl, .non, [], rfl, rfl, rfl, hl.ext (ExtN.of (same_upd nn)), th _ (same_upd nn) _ _ (fun cls d H' hE => ?_) fun v H' hB => ?_⟩⟩
    · obtain ⟨h1, C, dd, h2, h3, h4⟩ := hE
      refine ⟨h1, C, dd, h2, h3, fun a na => ?_⟩
      exact ⟨_, rfl, fun na2 => ⟨_, rfl, _, rfl, by show 2 ≤ sizeLine; decide, fun p hp => h4 a p na hp⟩⟩
    · exact ⟨_, rfl, _, rfl, by show 2 ≤ sizeLine; decide, fun p hp => hB p hp⟩
  refine wpAny_call (codeAny_mono rc fun r s2 hq => ?_)
  cases r with
  | error e => exact (show False from hq).elim
  | ok fl => cases fl with
    | ret u => exact I1.after hq
    | next => exact False.elim hq
    | brk => exact False.elim hq
    | cont => exact False.elim hq
end
theorem scIsInt : FnScope ["value", "low", "high"] ["value", "low", "high"] (defScope sIsInt) := ⟨rfl, rfl, rfl, by decide +kernel, rfl, by decide +kernel, by decide +kernel⟩
section
variable {P : Program} {w : World} {K : PySem.W.Frag} {mg : Str → Option Value} {base : Heap}
theorem ok_isInt {f : Addr} {fd : FuncData} {k : Nat} (F : Fun K "_law_is_int" "_law_is_int" sIsInt f fd) (ms : mg "isinstance" = none) (mi : mg "int" = none) (mb : mg "bool" = none) : FnOk P w K mg base CX0 (k + 1) f fd ["value", "low", "high"] (spWithin K) := by
  refine F.ok scIsInt (fun vs H Q E h => ?_) (fun cdv A outer s H vs Q E hr h => ?_)
  · obtain ⟨v, d, lo, hi, rfl, _⟩ := h
    rfl
  · obtain ⟨v, d, lo, hi, rfl, hd, q⟩ := h
    refine ⟨_, pss_one (ps_ret (pe_and (pe_callB call_isi (by rfl) ms (by decide +kernel) (pa_cons (pv 0) (pa_cons (pe_bltn (v := .ty "int") (by rfl) mi (by decide +kernel) rfl) pa_nil)))
      (pe_and (pe_not (pe_callB call_isi (by rfl) ms (by decide +kernel) (pa_cons (pv 0) (pa_cons (pe_bltn (v := .ty "bool") (by rfl) mb (by decide +kernel) rfl) pa_nil))))
      (pe_one (pe_chain op_le op_le (pv 1) (pv 0) (pv 2)))))), ?_⟩
    have ty := hd.tyx
    refine ⟨v, rfl, ?_⟩
    cases d with
    | none => exact ⟨v, .ty "int", .type "NoneType", .type "int", false, rfl, .ty "int", ty, (kit_ty (show kitB "NoneType" "int" = some false by decide +kernel)), _, rfl, iteF q⟩
    | str x => exact ⟨v, .ty "int", .type "str", .type "int", false, rfl, .ty "int", ty, (kit_ty (show kitB "str" "int" = some false by decide +kernel)), _, rfl, iteF q⟩
    | list _ => exact ⟨v, .ty "int", .type "list", .type "int", false, rfl, .ty "int", ty, (kit_ty (show kitB "list" "int" = some false by decide +kernel)), _, rfl, iteF q⟩
    | tuple _ => exact ⟨v, .ty "int", .type "tuple", .type "int", false, rfl, .ty "int", ty, (kit_ty (show kitB "tuple" "int" = some false by decide +kernel)), _, rfl, iteF q⟩
    | dict _ => exact ⟨v, .ty "int", .type "dict", .type "int", false, rfl, .ty "int", ty, (kit_ty (show kitB "dict" "int" = some false by decide +kernel)), _, rfl, iteF q⟩
    | bool b => exact ⟨v, .ty "int", .type "bool", .type "int", true, rfl, .ty "int", ty, (kit_ty (show kitB "bool" "int" = some true by decide +kernel)), _, rfl, iteT ⟨v, rfl, v, .ty "bool", .type "bool", .type "bool", true, rfl, .ty "bool", ty, (kit_ty (show kitB "bool" "bool" = some true by decide +kernel)), _, rfl, _, rfl, iteF q⟩⟩
    | int i =>
      obtain rfl := dk_int hd
      refine ⟨.int i, .ty "int", .type "int", .type "int", true, rfl, .ty "int", ty, (kit_ty (show kitB "int" "int" = some true by decide +kernel)), _, rfl, iteT ⟨.int i, rfl, .int i, .ty "bool", .type "int", .type "bool", false, rfl, .ty "bool", ty, (kit_ty (show kitB "int" "bool" = some false by decide +kernel)), _, rfl, _, rfl, iteT ?_⟩⟩
      refine ⟨_, rfl, _, rfl, lo, i, rfl, rfl, _, rfl, ?_⟩
      by_cases c : lo ≤ i
      · rw [decide_eq_true c]
        refine iteT ⟨_, rfl, i, hi, rfl, rfl, ?_⟩
        have e : isW (.int i) lo hi = decide (i ≤ hi) := by simp [isW, c]
        rw [e] at q
        exact q
      · rw [decide_eq_false c]
        have e : isW (.int i) lo hi = false := by simp [isW, c]
        rw [e] at q
        exact iteF q
end
theorem scOdd : FnScope ["pot", "some"] ["pot"] (defScope sOdd) := ⟨rfl, rfl, rfl, by decide +kernel, rfl, by decide +kernel, by decide +kernel⟩
section
variable {P : Program} {w : World} {K : PySem.W.Frag} {mg : Str → Option Value} {base : Heap}
/-- any value may come: data, apart from the pot -/
def okOdd (d : PyData) : Bool := okData d && slim d
def spOdd (K : PySem.W.Frag) : Sp := fun vs H Q _ => ∃ (p : Addr) (n : Nat), vs = [.ref p] ∧ Pot H p n ∧ n < 1000000 ∧ ∀ v d H', Pot H' p (n + 1) → Same (wo H p) (wo H' p) → Dk K (nl H H') v d → okOdd d = true → Q v H'
theorem ok_odd {f f1 : Addr} {fd fd1 : FuncData} {k : Nat} (F : Fun K "_law_odd" "_law_odd" sOdd f fd) (G1 : FnOk P w K mg base CX0 (k + 2) f1 fd1 ["pot", "some"] (spOf K)) (k1 : PySem.W.keepIn K (.ref f1) = true) (b1 : Binds K fd1 ["pot", "some"] []) (g1 : mg "_law_of" = some (.ref f1)) :
    FnOk P w K mg base CX0 (k + 3) f fd ["pot"] (spOdd K) := by
  refine F.ok scOdd (fun vs H Q E h => ?_) (fun cdv A outer s H vs Q E hr h => ?_)
  · obtain ⟨p, n, rfl, _⟩ := h
    rfl
  · obtain ⟨p, n, rfl, hp, hn, q⟩ := h
    refine ⟨_, pss_cons (ps_set (i := 1) scOdd.nd rfl (.inl rfl) (pe_lst (pa_cons pe_non (pa_cons pe_bl (pa_cons pe_bl (pa_cons pe_int (pa_cons pe_int (pa_cons (pe_un un_neg pe_int) (pa_cons pe_int (pa_cons (pe_op op_pow pe_int pe_int) (pa_cons pe_str (pa_cons pe_str (pa_cons pe_str (pa_cons pe_str (pa_cons pe_str (pa_cons pe_str
        (pa_cons (pe_tup pa_nil) (pa_cons (pe_lst pa_nil) (pa_cons pe_dnewK (pa_cons (pe_tup (pa_cons pe_int pa_nil)) (pa_cons (pe_tup (pa_cons pe_int (pa_cons pe_int pa_nil))) pa_nil)))))))))))))))))))))
      (pss_cons (ps_set (i := 1) scOdd.nd rfl (.inl rfl) (pe_op op_cat (pv 1) (pe_lst (pa_cons (pe_tup (pa_cons pe_int (pa_cons pe_int pa_nil))) (pa_cons (pe_tup (pa_cons (pe_tup pa_nil) pa_nil)) (pa_cons (pe_lst (pa_cons pe_int pa_nil)) (pa_cons (pe_tup (pa_cons pe_non pa_nil))
        (pa_cons (pe_disp (pps_cons pe_str pe_int pps_nil) (by rfl) (by rfl) (fun z => by cases z) (by decide)) (pa_cons (pe_tup (pa_cons pe_bl pa_nil)) (pa_cons pe_str (pa_cons pe_str (pa_cons (pe_tup (pa_cons pe_str pa_nil)) (pa_cons pe_int (pa_cons pe_int (pa_cons pe_int (pa_cons (pe_tup (pa_cons pe_int (pa_cons pe_int pa_nil))) pa_nil))))))))))))))))
      (pss_one (ps_ret (pe_call G1 hr (by rfl) g1 k1 b1 .nil pass0 (pa_cons (pv 0) (pa_cons (pv 1) pa_nil)))))), ?_⟩
    have hpp := hp
    obtain ⟨pa, pb, pc, hpe, _⟩ := hpp
    have p0 : Same H H := Same.refl H
    refine ⟨1, rfl, ?_⟩
    refine ⟨10, 8, rfl, rfl, (by unfold CPow; decide), ?_⟩
    refine ⟨by show 0 ≤ sizeLine; decide, fun c1 nc1 => ?_⟩
    have ec1 : c1 ≠ p := fun z => by have hz := p0 _ _ hpe; rw [← z] at hz; exact absurd (nc1.symm.trans hz) (fun y => nomatch y)
    have sc1 := same_upd (o := .tup []) nc1
    have pc1 := p0.trans sc1
    refine ⟨by show 0 ≤ sizeLine; decide, fun c2 nc2 => ?_⟩
    have ec2 : c2 ≠ p := fun z => by have hz := pc1 _ _ hpe; rw [← z] at hz; exact absurd (nc2.symm.trans hz) (fun y => nomatch y)
    have sc2 := same_upd (o := .lst []) nc2
    have pc2 := pc1.trans sc2
    refine fun c3 nc3 => ?_
    have ec3 : c3 ≠ p := fun z => by have hz := pc2 _ _ hpe; rw [← z] at hz; exact absurd (nc3.symm.trans hz) (fun y => nomatch y)
    have sc3 := same_upd (o := .dK []) nc3
    have pc3 := pc2.trans sc3
    refine ⟨by show 1 ≤ sizeLine; decide, fun c4 nc4 => ?_⟩
    have ec4 : c4 ≠ p := fun z => by have hz := pc3 _ _ hpe; rw [← z] at hz; exact absurd (nc4.symm.trans hz) (fun y => nomatch y)
    have sc4 := same_upd (o := .tup [V.int 0]) nc4
    have pc4 := pc3.trans sc4
    refine ⟨by show 2 ≤ sizeLine; decide, fun c5 nc5 => ?_⟩
    have ec5 : c5 ≠ p := fun z => by have hz := pc4 _ _ hpe; rw [← z] at hz; exact absurd (nc5.symm.trans hz) (fun y => nomatch y)
    have sc5 := same_upd (o := .tup [V.int 0, .int 1]) nc5
    have pc5 := pc4.trans sc5
    refine ⟨by show 19 ≤ sizeLine; decide, fun l1 nl1 => ?_⟩
    have el1 : l1 ≠ p := fun z => by have hz := pc5 _ _ hpe; rw [← z] at hz; exact absurd (nl1.symm.trans hz) (fun y => nomatch y)
    have sl1 := same_upd (o := .lst [V.non, .bl true, .bl false, .int 0, .int 1, .int (-1), .int 7, .int (10 ^ 8), .str "", .str "r", .str "rw", .str "wr", .str "x", .str "set r0 1", .ref c1, .ref c2, .ref c3, .ref c4, .ref c5]) nl1
    have pl1 := pc5.trans sl1
    refine ⟨_, rfl, ?_⟩
    refine ⟨by show 2 ≤ sizeLine; decide, fun d1 nd1 => ?_⟩
    have ed1 : d1 ≠ p := fun z => by have hz := pl1 _ _ hpe; rw [← z] at hz; exact absurd (nd1.symm.trans hz) (fun y => nomatch y)
    have sd1 := same_upd (o := .tup [V.int 1, .int 0]) nd1
    have pd1 := pl1.trans sd1
    refine ⟨by show 0 ≤ sizeLine; decide, fun d2 nd2 => ?_⟩
    have ed2 : d2 ≠ p := fun z => by have hz := pd1 _ _ hpe; rw [← z] at hz; exact absurd (nd2.symm.trans hz) (fun y => nomatch y)
    have sd2 := same_upd (o := .tup []) nd2
    have pd2 := pd1.trans sd2
    refine ⟨by show 1 ≤ sizeLine; decide, fun d3 nd3 => ?_⟩
    have ed3 : d3 ≠ p := fun z => by have hz := pd2 _ _ hpe; rw [← z] at hz; exact absurd (nd3.symm.trans hz) (fun y => nomatch y)
    have sd3 := same_upd (o := .tup [V.ref d2]) nd3
    have pd3 := pd2.trans sd3
    refine ⟨by show 1 ≤ sizeLine; decide, fun d4 nd4 => ?_⟩
    have ed4 : d4 ≠ p := fun z => by have hz := pd3 _ _ hpe; rw [← z] at hz; exact absurd (nd4.symm.trans hz) (fun y => nomatch y)
    have sd4 := same_upd (o := .lst [V.int 0]) nd4
    have pd4 := pd3.trans sd4
    refine ⟨by show 1 ≤ sizeLine; decide, fun d5 nd5 => ?_⟩
    have ed5 : d5 ≠ p := fun z => by have hz := pd4 _ _ hpe; rw [← z] at hz; exact absurd (nd5.symm.trans hz) (fun y => nomatch y)
    have sd5 := same_upd (o := .tup [V.non]) nd5
    have pd5 := pd4.trans sd5
    refine fun d6 nd6 => ⟨upd_same, [(.inr "a", .int 1)], rfl, by decide, ?_⟩
    have ed6 : d6 ≠ p := fun z => by have hz := pd5 _ _ hpe; rw [← z] at hz; exact absurd (nd6.symm.trans hz) (fun y => nomatch y)
    have sd6 := Same.updNew (o := .dK (mergeK [] [((.inr "a" : Key), V.int 1)])) (same_upd (o := .dK []) nd6) nd6
    have pd6 := pd5.trans sd6
    refine ⟨by show 1 ≤ sizeLine; decide, fun d7 nd7 => ?_⟩
    have ed7 : d7 ≠ p := fun z => by have hz := pd6 _ _ hpe; rw [← z] at hz; exact absurd (nd7.symm.trans hz) (fun y => nomatch y)
    have sd7 := same_upd (o := .tup [V.bl true]) nd7
    have pd7 := pd6.trans sd7
    refine ⟨by show 1 ≤ sizeLine; decide, fun d9 nd9 => ?_⟩
    have ed9 : d9 ≠ p := fun z => by have hz := pd7 _ _ hpe; rw [← z] at hz; exact absurd (nd9.symm.trans hz) (fun y => nomatch y)
    have sd9 := same_upd (o := .tup [V.str "r"]) nd9
    have pd9 := pd7.trans sd9
    refine ⟨by show 2 ≤ sizeLine; decide, fun d10 nd10 => ?_⟩
    have ed10 : d10 ≠ p := fun z => by have hz := pd9 _ _ hpe; rw [← z] at hz; exact absurd (nd10.symm.trans hz) (fun y => nomatch y)
    have sd10 := same_upd (o := .tup [V.int 0, .int 16]) nd10
    have pd10 := pd9.trans sd10
    refine ⟨by show 13 ≤ sizeLine; decide, fun l2 nl2 => ?_⟩
    have el2 : l2 ≠ p := fun z => by have hz := pd10 _ _ hpe; rw [← z] at hz; exact absurd (nl2.symm.trans hz) (fun y => nomatch y)
    have sl2 := same_upd (o := .lst [V.ref d1, .ref d3, .ref d4, .ref d5, .ref d6, .ref d7, .str "any", .str "reply", .ref d9, .int 65535, .int 65536, .int 256, .ref d10]) nl2
    have pl2 := pd10.trans sl2
    refine ⟨l1, l2, [V.non, .bl true, .bl false, .int 0, .int 1, .int (-1), .int 7, .int (10 ^ 8), .str "", .str "r", .str "rw", .str "wr", .str "x", .str "set r0 1", .ref c1, .ref c2, .ref c3, .ref c4, .ref c5], [V.ref d1, .ref d3, .ref d4, .ref d5, .ref d6, .ref d7, .str "any", .str "reply", .ref d9, .int 65535, .int 65536, .int 256, .ref d10], rfl, rfl, (((((((((sd1.trans sd2).trans sd3).trans sd4).trans sd5).trans sd6).trans sd7).trans sd9).trans sd10).trans sl2) _ _ upd_same, upd_same, (by show 32 ≤ sizeLine; decide), fun l3 nl3 => ?_⟩
    have el3 : l3 ≠ p := fun z => by have hz := pl2 _ _ hpe; rw [← z] at hz; exact absurd (nl3.symm.trans hz) (fun y => nomatch y)
    have sl3 := same_upd (o := .lst ([V.non, .bl true, .bl false, .int 0, .int 1, .int (-1), .int 7, .int (10 ^ 8), .str "", .str "r", .str "rw", .str "wr", .str "x", .str "set r0 1", .ref c1, .ref c2, .ref c3, .ref c4, .ref c5] ++ [V.ref d1, .ref d3, .ref d4, .ref d5, .ref d6, .ref d7, .str "any", .str "reply", .ref d9, .int 65535, .int 65536, .int 256, .ref d10])) nl3
    have pl3 := pl2.trans sl3
    have fc1 := wo_at ((((((((((((((((sc2.trans sc3).trans sc4).trans sc5).trans sl1).trans sd1).trans sd2).trans sd3).trans sd4).trans sd5).trans sd6).trans sd7).trans sd9).trans sd10).trans sl2).trans sl3) _ _ upd_same) ec1
    have fc2 := wo_at (((((((((((((((sc3.trans sc4).trans sc5).trans sl1).trans sd1).trans sd2).trans sd3).trans sd4).trans sd5).trans sd6).trans sd7).trans sd9).trans sd10).trans sl2).trans sl3) _ _ upd_same) ec2
    have fc3 := wo_at ((((((((((((((sc4.trans sc5).trans sl1).trans sd1).trans sd2).trans sd3).trans sd4).trans sd5).trans sd6).trans sd7).trans sd9).trans sd10).trans sl2).trans sl3) _ _ upd_same) ec3
    have fc4 := wo_at (((((((((((((sc5.trans sl1).trans sd1).trans sd2).trans sd3).trans sd4).trans sd5).trans sd6).trans sd7).trans sd9).trans sd10).trans sl2).trans sl3) _ _ upd_same) ec4
    have fc5 := wo_at ((((((((((((sl1.trans sd1).trans sd2).trans sd3).trans sd4).trans sd5).trans sd6).trans sd7).trans sd9).trans sd10).trans sl2).trans sl3) _ _ upd_same) ec5
    have fl1 := wo_at (((((((((((sd1.trans sd2).trans sd3).trans sd4).trans sd5).trans sd6).trans sd7).trans sd9).trans sd10).trans sl2).trans sl3) _ _ upd_same) el1
    have fd1 := wo_at ((((((((((sd2.trans sd3).trans sd4).trans sd5).trans sd6).trans sd7).trans sd9).trans sd10).trans sl2).trans sl3) _ _ upd_same) ed1
    have fd2 := wo_at (((((((((sd3.trans sd4).trans sd5).trans sd6).trans sd7).trans sd9).trans sd10).trans sl2).trans sl3) _ _ upd_same) ed2
    have fd3 := wo_at ((((((((sd4.trans sd5).trans sd6).trans sd7).trans sd9).trans sd10).trans sl2).trans sl3) _ _ upd_same) ed3
    have fd4 := wo_at (((((((sd5.trans sd6).trans sd7).trans sd9).trans sd10).trans sl2).trans sl3) _ _ upd_same) ed4
    have fd5 := wo_at ((((((sd6.trans sd7).trans sd9).trans sd10).trans sl2).trans sl3) _ _ upd_same) ed5
    have fd6 := wo_at (((((sd7.trans sd9).trans sd10).trans sl2).trans sl3) _ _ upd_same) ed6
    have fd7 := wo_at ((((sd9.trans sd10).trans sl2).trans sl3) _ _ upd_same) ed7
    have fd9 := wo_at (((sd10.trans sl2).trans sl3) _ _ upd_same) ed9
    have fd10 := wo_at ((sl2.trans sl3) _ _ upd_same) ed10
    have fl2 := wo_at (sl3 _ _ upd_same) el2
    have pot := hp.same pl3
    have woS : Same (wo H p) (wo _ p) := wo_same_of pl3
    refine ⟨_, rfl, _, rfl, p, l3, _, n, rfl, SqL.of (wo_at upd_same el3), by simp, by show 32 ≤ 1000; decide, pot, hn, fun x hx H' hp' s' => ?_⟩
    have qq := fun v d => q v d H' hp' (woS.trans s')
    have gg := woS.trans s'
    simp only [List.cons_append, List.nil_append, List.mem_cons, List.not_mem_nil, or_false] at hx
    rcases hx with rfl | rfl | rfl | rfl | rfl | rfl | rfl | rfl | rfl | rfl | rfl | rfl | rfl | rfl | rfl | rfl | rfl | rfl | rfl | rfl | rfl | rfl | rfl | rfl | rfl | rfl | rfl | rfl | rfl | rfl | rfl | rfl
    · exact qq _ (.none) (.dp .non) (by decide +kernel)
    · exact qq _ (.bool true) (.dp (.bl _)) (by decide +kernel)
    · exact qq _ (.bool false) (.dp (.bl _)) (by decide +kernel)
    · exact qq _ (.int 0) (.dp (.int _)) (by decide +kernel)
    · exact qq _ (.int 1) (.dp (.int _)) (by decide +kernel)
    · exact qq _ (.int (-1)) (.dp (.int _)) (by decide +kernel)
    · exact qq _ (.int 7) (.dp (.int _)) (by decide +kernel)
    · exact qq _ (.int (10 ^ 8)) (.dp (.int _)) (by decide +kernel)
    · exact qq _ (.str "") (.dp (.str _)) (by decide +kernel)
    · exact qq _ (.str "r") (.dp (.str _)) (by decide +kernel)
    · exact qq _ (.str "rw") (.dp (.str _)) (by decide +kernel)
    · exact qq _ (.str "wr") (.dp (.str _)) (by decide +kernel)
    · exact qq _ (.str "x") (.dp (.str _)) (by decide +kernel)
    · exact qq _ (.str "set r0 1") (.dp (.str _)) (by decide +kernel)
    · exact qq _ (.tuple []) (.dp (.tup (SqT.of (nl_at gg (s' _ _ fc1) fun _ z => nomatch z)) .nil)) (by decide +kernel)
    · exact qq _ (.list []) (.dp (.lst (SqL.of ((nl_new (none_of pc1 nc2)).trans (wo_le _ _ (s' _ _ fc2)))) .nil)) (by decide +kernel)
    · exact qq _ (.dict []) (.d0 (nl_at gg (s' _ _ fc3) fun _ z => nomatch z)) (by decide +kernel)
    · exact qq _ (.tuple [.int 0]) (.dp (.tup (SqT.of (nl_at gg (s' _ _ fc4) fun _ z => nomatch z)) (.cons (.int 0) .nil))) (by decide +kernel)
    · exact qq _ (.tuple [.int 0, .int 1]) (.dp (.tup (SqT.of (nl_at gg (s' _ _ fc5) fun _ z => nomatch z)) (.cons (.int 0) (.cons (.int 1) .nil)))) (by decide +kernel)
    · exact qq _ (.tuple [.int 1, .int 0]) (.dp (.tup (SqT.of (nl_at gg (s' _ _ fd1) fun _ z => nomatch z)) (.cons (.int 1) (.cons (.int 0) .nil)))) (by decide +kernel)
    · exact qq _ (.tuple [.tuple []]) (.dp (.tup (SqT.of (nl_at gg (s' _ _ fd3) fun _ z => nomatch z)) (.cons (.tup (SqT.of (nl_at gg (s' _ _ fd2) fun _ z => nomatch z)) .nil) .nil))) (by decide +kernel)
    · exact qq _ (.list [.int 0]) (.dp (.lst (SqL.of ((nl_new (none_of pd3 nd4)).trans (wo_le _ _ (s' _ _ fd4)))) (.cons (.int 0) .nil))) (by decide +kernel)
    · exact qq _ (.tuple [.none]) (.dp (.tup (SqT.of (nl_at gg (s' _ _ fd5) fun _ z => nomatch z)) (.cons .non .nil))) (by decide +kernel)
    · exact qq _ (.dict [(.str "a", .int 1)]) (.d1 (nl_at gg (s' _ _ fd6) fun _ z => nomatch z)) (by decide +kernel)
    · exact qq _ (.tuple [.bool true]) (.dp (.tup (SqT.of (nl_at gg (s' _ _ fd7) fun _ z => nomatch z)) (.cons (.bl true) .nil))) (by decide +kernel)
    · exact qq _ (.str "any") (.dp (.str _)) (by decide +kernel)
    · exact qq _ (.str "reply") (.dp (.str _)) (by decide +kernel)
    · exact qq _ (.tuple [.str "r"]) (.dp (.tup (SqT.of (nl_at gg (s' _ _ fd9) fun _ z => nomatch z)) (.cons (.str "r") .nil))) (by decide +kernel)
    · exact qq _ (.int 65535) (.dp (.int _)) (by decide +kernel)
    · exact qq _ (.int 65536) (.dp (.int _)) (by decide +kernel)
    · exact qq _ (.int 256) (.dp (.int _)) (by decide +kernel)
    · exact qq _ (.tuple [.int 0, .int 16]) (.dp (.tup (SqT.of (nl_at gg (s' _ _ fd10) fun _ z => nomatch z)) (.cons (.int 0) (.cons (.int 16) .nil)))) (by decide +kernel)
end
end K33

set_option maxRecDepth 100000
set_option maxHeartbeats 1000000
/-! k33: loads, answer times, who can stand last; sequences. -/
namespace K33
open PySem PySem.Spec PyProof.Rows L2 LamX VG
abbrev Job := Int × Int × Int
def evJ (js : List Job) (i : Nat) : Int := (js.getD i (1, 0, 0)).1
def rkJ (js : List Job) (i : Nat) : Int := (js.getD i (1, 0, 0)).2.1
def wkJ (js : List Job) (i : Nat) : Int := (js.getD i (1, 0, 0)).2.2
structure GoodJ (js : List Job) : Prop where
  ne : js ≠ []
  few : js.length ≤ 5
  ev : ∀ j ∈ js, 1 ≤ j.1 ∧ j.1 ≤ 99
  wk : ∀ j ∈ js, 1 ≤ j.2.2 ∧ j.2.2 ≤ j.1
  rk : ∀ j ∈ js, 0 ≤ j.2.1 ∧ j.2.1 ≤ 7
  nd : (js.map (·.2.1)).Nodup
theorem getD_mem {js : List Job} {i : Nat} (h : i < js.length) : js.getD i (1, 0, 0) ∈ js := by
  rw [List.getD_eq_getElem?_getD, List.getElem?_eq_getElem h]
  exact List.getElem_mem h
theorem getD_out {js : List Job} {i : Nat} (h : ¬ i < js.length) : js.getD i (1, 0, 0) = (1, 0, 0) := by
  rw [List.getD_eq_getElem?_getD, List.getElem?_eq_none (by omega)]
  rfl
theorem GoodJ.evb {js : List Job} (g : GoodJ js) (i : Nat) : 1 ≤ evJ js i ∧ evJ js i ≤ 99 := by
  unfold evJ
  by_cases h : i < js.length
  · exact g.ev _ (getD_mem h)
  · rw [getD_out h]; decide
theorem GoodJ.wkb {js : List Job} (g : GoodJ js) (i : Nat) : 0 ≤ wkJ js i ∧ wkJ js i ≤ 99 := by
  unfold wkJ
  by_cases h : i < js.length
  · have h1 := g.wk _ (getD_mem h)
    have h2 := g.ev _ (getD_mem h)
    omega
  · rw [getD_out h]; decide
theorem GoodJ.wk1 {js : List Job} (g : GoodJ js) {i : Nat} (h : i < js.length) : 1 ≤ wkJ js i ∧ wkJ js i ≤ evJ js i := g.wk _ (getD_mem h)
/-- how often at the most within so many ticks -/
def ceilI (t e : Int) : Int := (t + e - 1) / e
theorem ceil_neg {t e : Int} (he : 0 < e) : -((-t) / e) = ceilI t e := by
  unfold ceilI
  have h1 := Int.emod_nonneg (-t) (by omega : e ≠ 0)
  have h2 := Int.emod_lt_of_pos (-t) he
  have h3 := Int.mul_ediv_add_emod (-t) e
  have e1 : t + e - 1 = (e - 1 - (-t) % e) + e * (-((-t) / e)) + (2 * ((-t) % e) - 2 * ((-t) % e)) := by
    have : e * (-((-t) / e)) = -(e * ((-t) / e)) := Int.mul_neg _ _
    rw [this]
    omega
  have e2 : t + e - 1 = (e - 1 - (-t) % e) + e * (-((-t) / e)) := by rw [e1]; omega
  have e3 : t + e - 1 = (e - 1 - (-t) % e) + e * (-((-t) / e)) := by
    have : e * (-((-t) / e)) = -(e * ((-t) / e)) := Int.mul_neg _ _
    rw [this]
    omega
  rw [e3, Int.add_mul_ediv_left _ _ (by omega), Int.ediv_eq_zero_of_lt (a := e - 1 - (-t) % e) (by omega) (by omega), Int.zero_add]
theorem ceil_mono {t u e : Int} (he : 0 < e) (h : t ≤ u) : ceilI t e ≤ ceilI u e := Int.ediv_le_ediv he (by omega)
theorem ceil_nonneg {t e : Int} (he : 0 < e) (h : 0 ≤ t) : 0 ≤ ceilI t e := Int.ediv_nonneg (by omega) (by omega)
theorem ceil_le {t e : Int} (he : 1 ≤ e) (h : 0 ≤ t) : ceilI t e ≤ t := by
  unfold ceilI
  by_cases h0 : t = 0
  · subst h0
    rw [Int.ediv_eq_zero_of_lt (by omega) (by omega)]
    exact Int.le_refl _
  · refine Int.ediv_le_of_le_mul (by omega) ?_
    have : 0 ≤ (t - 1) * (e - 1) := Int.mul_nonneg (by omega) (by omega)
    have e1 : (t - 1) * (e - 1) = t * e - t - e + 1 := by
      rw [Int.sub_mul, Int.mul_sub, Int.mul_sub]
      omega
    omega
/-- the sum over all that are picked -/
def sumP (js : List Job) (t : Int) (p : Nat → Bool) : List Nat → Int
  | [] => 0
  | i :: r => (if p i = true then wkJ js i * ceilI t (evJ js i) else 0) + sumP js t p r
/-- the sum over some others, as they are told -/
def sumL (js : List Job) (t : Int) : List Nat → Int
  | [] => 0
  | i :: r => wkJ js i * ceilI t (evJ js i) + sumL js t r
theorem sumL_app {js : List Job} {t : Int} : ∀ (l m : List Nat), sumL js t (l ++ m) = sumL js t l + sumL js t m
  | [], m => by rw [List.nil_append]; exact (Int.zero_add _).symm
  | i :: l, m => by rw [List.cons_append, sumL, sumL, sumL_app l m]; omega
theorem sumP_congr {js : List Job} {t : Int} {p q : Nat → Bool} : ∀ {l : List Nat}, (∀ i ∈ l, p i = q i) → sumP js t p l = sumP js t q l
  | [], _ => rfl
  | i :: l, h => by
    rw [sumP, sumP, h i (by simp), sumP_congr fun j hj => h j (List.mem_cons_of_mem _ hj)]
theorem sumP_one {js : List Job} {t : Int} {p : Nat → Bool} {o : Nat} (hp : p o = false) : ∀ {l : List Nat}, l.Nodup → o ∈ l → sumP js t (fun i => decide (i = o) || p i) l = wkJ js o * ceilI t (evJ js o) + sumP js t p l
  | [], _, h => by cases h
  | i :: l, nd, h => by
    obtain ⟨h1, h2⟩ := List.nodup_cons.mp nd
    rw [sumP, sumP]
    by_cases e : i = o
    · subst e
      rw [hp, sumP_congr (q := p) fun j hj => by
        have : j ≠ i := fun z => h1 (z ▸ hj)
        simp [this]]
      simp
    · have ho : o ∈ l := (List.mem_cons.mp h).resolve_left fun z => e z.symm
      rw [sumP_one hp h2 ho]
      simp only [e, decide_false, Bool.false_or]
      omega
theorem sumP_none {js : List Job} {t : Int} : ∀ l : List Nat, sumP js t (fun _ => false) l = 0
  | [] => rfl
  | i :: l => by rw [sumP, sumP_none l]; rfl
theorem sumL_eq {js : List Job} {t : Int} {n : Nat} : ∀ {os : List Nat}, os.Nodup → (∀ o ∈ os, o < n) → sumL js t os = sumP js t (fun i => decide (i ∈ os)) (List.range n)
  | [], _, _ => by
    rw [sumP_congr (q := fun _ => false) fun i _ => by simp, sumP_none]
    rfl
  | o :: os, nd, h => by
    obtain ⟨h1, h2⟩ := List.nodup_cons.mp nd
    rw [sumL, sumL_eq h2 fun x hx => h x (List.mem_cons_of_mem _ hx), ← sumP_one (p := fun i => decide (i ∈ os)) (decide_eq_false h1) List.nodup_range (List.mem_range.mpr (h o (by simp)))]
    exact sumP_congr fun i _ => by simp [List.mem_cons, Bool.decide_or]
theorem sumP_mono {js : List Job} (g : GoodJ js) {t u : Int} {p q : Nat → Bool} (h0 : 0 ≤ t) (h : t ≤ u) : ∀ {l : List Nat}, (∀ i ∈ l, p i = true → q i = true) → sumP js t p l ≤ sumP js u q l
  | [], _ => Int.le_refl _
  | i :: l, hpq => by
    rw [sumP, sumP]
    have ih := sumP_mono g h0 h (p := p) (q := q) fun j hj => hpq j (List.mem_cons_of_mem _ hj)
    have he := (g.evb i).1
    have hw := (g.wkb i).1
    have h1 : wkJ js i * ceilI t (evJ js i) ≤ wkJ js i * ceilI u (evJ js i) := Int.mul_le_mul_of_nonneg_left (ceil_mono (by omega) h) hw
    have h2 : 0 ≤ wkJ js i * ceilI u (evJ js i) := Int.mul_nonneg hw (ceil_nonneg (by omega) (by omega))
    have hi := hpq i (by simp)
    cases hp : p i with
    | true => rw [hi hp, if_pos rfl, if_pos rfl]; omega
    | false =>
      rw [if_neg (by decide)]
      split <;> omega
theorem sumP_nonneg {js : List Job} (g : GoodJ js) {t : Int} {p : Nat → Bool} (h0 : 0 ≤ t) {l : List Nat} : 0 ≤ sumP js t p l := by
  have := sumP_mono g h0 (Int.le_refl t) (p := fun _ => false) (q := p) (l := l) fun _ _ h => by cases h
  rwa [sumP_none] at this
def stepP (js : List Job) (m : Nat) (p : Nat → Bool) (t : Int) : Int := wkJ js m + sumP js t p (List.range js.length)
/-- the answer time, so many turns of the loop on -/
def lngF (js : List Job) (m : Nat) (p : Nat → Bool) : Nat → Int → Option Int
  | 0, _ => none
  | f + 1, t => if t ≤ evJ js m then (if stepP js m p t = t then some t else lngF js m p f (stepP js m p t)) else none
def lng (js : List Job) (m : Nat) (p : Nat → Bool) : Option Int := lngF js m p 101 (wkJ js m)
theorem stepP_mono {js : List Job} (g : GoodJ js) {m : Nat} {t u : Int} {p q : Nat → Bool} (h0 : 0 ≤ t) (h : t ≤ u) (hpq : ∀ i, i < js.length → p i = true → q i = true) : stepP js m p t ≤ stepP js m q u := by
  have := sumP_mono g h0 h (p := p) (q := q) (l := List.range js.length) fun i hi => hpq i (List.mem_range.mp hi)
  unfold stepP
  omega
theorem stepP_first {js : List Job} (g : GoodJ js) {m : Nat} {p : Nat → Bool} : wkJ js m ≤ stepP js m p (wkJ js m) := by
  have := sumP_nonneg g (g.wkb m).1 (p := p) (l := List.range js.length)
  unfold stepP
  omega
theorem lngF_fix {js : List Job} {m : Nat} {p : Nat → Bool} {r : Int} : ∀ (f : Nat) (t : Int), lngF js m p f t = some r → stepP js m p r = r ∧ r ≤ evJ js m
  | 0, t, h => by cases h
  | f + 1, t, h => by
    unfold lngF at h
    split at h
    · rename_i h1
      split at h
      · rename_i h2
        cases h
        exact ⟨h2, h1⟩
      · exact lngF_fix f _ h
    · cases h
theorem lngF_le {js : List Job} (g : GoodJ js) {m : Nat} {p q : Nat → Bool} {r : Int} (hr : stepP js m q r = r) (hre : r ≤ evJ js m) (hpq : ∀ i, i < js.length → p i = true → q i = true) :
    ∀ (f : Nat) (t : Int), 99 - t < (f : Nat) → 0 ≤ t → t ≤ stepP js m p t → t ≤ r → ∃ u, lngF js m p f t = some u ∧ u ≤ r
  | 0, t, hf, _, _, h => by
    have := (g.evb m).2
    omega
  | f + 1, t, hf, h0, hs, h => by
    unfold lngF
    rw [if_pos (by omega)]
    by_cases c : stepP js m p t = t
    · rw [if_pos c]
      exact ⟨t, rfl, h⟩
    · rw [if_neg c]
      have h1 : stepP js m p t ≤ stepP js m q r := stepP_mono g h0 h hpq
      exact lngF_le g hr hre hpq f _ (by omega) (by omega) (stepP_mono g h0 hs fun _ _ z => z) (by omega)
def fitP (js : List Job) (ws : List Int) (m : Nat) (p : Nat → Bool) : Bool := match lng js m p with
  | some t => decide (t ≤ ws.getD m 0)
  | none => false
theorem fit_mono {js : List Job} (g : GoodJ js) {ws : List Int} {m : Nat} {p q : Nat → Bool} (hpq : ∀ i, i < js.length → p i = true → q i = true) (h : fitP js ws m q = true) : fitP js ws m p = true := by
  unfold fitP at h ⊢
  cases e : lng js m q with
  | none => rw [e] at h; cases h
  | some r =>
    rw [e] at h
    obtain ⟨h1, h2⟩ := lngF_fix _ _ e
    have hw := (g.wkb m).1
    have h3 : wkJ js m ≤ r := by
      by_cases c : 0 ≤ r
      · have := sumP_nonneg g c (p := q) (l := List.range js.length)
        unfold stepP at h1
        omega
      · exfalso
        have : stepP js m q r = r := h1
        -- below nought nothing is a fixed place
        have e2 : lngF js m q 101 (wkJ js m) = some r := e
        have key : ∀ (f : Nat) (t : Int), 0 ≤ t → t ≤ stepP js m q t → lngF js m q f t = some r → t ≤ r := by
          intro f
          induction f with
          | zero => intro t _ _ h; cases h
          | succ f ih =>
            intro t ht hs h
            unfold lngF at h
            split at h
            · split at h
              · cases h; exact Int.le_refl _
              · have := ih _ (by omega) (stepP_mono g ht hs fun _ _ z => z) h
                omega
            · cases h
        have := key _ _ hw (stepP_first g) e2
        omega
    obtain ⟨u, hu, hur⟩ := lngF_le g h1 h2 hpq 101 (wkJ js m) (by omega) hw (stepP_first g) h3
    have hu' : lng js m p = some u := hu
    rw [hu']
    have h4 : r ≤ ws.getD m 0 := of_decide_eq_true h
    exact decide_eq_true (by omega)
theorem lng_congr {js : List Job} {m : Nat} {p q : Nat → Bool} (h : ∀ i, i < js.length → p i = q i) : lng js m p = lng js m q := by
  have e : ∀ t, stepP js m p t = stepP js m q t := fun t => by
    unfold stepP
    rw [sumP_congr fun i hi => h i (List.mem_range.mp hi)]
  have : ∀ f t, lngF js m p f t = lngF js m q f t := by
    intro f
    induction f with
    | zero => intro t; rfl
    | succ f ih =>
      intro t
      unfold lngF
      rw [e t, ih]
  exact this _ _
theorem fit_congr {js : List Job} {ws : List Int} {m : Nat} {p q : Nat → Bool} (h : ∀ i, i < js.length → p i = q i) : fitP js ws m p = fitP js ws m q := by
  unfold fitP
  rw [lng_congr h]
/-! ### who can stand last -/
def without (lot : List Nat) (j : Nat) : List Nat := lot.filter fun o => !decide (o = j)
theorem mem_without {lot : List Nat} {j o : Nat} : o ∈ without lot j ↔ o ∈ lot ∧ o ≠ j := by
  unfold without
  rw [List.mem_filter]
  simp
def lastJ (js : List Job) (ws : List Int) (lot : List Nat) : List Nat := lot.filter fun j => fitP js ws j fun o => decide (o ∈ without lot j)
inductive Told where
  | lot (l : List Nat)
  | nums (l : List Int)
def greedy (js : List Job) (ws : List Int) : Nat → Nat → List Nat → List Int → Told
  | 0, _, _, ns => .nums ns
  | f + 1, k, lot, ns => match lastJ js ws lot with
    | [] => .lot lot
    | j :: _ => greedy js ws f (k + 1) (without lot j) (ns.set j (k : Nat))
def Asc (l : List Nat) : Prop := l.Pairwise (· < ·)
theorem Asc.nd {l : List Nat} (h : Asc l) : l.Nodup := List.Pairwise.imp (fun h => Nat.ne_of_lt h) h
theorem Asc.without {l : List Nat} (h : Asc l) (j : Nat) : Asc (without l j) := List.Pairwise.filter _ h
theorem without_len {l : List Nat} {j : Nat} (nd : l.Nodup) (h : j ∈ l) : (without l j).length + 1 = l.length := by
  induction l with
  | nil => cases h
  | cons a r ih =>
    obtain ⟨h1, h2⟩ := List.nodup_cons.mp nd
    unfold without
    by_cases e : a = j
    · subst e
      rw [List.filter_cons_of_neg (by simp), List.length_cons]
      have : List.filter (fun o => !decide (o = a)) r = r := List.filter_eq_self.mpr fun o ho => by
        have : o ≠ a := fun z => h1 (z ▸ ho)
        simp [this]
      rw [this]
    · rw [List.filter_cons_of_pos (by simp [e]), List.length_cons, List.length_cons]
      have := ih h2 ((List.mem_cons.mp h).resolve_left fun z => e z.symm)
      unfold without at this
      rw [this]
/-- all of a line are in time, those ahead being greater -/
def lineB (js : List Job) (ws : List Int) (line : List Nat) : Bool := (List.range line.length).all fun at_ => fitP js ws (line.getD at_ 0) fun o => decide (o ∈ line.take at_)
theorem lineB_iff {js : List Job} {ws : List Int} {line : List Nat} : lineB js ws line = true ↔ ∀ i, i < line.length → fitP js ws (line.getD i 0) (fun o => decide (o ∈ line.take i)) = true := by
  unfold lineB
  rw [List.all_eq_true]
  exact ⟨fun h i hi => h i (List.mem_range.mpr hi), fun h i hi => h i (List.mem_range.mp hi)⟩
theorem lineB_snoc {js : List Job} {ws : List Int} {l : List Nat} {x : Nat} : lineB js ws (l ++ [x]) = true ↔ lineB js ws l = true ∧ fitP js ws x (fun o => decide (o ∈ l)) = true := by
  rw [lineB_iff, lineB_iff]
  have e1 : ∀ i, i < l.length → (l ++ [x]).getD i 0 = l.getD i 0 ∧ (l ++ [x]).take i = l.take i := fun i hi => ⟨by
    rw [List.getD_eq_getElem?_getD, List.getD_eq_getElem?_getD, List.getElem?_append_left hi], by rw [List.take_append_of_le_length (by omega)]⟩
  have e2 : (l ++ [x]).getD l.length 0 = x ∧ (l ++ [x]).take l.length = l := ⟨by
    rw [List.getD_eq_getElem?_getD, List.getElem?_append_right (Nat.le_refl _), Nat.sub_self]
    rfl, by rw [List.take_append_of_le_length (Nat.le_refl _), List.take_length]⟩
  constructor
  · intro h
    refine ⟨fun i hi => ?_, ?_⟩
    · have := h i (by rw [List.length_append]; omega)
      rwa [(e1 i hi).1, (e1 i hi).2] at this
    · have := h l.length (by rw [List.length_append, List.length_singleton]; omega)
      rwa [e2.1, e2.2] at this
  · rintro ⟨h1, h2⟩ i hi
    rw [List.length_append, List.length_singleton] at hi
    by_cases c : i < l.length
    · rw [(e1 i c).1, (e1 i c).2]
      exact h1 i c
    · obtain rfl : i = l.length := by omega
      rw [e2.1, e2.2]
      exact h2
/-- who stands last of a lot in a line that does -/
theorem some_last {js : List Job} (g : GoodJ js) {ws : List Int} {lot : List Nat} (hne : lot ≠ []) : ∀ (n : Nat) (line : List Nat), line.length = n → (∀ j ∈ lot, j ∈ line) → lineB js ws line = true → ∃ j ∈ lot, fitP js ws j (fun o => decide (o ∈ without lot j)) = true
  | 0, line, hl, hs, _ => by
    have : line = [] := List.length_eq_zero_iff.mp hl
    subst this
    cases lot with
    | nil => exact absurd rfl hne
    | cons a r => exact absurd (hs a (by simp)) (by simp)
  | n + 1, line, hl, hs, h => by
    have hne2 : line ≠ [] := fun z => by rw [z] at hl; cases hl
    obtain ⟨l, x, rfl⟩ : ∃ l x, line = l ++ [x] := ⟨_, _, (List.dropLast_concat_getLast hne2).symm⟩
    obtain ⟨h1, h2⟩ := lineB_snoc.mp h
    rw [List.length_append, List.length_singleton] at hl
    by_cases c : x ∈ lot
    · refine ⟨x, c, fit_mono g (fun i _ hi => ?_) h2⟩
      obtain ⟨i1, i2⟩ := mem_without.mp (of_decide_eq_true hi)
      rcases List.mem_append.mp (hs i i1) with z | z
      · exact decide_eq_true z
      · exact absurd (List.mem_singleton.mp z) i2
    · refine some_last g hne n l (by omega) (fun j hj => ?_) h1
      rcases List.mem_append.mp (hs j hj) with z | z
      · exact z
      · exact absurd (List.mem_singleton.mp z ▸ hj) c
/-- a lot that none can stand last in: no line does -/
theorem greedy_lot {js : List Job} {ws : List Int} : ∀ (f k : Nat) (lot : List Nat) (ns : List Int) {l : List Nat}, Asc lot → lot.length = f → greedy js ws f k lot ns = .lot l → l ≠ [] ∧ Asc l ∧ (∀ j ∈ l, j ∈ lot) ∧ lastJ js ws l = []
  | 0, k, lot, ns, l, _, _, h => by cases h
  | f + 1, k, lot, ns, l, ha, hl, h => by
    unfold greedy at h
    cases e : lastJ js ws lot with
    | nil =>
      rw [e] at h
      cases h
      exact ⟨fun z => by (rw [z] at hl; cases hl), ha, fun j hj => hj, e⟩
    | cons j r =>
      rw [e] at h
      have hj : j ∈ lot := (List.mem_filter.mp (show j ∈ lastJ js ws lot by rw [e]; simp)).1
      have hlen := without_len ha.nd hj
      obtain ⟨h1, h2, h3, h4⟩ := greedy_lot f (k + 1) (without lot j) _ (ha.without j) (by omega) h
      exact ⟨h1, h2, fun x hx => (mem_without.mp (h3 x hx)).1, h4⟩
theorem lastJ_nil {js : List Job} {ws : List Int} {lot : List Nat} (h : lastJ js ws lot = []) {j : Nat} (hj : j ∈ lot) : fitP js ws j (fun o => decide (o ∈ without lot j)) = false := by
  cases c : fitP js ws j (fun o => decide (o ∈ without lot j)) with
  | false => rfl
  | true =>
    have : j ∈ lastJ js ws lot := List.mem_filter.mpr ⟨hj, c⟩
    rw [h] at this
    cases this
/-- numbers that are told: a line does -/
theorem greedy_line {js : List Job} {ws : List Int} : ∀ (f k : Nat) (lot : List Nat) (ns : List Int) {l : List Int}, Asc lot → lot.length = f → greedy js ws f k lot ns = .nums l → ∃ line : List Nat, line.Nodup ∧ line.length = f ∧ (∀ x, x ∈ line ↔ x ∈ lot) ∧ lineB js ws line = true
  | 0, k, lot, ns, l, _, hl, h => ⟨[], List.nodup_nil, rfl, fun x => by rw [List.length_eq_zero_iff.mp hl], rfl⟩
  | f + 1, k, lot, ns, l, ha, hl, h => by
    unfold greedy at h
    cases e : lastJ js ws lot with
    | nil => rw [e] at h; cases h
    | cons j r =>
      rw [e] at h
      obtain ⟨hj, hf⟩ := List.mem_filter.mp (show j ∈ lastJ js ws lot by rw [e]; simp)
      have hlen := without_len ha.nd hj
      obtain ⟨line, h1, h2, h3, h4⟩ := greedy_line f (k + 1) (without lot j) _ (ha.without j) (by omega) h
      refine ⟨line ++ [j], ?_, by rw [List.length_append, h2]; rfl, fun x => ?_, lineB_snoc.mpr ⟨h4, ?_⟩⟩
      · rw [List.nodup_append]
        refine ⟨h1, by simp, fun a ha b hb => ?_⟩
        rw [List.mem_singleton] at hb
        subst hb
        exact (mem_without.mp ((h3 a).mp ha)).2
      · rw [List.mem_append, List.mem_singleton, h3, mem_without]
        by_cases c : x = j
        · subst c; simp [hj]
        · simp [c]
      · rw [fit_congr (q := fun o => decide (o ∈ without lot j)) fun i _ => by simp only [h3]]
        exact hf
/-- what holds of the numbers so far -/
structure NumsOk (js : List Job) (ws : List Int) (k : Nat) (lot : List Nat) (ns : List Int) : Prop where
  len : ns.length = js.length
  lo : ∀ x ∈ ns, 0 ≤ x ∧ x ≤ 4
  lt : ∀ j, j < js.length → j ∉ lot → ns.getD j 0 < (k : Nat)
  dis : ∀ i j, i < js.length → j < js.length → i ∉ lot → j ∉ lot → i ≠ j → ns.getD i 0 ≠ ns.getD j 0
  fit : ∀ j, j < js.length → j ∉ lot → fitP js ws j (fun o => decide (o ∈ lot) || decide (ns.getD j 0 < ns.getD o 0)) = true
theorem getD_set {ns : List Int} {i j : Nat} {x : Int} (hj : j < ns.length) : (ns.set j x).getD i 0 = if i = j then x else ns.getD i 0 := by
  rw [List.getD_eq_getElem?_getD, List.getD_eq_getElem?_getD, List.getElem?_set]
  by_cases c : i = j
  · subst c; simp [hj]
  · rw [if_neg fun z => c z.symm, if_neg c]
theorem greedy_nums {js : List Job} (g : GoodJ js) {ws : List Int} : ∀ (f k : Nat) (lot : List Nat) (ns : List Int) {l : List Int}, Asc lot → lot.length = f → k + f = js.length → (∀ j ∈ lot, j < js.length) → NumsOk js ws k lot ns → greedy js ws f k lot ns = .nums l → NumsOk js ws js.length [] l
  | 0, k, lot, ns, l, _, hl, hk, hlt, ok, h => by
    cases h
    have e : lot = [] := List.length_eq_zero_iff.mp hl
    subst e
    obtain rfl : k = js.length := by omega
    exact ok
  | f + 1, k, lot, ns, l, ha, hl, hk, hlt, ok, h => by
    unfold greedy at h
    cases e : lastJ js ws lot with
    | nil => rw [e] at h; cases h
    | cons j r =>
      rw [e] at h
      obtain ⟨hj, hf⟩ := List.mem_filter.mp (show j ∈ lastJ js ws lot by rw [e]; simp)
      have hlen := without_len ha.nd hj
      have hjn := hlt j hj
      have hjl : j < ns.length := by rw [ok.len]; exact hjn
      have hfew := g.few
      refine greedy_nums g f (k + 1) (without lot j) _ (ha.without j) (by omega) (by omega) (fun x hx => hlt x (mem_without.mp hx).1) ⟨by rw [List.length_set]; exact ok.len, fun x hx => ?_, fun i hi hn => ?_, fun a b ha1 hb1 hna hnb hab => ?_, fun i hi hn => ?_⟩ h
      · rcases List.mem_or_eq_of_mem_set hx with z | z
        · exact ok.lo x z
        · subst z; omega
      · rw [getD_set hjl]
        split
        · omega
        · rename_i c
          have := ok.lt i hi fun z => hn (mem_without.mpr ⟨z, c⟩)
          omega
      · have la : a ≠ j → a ∉ lot := fun c z => hna (mem_without.mpr ⟨z, c⟩)
        have lb : b ≠ j → b ∉ lot := fun c z => hnb (mem_without.mpr ⟨z, c⟩)
        rw [getD_set hjl, getD_set hjl]
        by_cases c : a = j
        · rw [if_pos c]
          have cb : b ≠ j := fun z => hab (c.trans z.symm)
          rw [if_neg cb]
          have := ok.lt b hb1 (lb cb)
          omega
        · rw [if_neg c]
          by_cases d : b = j
          · rw [if_pos d]
            have := ok.lt a ha1 (la c)
            omega
          · rw [if_neg d]
            exact ok.dis a b ha1 hb1 (la c) (lb d) hab
      · by_cases c : i = j
        · subst c
          rw [fit_congr (q := fun o => decide (o ∈ without lot i)) fun o ho => ?_]
          · exact hf
          · rw [getD_set hjl, if_pos rfl, getD_set hjl]
            by_cases d : o ∈ without lot i
            · simp [d]
            · have : ¬ ((k : Nat) : Int) < (if o = i then ((k : Nat) : Int) else ns.getD o 0) := by
                split
                · omega
                · rename_i c2
                  have := ok.lt o ho fun z => d (mem_without.mpr ⟨z, c2⟩)
                  omega
              rw [decide_eq_false d, decide_eq_false this]
              rfl
        · have hni : i ∉ lot := fun z => hn (mem_without.mpr ⟨z, c⟩)
          rw [fit_congr (q := fun o => decide (o ∈ lot) || decide (ns.getD i 0 < ns.getD o 0)) fun o ho => ?_]
          · exact ok.fit i hi hni
          · rw [getD_set hjl, if_neg c, getD_set hjl]
            by_cases d : o = j
            · subst d
              rw [if_pos rfl]
              have h1 := ok.lt i hi hni
              rw [decide_eq_true hj, decide_eq_true h1, Bool.or_true]
              rfl
            · rw [if_neg d]
              have : (o ∈ without lot j) ↔ (o ∈ lot) := by rw [mem_without]; simp [d]
              simp only [this]
/-! ### all sequences -/
def seqs (n : Nat) : Nat → List (List Nat)
  | 0 => [[]]
  | l + 1 => ((seqs n l).map fun one => ((List.range n).filter fun j => !decide (j ∈ one)).map fun j => one ++ [j]).flatten
theorem mem_seqs {n : Nat} : ∀ {l : Nat} {s : List Nat}, s ∈ seqs n l ↔ s.length = l ∧ s.Nodup ∧ ∀ x ∈ s, x < n
  | 0, s => by
    show s ∈ [[]] ↔ _
    rw [List.mem_singleton]
    constructor
    · intro h; subst h; simp
    · intro h; exact List.length_eq_zero_iff.mp h.1
  | l + 1, s => by
    show s ∈ List.flatten _ ↔ _
    rw [List.mem_flatten]
    constructor
    · rintro ⟨ls, h1, h2⟩
      obtain ⟨one, ho, rfl⟩ := List.mem_map.mp h1
      obtain ⟨j, hj, rfl⟩ := List.mem_map.mp h2
      obtain ⟨j1, j2⟩ := List.mem_filter.mp hj
      obtain ⟨o1, o2, o3⟩ := mem_seqs.mp ho
      have j3 : j ∉ one := by simpa using j2
      refine ⟨by rw [List.length_append, o1]; rfl, ?_, fun x hx => ?_⟩
      · rw [List.nodup_append]
        refine ⟨o2, by simp, fun a ha b hb => ?_⟩
        rw [List.mem_singleton] at hb
        subst hb
        exact fun z => j3 (z ▸ ha)
      · rcases List.mem_append.mp hx with z | z
        · exact o3 x z
        · rw [List.mem_singleton.mp z]; exact List.mem_range.mp j1
    · rintro ⟨h1, h2, h3⟩
      have hne : s ≠ [] := fun z => by rw [z] at h1; cases h1
      obtain ⟨t, x, rfl⟩ : ∃ t x, s = t ++ [x] := ⟨_, _, (List.dropLast_concat_getLast hne).symm⟩
      rw [List.nodup_append] at h2
      refine ⟨_, List.mem_map.mpr ⟨t, mem_seqs.mpr ⟨?_, h2.1, fun y hy => h3 y (by simp [hy])⟩, rfl⟩, List.mem_map.mpr ⟨x, List.mem_filter.mpr ⟨List.mem_range.mpr (h3 x (by simp)), ?_⟩, rfl⟩⟩
      · rw [List.length_append, List.length_singleton] at h1
        omega
      · have : x ∉ t := fun z => h2.2.2 x z x (by simp) rfl
        simp [this]
def thereB (js : List Job) (ws : List Int) : Bool := (seqs js.length js.length).any (lineB js ws)
theorem nodup_full {n : Nat} : ∀ {l : List Nat}, l.Nodup → (∀ x ∈ l, x < n) → l.length = n → ∀ x, x < n → x ∈ l := by
  intro l nd h hl x hx
  refine Classical.byContradiction fun c => ?_
  have := sub_len (l := ((x :: l).map fun i : Nat => (i : Int))) (ns := (List.range n).map fun i : Nat => (i : Int)) ?_ fun y hy => ?_
  · rw [List.length_map, List.length_map, List.length_range, List.length_cons] at this
    omega
  · have nd2 : (x :: l).Nodup := List.nodup_cons.mpr ⟨c, nd⟩
    exact List.Pairwise.map _ (fun a b hab z => hab (by omega)) nd2
  · obtain ⟨z, hz, rfl⟩ := List.mem_map.mp hy
    refine List.mem_map.mpr ⟨z, List.mem_range.mpr ?_, rfl⟩
    rcases List.mem_cons.mp hz with rfl | hz
    · exact hx
    · exact h z hz
theorem asc_range (n : Nat) : Asc (List.range n) := List.pairwise_lt_range
def begin_ (n : Nat) : List Int := List.replicate n 0
def told (js : List Job) (ws : List Int) : Told := greedy js ws js.length 0 (List.range js.length) (begin_ js.length)
theorem told_lot {js : List Job} (g : GoodJ js) {ws : List Int} {l : List Nat} (h : told js ws = .lot l) : thereB js ws = false ∧ l ≠ [] ∧ Asc l ∧ (∀ j ∈ l, j < js.length) ∧ lastJ js ws l = [] := by
  obtain ⟨h1, h2, h3, h4⟩ := greedy_lot _ _ _ _ (asc_range _) (by rw [List.length_range]) h
  refine ⟨?_, h1, h2, fun j hj => List.mem_range.mp (h3 j hj), h4⟩
  cases c : thereB js ws with
  | false => rfl
  | true =>
    obtain ⟨line, hm, hb⟩ := List.any_eq_true.mp c
    obtain ⟨m1, m2, m3⟩ := mem_seqs.mp hm
    obtain ⟨j, hj, hf⟩ := some_last g h1 _ line rfl (fun j hj => nodup_full m2 m3 m1 j (List.mem_range.mp (h3 j hj))) hb
    rw [lastJ_nil h4 hj] at hf
    cases hf
theorem told_nums {js : List Job} (g : GoodJ js) {ws : List Int} {l : List Int} (h : told js ws = .nums l) : thereB js ws = true ∧ l.length = js.length ∧ (∀ x ∈ l, 0 ≤ x ∧ x ≤ 4) ∧ l.Nodup ∧ ∀ j, j < js.length → fitP js ws j (fun o => decide (l.getD j 0 < l.getD o 0)) = true := by
  obtain ⟨line, l1, l2, l3, l4⟩ := greedy_line _ _ _ _ (asc_range _) (by rw [List.length_range]) h
  have ok := greedy_nums g _ _ _ _ (asc_range _) (by rw [List.length_range]) (by omega) (fun j hj => List.mem_range.mp hj) ⟨by unfold begin_; rw [List.length_replicate], fun x hx => by rw [List.eq_of_mem_replicate hx]; decide, fun j hj hn => absurd (List.mem_range.mpr hj) hn, fun i j hi hj hn => absurd (List.mem_range.mpr hi) hn, fun j hj hn => absurd (List.mem_range.mpr hj) hn⟩ h
  refine ⟨List.any_eq_true.mpr ⟨line, mem_seqs.mpr ⟨l2, l1, fun x hx => List.mem_range.mp ((l3 x).mp hx)⟩, l4⟩, ok.len, ok.lo, ?_, fun j hj => ?_⟩
  · rw [List.nodup_iff_pairwise_ne, List.pairwise_iff_getElem]
    intro i j hi hj hij
    have := ok.dis i j (by rw [← ok.len]; exact hi) (by rw [← ok.len]; exact hj) (by simp) (by simp) (by omega)
    rwa [List.getD_eq_getElem?_getD, List.getD_eq_getElem?_getD, List.getElem?_eq_getElem hi, List.getElem?_eq_getElem hj] at this
  · have := ok.fit j hj (by simp)
    rw [fit_congr (q := fun o => decide (l.getD j 0 < l.getD o 0)) fun o _ => by simp] at this
    exact this
end K33

set_option maxRecDepth 100000
set_option maxHeartbeats 4000000
/-! k33: numbers in texts; split is join's other way; the text of loads. -/
namespace K33
open PySem PySem.Spec PyProof.Rows L2 LamX VG TL
def isDig (c : Nat) : Bool := decide (c ∈ (Str.ofString "0123456789").cps.toList)
def digS (z : Str) : Bool := z.cps.toList.all isDig
theorem isDig_iff {c : Nat} : isDig c = true ↔ 48 ≤ c ∧ c ≤ 57 := by
  unfold isDig
  rw [decide_eq_true_eq, show (Str.ofString "0123456789").cps.toList = [48, 49, 50, 51, 52, 53, 54, 55, 56, 57] by decide]
  simp only [List.mem_cons, List.not_mem_nil, or_false]
  omega
theorem digS_all {z : Str} (h : digS z = true) : NumText.AllDigits z.cps.toList := fun c hc => isDig_iff.mp (List.all_eq_true.mp h c hc)
/-- the number that digits tell -/
def valS (z : Str) : Int := ((NumText.digitsVal z.cps.toList : Nat) : Int)
/-- the first sign is a nought, and another one stands behind -/
def led (z : Str) : Bool := match z.cps.toList with
  | 48 :: _ :: _ => true
  | _ => false
/-- the integer that is written so -/
def numOf (z : Str) : Option Int := if z.cps.toList = [] ∨ digS z = false ∨ led z = true then none else some (valS z)
def numIn (z : Str) (lo hi : Int) : Option Int := match numOf z with
  | some n => if lo ≤ n ∧ n ≤ hi then some n else none
  | none => none
theorem snoc_ind {P : List Nat → Prop} (h0 : P []) (hs : ∀ l c, P l → P (l ++ [c])) : ∀ l, P l := fun l => by
  have : ∀ n, ∀ l : List Nat, l.length = n → P l := by
    intro n
    induction n with
    | zero => intro l h; rw [List.length_eq_zero_iff.mp h]; exact h0
    | succ n ih =>
      intro l h
      have hne : l ≠ [] := by intro e; rw [e] at h; cases h
      rw [← List.dropLast_concat_getLast hne]
      exact hs _ _ (ih _ (by rw [List.length_dropLast]; omega))
  exact this _ l rfl
theorem digitsVal_snoc (l : List Nat) (c : Nat) : NumText.digitsVal (l ++ [c]) = NumText.digitsVal l * 10 + (c - 48) := by
  unfold NumText.digitsVal
  rw [List.foldl_append]
  rfl
def ledL : List Nat → Bool
  | 48 :: _ :: _ => true
  | _ => false
theorem ledL_snoc {l : List Nat} {c : Nat} (h : ledL (l ++ [c]) = false) (hne : l ≠ []) : ∃ d r, l = d :: r ∧ d ≠ 48 := by
  match l, hne with
  | d :: r, _ =>
    refine ⟨d, r, rfl, fun e => ?_⟩
    subst e
    cases r <;> cases h
theorem val_pos : ∀ {l : List Nat}, NumText.AllDigits l → (∃ d r, l = d :: r ∧ d ≠ 48) → 1 ≤ NumText.digitsVal l := by
  intro l
  refine snoc_ind (P := fun l => NumText.AllDigits l → (∃ d r, l = d :: r ∧ d ≠ 48) → 1 ≤ NumText.digitsVal l) ?_ ?_ l
  · rintro _ ⟨d, r, e, _⟩; cases e
  · intro l c ih
    rintro hd ⟨d, r, e, hn⟩
    rw [digitsVal_snoc]
    by_cases hl : l = []
    · subst hl
      cases e
      have h1 := hd c (by simp)
      have : NumText.digitsVal [] = 0 := rfl
      omega
    · match l, hl with
      | x :: xs, _ =>
        cases e
        have := ih (fun y hy => hd y (List.mem_append_left _ hy)) ⟨d, xs, rfl, hn⟩
        omega
theorem num_back : ∀ {l : List Nat}, NumText.AllDigits l → l ≠ [] → ledL l = false → numL (NumText.digitsVal l) = l := by
  intro l
  refine snoc_ind (P := fun l => NumText.AllDigits l → l ≠ [] → ledL l = false → numL (NumText.digitsVal l) = l) ?_ ?_ l
  · intro _ h _; exact absurd rfl h
  · intro l c ih
    intro hd _ hled
    have hc := hd c (by simp)
    rw [digitsVal_snoc]
    by_cases hl : l = []
    · subst hl
      have : NumText.digitsVal [] = 0 := rfl
      rw [this, Nat.zero_mul, Nat.zero_add, numL_lt (by omega)]
      show [48 + (c - 48)] = [c]
      rw [show 48 + (c - 48) = c by omega]
    · have hd' : NumText.AllDigits l := fun y hy => hd y (List.mem_append_left _ hy)
      obtain ⟨d, r, e, hn⟩ := ledL_snoc hled hl
      have hpos := val_pos hd' ⟨d, r, e, hn⟩
      have hled' : ledL l = false := by
        rw [e]
        unfold ledL
        split
        · rename_i e2; cases e2; exact absurd rfl hn
        · rfl
      have hv : (NumText.digitsVal l * 10 + (c - 48)) / 10 = NumText.digitsVal l := by omega
      have hm : (NumText.digitsVal l * 10 + (c - 48)) % 10 = c - 48 := by omega
      rw [numL_step (by omega), hv, hm, ih hd' hl hled', show 48 + (c - 48) = c by omega]
theorem num_head : ∀ n : Nat, ledL (numL n) = false := by
  intro n
  induction n using Nat.strongRecOn with
  | _ n ih =>
    by_cases h : n < 10
    · rw [numL_lt h]
      unfold ledL
      split
      · rename_i e; exact absurd (congrArg List.length e) (by simp)
      · rfl
    · have ih2 := ih (n / 10) (by omega)
      rw [numL_step (by omega)]
      cases e : numL (n / 10) with
      | nil => exact absurd e (numL_ne _)
      | cons d r =>
        by_cases hd : d = 48
        · subst hd
          rw [e] at ih2
          cases r with
          | cons _ _ => cases ih2
          | nil =>
            have v := numL_val (n / 10)
            rw [e] at v
            have : NumText.digitsVal [48] = 0 := rfl
            omega
        · show ledL (d :: (r ++ [48 + n % 10])) = false
          unfold ledL
          split
          · rename_i e2; exact absurd (List.cons.inj e2).1 hd
          · rfl
/-- the text of a number -/
def strN (n : Int) : Str := Str.ofString (toString n)
theorem strN_list (n : Nat) : (strN (n : Int)).cps.toList = numL n := tl_num n
theorem led_eq (z : Str) : led z = ledL z.cps.toList := by
  unfold led ledL
  rfl
theorem str_ext {a b : Str} (h : a.cps.toList = b.cps.toList) : a = b := by
  cases a; cases b
  simp only at h
  rw [Str.mk.injEq]
  exact Array.toList_inj.mp h
theorem strN_val {z : Str} (hd : digS z = true) (hne : z.cps.toList ≠ []) : decide (strN (valS z) = z) = !led z := by
  rw [led_eq]
  cases h : ledL z.cps.toList with
  | false =>
    refine decide_eq_true (str_ext ?_)
    unfold valS
    rw [strN_list]
    exact num_back (digS_all hd) hne h
  | true =>
    refine decide_eq_false fun e => ?_
    have := num_head (NumText.digitsVal z.cps.toList)
    rw [← strN_list] at this
    have e' : strN ((NumText.digitsVal z.cps.toList : Nat) : Int) = z := e
    rw [e'] at this
    rw [this] at h
    cases h
/-- the law's own reading of a number -/
def lawNum (z : Str) (lo hi : Int) : Option Int := if z.cps.toList = [] ∨ z.length > 9 ∨ digS z = false then none else if strN (valS z) = z ∧ lo ≤ valS z ∧ valS z ≤ hi then some (valS z) else none
theorem law_num {z : Str} {lo hi : Int} (h : hi < 1000000000) : lawNum z lo hi = numIn z lo hi := by
  unfold lawNum numIn numOf
  by_cases he : z.cps.toList = []
  · rw [if_pos (.inl he), if_pos (.inl he)]
  · by_cases hd : digS z = true
    · have sv := strN_val hd he
      by_cases hl : z.length > 9
      · rw [if_pos (.inr (.inl hl))]
        by_cases hled : led z = true
        · rw [if_pos (.inr (.inr hled))]
        · have hb := num_back (digS_all hd) he (by rw [← led_eq]; simpa using hled)
          rw [if_neg (by rintro (h | h | h); exact he h; rw [hd] at h; cases h; exact hled h)]
          simp only
          rw [if_neg]
          rintro ⟨_, h2⟩
          have hn : NumText.digitsVal z.cps.toList < 10 ^ 9 := by unfold valS at h2; omega
          have := numL_len (k := 9) (by decide) hn
          rw [hb] at this
          have hz : z.length = z.cps.toList.length := by show z.cps.size = _; rw [Array.length_toList]
          omega
      · rw [if_neg (by rintro (h | h | h); exact he h; exact hl h; rw [hd] at h; cases h)]
        by_cases hled : led z = true
        · rw [if_pos (show z.cps.toList = [] ∨ digS z = false ∨ led z = true from .inr (.inr hled)), if_neg]
          rintro ⟨h1, _⟩
          rw [decide_eq_true h1, hled] at sv
          cases sv
        · have hled' : led z = false := by simpa using hled
          rw [if_neg (show ¬ (z.cps.toList = [] ∨ digS z = false ∨ led z = true) by rintro (h | h | h); exact he h; rw [hd] at h; cases h; exact hled h)]
          simp only
          have h1 : strN (valS z) = z := by
            rw [hled'] at sv
            exact of_decide_eq_true sv
          by_cases hr : lo ≤ valS z ∧ valS z ≤ hi
          · rw [if_pos ⟨h1, hr⟩, if_pos hr]
          · rw [if_neg fun y => hr y.2, if_neg hr]
    · have hd' : digS z = false := by simpa using hd
      rw [if_pos (.inr (.inr hd')), if_pos (.inr (.inl hd'))]
theorem numIn_str {n : Nat} {lo hi : Int} (h1 : lo ≤ n) (h2 : (n : Int) ≤ hi) : numIn (strN (n : Int)) lo hi = some (n : Int) := by
  have hl := strN_list n
  have hd : digS (strN (n : Int)) = true := by
    unfold digS
    rw [hl, List.all_eq_true]
    exact fun c hc => isDig_iff.mpr (numL_digits n c hc)
  have hv : valS (strN (n : Int)) = n := by unfold valS; rw [hl, numL_val]
  unfold numIn numOf
  rw [if_neg, hv]
  · exact if_pos ⟨h1, h2⟩
  · rintro (h | h | h)
    · rw [hl] at h; exact numL_ne n h
    · rw [hd] at h; cases h
    · rw [led_eq, hl, num_head] at h; cases h
theorem split_sum (x y : Str) : ((Txt.split x y).map (·.length)).sum + ((Txt.split x y).length - 1) * y.length = x.length := by
  unfold Txt.split
  have key := congrArg (·.length) (StrLaws.glued_between_self x y (x.length + 1))
  simp only [size_glued] at key
  split
  · simp
  · split
    · simp
    · exact key
theorem split_ne (x y : Str) : Txt.split x y ≠ [] := by
  unfold Txt.split
  split
  · simp
  · split
    · simp
    · intro h
      have := congrArg List.length h
      rw [length_partsBetween] at this
      cases this
theorem mem_sum {l : List Nat} {n : Nat} (h : n ∈ l) : n ≤ l.sum := by
  induction l with
  | nil => cases h
  | cons a r ih =>
    rw [List.sum_cons]
    rcases List.mem_cons.mp h with rfl | h
    · omega
    · have := ih h; omega
theorem split_le {x y z : Str} (h : z ∈ Txt.split x y) : z.length ≤ x.length := by
  have := split_sum x y
  have := mem_sum (List.mem_map_of_mem (f := fun s : Str => s.length) h)
  omega
theorem split_many (x y : Str) (h : y.length = 1) : (Txt.split x y).length ≤ x.length + 1 := by
  have := split_sum x y
  rw [h] at this
  omega
theorem join_len (y : Str) (l : List Str) : (Txt.join y l).length = (l.map (·.length)).sum + (l.length - 1) * y.length := size_glued y l
theorem digitsVal_lt {l : List Nat} : NumText.AllDigits l → NumText.digitsVal l < 10 ^ l.length := by
  refine snoc_ind (P := fun l => NumText.AllDigits l → NumText.digitsVal l < 10 ^ l.length) ?_ ?_ l
  · intro _; decide
  · intro l c ih h
    have h1 := ih (fun y hy => h y (List.mem_append_left _ hy))
    have h2 := h c (by simp)
    rw [digitsVal_snoc, List.length_append]
    show _ < 10 ^ (l.length + 1)
    rw [Nat.pow_succ]
    omega
theorem valS_small {z : Str} (h : digS z = true) (h9 : z.length ≤ 9) : (valS z).natAbs < 10 ^ 9 := by
  have h1 := digitsVal_lt (digS_all h)
  have hz : z.length = z.cps.toList.length := by show z.cps.size = _; rw [Array.length_toList]
  have h2 : 10 ^ z.cps.toList.length ≤ 10 ^ 9 := Nat.pow_le_pow_right (by decide) (by omega)
  show NumText.digitsVal z.cps.toList < _
  omega
theorem log2_small {n : Nat} (h : n < 10 ^ 9) : n.log2 < 1920 := by
  by_cases h0 : n = 0
  · subst h0; decide
  · exact (Nat.log2_lt h0).mpr (Nat.lt_of_lt_of_le h (Nat.le_trans (by decide) (Nat.pow_le_pow_right (by decide : 0 < 2) (show 30 ≤ 1920 by decide))))
/-! ### split is join's other way -/
def joinL (c : Nat) : List (List Nat) → List Nat
  | [] => []
  | [p] => p
  | p :: q :: r => p ++ c :: joinL c (q :: r)
theorem cut_at {c : Nat} : ∀ {p q r s : List Nat}, c ∉ p → c ∉ q → p ++ c :: r = q ++ c :: s → p = q ∧ r = s
  | [], [], _, _, _, _, e => ⟨rfl, (List.cons.inj e).2⟩
  | [], y :: q, _, _, _, hq, e => absurd (by rw [(List.cons.inj e).1]; simp) hq
  | x :: p, [], _, _, hp, _, e => absurd (by rw [← (List.cons.inj e).1]; simp) hp
  | x :: p, y :: q, _, _, hp, hq, e => by
    obtain ⟨e1, e2⟩ := List.cons.inj e
    obtain ⟨e3, e4⟩ := cut_at (fun h => hp (List.mem_cons_of_mem _ h)) (fun h => hq (List.mem_cons_of_mem _ h)) e2
    exact ⟨by rw [e1, e3], e4⟩
theorem joinL_inj {c : Nat} : ∀ (ps qs : List (List Nat)), ps ≠ [] → qs ≠ [] → (∀ p ∈ ps, c ∉ p) → (∀ q ∈ qs, c ∉ q) → joinL c ps = joinL c qs → ps = qs
  | [], _, h, _, _, _, _ => absurd rfl h
  | _, [], _, h, _, _, _ => absurd rfl h
  | [p], [q], _, _, _, _, e => by rw [show p = q from e]
  | [p], q :: q2 :: r, _, _, hp, _, e => by
    have : c ∈ p := by
      rw [show p = q ++ c :: joinL c (q2 :: r) from e]
      simp
    exact absurd this (hp p (by simp))
  | p :: p2 :: r, [q], _, _, _, hq, e => by
    have : c ∈ q := by
      rw [← show p ++ c :: joinL c (p2 :: r) = q from e]
      simp
    exact absurd this (hq q (by simp))
  | p :: p2 :: r, q :: q2 :: s, _, _, hp, hq, e => by
    have e' : p ++ c :: joinL c (p2 :: r) = q ++ c :: joinL c (q2 :: s) := e
    obtain ⟨e1, e2⟩ := cut_at (hp p (by simp)) (hq q (by simp)) e'
    rw [e1, joinL_inj (p2 :: r) (q2 :: s) (by simp) (by simp) (fun x hx => hp x (List.mem_cons_of_mem _ hx)) (fun x hx => hq x (List.mem_cons_of_mem _ hx)) e2]
theorem join_list (c : Nat) : ∀ ps : List Str, (Txt.join ⟨#[c]⟩ ps).cps.toList = joinL c (ps.map fun p => p.cps.toList)
  | [] => rfl
  | [p] => by
    rw [join_eq]
    rfl
  | p :: q :: r => by
    have ih := join_list c (q :: r)
    rw [join_eq] at ih ⊢
    show (p ++ ⟨#[c]⟩ ++ Str.join ⟨#[c]⟩ (q :: r) : Str).cps.toList = _
    simp only [Str.cps_append, Array.toList_append, ih]
    simp [joinL]
theorem join_back (x : Str) (c : Nat) : Txt.join ⟨#[c]⟩ (Txt.split x ⟨#[c]⟩) = x := by
  unfold Txt.split
  split
  · rw [join_eq]; rfl
  · split
    · rw [join_eq]; rfl
    · exact StrLaws.glued_between_self x ⟨#[c]⟩ (x.length + 1)
theorem map_inj {α β : Type} {f : α → β} (h : ∀ a b, f a = f b → a = b) : ∀ {l m : List α}, l.map f = m.map f → l = m
  | [], [], _ => rfl
  | [], _ :: _, e => by cases e
  | _ :: _, [], e => by cases e
  | a :: l, b :: m, e => by
    rw [List.map_cons, List.map_cons] at e
    obtain ⟨e1, e2⟩ := List.cons.inj e
    rw [h _ _ e1, map_inj h e2]
theorem split_join {c : Nat} {ps : List Str} (hne : ps ≠ []) (hf : ∀ p ∈ ps, c ∉ p.cps.toList) : Txt.split (Txt.join ⟨#[c]⟩ ps) ⟨#[c]⟩ = ps := by
  have h1 := congrArg (fun x : Str => x.cps.toList) (join_back (Txt.join ⟨#[c]⟩ ps) c)
  simp only [join_list] at h1
  have h2 := joinL_inj _ _ (by simpa using split_ne _ _) (by simpa using hne) (fun p hp => by
    obtain ⟨y, hy, rfl⟩ := List.mem_map.mp hp
    exact StrLaws.split_free _ c y hy) (fun p hp => by
    obtain ⟨y, hy, rfl⟩ := List.mem_map.mp hp
    exact hf y hy) h1
  exact map_inj (fun a b e => str_ext e) h2
theorem strN_nat {n : Int} (h : 0 ≤ n) : (strN n).cps.toList = numL n.toNat := by
  have e : n = ((n.toNat : Nat) : Int) := (Int.toNat_of_nonneg h).symm
  conv => lhs; rw [e]
  exact strN_list n.toNat
theorem numL_no {c : Nat} (h : c < 48) (n : Nat) : c ∉ numL n := fun y => by
  have := numL_digits n c y
  omega
theorem strN_no {c : Nat} (h : c < 48) {n : Int} (hn : 0 ≤ n) : c ∉ (strN n).cps.toList := by
  rw [strN_nat hn]
  exact numL_no h _
theorem numIn_strN {n lo hi : Int} (h0 : 0 ≤ n) (h1 : lo ≤ n) (h2 : n ≤ hi) : numIn (strN n) lo hi = some n := by
  obtain ⟨m, rfl⟩ : ∃ m : Nat, n = m := ⟨n.toNat, (Int.toNat_of_nonneg h0).symm⟩
  exact numIn_str h1 h2
theorem len_list (z : Str) : z.length = z.cps.toList.length := by show z.cps.size = _; rw [Array.length_toList]
theorem strN_len {n : Int} (h0 : 0 ≤ n) (h : n < 1000) : (strN n).length ≤ 3 := by
  have e := strN_nat h0
  have := numL_len (n := n.toNat) (k := 3) (by decide) (by omega)
  rw [← e] at this
  rw [len_list]
  exact this
theorem sum_le {l : List Nat} {m : Nat} (h : ∀ x ∈ l, x ≤ m) : l.sum ≤ l.length * m := by
  induction l with
  | nil => exact Nat.zero_le _
  | cons a r ih =>
    rw [List.sum_cons, List.length_cons, Nat.add_mul, Nat.one_mul]
    have := h a (by simp)
    have := ih fun x hx => h x (List.mem_cons_of_mem _ hx)
    omega
theorem val_to {t : TE} {σ : L2.St} {H : Hp} {Q : VK} (v : V) (h : ∀ R : VK, R v H → t σ H R) (q : Q v H) : t σ H Q := h _ q
/-! ### loads -/
def jobW (j : Job) : List Str := ["job", strN j.1, strN j.2.1, strN j.2.2]
def jobT (j : Job) : Str := Txt.join " " (jobW j)
def loadsT (js : List Job) : Str := Txt.join "\n" (js.map jobT)
structure JobOk (j : Job) : Prop where
  ev : 1 ≤ j.1 ∧ j.1 ≤ 99
  rk : 0 ≤ j.2.1 ∧ j.2.1 ≤ 7
  wk : 1 ≤ j.2.2 ∧ j.2.2 ≤ 99
theorem GoodJ.job {js : List Job} (g : GoodJ js) {j : Job} (h : j ∈ js) : JobOk j := by
  have h1 := g.ev j h
  have h2 := g.rk j h
  have h3 := g.wk j h
  exact ⟨h1, h2, by omega⟩
theorem jobW_no {j : Job} (h : JobOk j) {c : Nat} (hc : c < 48) : ∀ p ∈ jobW j, c ∉ p.cps.toList := by
  have h1 := h.ev
  have h2 := h.rk
  have h3 := h.wk
  intro p hp
  unfold jobW at hp
  simp only [List.mem_cons, List.not_mem_nil, or_false] at hp
  rcases hp with rfl | rfl | rfl | rfl
  · rw [show ("job" : Str).cps.toList = [106, 111, 98] by decide]
    simp; omega
  · exact strN_no hc (by omega)
  · exact strN_no hc (by omega)
  · exact strN_no hc (by omega)
theorem split_job {j : Job} (h : JobOk j) : Txt.split (jobT j) " " = jobW j :=
  split_join (c := 32) (by simp [jobW]) (jobW_no h (by decide))
theorem joinL_no {c d : Nat} (hd : c ≠ d) : ∀ ps : List (List Nat), (∀ p ∈ ps, c ∉ p) → c ∉ joinL d ps := by
  intro ps
  induction ps with
  | nil => intro _ y; cases y
  | cons p r ih =>
    intro hp
    cases r with
    | nil => exact hp p (by simp)
    | cons q s =>
      show c ∉ p ++ d :: joinL d (q :: s)
      intro y
      rcases List.mem_append.mp y with y | y
      · exact hp p (by simp) y
      · rcases List.mem_cons.mp y with y | y
        · exact hd y
        · exact ih (fun x hx => hp x (List.mem_cons_of_mem _ hx)) y
theorem job_no {j : Job} (h : JobOk j) : 10 ∉ (jobT j).cps.toList := by
  unfold jobT
  rw [show (" " : Str) = ⟨#[32]⟩ by decide, join_list]
  intro y
  refine joinL_no (by decide) _ (fun p hp => ?_) y
  obtain ⟨z, hz, rfl⟩ := List.mem_map.mp hp
  exact jobW_no h (by decide) z hz
theorem split_loads {js : List Job} (g : GoodJ js) : Txt.split (loadsT js) "\n" = js.map jobT := by
  unfold loadsT
  rw [show ("\n" : Str) = ⟨#[10]⟩ by decide]
  refine split_join (by simpa using g.ne) fun p hp => ?_
  obtain ⟨r, hr, rfl⟩ := List.mem_map.mp hp
  exact job_no (g.job hr)
theorem jobW_sum {j : Job} (h : JobOk j) : ((jobW j).map (·.length)).sum ≤ 12 := by
  have h1 := h.ev
  have h2 := h.rk
  have h3 := h.wk
  have a := strN_len (n := j.1) (by omega) (by omega)
  have b := strN_len (n := j.2.1) (by omega) (by omega)
  have c := strN_len (n := j.2.2) (by omega) (by omega)
  have d : ("job" : Str).length = 3 := by decide
  unfold jobW
  simp only [List.map_cons, List.map_nil, List.sum_cons, List.sum_nil]
  omega
theorem job_len {j : Job} (h : JobOk j) : (jobT j).length ≤ 15 := by
  have h1 := jobW_sum h
  unfold jobT
  rw [join_len]
  have h2 : (jobW j).length = 4 := rfl
  have h3 : (" " : Str).length = 1 := by decide
  rw [h2, h3]
  omega
theorem loads_sum {js : List Job} (g : GoodJ js) : ((js.map jobT).map (·.length)).sum ≤ 75 := by
  have h := sum_le (l := (js.map jobT).map (·.length)) (m := 15) fun x hx => by
    obtain ⟨y, hy, rfl⟩ := List.mem_map.mp hx
    obtain ⟨r, hr, rfl⟩ := List.mem_map.mp hy
    exact job_len (g.job hr)
  rw [List.length_map, List.length_map] at h
  have := g.few
  omega
theorem loads_len {js : List Job} (g : GoodJ js) : (loadsT js).length ≤ 80 := by
  have h1 := loads_sum g
  have h2 := g.few
  unfold loadsT
  rw [join_len]
  have h3 : (js.map jobT).length = js.length := List.length_map ..
  have h4 : ("\n" : Str).length = 1 := by decide
  rw [h3, h4]
  omega
end K33

set_option maxRecDepth 100000
set_option maxHeartbeats 4000000
/-! k33: small looks of the program. -/
namespace K33
open PySem PySem.Spec PyProof.Rows L2 LamX VG TL
theorem scIsTupleOf : FnScope ["value", "many"] ["value", "many"] (defScope sIsTupleOf) := ⟨rfl, rfl, rfl, by decide +kernel, rfl, by decide +kernel, by decide +kernel⟩
theorem scIsAscending : FnScope ["values", "at"] ["values"] (defScope sIsAscending) := ⟨rfl, rfl, rfl, by decide +kernel, rfl, by decide +kernel, by decide +kernel⟩
theorem scNumberOf : FnScope ["text", "sign"] ["text"] (defScope sNumberOf) := ⟨rfl, rfl, rfl, by decide +kernel, rfl, by decide +kernel, by decide +kernel⟩
theorem scNumberIn : FnScope ["text", "low", "high", "number"] ["text", "low", "high"] (defScope sNumberIn) := ⟨rfl, rfl, rfl, by decide +kernel, rfl, by decide +kernel, by decide +kernel⟩
theorem scJobRow : FnScope ["line", "words", "row"] ["line"] (defScope sJobRow) := ⟨rfl, rfl, rfl, by decide +kernel, rfl, by decide +kernel, by decide +kernel⟩
theorem atN0 {c : Nat} {r : List Nat} : atI (c :: r) 0 = some c := by
  unfold atI ixN
  rw [if_pos (by decide), if_pos (by rw [List.length_cons]; omega)]
  rfl
theorem at0 {z : V} {zs : List V} : atI (z :: zs) 0 = some z := at_of (j := 0) rfl rfl
theorem at1 {y z : V} {zs : List V} : atI (y :: z :: zs) 1 = some z := at_of (j := 1) rfl rfl
theorem at2 {x y z : V} {zs : List V} : atI (x :: y :: z :: zs) 2 = some z := at_of (j := 2) rfl rfl
theorem at3 {w x y z : V} {zs : List V} : atI (w :: x :: y :: z :: zs) 3 = some z := at_of (j := 3) rfl rfl
theorem sl {m : Nat} (h : m ≤ 1000) : m ≤ sizeLine := Nat.le_of_lt (small1000 h)
theorem iteD {p A B : Prop} [Decidable p] (h : p) (a : A) : if decide p = true then A else B := by rw [if_pos (decide_eq_true h)]; exact a
theorem iteE {p A B : Prop} [Decidable p] (h : ¬ p) (b : B) : if decide p = true then A else B := by rw [if_neg (by rw [decide_eq_false h]; exact Bool.false_ne_true)]; exact b
theorem iteB {b : Bool} {A B : Prop} (h : b = true) (a : A) : if b = true then A else B := by rw [if_pos h]; exact a
theorem iteC {b : Bool} {A B : Prop} (h : b = false) (a : B) : if b = true then A else B := by rw [if_neg (by rw [h]; exact Bool.false_ne_true)]; exact a
theorem iteNE {p A B : Prop} [Decidable p] (h : ¬ p) (a : A) : if (!decide p) = true then A else B := by rw [if_pos (by rw [decide_eq_false h]; rfl)]; exact a
theorem iteEq {b c : Bool} {A B : Prop} (h : b = c) (x : if c = true then A else B) : if b = true then A else B := by rw [h]; exact x
theorem test_to {t : TT} {σ : L2.St} {H : Hp} {Q : Bool → Hp → Prop} (b : Bool) (h : ∀ R : Bool → Hp → Prop, R b H → t σ H R) (q : Q b H) : t σ H Q := h _ q
def optI : Option Int → V
  | none => .non
  | some n => .int n
theorem optI_non (o : Option Int) : decide (optI o = .non) = o.isNone := by cases o <;> rfl
theorem empty_iff {z : Str} : z = "" ↔ z.cps.toList = [] := by
  constructor
  · intro h; rw [h]; decide
  · intro h; exact str_ext (by rw [h]; decide)
theorem digS_all' (z : Str) : ((z.cps.toList.map isDig).all id) = digS z := by
  rw [List.all_map]
  rfl
theorem zero_iff {z : Str} : z = "0" ↔ z.cps.toList = [48] := by
  constructor
  · intro h; rw [h]; decide
  · intro h; exact str_ext (by rw [h]; decide)
theorem sign_zero {c : Nat} : (V.str ⟨#[c]⟩ = V.str "0") ↔ c = 48 := by
  constructor
  · intro h
    have h := V.str.inj h
    have := congrArg (fun s : Str => s.cps.toList) h
    rw [show ("0" : Str).cps.toList = [48] by decide] at this
    simpa using this
  · intro h; subst h; exact congrArg V.str (str_ext (by decide))
section
variable {P : Program} {w : World} {K : PySem.W.Frag} {mg : Str → Option Value} {base : Heap}
def spNumberOf : Sp := fun vs H Q _ => ∃ z : Str, vs = [.str z] ∧ z.length ≤ 640 ∧ ∀ H', Same H H' → Q (optI (numOf z)) H'
theorem ok_NumberOf {k : Nat} {f : Addr} {fd : FuncData}  (F : Fun K "number_of" "number_of" sNumberOf f fd)   (fall : mg "all" = none) (fint : mg "int" = none) : FnOk P w K mg base CX0 (k + 1) f fd ["text"] (spNumberOf) := by
  refine F.ok scNumberOf (fun vs H Q E h => ?_) (fun cdv A outer s H vs Q E hr h => ?_)
  · obtain ⟨z, rfl, _⟩ := h
    rfl
  · obtain ⟨z, rfl, hz, q⟩ := h
    refine ⟨_, (pss_cons (ps_if (PW.pt (pw_or (pt_cmpR op_eq (pv 0) pe_str (nomark _)) (pw_or1 (pt_not (pt_val (pe_callB (cr_all rfl) (by rfl) fall (by decide +kernel) (pa_cons (pe_lc (own := [("sign", 1)]) (g := (gName 1)) (tt := tYes) rfl scNumberOf.nd (pi_str (pv 0)) (blkOk_by (N := ["text", "sign"]) (sc := defScope sNumberOf) (by decide +kernel)) (fun _ _ _ _ _ => (pg_name (i := 1) scNumberOf.nd rfl (.inl rfl))) (fun _ _ _ _ _ => pts_nil) (fun _ _ _ _ _ => (pe_cmpR op_in_sign (pv 1) pe_str (by rfl)))) pa_nil))))))) (pss_one (ps_ret pe_non)) pss_nil) (pss_cons (ps_if (PW.pt (pw_and (pt_cmpR op_eq (pe_ix ix_str (pv 0) pe_int (fun _ _ => rfl)) pe_str (nomark _)) (pw_and1 (pt_cmpR op_ne (pv 0) pe_str (nomark _))))) (pss_one (ps_ret pe_non)) pss_nil) (pss_one (ps_ret (pe_callTy call_int_str (by rfl) fint (by decide +kernel) (pa_cons (pv 0) pa_nil)))))), ?_⟩
    refine ⟨.str z, rfl, rfl, _, rfl, ?_⟩
    by_cases he : z = ""
    · have q0 := q _ (Same.refl H)
      rw [show numOf z = none from if_pos (.inl (empty_iff.mp he))] at q0
      exact iteD (congrArg V.str he) q0
    · have he' : z.cps.toList ≠ [] := fun h => he (empty_iff.mpr h)
      refine iteE (fun e => he (V.str.inj e)) ⟨.str z, rfl, z, rfl, fun D nD => ?_⟩
      have s1 := same_upd (o := .lst []) nD
      have hlen := len_list z
      refine lc_any (n := z.cps.size) (fun i H' => Same H H' ∧ H' D = some (.lst (((z.cps.toList.take i).map isDig).map V.bl))) ⟨s1, upd_same⟩ (fun i H' hi _ => hi) (fun H' _ => Nat.le_refl _) (fun i x H' H'' hi hP hy => ?_) fun H' hP => ?_
      · obtain ⟨sm, hD⟩ := hP
        obtain ⟨rfl, c, hc, rfl⟩ := hy
        refine ⟨rfl, ?_⟩
        unfold tYes
        have hc' : z.cps.toList[i]? = some c := by rw [Array.getElem?_toList]; exact hc
        have hlt := (List.getElem?_eq_some_iff.mp hc').1
        refine iteT ⟨.str ⟨#[c]⟩, rfl, c, _, rfl, rfl, _, hD, small1000 (by rw [List.length_map, List.length_map, List.length_take]; omega), Same.updNew sm nD, ?_⟩
        rw [upd_same, List.take_add_one, hc', List.map_append, List.map_append]
        rfl
      · obtain ⟨sm, hD⟩ := hP
        rw [show z.cps.size = z.cps.toList.length from (Array.length_toList).symm, List.take_length] at hD
        refine ⟨D, _, rfl, SqL.of hD, _, rfl, ?_⟩
        rw [digS_all']
        have q1 := q _ sm
        cases hd : digS z with
        | false =>
          rw [show numOf z = none from if_pos (.inr (.inl hd))] at q1
          exact iteT q1
        | true =>
          refine iteF ?_
          cases hl : z.cps.toList with
          | nil => exact absurd hl he'
          | cons c r =>
            refine ⟨.str z, rfl, z, 0, c, rfl, rfl, sl (by omega), by rw [hl]; exact atN0, rfl, _, rfl, ?_⟩
            have e1 : decide (V.str ⟨#[c]⟩ = V.str "0") = decide (c = 48) := by rw [Bool.eq_iff_iff, decide_eq_true_eq, decide_eq_true_eq]; exact sign_zero
            rw [e1]
            have fin : led z = false → Q (optI (numOf z)) H' → Q (.int (valS z)) H' := fun h1 h2 => by
              rw [show numOf z = some (valS z) from if_neg (by rintro (h | h | h); exact he' h; rw [hd] at h; cases h; rw [h1] at h; cases h)] at h2
              exact h2
            have hint : intText? z = some (valS z) := intText_digits (digS_all hd) he' (by omega)
            have hle : led z = (decide (c = 48) && !decide (r = [])) := by
              rw [led_eq, hl]
              by_cases h48 : c = 48
              · subst h48
                cases r with
                | nil => rfl
                | cons x y => simp [ledL]
              · rw [decide_eq_false h48, Bool.false_and]
                unfold ledL
                split
                · rename_i e; exact absurd (List.cons.inj e).1 h48
                · rfl
            by_cases h48 : c = 48
            · refine iteD h48 ⟨.str z, rfl, rfl, _, rfl, ?_⟩
              by_cases h0 : z = "0"
              · refine iteC (by rw [h0]; decide) ⟨.str z, rfl, z, valS z, rfl, hint, hz, ?_⟩
                have hr : r = [] := by
                  have := zero_iff.mp h0
                  rw [hl, h48] at this
                  exact (List.cons.inj this).2
                exact fin (by rw [hle, decide_eq_true hr]; simp) q1
              · refine iteNE (fun e => h0 (V.str.inj e)) ?_
                have hr : r ≠ [] := fun e => h0 (zero_iff.mpr (by rw [hl, h48, e]))
                rw [show numOf z = none from if_pos (.inr (.inr (by rw [hle, decide_eq_true h48, decide_eq_false hr]; rfl)))] at q1
                exact q1
            · refine iteE h48 ⟨.str z, rfl, z, valS z, rfl, hint, hz, ?_⟩
              exact fin (by rw [hle, decide_eq_false h48, Bool.false_and]) q1
def spNumberIn : Sp := fun vs H Q _ => ∃ (z : Str) (lo hi : Int), vs = [.str z, .int lo, .int hi] ∧ z.length ≤ 640 ∧ ∀ H', Same H H' → Q (optI (numIn z lo hi)) H'
theorem ok_NumberIn {k : Nat} {f : Addr} {fd : FuncData}  (F : Fun K "number_in" "number_in" sNumberIn f fd) (gNo : Cal P w K mg base CX0 (k + 1) "number_of" ["text"] spNumberOf)   : FnOk P w K mg base CX0 (k + 2) f fd ["text", "low", "high"] (spNumberIn) := by
  obtain ⟨fNo, fdNo, GNo, kNo, bNo, mNo⟩ := gNo
  refine F.ok scNumberIn (fun vs H Q E h => ?_) (fun cdv A outer s H vs Q E hr h => ?_)
  · obtain ⟨z, lo, hi, rfl, _⟩ := h
    rfl
  · obtain ⟨z, lo, hi, rfl, hz, q⟩ := h
    refine ⟨_, (pss_cons (ps_set (i := 3) scNumberIn.nd rfl (.inl rfl) (pe_call GNo hr (by rfl) mNo kNo bNo .nil pass0 (pa_cons (pv 0) pa_nil))) (pss_cons (ps_if (PW.pt (pw_or (pt_cmpR op_isN (pv 3) pe_non (nomark _)) (pw_or1 (pt_not (pt_chain op_le op_le (pv 1) (pv 3) (pv 2)))))) (pss_one (ps_ret pe_non)) pss_nil) (pss_one (ps_ret (pv 3))))), ?_⟩
    refine ⟨.str z, rfl, z, rfl, hz, fun H1 s1 => ?_⟩
    have q1 := q _ s1
    unfold numIn at q1
    cases e : numOf z with
    | none =>
      rw [e] at q1
      exact ⟨.non, rfl, rfl, _, rfl, iteD rfl q1⟩
    | some n =>
      rw [e] at q1
      refine ⟨.int n, rfl, rfl, _, rfl, iteE (fun y => nomatch y) ⟨_, rfl, _, rfl, lo, n, rfl, rfl, _, rfl, ?_⟩⟩
      by_cases h1 : lo ≤ n
      · refine iteD h1 ⟨.int hi, rfl, n, hi, rfl, rfl, _, rfl, ?_⟩
        by_cases h2 : n ≤ hi
        · rw [decide_eq_true h2]
          simp only [if_pos (And.intro h1 h2)] at q1
          exact iteF ⟨_, rfl, q1⟩
        · rw [decide_eq_false h2]
          simp only [if_neg (fun y : lo ≤ n ∧ n ≤ hi => h2 y.2)] at q1
          exact iteT q1
      · refine iteE h1 ⟨_, rfl, ?_⟩
        simp only [if_neg (fun y : lo ≤ n ∧ n ≤ hi => h1 y.1)] at q1
        exact iteT q1
/-- data that is a tuple of so many -/
def isTup : PyData → Int → Bool
  | .tuple ds, n => decide (V.int (ds.length : Nat) = V.int n)
  | _, _ => false
def spTup (K : PySem.W.Frag) : Sp := fun vs H Q _ => ∃ (v : V) (d : PyData) (n : Int), vs = [v, .int n] ∧ Dk K H v d ∧ Q (.bl (isTup d n)) H
theorem dpAll_len {H : Hp} : ∀ {xs : List V} {ds : List PyData}, DpAll K H xs ds → xs.length = ds.length
  | [], _, h => by cases h; rfl
  | _ :: _, _, h => by
    cases h with
    | cons _ h2 => rw [List.length_cons, List.length_cons, dpAll_len h2]
theorem ok_IsTupleOf {k : Nat} {f : Addr} {fd : FuncData}  (F : Fun K "is_tuple_of" "is_tuple_of" sIsTupleOf f fd)   (flen : mg "len" = none) (ftuple : mg "tuple" = none) (ftype : mg "type" = none) : FnOk P w K mg base CX0 (k + 1) f fd ["value", "many"] (spTup K) := by
  refine F.ok scIsTupleOf (fun vs H Q E h => ?_) (fun cdv A outer s H vs Q E hr h => ?_)
  · obtain ⟨v, d, n, rfl, _⟩ := h
    rfl
  · obtain ⟨v, d, n, rfl, hd, q⟩ := h
    refine ⟨_, (pss_one (ps_ret (pe_and (pe_cmpR op_isTyB (pe_callTy call_type1 (by rfl) ftype (by decide +kernel) (pa_cons (pv 0) pa_nil)) (pe_bltn (v := .ty "tuple") (by rfl) ftuple (by decide +kernel) rfl) (nomark _)) (pe_one (pe_cmpR op_eq (pe_callB call_len_seq (by rfl) flen PySem.boot_len (pa_cons (pv 0) pa_nil)) (pv 1) (nomark _)))))), ?_⟩
    refine ⟨v, rfl, v, tyName d, rfl, hd.ty, _, _, rfl, rfl, _, rfl, ?_⟩
    cases hd with
    | d0 h => exact iteF q
    | d1 h => exact iteF q
    | dp hd =>
      cases hd with
      | non => exact iteF q
      | bl b => exact iteF q
      | str x => exact iteF q
      | int x => exact iteF q
      | lst hs _ => exact iteF q
      | @tup a xs ds hs ha =>
        refine iteT ⟨.ref a, rfl, a, xs, rfl, .inr hs, .int n, rfl, rfl, ?_⟩
        have e : isTup (.tuple ds) n = decide (V.int (xs.length : Nat) = V.int n) := by rw [dpAll_len ha]; rfl
        rw [e] at q
        exact q
theorem isTup_two {d : PyData} (h : isTup d 2 = true) : ∃ d1 d2, d = .tuple [d1, d2] := by
  cases d with
  | tuple ds =>
    have h := V.int.inj (of_decide_eq_true h)
    match ds, h with
    | [d1, d2], _ => exact ⟨d1, d2, rfl⟩
    | [], h => exact absurd h (by decide)
    | [_], h => exact absurd (show ((1 : Nat) : Int) = 2 from h) (by decide)
    | _ :: _ :: _ :: ds, h =>
      simp only [List.length_cons] at h
      omega
  | none => cases h
  | bool _ => cases h
  | int _ => cases h
  | str _ => cases h
  | list _ => cases h
  | dict _ => cases h
theorem dpAll_two {H : Hp} {xs : List V} {d1 d2 : PyData} (h : DpAll K H xs [d1, d2]) : ∃ x1 x2, xs = [x1, x2] ∧ Dp K H x1 d1 ∧ Dp K H x2 d2 := by
  cases h with
  | cons h1 h => cases h with
    | cons h2 h => cases h; exact ⟨_, _, rfl, h1, h2⟩
theorem dk_tup {H : Hp} {v : V} {ds : List PyData} (h : Dk K H v (.tuple ds)) : ∃ a xs, v = .ref a ∧ SqT K H a xs ∧ DpAll K H xs ds := by
  cases h with
  | dp h => cases h with
    | tup hs ha => exact ⟨_, _, rfl, hs, ha⟩
/-- numbers that only grow -/
def ascB (ns : List Int) : Bool := decide (ns.Pairwise (· < ·))
theorem asc_steps {ns : List Int} : ((List.range (ns.length - 1)).map fun i => decide (ns.getD i 0 < ns.getD (i + 1) 0)).all id = ascB ns := by
  rw [Bool.eq_iff_iff]
  unfold ascB
  rw [decide_eq_true_eq, List.all_map, List.all_eq_true]
  induction ns with
  | nil => simp
  | cons a r ih =>
    cases r with
    | nil => simp
    | cons b s =>
      rw [List.pairwise_cons]
      constructor
      · intro h
        have h0 := h 0 (List.mem_range.mpr (by simp))
        have h1 := ih.mp fun i hi => by
          have := h (i + 1) (List.mem_range.mpr (by have := List.mem_range.mp hi; simp only [List.length_cons] at this ⊢; omega))
          exact this
        have hab : a < b := of_decide_eq_true h0
        rw [List.pairwise_cons] at h1
        refine ⟨fun x hx => ?_, List.pairwise_cons.mpr h1⟩
        rcases List.mem_cons.mp hx with rfl | hx
        · exact hab
        · exact Int.lt_trans hab (h1.1 x hx)
      · rintro ⟨h1, h2⟩ i hi
        cases i with
        | zero => exact decide_eq_true (h1 b (by simp))
        | succ i => exact ih.mpr h2 i (List.mem_range.mpr (by have := List.mem_range.mp hi; simp only [List.length_cons] at this ⊢; omega))
theorem atI_getD {ns : List Int} {i : Nat} (h : i < ns.length) : atI (ns.map V.int) (i : Nat) = some (.int (ns.getD i 0)) := atI_nat (by
  rw [List.getElem?_map, List.getD_eq_getElem?_getD, List.getElem?_eq_getElem h]; rfl)
def spAsc (K : PySem.W.Frag) : Sp := fun vs H Q _ => ∃ (a : Addr) (ns : List Int), vs = [.ref a] ∧ SqT K H a (ns.map V.int) ∧ 0 < ns.length ∧ ns.length ≤ 2000000 ∧ ∀ H', Same H H' → Q (.bl (ascB ns)) H'
theorem ok_IsAscending {k : Nat} {f : Addr} {fd : FuncData}  (F : Fun K "is_ascending" "is_ascending" sIsAscending f fd)   (fall : mg "all" = none) (flen : mg "len" = none) (frange : mg "range" = none) : FnOk P w K mg base CX0 (k + 1) f fd ["values"] (spAsc K) := by
  refine F.ok scIsAscending (fun vs H Q E h => ?_) (fun cdv A outer s H vs Q E hr h => ?_)
  · obtain ⟨a, ns, rfl, _⟩ := h
    rfl
  · obtain ⟨a, ns, rfl, hs, h0, hl, q⟩ := h
    refine ⟨_, (pss_one (ps_ret (pe_callB (cr_all rfl) (by rfl) fall (by decide +kernel) (pa_cons (pe_lc (own := [("at", 1)]) (g := (gName 1)) (tt := tYes) rfl scIsAscending.nd (pi_range2 (by rfl) frange (pa_cons pe_int (pa_cons (pe_callB call_len_seq (by rfl) flen PySem.boot_len (pa_cons (pv 0) pa_nil)) pa_nil))) (blkOk_by (N := ["values", "at"]) (sc := defScope sIsAscending) (by decide +kernel)) (fun _ _ _ _ _ => (pg_name (i := 1) scIsAscending.nd rfl (.inl rfl))) (fun _ _ _ _ _ => pts_nil) (fun _ _ _ _ _ => (pe_cmpR op_lt (pe_ix (show IxR _ (rIxT K) from ix_tup) (pv 0) (pe_op op_sub (pv 1) pe_int) (fun _ _ => rfl)) (pe_ix (show IxR _ (rIxT K) from ix_tup) (pv 0) (pv 1) (fun _ _ => rfl)) (nomark _)))) pa_nil)))), ?_⟩
    have hlen : (ns.map V.int).length = ns.length := List.length_map ..
    refine ⟨.ref a, rfl, a, _, rfl, .inr hs, 1, _, rfl, ⟨by decide, by decide, by omega, by rw [hlen]; omega⟩, fun D nD => ?_⟩
    have en : ((((ns.map V.int).length : Nat) : Int) - 1).toNat = ns.length - 1 := by rw [hlen]; omega
    rw [en]
    have s1 := same_upd (o := .lst []) nD
    refine lc_range (lo := 1) (n := ns.length - 1) (fun i H' => Same H H' ∧ H' D = some (.lst (((List.range i).map fun i => decide (ns.getD i 0 < ns.getD (i + 1) 0)).map V.bl))) ⟨s1, upd_same⟩ (fun i H' hi hP => ?_) fun H' hP => ?_
    · obtain ⟨sm, hD⟩ := hP
      refine ⟨rfl, ?_⟩
      unfold tYes
      have e1 : (1 : Int) + (i : Nat) - 1 = (i : Nat) := by omega
      have e2 : (1 : Int) + (i : Nat) = ((i + 1 : Nat) : Int) := by omega
      refine iteT ⟨.ref a, rfl, .int (1 + (i : Nat)), rfl, _, _, rfl, rfl, a, _, _, .int (ns.getD i 0), rfl, rfl, Same.seqT sm hs, by rw [e1]; exact atI_getD (by omega), .ref a, rfl, .int (1 + (i : Nat)), rfl, a, _, _, .int (ns.getD (i + 1) 0), rfl, rfl, Same.seqT sm hs, by rw [e2]; exact atI_getD (by omega), _, _, rfl, rfl, _, hD, (by rw [List.length_map, List.length_map, List.length_range, sizeLine_eq]; omega), Same.updNew sm nD, ?_⟩
      rw [upd_same, List.range_succ, List.map_append, List.map_append]
      rfl
    · obtain ⟨sm, hD⟩ := hP
      refine ⟨D, _, rfl, SqL.of hD, ?_⟩
      rw [asc_steps]
      exact q _ sm
def spJobRow (K : PySem.W.Frag) : Sp := fun vs H Q _ => ∃ j : Job, vs = [.str (jobT j)] ∧ JobOk j ∧ ∀ H' p, Same H H' → SqT K H' p [.int j.1, .int j.2.1, .int j.2.2] → Q (.ref p) H'
theorem ok_JobRow {k : Nat} {f : Addr} {fd : FuncData}  (F : Fun K "job_row" "job_row" sJobRow f fd) (gNi : Cal P w K mg base CX0 (k + 2) "number_in" ["text", "low", "high"] spNumberIn)  (flen : mg "len" = none) : FnOk P w K mg base CX0 (k + 3) f fd ["line"] (spJobRow K) := by
  obtain ⟨fNi, fdNi, GNi, kNi, bNi, mNi⟩ := gNi
  refine F.ok scJobRow (fun vs H Q E h => ?_) (fun cdv A outer s H vs Q E hr h => ?_)
  · obtain ⟨j, rfl, _⟩ := h
    rfl
  · obtain ⟨j, rfl, hj, q⟩ := h
    refine ⟨_, (pss_cons (ps_set (i := 1) scJobRow.nd rfl (.inl rfl) (pe_split (pv 0) pe_str)) (pss_cons (ps_if (PW.pt (pw_or (pt_cmpR op_ne (pe_ix ix_list (pv 1) pe_int (fun _ _ => rfl)) pe_str (nomark _)) (pw_or1 (pt_cmpR op_ne (pe_callB call_len_seq (by rfl) flen PySem.boot_len (pa_cons (pv 1) pa_nil)) pe_int (nomark _))))) (pss_one (ps_ret pe_non)) pss_nil) (pss_cons (ps_set (i := 2) scJobRow.nd rfl (.inl rfl) (pe_tup (pa_cons (pe_call GNi hr (by rfl) mNi kNi bNi .nil pass0 (pa_cons (pe_ix ix_list (pv 1) pe_int (fun _ _ => rfl)) (pa_cons pe_int (pa_cons pe_int pa_nil)))) (pa_cons (pe_call GNi hr (by rfl) mNi kNi bNi .nil pass0 (pa_cons (pe_ix ix_list (pv 1) pe_int (fun _ _ => rfl)) (pa_cons pe_int (pa_cons pe_int pa_nil)))) (pa_cons (pe_call GNi hr (by rfl) mNi kNi bNi .nil pass0 (pa_cons (pe_ix ix_list (pv 1) pe_int (fun _ _ => rfl)) (pa_cons pe_int (pa_cons pe_int pa_nil)))) pa_nil))))) (pss_one (ps_ret (pe_ifExp (pt_cmpR op_in_seq pe_non (pv 2) (by rfl)) pe_non (pv 2))))))), ?_⟩
    have hz := job_len hj
    have h1 := hj.ev
    have h2 := hj.rk
    have h3 := hj.wk
    refine ⟨.str (jobT j), rfl, ⟨_, rfl⟩, jobT j, " ", rfl, rfl, by decide, sl (by omega), fun W nW => ?_⟩
    rw [split_job hj]
    have s1 := same_upd (o := .lst ((jobW j).map V.str)) nW
    have hW : SqL K (upd H W (.lst ((jobW j).map V.str))) W ((jobW j).map V.str) := SqL.of upd_same
    generalize upd H W (.lst ((jobW j).map V.str)) = H1 at s1 hW ⊢
    have l3 : ∀ n : Int, 0 ≤ n → n < 1000 → (strN n).length ≤ 640 := fun n a b => Nat.le_trans (strN_len a b) (by decide)
    refine ⟨.ref W, rfl, W, _, 0, .str "job", rfl, rfl, hW, at0, rfl, _, rfl, iteF ⟨.ref W, rfl, W, _, rfl, .inl hW, rfl, _, rfl, iteF ?_⟩⟩
    refine ⟨.ref W, rfl, W, _, 1, .str (strN j.1), rfl, rfl, hW, at1, strN j.1, 1, 99, rfl, l3 _ (by omega) (by omega), fun H2 s2 => ?_⟩
    have hW := s2.seq hW
    refine ⟨.ref W, rfl, W, _, 2, .str (strN j.2.1), rfl, rfl, hW, at2, strN j.2.1, 0, 7, rfl, l3 _ (by omega) (by omega), fun H3 s3 => ?_⟩
    have hW := s3.seq hW
    refine ⟨.ref W, rfl, W, _, 3, .str (strN j.2.2), rfl, rfl, hW, at3, strN j.2.2, 1, 99, rfl, l3 _ (by omega) (by omega), fun H4 s4 => ?_⟩
    rw [numIn_strN (by omega) h1.1 h1.2, numIn_strN (by omega) h2.1 h2.2, numIn_strN (by omega) h3.1 h3.2]
    refine ⟨by show 3 ≤ sizeLine; decide, fun t nt => ?_⟩
    have s5 := same_upd (o := .tup [V.int j.1, .int j.2.1, .int j.2.2]) nt
    have ht : SqT K (upd H4 t (.tup [V.int j.1, .int j.2.1, .int j.2.2])) t [.int j.1, .int j.2.1, .int j.2.2] := SqT.of upd_same
    have sm := s1.trans (s2.trans (s3.trans (s4.trans s5)))
    exact ⟨.ref t, rfl, t, _, rfl, .inr ht, rfl, rfl, _, rfl, iteF ⟨.ref t, rfl, q _ t sm ht⟩⟩
end
end K33

set_option maxRecDepth 100000
set_option maxHeartbeats 4000000
/-! k33: the loads that a text tells. -/
namespace K33
open PySem PySem.Spec PyProof.Rows L2 LamX VG TL
abbrev sLoads : Stmt := inClass (topS 12) 0
theorem scLoads : FnScope ["self", "text", "jobs", "number", "line", "job", "other"] ["self", "text"] (defScope sLoads) := ⟨rfl, rfl, rfl, by decide +kernel, rfl, by decide +kernel, by decide +kernel⟩
theorem scTimesAsked : FnScope ["loads", "job", "ticks", "every"] ["loads", "job", "ticks"] (defScope sTimesAsked) := ⟨rfl, rfl, rfl, by decide +kernel, rfl, by decide +kernel, by decide +kernel⟩
structure LF (K : PySem.W.Frag) (C : Addr) : Prop where
  cl : Cls K C
  nT : NoAttr K C "text"
  nJ : NoAttr K C "jobs"
theorem inV_ints (x : Int) : ∀ l : List Int, inV (.int x) (l.map V.int) = decide (x ∈ l)
  | [] => rfl
  | y :: l => by
    have ih := inV_ints x l
    unfold inV at ih ⊢
    rw [List.map_cons, List.any_cons, ih]
    show ((y == x) || _) = _
    by_cases h : y = x
    · subst h
      simp
    · have h' : ¬ x = y := fun z => h z.symm
      simp [h, h']
theorem flat_ints (l : List Int) : (l.map V.int).all flatV = true := by
  induction l with
  | nil => rfl
  | cons a l ih =>
    rw [List.map_cons, List.all_cons, ih]
    rfl
def jobV (j : Job) : List V := [.int j.1, .int j.2.1, .int j.2.2]
def JobsAt (K : PySem.W.Frag) (H : Hp) (xs : List V) (js : List Job) : Prop := xs.length = js.length ∧ ∀ (i : Nat) (j : Job), js[i]? = some j → ∃ p, xs[i]? = some (.ref p) ∧ SqT K H p (jobV j)
theorem jobs_same {K : PySem.W.Frag} {H H' : Hp} {xs : List V} {js : List Job} (s : Same H H') (h : JobsAt K H xs js) : JobsAt K H' xs js := ⟨h.1, fun i r e => let ⟨p, e1, e2⟩ := h.2 i r e; ⟨p, e1, Same.seqT s e2⟩⟩
theorem jobs_list {K : PySem.W.Frag} {H : Hp} {R : Addr} {xs ys : List V} {o : HO} {js : List Job} (hR : H R = some (.lst ys)) (h : JobsAt K H xs js) : JobsAt K (upd H R o) xs js := ⟨h.1, fun i r e => let ⟨p, e1, e2⟩ := h.2 i r e; ⟨p, e1, sqT_upd e2 hR⟩⟩
theorem jobs_snoc {K : PySem.W.Frag} {H : Hp} {xs : List V} {js : List Job} {j : Job} {p : Addr} (h : JobsAt K H xs js) (hr : SqT K H p (jobV j)) : JobsAt K H (xs ++ [.ref p]) (js ++ [j]) := by
  refine ⟨by rw [List.length_append, List.length_append, h.1]; rfl, fun i q e => ?_⟩
  by_cases c : i < js.length
  · rw [List.getElem?_append_left c] at e
    rw [List.getElem?_append_left (by rw [h.1]; exact c)]
    exact h.2 i q e
  · rw [List.getElem?_append_right (by omega)] at e
    have e0 : i - js.length = 0 := by
      have := (List.getElem?_eq_some_iff.mp e).1
      rw [List.length_singleton] at this
      omega
    rw [e0] at e
    cases Option.some.inj e
    refine ⟨p, ?_, hr⟩
    rw [List.getElem?_append_right (by rw [h.1]; omega), h.1, e0]
    rfl
theorem sqT_ins {K : PySem.W.Frag} {H : Hp} {a p C dx : Addr} {fs : List (Str × V)} {xs : List V} {o : HO} (h : SqT K H a xs) (hp : H p = some (.ins C dx fs)) : SqT K (upd H p o) a xs := by
  rcases h with h | h
  · have hne : a ≠ p := by
      rintro rfl
      rcases h with h | ⟨o, h⟩
      · rw [hp] at h; cases h
      · rw [hp] at h; cases h
    refine .inl ?_
    unfold Rd at h ⊢
    rw [upd_ne hne]
    exact h
  · exact .inr h
theorem jobs_ins {K : PySem.W.Frag} {H : Hp} {p C dx : Addr} {fs : List (Str × V)} {xs : List V} {o : HO} {js : List Job} (hp : H p = some (.ins C dx fs)) (h : JobsAt K H xs js) : JobsAt K (upd H p o) xs js := ⟨h.1, fun i r e => let ⟨q, e1, e2⟩ := h.2 i r e; ⟨q, e1, sqT_ins e2 hp⟩⟩
theorem JobsAt.at {K : PySem.W.Frag} {H : Hp} {xs : List V} {js : List Job} (h : JobsAt K H xs js) {i : Nat} (hi : i < js.length) : ∃ p, atI xs (i : Nat) = some (.ref p) ∧ SqT K H p [.int (evJ js i), .int (rkJ js i), .int (wkJ js i)] := by
  obtain ⟨p, e1, e2⟩ := h.2 i js[i] (List.getElem?_eq_getElem hi)
  refine ⟨p, atI_nat e1, ?_⟩
  have e : js.getD i (1, 0, 0) = js[i] := by rw [List.getD_eq_getElem?_getD, List.getElem?_eq_getElem hi]; rfl
  unfold evJ rkJ wkJ
  rw [e]
  exact e2
/-- loads stand at p -/
def LAt (K : PySem.W.Frag) (C : Addr) (H : Hp) (p : Addr) (js : List Job) : Prop := ∃ dx fs t ts, H p = some (.ins C dx fs) ∧ fs.lookup ("jobs" : Str) = some (.ref t) ∧ SqT K H t ts ∧ JobsAt K H ts js
theorem LAt.same {K : PySem.W.Frag} {C : Addr} {H H' : Hp} {p : Addr} {js : List Job} (h : LAt K C H p js) (s : Same H H') : LAt K C H' p js := by
  obtain ⟨dx, fs, t, ts, h1, h2, h3, h4⟩ := h
  exact ⟨dx, fs, t, ts, s _ _ h1, h2, Same.seqT s h3, jobs_same s h4⟩
section
variable {P : Program} {w : World} {K : PySem.W.Frag} {mg : Str → Option Value} {base : Heap}
def spLoads (K : PySem.W.Frag) (C : Addr) : Sp := fun vs H Q _ => ∃ (p dx : Addr) (js : List Job), vs = [.ref p, .str (loadsT js)] ∧ H p = some (.ins C dx []) ∧ GoodJ js ∧
  ∀ H', (∀ b o, H b = some o → b ≠ p → H' b = some o) → LAt K C H' p js → Q .non H'
theorem ok_Loads {k : Nat} {f : Addr} {fd : FuncData} {CL:Addr} (F : Fun K "__init__" "Loads.__init__" sLoads f fd) (gJr : Cal P w K mg base CX0 (k + 3) "job_row" ["line"] (spJobRow K)) {tM : Tok} (gMOST_JOBS : mg "MOST_JOBS" = some (.int 6 tM)) (T : LF K CL) (fenumerate : mg "enumerate" = none) (flen : mg "len" = none) (fstr : mg "str" = none) (ftuple : mg "tuple" = none) (ftype : mg "type" = none) : FnOk P w K mg base CX0 (k + 4) f fd ["self", "text"] (spLoads K CL) := by
  obtain ⟨fJr, fdJr, GJr, kJr, bJr, mJr⟩ := gJr
  refine F.ok scLoads (fun vs H Q E h => ?_) (fun cdv A outer s H vs Q E hr h => ?_)
  · obtain ⟨p, dx, js, rfl, _⟩ := h
    rfl
  · obtain ⟨p, dx, js, rfl, hp, g, q⟩ := h
    refine ⟨_, (pss_cons (ps_if (pt_cmpR op_notTyB (pe_callTy call_type1 (by rfl) ftype (by decide +kernel) (pa_cons (pv 1) pa_nil)) (pe_bltn (v := .ty "str") (by rfl) fstr (by decide +kernel) rfl) (nomark _)) (pss_one ps_never) pss_nil) (pss_cons (ps_set (i := 2) scLoads.nd rfl (.inl rfl) (pe_lst pa_nil)) (pss_cons (ps_for PassesOwn.never rfl (pi_enumK (by rfl) fenumerate (pa_cons (pe_split (pv 1) pe_str) pa_nil) (pk_cons pe_int pk_nil)) (pg_tup (by rfl) (pgs_cons (pg_name (i := 3) scLoads.nd rfl (.inl rfl)) (pgs_cons (pg_name (i := 4) scLoads.nd rfl (.inl rfl)) pgs_nil))) (pss_cons (ps_set (i := 5) scLoads.nd rfl (.inl rfl) (pe_call GJr hr (by rfl) mJr kJr bJr .nil pass0 (pa_cons (pv 4) pa_nil))) (pss_cons (ps_if (PW.pt (pw_or (pt_cmpR op_isN (pv 5) pe_non (nomark _)) (pw_or (pt_cmpR op_eq (pe_callB call_len_seq (by rfl) flen PySem.boot_len (pa_cons (pv 2) pa_nil)) (pe_glob (by rfl) gMOST_JOBS (show RelV (.int 6) (.int 6 tM) from ⟨_, rfl⟩)) (nomark _)) (pw_or1 (pt_cmpR op_in_seq (pe_ix ix_tup (pv 5) pe_int (fun _ _ => rfl)) (pe_lc (own := [("other", 6)]) (g := (gName 6)) (tt := tYes) rfl scLoads.nd (pi_list (pv 2)) (blkOk_by (N := ["self", "text", "jobs", "number", "line", "job", "other"]) (sc := defScope sLoads) (by decide +kernel)) (fun _ _ _ _ _ => (pg_name (i := 6) scLoads.nd rfl (.inl rfl))) (fun _ _ _ _ _ => pts_nil) (fun _ _ _ _ _ => (pe_ix (show IxR _ (rIxT K) from ix_tup) (pv 6) pe_int (fun _ _ => rfl)))) (by rfl)))))) (pss_one ps_never) pss_nil) (pss_one (ps_expr (pe_bm PySem.F.plainAttrs_list PySem.F.slot_list_append PySem.F.type_list_append mt_append (pv 2) (pa_cons (pv 5) pa_nil))))))) (pss_cons (ps_fld (pv 0) (pv 1) rfl) (pss_one (ps_fld (pv 0) (pe_callTy call_tuple_of (by rfl) ftuple (by decide +kernel) (pa_cons (pv 2) pa_nil)) rfl)))))), ?_⟩
    have hz := loads_len g
    have hsp := split_loads g
    refine ⟨.str (loadsT js), rfl, .str (loadsT js), "str", rfl, .str _, _, _, rfl, rfl, _, rfl, iteF ⟨by show 0 ≤ sizeLine; decide, fun R nR => ?_⟩⟩
    have s1 := same_upd (o := .lst []) nR
    have hR : upd H R (.lst []) R = some (.lst []) := upd_same
    generalize upd H R (.lst []) = H1 at s1 hR ⊢
    refine ⟨.str (loadsT js), rfl, ⟨_, rfl⟩, loadsT js, "\n", rfl, rfl, by decide, sl (by omega), fun L nL => ⟨L, rfl, ?_⟩⟩
    rw [hsp]
    have s2 := s1.trans (same_upd (o := .lst ((js.map jobT).map V.str)) nL)
    have hL : upd H1 L (.lst ((js.map jobT).map V.str)) L = some (.lst ((js.map jobT).map V.str)) := upd_same
    have nLR : L ≠ R := by rintro rfl; rw [nL] at hR; cases hR
    have hR : upd H1 L (.lst ((js.map jobT).map V.str)) R = some (.lst []) := (upd_ne nLR.symm).trans hR
    generalize upd H1 L (.lst ((js.map jobT).map V.str)) = H2 at s2 hL hR ⊢
    refine ⟨1, (js.map jobT).map V.str, rfl, SqL.of hL, by decide, by decide, ?_⟩
    refine for_any (n := js.length) (fun i σ H' => ∃ y3 y4 y5 xs, σ = [some (.ref p), some (.str (loadsT js)), some (.ref R), y3, y4, y5, none] ∧ Same H H' ∧ H' R = some (.lst xs) ∧ JobsAt K H' xs (js.take i) ∧ H' L = some (.lst ((js.map jobT).map V.str)))
      ⟨none, none, none, [], rfl, s2, hR, ⟨rfl, fun i r e => by cases e⟩, hL⟩ (fun i σ H' hi hP => ?_) (fun σ H' hP => ?_) (fun i x σ H' H'' hi hP hy => ?_) fun σ H' hP => ?_
    · obtain ⟨_, _, _, _, _, _, _, _, hL⟩ := hP
      exact ⟨_, .str (jobT js[i]), SqL.of hL, by rw [List.getElem?_map, List.getElem?_map, List.getElem?_eq_getElem hi]; rfl⟩
    · obtain ⟨_, _, _, _, _, _, _, _, hL⟩ := hP
      exact ⟨_, SqL.of hL, by rw [List.length_map, List.length_map]; exact Nat.le_refl _⟩
    · obtain ⟨y3, y4, y5, xs, rfl, sm, hR, hxs, hL⟩ := hP
      obtain ⟨T2, xv, rfl, nT, rfl, hx⟩ := hy
      have hx := hx _ (SqL.of hL)
      have hget : js[i]? = some js[i] := List.getElem?_eq_getElem hi
      rw [List.getElem?_map, List.getElem?_map, hget] at hx
      obtain rfl : V.str (jobT js[i]) = xv := Option.some.inj hx
      clear hx
      have hj := g.job (List.getElem_mem hi)
      have et : js.take (i + 1) = js.take i ++ [js[i]] := by rw [List.take_add_one, hget]; rfl
      have hrk : js[i].2.1 ∉ (js.take i).map (·.2.1) := fun hm => by
        have nd := g.nd
        rw [← List.take_append_drop (i + 1) js, et, List.map_append, List.map_append, List.append_assoc, List.nodup_append] at nd
        exact nd.2.2 _ hm _ (by simp) rfl
      generalize js[i] = j at hj et hrk ⊢
      have sT := same_upd (o := .tup [.int (1 + (i : Nat)), .str (jobT j)]) nT
      refine ⟨T2, [.int _, .str _], rfl, SqT.of upd_same, rfl, .int _, [.str _], rfl, .str _, [], rfl, rfl, ?_⟩
      have smT := sm.trans sT
      have hRT := sT _ _ hR
      have hLT := sT _ _ hL
      have hxT := jobs_same sT hxs
      generalize upd H' T2 (.tup [.int (1 + (i : Nat)), .str (jobT j)]) = H5 at smT hRT hLT hxT ⊢
      clear hR hxs hL sm nT sT
      refine ⟨.str (jobT j), rfl, j, rfl, hj, fun H6 pr s6 hr => ?_⟩
      have hR6 := s6 _ _ hRT
      have hL6 := s6 _ _ hLT
      have hx6 := jobs_same s6 hxT
      have sm6 := smT.trans s6
      have hxl := hx6.1
      have hfew := g.few
      rw [List.length_take, Nat.min_eq_left (by omega)] at hxl
      clear hRT hLT hxT smT s6
      refine ⟨.ref pr, rfl, rfl, _, rfl, iteE (fun y => nomatch y) ⟨.ref R, rfl, R, _, rfl, .inl (SqL.of hR6), rfl, _, rfl, iteE (fun y => by have := V.int.inj y; omega) ⟨.ref pr, rfl, pr, _, 1, .int j.2.1, rfl, rfl, hr, at1, .ref R, rfl, R, rfl, ⟨_, SqL.of hR6⟩, fun D nD => ?_⟩⟩⟩
      have nDR : D ≠ R := by rintro rfl; rw [nD] at hR6; cases hR6
      have nDL : D ≠ L := by rintro rfl; rw [nD] at hL6; cases hL6
      refine lc_list (xs := xs) (fun m H' => Same H6 H' ∧ H' D = some (.lst ((((js.take i).take m).map (·.2.1)).map V.int))) ⟨same_upd nD, upd_same⟩ (fun m H' _ hP => SqL.of (hP.1 _ _ hR6)) (fun m x H' hx hP => ?_) fun H7 hP => ?_
      · obtain ⟨s7, hD⟩ := hP
        have hm := (List.getElem?_eq_some_iff.mp hx).1
        have hm2 : m < (js.take i).length := by rw [← hx6.1]; exact hm
        obtain ⟨q1, e1, e2⟩ := hx6.2 m _ (List.getElem?_eq_getElem hm2)
        cases Option.some.inj (hx.symm.trans e1)
        refine ⟨rfl, ?_⟩
        unfold tYes
        refine iteT ⟨.ref q1, rfl, q1, _, 1, .int _, rfl, rfl, Same.seqT s7 e2, at1, _, hD, small1000 (by rw [List.length_map, List.length_map, List.length_take]; omega), Same.updNew s7 nD, ?_⟩
        rw [upd_same, List.take_add_one, List.getElem?_eq_getElem hm2, List.map_append, List.map_append]
        rfl
      · obtain ⟨s7, hD⟩ := hP
        rw [hx6.1, List.take_length] at hD
        refine ⟨D, _, rfl, .inl (SqL.of hD), rfl, flat_ints _, _, rfl, ?_⟩
        rw [inV_ints, decide_eq_false hrk]
        have hR7 := s7 _ _ hR6
        refine iteF ⟨.ref R, rfl, .inl ⟨rfl, _, SqL.of hR7⟩, .ref pr, rfl, R, _, _, rfl, rfl, hR7, small1000 (by omega), ?_⟩
        refine ⟨_, _, _, xs ++ [.ref pr], rfl, Same.updNew (sm6.trans s7) nR, upd_same, ?_, by rw [upd_ne nLR]; exact s7 _ _ hL6⟩
        rw [et]
        exact jobs_snoc (jobs_list hR7 (jobs_same s7 hx6)) (sqT_upd (Same.seqT s7 hr) hR7)
    · obtain ⟨y3, y4, y5, xs, rfl, sm, hR, hxs, hL⟩ := hP
      rw [List.take_length] at hxs
      have hp1 := sm _ _ hp
      have npR : R ≠ p := by rintro rfl; rw [hR] at hp1; cases hp1
      refine ⟨.str (loadsT js), rfl, .ref p, rfl, p, CL, dx, _, rfl, hp1, T.cl, T.nT, (by show 0 < 1000; decide), ?_⟩
      have k1 : ∀ b o, H b = some o → b ≠ p → upd H' p (.ins CL dx (putF "text" (V.str (loadsT js)) [])) b = some o := fun b o e ne => by rw [upd_ne ne]; exact sm _ _ e
      have hR2 : upd H' p (.ins CL dx (putF "text" (V.str (loadsT js)) [])) R = some (.lst xs) := by rw [upd_ne npR]; exact hR
      have hx2 := jobs_ins (o := .ins CL dx (putF "text" (V.str (loadsT js)) [])) hp1 hxs
      have hp2 : upd H' p (.ins CL dx (putF "text" (V.str (loadsT js)) [])) p = some (.ins CL dx (putF "text" (V.str (loadsT js)) [])) := upd_same
      generalize upd H' p (.ins CL dx (putF "text" (V.str (loadsT js)) [])) = H5 at k1 hR2 hx2 hp2 ⊢
      refine ⟨.ref R, rfl, R, _, rfl, .inl ⟨SqL.of hR2, fun t nt => ?_⟩⟩
      have s5 := same_upd (o := .tup xs) nt
      have ht : SqT K (upd H5 t (.tup xs)) t xs := SqT.of upd_same
      have hp3 := s5 _ _ hp2
      have hx3 := jobs_same s5 hx2
      have k2 : ∀ b o, H b = some o → b ≠ p → upd H5 t (.tup xs) b = some o := fun b o e ne => s5 _ _ (k1 b o e ne)
      generalize upd H5 t (.tup xs) = H6 at s5 ht hp3 hx3 k2 ⊢
      refine ⟨.ref p, rfl, p, CL, dx, _, rfl, hp3, T.cl, T.nJ, (by show 1 < 1000; decide), ?_⟩
      refine q _ (fun b o e ne => by rw [upd_ne ne]; exact k2 b o e ne) ⟨dx, _, t, xs, upd_same, by rw [lookup_putF, if_pos rfl], sqT_ins ht hp3, jobs_ins hp3 hx3⟩
def spTimes (K : PySem.W.Frag) (C : Addr) : Sp := fun vs H Q _ => ∃ (p : Addr) (js : List Job) (i : Nat) (t : Int), vs = [.ref p, .int (i : Nat), .int t] ∧ LAt K C H p js ∧ GoodJ js ∧ i < js.length ∧ Q (.int (ceilI t (evJ js i))) H
theorem ok_TimesAsked {k : Nat} {f : Addr} {fd : FuncData} {CL:Addr} (F : Fun K "_times_asked" "_times_asked" sTimesAsked f fd)  (T : LF K CL)  : FnOk P w K mg base CX0 (k + 1) f fd ["loads", "job", "ticks"] (spTimes K CL) := by
  refine F.ok scTimesAsked (fun vs H Q E h => ?_) (fun cdv A outer s H vs Q E hr h => ?_)
  · obtain ⟨p, js, i, t, rfl, _⟩ := h
    rfl
  · obtain ⟨p, js, i, t, rfl, hl, g, hi, q⟩ := h
    refine ⟨_, (pss_cons (ps_set (i := 3) scTimesAsked.nd rfl (.inl rfl) (pe_ix ix_tup (pe_ix ix_tup (pe_fld (pv 0) rfl) (pv 1) (fun _ _ => rfl)) pe_int (fun _ _ => rfl))) (pss_one (ps_ret (pe_op op_fdiv (pe_op op_sub (pe_op op_add (pv 2) (pv 3)) pe_int) (pv 3))))), ?_⟩
    obtain ⟨dx, fs, tt, ts, h1, h2, h3, h4⟩ := hl
    obtain ⟨a, e1, e2⟩ := h4.at hi
    have he := g.evb i
    refine ⟨.ref p, rfl, p, CL, dx, fs, .ref tt, rfl, h1, T.cl, T.nJ, h2, .int (i : Nat), rfl, tt, ts, _, .ref a, rfl, rfl, h3, e1, a, _, 0, .int (evJ js i), rfl, rfl, e2, at0, ?_⟩
    exact ⟨.int t, rfl, .int (evJ js i), rfl, t, evJ js i, rfl, rfl, _, 1, rfl, rfl, .int (evJ js i), rfl, _, _, rfl, rfl, ⟨by omega, by omega⟩, q⟩
end
end K33

set_option maxRecDepth 100000
set_option maxHeartbeats 4000000
/-! k33: answer times, who can stand last. -/
namespace K33
open PySem PySem.Spec PyProof.Rows L2 LamX VG TL
abbrev sCanLastL : Stmt := sCanLast
abbrev sCanLastT : Stmt := sCanLast
theorem scAnswerTime : FnScope ["loads", "job", "others", "every", "_", "work", "time", "needed", "other"] ["loads", "job", "others"] (defScope sAnswerTime) := ⟨rfl, rfl, rfl, by decide +kernel, rfl, by decide +kernel, by decide +kernel⟩
theorem scInTime : FnScope ["loads", "job", "others", "most", "time"] ["loads", "job", "others", "most"] (defScope sInTime) := ⟨rfl, rfl, rfl, by decide +kernel, rfl, by decide +kernel, by decide +kernel⟩
theorem scCanLastL : FnScope ["loads", "within", "lot", "found", "job", "others", "other"] ["loads", "within", "lot"] (defScope sCanLastL) := ⟨rfl, rfl, rfl, by decide +kernel, rfl, by decide +kernel, by decide +kernel⟩
theorem scCanLastT : FnScope ["loads", "within", "lot", "found", "job", "others", "other"] ["loads", "within", "lot"] (defScope sCanLastT) := ⟨rfl, rfl, rfl, by decide +kernel, rfl, by decide +kernel, by decide +kernel⟩
def natsV (l : List Nat) : List V := l.map fun i => V.int (i : Nat)
theorem natsV_len (l : List Nat) : (natsV l).length = l.length := List.length_map ..
theorem natsV_ints (l : List Nat) : natsV l = (l.map fun i => ((i : Nat) : Int)).map V.int := by unfold natsV; rw [List.map_map]; rfl
/-- others: no one twice, all jobs -/
structure Oth (js : List Job) (os : List Nat) : Prop where
  nd : os.Nodup
  lt : ∀ o ∈ os, o < js.length
theorem Oth.len {js : List Job} {os : List Nat} (h : Oth js os) : os.length ≤ js.length := by
  have := sub_len (l := os.map fun i : Nat => (i : Int)) (ns := (List.range js.length).map fun i : Nat => (i : Int)) (List.Pairwise.map _ (fun a b hab z => hab (by omega)) h.nd) fun y hy => by
    obtain ⟨z, hz, rfl⟩ := List.mem_map.mp hy
    exact List.mem_map.mpr ⟨z, List.mem_range.mpr (h.lt z hz), rfl⟩
  rw [List.length_map, List.length_map, List.length_range] at this
  exact this
theorem stepP_sum {js : List Job} {os : List Nat} (h : Oth js os) (m : Nat) (t : Int) : wkJ js m + sumL js t os = stepP js m (fun o => decide (o ∈ os)) t := by
  unfold stepP
  rw [sumL_eq h.nd h.lt]
theorem sumL_list {js : List Job} {t : Int} : ∀ os : List Nat, (os.map fun o => wkJ js o * ceilI t (evJ js o)).sum = sumL js t os
  | [] => rfl
  | o :: os => by rw [List.map_cons, List.sum_cons, sumL, sumL_list os]
section
variable {P : Program} {w : World} {K : PySem.W.Frag} {mg : Str → Option Value} {base : Heap}
def spAnswer (K : PySem.W.Frag) (C : Addr) : Sp := fun vs H Q _ => ∃ (p o : Addr) (js : List Job) (m : Nat) (os : List Nat), vs = [.ref p, .int (m : Nat), .ref o] ∧ LAt K C H p js ∧ GoodJ js ∧ m < js.length ∧ SqL K H o (natsV os) ∧ Oth js os ∧
  ∀ H', Same H H' → Q (optI (lng js m fun x => decide (x ∈ os))) H'
theorem ok_AnswerTime {k : Nat} {f : Addr} {fd : FuncData} {CL:Addr} (F : Fun K "_answer_time" "_answer_time" sAnswerTime f fd) (gTm : Cal P w K mg base CX0 (k + 1) "_times_asked" ["loads", "job", "ticks"] (spTimes K CL)) (T : LF K CL) (fsum : mg "sum" = none) : FnOk P w K mg base CX0 (k + 2) f fd ["loads", "job", "others"] (spAnswer K CL) := by
  obtain ⟨fTm, fdTm, GTm, kTm, bTm, mTm⟩ := gTm
  refine F.ok scAnswerTime (fun vs H Q E h => ?_) (fun cdv A outer s H vs Q E hr h => ?_)
  · obtain ⟨p, o, js, m, os, rfl, _⟩ := h
    rfl
  · obtain ⟨p, o, js, m, os, rfl, hl, g, hm, ho, oth, q⟩ := h
    refine ⟨_, (pss_cons (ps_asg (pe_ix ix_tup (pe_fld (pv 0) rfl) (pv 1) (fun _ _ => rfl)) (pg_tup (by rfl) (pgs_cons (pg_name (i := 3) scAnswerTime.nd rfl (.inl rfl)) (pgs_cons (pg_name (i := 4) scAnswerTime.nd rfl (.inl rfl)) (pgs_cons (pg_name (i := 5) scAnswerTime.nd rfl (.inl rfl)) pgs_nil))))) (pss_cons (ps_set (i := 6) scAnswerTime.nd rfl (.inr rfl) (pv 5)) (pss_cons (ps_while PassesOwn.never (pt_cmpR op_le (pv 6) (pv 3) (nomark _)) (pss_cons (ps_set (i := 7) scAnswerTime.nd rfl (.inl rfl) (pe_op op_add (pv 5) (pe_callB (cr_sum rfl) (by rfl) fsum (by decide +kernel) (pa_cons (pe_lc (own := [("other", 8)]) (g := (gName 8)) (tt := tYes) rfl scAnswerTime.nd (pi_list (pv 2)) (blkOk_by (N := ["loads", "job", "others", "every", "_", "work", "time", "needed", "other"]) (sc := defScope sAnswerTime) (by decide +kernel)) (fun _ _ _ _ _ => (pg_name (i := 8) scAnswerTime.nd rfl (.inl rfl))) (fun _ _ _ _ _ => pts_nil) (fun _ _ _ _ _ => (pe_op op_mul (pe_ix (show IxR _ (rIxT K) from ix_tup) (pe_ix (show IxR _ (rIxT K) from ix_tup) (show PE _ _ (tFld K _ "jobs") from pe_fld (pv 0) rfl) (pv 8) (fun _ _ => rfl)) pe_int (fun _ _ => rfl)) (pe_call GTm hr (by rfl) mTm kTm bTm .nil pass0 (pa_cons (pv 0) (pa_cons (pv 8) (pa_cons (pv 6) pa_nil))))))) pa_nil)))) (pss_cons (ps_if (pt_cmpR op_eq (pv 7) (pv 6) (nomark _)) (pss_one (ps_ret (pv 6))) pss_nil) (pss_one (ps_set (i := 6) scAnswerTime.nd rfl (.inr rfl) (pv 7)))))) (pss_one (ps_ret pe_non))))), ?_⟩
    obtain ⟨dx, fs, tt, ts, h1, h2, h3, h4⟩ := id hl
    obtain ⟨a, e1, e2⟩ := h4.at hm
    refine ⟨.ref p, rfl, p, CL, dx, fs, .ref tt, rfl, h1, T.cl, T.nJ, h2, .int (m : Nat), rfl, tt, ts, _, .ref a, rfl, rfl, h3, e1, a, _, rfl, e2, rfl, .int _, [.int _, .int _], rfl, .int _, [.int _], rfl, .int _, [], rfl, rfl, .int _, rfl, ?_⟩
    have hev := g.evb m
    refine ⟨fun c σ H' => ∃ t y7 f, σ = [some (.ref p), some (.int (m : Nat)), some (.ref o), some (.int (evJ js m)), some (.int (rkJ js m)), some (.int (wkJ js m)), some (.int t), y7, none] ∧ Same H H' ∧ 0 ≤ t ∧ t ≤ stepP js m (fun x => decide (x ∈ os)) t ∧ lngF js m (fun x => decide (x ∈ os)) f t = lng js m (fun x => decide (x ∈ os)) ∧ 99 - t < (f : Nat) ∧ c = (100 - t).toNat,
      ⟨_, _, none, 101, rfl, Same.refl H, (g.wkb m).1, stepP_first g, rfl, by have := (g.wkb m).1; omega, rfl⟩, fun c σ H1 hW => ?_⟩
    obtain ⟨t, y7, f, rfl, sm, ht0, hts, hlf, hf, rfl⟩ := hW
    refine ⟨.int t, rfl, .int (evJ js m), rfl, _, _, rfl, rfl, _, rfl, ?_⟩
    · by_cases hte : t ≤ evJ js m
      · refine iteD hte ⟨fun σ' H' => ∃ c', c' < (100 - t).toNat ∧ ∃ t y7 f, σ' = [some (.ref p), some (.int (m : Nat)), some (.ref o), some (.int (evJ js m)), some (.int (rkJ js m)), some (.int (wkJ js m)), some (.int t), y7, none] ∧ Same H H' ∧ 0 ≤ t ∧ t ≤ stepP js m (fun x => decide (x ∈ os)) t ∧ lngF js m (fun x => decide (x ∈ os)) f t = lng js m (fun x => decide (x ∈ os)) ∧ 99 - t < (f : Nat) ∧ c' = (100 - t).toNat, fun σ' H' h => h, ?_⟩
        have ho1 := sm.seq ho
        have hl1 := hl.same sm
        refine ⟨.int _, rfl, .ref o, rfl, o, rfl, ⟨_, ho1⟩, fun D nD => ?_⟩
        have s1 := same_upd (o := .lst []) nD
        refine lc_list (xs := natsV os) (fun i H' => Same H1 H' ∧ H' D = some (.lst (((os.take i).map fun o => wkJ js o * ceilI t (evJ js o)).map V.int))) ⟨s1, upd_same⟩ (fun i H' _ hP => hP.1.seq ho1) (fun i x H' hx hP => ?_) fun H2 hP => ?_
        · obtain ⟨s2, hD⟩ := hP
          have hi := (List.getElem?_eq_some_iff.mp hx).1
          rw [natsV_len] at hi
          have hget : os[i]? = some os[i] := List.getElem?_eq_getElem hi
          unfold natsV at hx
          rw [List.getElem?_map, hget] at hx
          obtain rfl : V.int ((os[i] : Nat) : Int) = x := Option.some.inj hx
          have hj := oth.lt _ (List.getElem_mem hi)
          have et : os.take (i + 1) = os.take i ++ [os[i]] := by rw [List.take_add_one, hget]; rfl
          generalize os[i] = j at hj et ⊢
          have hl2 := hl1.same s2
          obtain ⟨dx', fs', tt', ts', k1, k2, k3, k4⟩ := id hl2
          obtain ⟨b, d1, d2⟩ := k4.at hj
          have hwj := g.wkb j
          have hlen := oth.len
          have hfew := g.few
          refine ⟨rfl, ?_⟩
          unfold tYes
          refine iteT ⟨.ref p, rfl, p, CL, dx', fs', .ref tt', rfl, k1, T.cl, T.nJ, k2, .int (j : Nat), rfl, tt', ts', _, .ref b, rfl, rfl, k3, d1, b, _, 2, .int (wkJ js j), rfl, rfl, d2, at2, .ref p, rfl, .int (j : Nat), rfl, .int t, rfl, p, js, j, t, rfl, hl2, g, hj, wkJ js j, ceilI t (evJ js j), rfl, rfl, .inl ⟨by omega, by omega⟩, _, hD, small1000 (by rw [List.length_map, List.length_map, List.length_take]; omega), Same.updNew s2 nD, ?_⟩
          rw [upd_same, et, List.map_append, List.map_append]
          rfl
        · obtain ⟨s2, hD⟩ := hP
          rw [natsV_len, List.take_length] at hD
          refine ⟨D, _, rfl, SqL.of hD, _, _, rfl, rfl, ?_⟩
          have es : wkJ js m + ((os.map fun o => wkJ js o * ceilI t (evJ js o)).sum) = stepP js m (fun x => decide (x ∈ os)) t := by rw [sumL_list, stepP_sum oth]
          refine ⟨.int (wkJ js m + ((os.map fun o => wkJ js o * ceilI t (evJ js o)).sum)), rfl, .int t, rfl, rfl, _, rfl, ?_⟩
          rw [es]
          by_cases hst : stepP js m (fun x => decide (x ∈ os)) t = t
          · refine iteD (congrArg V.int hst) ⟨.int t, rfl, ?_⟩
            have e : lng js m (fun x => decide (x ∈ os)) = some t := by
              rw [← hlf]
              cases f with
              | zero => have := hev.2; omega
              | succ f =>
                unfold lngF
                rw [if_pos hte, if_pos hst]
            have q1 := q _ (sm.trans s2)
            rw [e] at q1
            exact q1
          · refine iteE (fun y => hst (V.int.inj y)) ⟨.int (wkJ js m + ((os.map fun o => wkJ js o * ceilI t (evJ js o)).sum)), rfl, ?_⟩
            have e : ∃ f', lngF js m (fun x => decide (x ∈ os)) f' (stepP js m (fun x => decide (x ∈ os)) t) = lng js m (fun x => decide (x ∈ os)) ∧ 99 - t < (f' : Nat) + 1 := by
              cases f with
              | zero => have := hev.2; omega
              | succ f =>
                refine ⟨f, ?_, by omega⟩
                rw [← hlf]
                conv => rhs; unfold lngF
                rw [if_pos hte, if_neg hst]
            obtain ⟨f', e1', e2'⟩ := e
            rw [es]
            exact ⟨_, by omega, _, _, f', rfl, sm.trans s2, by omega, stepP_mono g ht0 hts fun _ _ z => z, e1', by omega, rfl⟩
      · refine iteE hte ?_
        have e : lng js m (fun x => decide (x ∈ os)) = none := by
          rw [← hlf]
          cases f with
          | zero => rfl
          | succ f =>
            unfold lngF
            rw [if_neg hte]
        have q1 := q _ sm
        rw [e] at q1
        exact q1
def fitM (js : List Job) (m : Nat) (p : Nat → Bool) (mo : Int) : Bool := match lng js m p with
  | some t => decide (t ≤ mo)
  | none => false
def spInTime (K : PySem.W.Frag) (C : Addr) : Sp := fun vs H Q _ => ∃ (p o : Addr) (js : List Job) (m : Nat) (os : List Nat) (mo : Int), vs = [.ref p, .int (m : Nat), .ref o, .int mo] ∧ LAt K C H p js ∧ GoodJ js ∧ m < js.length ∧ SqL K H o (natsV os) ∧ Oth js os ∧
  ∀ H', Same H H' → Q (.bl (fitM js m (fun x => decide (x ∈ os)) mo)) H'
theorem ok_InTime {k : Nat} {f : Addr} {fd : FuncData} {CL:Addr} (F : Fun K "_is_in_time" "_is_in_time" sInTime f fd) (gAt : Cal P w K mg base CX0 (k + 2) "_answer_time" ["loads", "job", "others"] (spAnswer K CL))   : FnOk P w K mg base CX0 (k + 3) f fd ["loads", "job", "others", "most"] (spInTime K CL) := by
  obtain ⟨fAt, fdAt, GAt, kAt, bAt, mAt⟩ := gAt
  refine F.ok scInTime (fun vs H Q E h => ?_) (fun cdv A outer s H vs Q E hr h => ?_)
  · obtain ⟨p, o, js, m, os, mo, rfl, _⟩ := h
    rfl
  · obtain ⟨p, o, js, m, os, mo, rfl, hl, g, hm, ho, oth, q⟩ := h
    refine ⟨_, (pss_cons (ps_set (i := 4) scInTime.nd rfl (.inl rfl) (pe_call GAt hr (by rfl) mAt kAt bAt .nil pass0 (pa_cons (pv 0) (pa_cons (pv 1) (pa_cons (pv 2) pa_nil))))) (pss_one (ps_ret (pe_and (pe_cmpR op_notN (pv 4) pe_non (nomark _)) (pe_one (pe_cmpR op_le (pv 4) (pv 3) (nomark _))))))), ?_⟩
    refine ⟨.ref p, rfl, .int (m : Nat), rfl, .ref o, rfl, p, o, js, m, os, rfl, hl, g, hm, ho, oth, fun H1 s1 => ?_⟩
    have q1 := q _ s1
    unfold fitM at q1
    cases e : lng js m (fun x => decide (x ∈ os)) with
    | none =>
      rw [e] at q1
      exact ⟨.non, rfl, rfl, _, rfl, iteF q1⟩
    | some t =>
      rw [e] at q1
      exact ⟨.int t, rfl, rfl, _, rfl, iteT ⟨.int t, rfl, .int mo, rfl, t, mo, rfl, rfl, q1⟩⟩
def spCanL (K : PySem.W.Frag) (C : Addr) : Sp := fun vs H Q _ => ∃ (p w_ l : Addr) (js : List Job) (ws : List Int) (lot : List Nat), vs = [.ref p, .ref w_, .ref l] ∧ LAt K C H p js ∧ GoodJ js ∧ SqT K H w_ (ws.map V.int) ∧ ws.length = js.length ∧ SqL K H l (natsV lot) ∧ Oth js lot ∧
  ∀ H' F, Same H H' → H F = none → H' F = some (.lst (natsV (lastJ js ws lot))) → Q (.ref F) H'
def spCanT (K : PySem.W.Frag) (C : Addr) : Sp := fun vs H Q _ => ∃ (p w_ l : Addr) (js : List Job) (ws : List Int) (lot : List Nat), vs = [.ref p, .ref w_, .ref l] ∧ LAt K C H p js ∧ GoodJ js ∧ SqT K H w_ (ws.map V.int) ∧ ws.length = js.length ∧ SqT K H l (natsV lot) ∧ Oth js lot ∧
  ∀ H' F, Same H H' → H F = none → H' F = some (.lst (natsV (lastJ js ws lot))) → Q (.ref F) H'
theorem ok_CanLastL {k : Nat} {f : Addr} {fd : FuncData} {CL:Addr} (F : Fun K "_can_stand_last" "_can_stand_last" sCanLastL f fd) (gIt : Cal P w K mg base CX0 (k + 3) "_is_in_time" ["loads", "job", "others", "most"] (spInTime K CL))   : FnOk P w K mg base CX0 (k + 4) f fd ["loads", "within", "lot"] (spCanL K CL) := by
  obtain ⟨fIt, fdIt, GIt, kIt, bIt, mIt⟩ := gIt
  refine F.ok scCanLastL (fun vs H Q E h => ?_) (fun cdv A outer s H vs Q E hr h => ?_)
  · obtain ⟨p, w_, l, js, ws, lot, rfl, _⟩ := h
    rfl
  · obtain ⟨p, w_, l, js, ws, lot, rfl, hl, g, hw, hwl, ho, oth, q⟩ := h
    refine ⟨_, (pss_cons (ps_set (i := 3) scCanLastL.nd rfl (.inl rfl) (pe_lst pa_nil)) (pss_cons (ps_for PassesOwn.never rfl (pi_list (pv 2)) (pg_name (i := 4) scCanLastL.nd rfl (.inr rfl)) (pss_cons (ps_setLc (i := 5) (own := [("other", 6)]) (g := (gName 6)) (tt := _) rfl scCanLastL.nd rfl rfl (by rfl) (pi_list (pv 2)) (blkOk_by (N := ["loads", "within", "lot", "found", "job", "others", "other"]) (sc := defScope sCanLastL) (by decide +kernel)) (fun _ _ _ _ _ => (pg_name (i := 6) scCanLastL.nd rfl (.inl rfl))) (fun _ _ _ _ _ => (pts_one (pt_cmpR op_ne (pv 6) (pv 4) (nomark _)))) (fun _ _ _ _ _ => (pv 6))) (pss_one (ps_if (pt_val (pe_call GIt hr (by rfl) mIt kIt bIt .nil pass0 (pa_cons (pv 0) (pa_cons (pv 4) (pa_cons (pv 5) (pa_cons (pe_ix ix_tup (pv 1) (pv 4) (fun _ _ => rfl)) pa_nil)))))) (pss_one (ps_expr (pe_bm PySem.F.plainAttrs_list PySem.F.slot_list_append PySem.F.type_list_append mt_append (pv 3) (pa_cons (pv 4) pa_nil)))) pss_nil)))) (pss_one (ps_ret (pv 3))))), ?_⟩
    refine ⟨by show 0 ≤ sizeLine; decide, fun F nF => ?_⟩
    have s1 := same_upd (o := .lst []) nF
    have hF : upd H F (.lst []) F = some (.lst []) := upd_same
    generalize upd H F (.lst []) = H1 at s1 hF ⊢
    have len_ := oth.len
    have hfew := g.few
    refine ⟨.ref l, rfl, l, rfl, ⟨_, Same.seq s1 ho⟩, ?_⟩
    refine for_list (xs := natsV lot) (fun i σ H' => ∃ y4 y5, σ = [some (.ref p), some (.ref w_), some (.ref l), some (.ref F), y4, y5, none] ∧ Same H H' ∧ H' F = some (.lst (natsV ((lot.take i).filter fun j => fitP js ws j fun o => decide (o ∈ without lot j)))))
      ⟨none, none, rfl, s1, hF⟩ (fun i σ H' _ hP => ?_) (fun i x σ H' hx hP => ?_) fun σ H' hP => ?_
    · obtain ⟨_, _, _, sm, _⟩ := hP
      exact Same.seq sm ho
    · obtain ⟨y4, y5, rfl, sm, hF⟩ := hP
      have hi := (List.getElem?_eq_some_iff.mp hx).1
      rw [natsV_len] at hi
      have hget : lot[i]? = some lot[i] := List.getElem?_eq_getElem hi
      unfold natsV at hx
      rw [List.getElem?_map, hget] at hx
      obtain rfl : V.int ((lot[i] : Nat) : Int) = x := Option.some.inj hx
      have hj := oth.lt _ (List.getElem_mem hi)
      have et : lot.take (i + 1) = lot.take i ++ [lot[i]] := by rw [List.take_add_one, hget]; rfl
      generalize lot[i] = j at hj et ⊢
      refine ⟨.ref l, rfl, l, rfl, ⟨_, Same.seq sm ho⟩, fun D nD => ?_⟩
      have nDF : D ≠ F := by rintro rfl; rw [nD] at hF; cases hF
      refine lc_list (xs := natsV lot) (fun m H2 => Same H' H2 ∧ H2 D = some (.lst (natsV (without (lot.take m) j)))) ⟨same_upd nD, upd_same⟩ (fun m H2 _ hP => Same.seq (sm.trans hP.1) ho) (fun m x H2 hx hP => ?_) fun H3 hP => ?_
      · obtain ⟨s2, hD⟩ := hP
        have hm := (List.getElem?_eq_some_iff.mp hx).1
        rw [natsV_len] at hm
        have hget : lot[m]? = some lot[m] := List.getElem?_eq_getElem hm
        unfold natsV at hx
        rw [List.getElem?_map, hget] at hx
        obtain rfl : V.int ((lot[m] : Nat) : Int) = x := Option.some.inj hx
        have et : lot.take (m + 1) = lot.take m ++ [lot[m]] := by rw [List.take_add_one, hget]; rfl
        generalize lot[m] = o at et ⊢
        have lw : (without (lot.take m) j).length ≤ 5 := by
          unfold without
          have := List.length_filter_le (fun o => !decide (o = j)) (lot.take m)
          rw [List.length_take] at this
          omega
        refine ⟨rfl, .int (o : Nat), rfl, .int (j : Nat), rfl, rfl, _, rfl, ?_⟩
        by_cases c : o = j
        · refine iteC (by rw [c, decide_eq_true rfl]; rfl) ⟨s2, ?_⟩
          rw [et]
          unfold without
          rw [List.filter_append, List.filter_cons_of_neg (by simp [c]), List.filter_nil, List.append_nil]
          exact hD
        · refine iteNE (fun y => c (by have := V.int.inj y; omega)) ⟨.int (o : Nat), rfl, _, hD, small1000 (by rw [natsV_len]; omega), Same.updNew s2 nD, ?_⟩
          rw [upd_same, et]
          unfold without
          rw [List.filter_append, List.filter_cons_of_pos (by simp [c]), List.filter_nil]
          unfold natsV
          rw [List.map_append]
          rfl
      · obtain ⟨s2, hD⟩ := hP
        rw [natsV_len, List.take_length] at hD
        have sm3 := sm.trans s2
        have hF3 := s2 _ _ hF
        have hot : Oth js (without lot j) := ⟨List.Pairwise.filter _ oth.nd, fun o ho => oth.lt o (mem_without.mp ho).1⟩
        refine ⟨.ref p, rfl, .int (j : Nat), rfl, .ref D, rfl, .ref w_, rfl, .int (j : Nat), rfl, w_, _, _, .int (ws.getD j 0), rfl, rfl, Same.seqT sm3 hw, atI_getD (by omega), p, D, js, j, without lot j, _, rfl, hl.same sm3, g, hj, SqL.of hD, hot, fun H4 s4 => ⟨_, rfl, ?_⟩⟩
        have ef : fitM js j (fun o => decide (o ∈ without lot j)) (ws.getD j 0) = fitP js ws j (fun o => decide (o ∈ without lot j)) := rfl
        rw [ef]
        have hF4 := s4 _ _ hF3
        have lf : ((lot.take i).filter fun j => fitP js ws j fun o => decide (o ∈ without lot j)).length ≤ 5 := by
          have := List.length_filter_le (fun j => fitP js ws j fun o => decide (o ∈ without lot j)) (lot.take i)
          rw [List.length_take] at this
          omega
        cases c : fitP js ws j (fun o => decide (o ∈ without lot j)) with
        | true =>
          refine iteT ⟨.ref F, rfl, .inl ⟨rfl, _, SqL.of hF4⟩, .int (j : Nat), rfl, F, _, _, rfl, rfl, hF4, small1000 (by rw [natsV_len]; omega), ?_⟩
          refine ⟨_, _, rfl, Same.updNew (sm3.trans s4) nF, ?_⟩
          rw [upd_same, et, List.filter_append, List.filter_cons_of_pos (p := fun j => fitP js ws j fun o => decide (o ∈ without lot j)) (show _ = true from c), List.filter_nil]
          unfold natsV
          rw [List.map_append]
          rfl
        | false =>
          refine iteF ⟨_, _, rfl, sm3.trans s4, ?_⟩
          rw [et, List.filter_append, List.filter_cons_of_neg (p := fun j => fitP js ws j fun o => decide (o ∈ without lot j)) (by show ¬ _ = true; rw [c]; exact Bool.false_ne_true), List.filter_nil, List.append_nil]
          exact hF4
    · obtain ⟨y4, y5, rfl, sm, hF⟩ := hP
      rw [natsV_len, List.take_length] at hF
      exact ⟨.ref F, rfl, q _ F sm nF hF⟩
theorem ok_CanLastT {k : Nat} {f : Addr} {fd : FuncData} {CL:Addr} (F : Fun K "_can_stand_last" "_can_stand_last" sCanLastT f fd) (gIt : Cal P w K mg base CX0 (k + 3) "_is_in_time" ["loads", "job", "others", "most"] (spInTime K CL))   : FnOk P w K mg base CX0 (k + 4) f fd ["loads", "within", "lot"] (spCanT K CL) := by
  obtain ⟨fIt, fdIt, GIt, kIt, bIt, mIt⟩ := gIt
  refine F.ok scCanLastT (fun vs H Q E h => ?_) (fun cdv A outer s H vs Q E hr h => ?_)
  · obtain ⟨p, w_, l, js, ws, lot, rfl, _⟩ := h
    rfl
  · obtain ⟨p, w_, l, js, ws, lot, rfl, hl, g, hw, hwl, ho, oth, q⟩ := h
    refine ⟨_, (pss_cons (ps_set (i := 3) scCanLastT.nd rfl (.inl rfl) (pe_lst pa_nil)) (pss_cons (ps_for PassesOwn.never rfl (pi_tup (pv 2)) (pg_name (i := 4) scCanLastT.nd rfl (.inr rfl)) (pss_cons (ps_setLc (i := 5) (own := [("other", 6)]) (g := (gName 6)) (tt := _) rfl scCanLastT.nd rfl rfl (by rfl) (pi_tup (pv 2)) (blkOk_by (N := ["loads", "within", "lot", "found", "job", "others", "other"]) (sc := defScope sCanLastT) (by decide +kernel)) (fun _ _ _ _ _ => (pg_name (i := 6) scCanLastT.nd rfl (.inl rfl))) (fun _ _ _ _ _ => (pts_one (pt_cmpR op_ne (pv 6) (pv 4) (nomark _)))) (fun _ _ _ _ _ => (pv 6))) (pss_one (ps_if (pt_val (pe_call GIt hr (by rfl) mIt kIt bIt .nil pass0 (pa_cons (pv 0) (pa_cons (pv 4) (pa_cons (pv 5) (pa_cons (pe_ix ix_tup (pv 1) (pv 4) (fun _ _ => rfl)) pa_nil)))))) (pss_one (ps_expr (pe_bm PySem.F.plainAttrs_list PySem.F.slot_list_append PySem.F.type_list_append mt_append (pv 3) (pa_cons (pv 4) pa_nil)))) pss_nil)))) (pss_one (ps_ret (pv 3))))), ?_⟩
    refine ⟨by show 0 ≤ sizeLine; decide, fun F nF => ?_⟩
    have s1 := same_upd (o := .lst []) nF
    have hF : upd H F (.lst []) F = some (.lst []) := upd_same
    generalize upd H F (.lst []) = H1 at s1 hF ⊢
    have len_ := oth.len
    have hfew := g.few
    refine ⟨.ref l, rfl, l, rfl, ⟨_, Same.seqT s1 ho⟩, ?_⟩
    refine for_tup (xs := natsV lot) (fun i σ H' => ∃ y4 y5, σ = [some (.ref p), some (.ref w_), some (.ref l), some (.ref F), y4, y5, none] ∧ Same H H' ∧ H' F = some (.lst (natsV ((lot.take i).filter fun j => fitP js ws j fun o => decide (o ∈ without lot j)))))
      ⟨none, none, rfl, s1, hF⟩ (fun i σ H' _ hP => ?_) (fun i x σ H' hx hP => ?_) fun σ H' hP => ?_
    · obtain ⟨_, _, _, sm, _⟩ := hP
      exact Same.seqT sm ho
    · obtain ⟨y4, y5, rfl, sm, hF⟩ := hP
      have hi := (List.getElem?_eq_some_iff.mp hx).1
      rw [natsV_len] at hi
      have hget : lot[i]? = some lot[i] := List.getElem?_eq_getElem hi
      unfold natsV at hx
      rw [List.getElem?_map, hget] at hx
      obtain rfl : V.int ((lot[i] : Nat) : Int) = x := Option.some.inj hx
      have hj := oth.lt _ (List.getElem_mem hi)
      have et : lot.take (i + 1) = lot.take i ++ [lot[i]] := by rw [List.take_add_one, hget]; rfl
      generalize lot[i] = j at hj et ⊢
      refine ⟨.ref l, rfl, l, rfl, ⟨_, Same.seqT sm ho⟩, fun D nD => ?_⟩
      have nDF : D ≠ F := by rintro rfl; rw [nD] at hF; cases hF
      refine lc_tup (xs := natsV lot) (fun m H2 => Same H' H2 ∧ H2 D = some (.lst (natsV (without (lot.take m) j)))) ⟨same_upd nD, upd_same⟩ (fun m H2 _ hP => Same.seqT (sm.trans hP.1) ho) (fun m x H2 hx hP => ?_) fun H3 hP => ?_
      · obtain ⟨s2, hD⟩ := hP
        have hm := (List.getElem?_eq_some_iff.mp hx).1
        rw [natsV_len] at hm
        have hget : lot[m]? = some lot[m] := List.getElem?_eq_getElem hm
        unfold natsV at hx
        rw [List.getElem?_map, hget] at hx
        obtain rfl : V.int ((lot[m] : Nat) : Int) = x := Option.some.inj hx
        have et : lot.take (m + 1) = lot.take m ++ [lot[m]] := by rw [List.take_add_one, hget]; rfl
        generalize lot[m] = o at et ⊢
        have lw : (without (lot.take m) j).length ≤ 5 := by
          unfold without
          have := List.length_filter_le (fun o => !decide (o = j)) (lot.take m)
          rw [List.length_take] at this
          omega
        refine ⟨rfl, .int (o : Nat), rfl, .int (j : Nat), rfl, rfl, _, rfl, ?_⟩
        by_cases c : o = j
        · refine iteC (by rw [c, decide_eq_true rfl]; rfl) ⟨s2, ?_⟩
          rw [et]
          unfold without
          rw [List.filter_append, List.filter_cons_of_neg (by simp [c]), List.filter_nil, List.append_nil]
          exact hD
        · refine iteNE (fun y => c (by have := V.int.inj y; omega)) ⟨.int (o : Nat), rfl, _, hD, small1000 (by rw [natsV_len]; omega), Same.updNew s2 nD, ?_⟩
          rw [upd_same, et]
          unfold without
          rw [List.filter_append, List.filter_cons_of_pos (by simp [c]), List.filter_nil]
          unfold natsV
          rw [List.map_append]
          rfl
      · obtain ⟨s2, hD⟩ := hP
        rw [natsV_len, List.take_length] at hD
        have sm3 := sm.trans s2
        have hF3 := s2 _ _ hF
        have hot : Oth js (without lot j) := ⟨List.Pairwise.filter _ oth.nd, fun o ho => oth.lt o (mem_without.mp ho).1⟩
        refine ⟨.ref p, rfl, .int (j : Nat), rfl, .ref D, rfl, .ref w_, rfl, .int (j : Nat), rfl, w_, _, _, .int (ws.getD j 0), rfl, rfl, Same.seqT sm3 hw, atI_getD (by omega), p, D, js, j, without lot j, _, rfl, hl.same sm3, g, hj, SqL.of hD, hot, fun H4 s4 => ⟨_, rfl, ?_⟩⟩
        have ef : fitM js j (fun o => decide (o ∈ without lot j)) (ws.getD j 0) = fitP js ws j (fun o => decide (o ∈ without lot j)) := rfl
        rw [ef]
        have hF4 := s4 _ _ hF3
        have lf : ((lot.take i).filter fun j => fitP js ws j fun o => decide (o ∈ without lot j)).length ≤ 5 := by
          have := List.length_filter_le (fun j => fitP js ws j fun o => decide (o ∈ without lot j)) (lot.take i)
          rw [List.length_take] at this
          omega
        cases c : fitP js ws j (fun o => decide (o ∈ without lot j)) with
        | true =>
          refine iteT ⟨.ref F, rfl, .inl ⟨rfl, _, SqL.of hF4⟩, .int (j : Nat), rfl, F, _, _, rfl, rfl, hF4, small1000 (by rw [natsV_len]; omega), ?_⟩
          refine ⟨_, _, rfl, Same.updNew (sm3.trans s4) nF, ?_⟩
          rw [upd_same, et, List.filter_append, List.filter_cons_of_pos (p := fun j => fitP js ws j fun o => decide (o ∈ without lot j)) (show _ = true from c), List.filter_nil]
          unfold natsV
          rw [List.map_append]
          rfl
        | false =>
          refine iteF ⟨_, _, rfl, sm3.trans s4, ?_⟩
          rw [et, List.filter_append, List.filter_cons_of_neg (p := fun j => fitP js ws j fun o => decide (o ∈ without lot j)) (by show ¬ _ = true; rw [c]; exact Bool.false_ne_true), List.filter_nil, List.append_nil]
          exact hF4
    · obtain ⟨y4, y5, rfl, sm, hF⟩ := hP
      rw [natsV_len, List.take_length] at hF
      exact ⟨.ref F, rfl, q _ F sm nF hF⟩
end
end K33

set_option maxRecDepth 100000
set_option maxHeartbeats 4000000
/-! k33: bounds, priorities. -/
namespace K33
open PySem PySem.Spec PyProof.Rows L2 LamX VG TL
theorem scCheckWithin : FnScope ["loads", "within", "job", "most"] ["loads", "within"] (defScope sCheckWithin) := ⟨rfl, rfl, rfl, by decide +kernel, rfl, by decide +kernel, by decide +kernel⟩
theorem scPriorities : FnScope ["loads", "within", "lot", "numbers", "number", "last", "job"] ["loads", "within"] (defScope sPriorities) := ⟨rfl, rfl, rfl, by decide +kernel, rfl, by decide +kernel, by decide +kernel⟩
/-- bounds for all jobs -/
def withinB (js : List Job) : PyData → Bool
  | .tuple ds => decide (ds.length = js.length) && ((List.range ds.length).map fun i => isW (ds.getD i .none) 1 (evJ js i)).all id
  | _ => false
theorem dpAll_get {K : PySem.W.Frag} {H : Hp} : ∀ {xs : List V} {ds : List PyData}, DpAll K H xs ds → ∀ {i : Nat} {x : V}, xs[i]? = some x → Dp K H x (ds.getD i .none)
  | [], _, h, i, x, e => by cases e
  | _ :: _, _, h, i, x, e => by
    cases h with
    | cons h1 h2 =>
      cases i with
      | zero => cases e; exact h1
      | succ i => exact dpAll_get h2 e
theorem withinB_ints {K : PySem.W.Frag} {H : Hp} {js : List Job} {v : V} {d : PyData} (hd : Dk K H v d) (h : withinB js d = true) : ∃ (a : Addr) (ws : List Int), v = .ref a ∧ SqT K H a (ws.map V.int) ∧ ws.length = js.length ∧ d = .tuple (ws.map .int) ∧ ∀ i, i < js.length → 1 ≤ ws.getD i 0 ∧ ws.getD i 0 ≤ evJ js i := by
  cases d with
  | tuple ds =>
    obtain ⟨a, xs, rfl, hs, ha⟩ := dk_tup hd
    unfold withinB at h
    simp only [Bool.and_eq_true, decide_eq_true_eq, List.all_map, List.all_eq_true] at h
    obtain ⟨h1, h2⟩ := h
    have hall : ∀ i, i < ds.length → ∃ n, ds.getD i .none = .int n ∧ 1 ≤ n ∧ n ≤ evJ js i := fun i hi => isW_int (h2 i (List.mem_range.mpr hi))
    have hints : ∀ d ∈ ds, ∃ n, d = .int n := fun d hdm => by
      obtain ⟨i, hi, e⟩ := List.mem_iff_getElem.mp hdm
      obtain ⟨n, e1, _⟩ := hall i hi
      rw [List.getD_eq_getElem?_getD, List.getElem?_eq_getElem hi, e] at e1
      exact ⟨n, e1⟩
    have key : ∀ {xs : List V} {ds : List PyData}, DpAll K H xs ds → (∀ d ∈ ds, ∃ n, d = .int n) → ∃ ws : List Int, xs = ws.map V.int ∧ ds = ws.map .int := by
      intro xs
      induction xs with
      | nil => intro ds h _; cases h; exact ⟨[], rfl, rfl⟩
      | cons x xs ih =>
        intro ds h hi
        cases h with
        | cons g1 g2 =>
          obtain ⟨n, rfl⟩ := hi _ (List.mem_cons_self ..)
          cases g1
          obtain ⟨ws, rfl, rfl⟩ := ih g2 fun d hd => hi d (List.mem_cons_of_mem _ hd)
          exact ⟨n :: ws, rfl, rfl⟩
    obtain ⟨ws, rfl, rfl⟩ := key ha hints
    rw [List.length_map] at h1
    refine ⟨a, ws, rfl, hs, h1, rfl, fun i hi => ?_⟩
    obtain ⟨n, e1, e2, e3⟩ := hall i (by rw [List.length_map]; omega)
    rw [List.getD_eq_getElem?_getD, List.getElem?_map, List.getElem?_eq_getElem (by omega)] at e1
    have e1 : ws[i] = n := PyData.int.inj e1
    rw [List.getD_eq_getElem?_getD, List.getElem?_eq_getElem (by omega)]
    show 1 ≤ ws[i] ∧ ws[i] ≤ _
    rw [e1]
    exact ⟨e2, e3⟩
  | none => cases h
  | bool _ => cases h
  | int _ => cases h
  | str _ => cases h
  | list _ => cases h
  | dict _ => cases h
/-- few things in a tuple -/
def FewD (d : PyData) : Prop := ∀ ds, d = .tuple ds → ds.length ≤ 2000000
section
variable {P : Program} {w : World} {K : PySem.W.Frag} {mg : Str → Option Value} {base : Heap}
def spCheck (K : PySem.W.Frag) (C C2 : Addr) : Sp := fun vs H Q E => ∃ (p : Addr) (js : List Job) (v : V) (d : PyData), vs = [.ref p, v] ∧ LAt K C H p js ∧ GoodJ js ∧ Dk K H v d ∧ FewD d ∧
  (withinB js d = false → ∀ H' dd, Same H H' → H' dd = none → E (.ref C2) (some dd) (upd H' dd (.xd [("value", v)]))) ∧
  (withinB js d = true → ∀ H', Same H H' → Q .non H')
theorem ok_CheckWithin {k : Nat} {f : Addr} {fd : FuncData} {CL C2 J2:Addr} {fdI2:FuncData} (F : Fun K "_check_within" "_check_within" sCheckWithin f fd) (gTo : Cal P w K mg base CX0 (k + 3) "is_tuple_of" ["value", "many"] (spTup K)) (gWi : Cal P w K mg base CX0 (k + 3) "is_within" ["value", "low", "high"] (spWithin K)) (E2 : ErrC K C2 J2) (I2 : Fun K "__init__" "CoreError.__init__" sInit J2 fdI2) (bI2 : L2.Binds K fdI2 ["self", "value"] []) (gBadWithin : mg "BadWithin" = some (.ref C2)) (T : LF K CL) (fall : mg "all" = none) (fenumerate : mg "enumerate" = none) (flen : mg "len" = none) : FnOk P w K mg base (L2.CX P w) (k + 4) f fd ["loads", "within"] (spCheck K CL C2) := by
  obtain ⟨fTo, fdTo, GTo, kTo, bTo, mTo⟩ := gTo
  obtain ⟨fWi, fdWi, GWi, kWi, bWi, mWi⟩ := gWi
  refine F.okX scCheckWithin (fun vs H Q E h => ?_) (fun cdv A outer s H vs Q E hr h => ?_)
  · obtain ⟨p, js, v, d, rfl, _⟩ := h
    rfl
  · obtain ⟨p, js, v, d, rfl, hl, g, hd, hfw, qe, q⟩ := h
    refine ⟨_, (pss_cons (ps_if (pt_not (pt_val (pe_call GTo hr (by rfl) mTo kTo bTo .nil pass0 (pa_cons (pv 1) (pa_cons (pe_callB call_len_seq (by rfl) flen PySem.boot_len (pa_cons (pe_fld (pv 0) rfl) pa_nil)) pa_nil))))) (pss_one (ps_err rfl E2 I2 bI2 (k := (k+1)) hr (takes_of rfl rfl rfl rfl) (by rfl) gBadWithin (pv 1))) pss_nil) (pss_cons (ps_if (pt_not (pt_val (pe_callB (cr_all rfl) (by rfl) fall (by decide +kernel) (pa_cons (pe_lc (own := [("job", 2), ("most", 3)]) (g := (gTup K 2 (gCons (gName 2) (gCons (gName 3) gNil)))) (tt := tYes) rfl scCheckWithin.nd (pi_enumT (by rfl) fenumerate (pa_cons (pv 1) pa_nil)) (blkOk_by (N := ["loads", "within", "job", "most"]) (sc := defScope sCheckWithin) (by decide +kernel)) (fun _ _ _ _ _ => (pg_tup (by rfl) (pgs_cons (pg_name (i := 2) scCheckWithin.nd rfl (.inl rfl)) (pgs_cons (pg_name (i := 3) scCheckWithin.nd rfl (.inl rfl)) pgs_nil)))) (fun _ _ _ _ _ => pts_nil) (fun _ _ _ _ _ => (pe_call GWi hr (by rfl) mWi kWi bWi .nil pass0 (pa_cons (pv 3) (pa_cons pe_int (pa_cons (pe_ix (show IxR _ (rIxT K) from ix_tup) (pe_ix (show IxR _ (rIxT K) from ix_tup) (show PE _ _ (tFld K _ "jobs") from pe_fld (pv 0) rfl) (pv 2) (fun _ _ => rfl)) pe_int (fun _ _ => rfl)) pa_nil)))))) pa_nil)))) (pss_one (ps_err rfl E2 I2 bI2 (k := (k+1)) hr (takes_of rfl rfl rfl rfl) (by rfl) gBadWithin (pv 1))) pss_nil) (PSs.nox pss_nil))), ?_⟩
    obtain ⟨dx, fs, tt, ts, h1, h2, h3, h4⟩ := id hl
    have fin : ∀ H1, withinB js d = false → Same H H1 → _ := fun H1 e s1 => need_ok (v := v) (H1 := H1) (Q := fun cls d H' => E cls d H') E2 fun dd nd => qe e H1 dd s1 nd
    refine ⟨v, rfl, .ref p, rfl, p, CL, dx, fs, .ref tt, rfl, h1, T.cl, T.nJ, h2, tt, ts, rfl, .inr h3, v, d, _, rfl, hd, _, rfl, ?_⟩
    rw [h4.1]
    cases e2 : isTup d (js.length : Nat) with
    | false =>
      refine iteT ⟨v, rfl, fin H ?_ (Same.refl H)⟩
      cases d with
      | tuple ds =>
        show (decide (ds.length = js.length) && _) = false
        rw [decide_eq_false (show ¬ ds.length = js.length from fun z => by
          have : isTup (.tuple ds) (js.length : Nat) = true := decide_eq_true (by rw [z])
          rw [this] at e2; cases e2)]
        rfl
      | none => rfl
      | bool _ => rfl
      | int _ => rfl
      | str _ => rfl
      | list _ => rfl
      | dict _ => rfl
    | true =>
      cases d with
      | tuple ds =>
        have hlen : ds.length = js.length := by
          have := V.int.inj (of_decide_eq_true (show decide (V.int (ds.length : Nat) = V.int (js.length : Nat)) = true from e2))
          omega
        obtain ⟨a, xs, rfl, hs, ha⟩ := dk_tup hd
        have hxl := dpAll_len ha
        have hfew := g.few
        refine iteF ⟨.ref a, rfl, a, xs, rfl, hs, fun D nD => ?_⟩
        refine lc_any (n := ds.length) (fun i H' => Same H H' ∧ H' D = some (.lst (((List.range i).map fun i => isW (ds.getD i .none) 1 (evJ js i)).map V.bl))) ⟨same_upd nD, upd_same⟩ (fun i H' hi hP => ⟨_, xs[i]'(by omega), Same.seqT hP.1 hs, List.getElem?_eq_getElem (by omega)⟩) (fun H' hP => ⟨_, Same.seqT hP.1 hs, by omega⟩) (fun i x H' H'' hi hP hy => ?_) fun H' hP => ?_
        · obtain ⟨sm, hD⟩ := hP
          obtain ⟨T2, xv, rfl, nT, rfl, hx⟩ := hy
          have hx := hx _ (Same.seqT sm hs)
          have hdx := dpAll_get ha hx
          have sT := sm.trans (same_upd (o := .tup [.int (i : Nat), xv]) nT)
          have nTD : T2 ≠ D := by rintro rfl; rw [nT] at hD; cases hD
          have hDT : upd H' T2 (.tup [.int (i : Nat), xv]) D = some (.lst (((List.range i).map fun i => isW (ds.getD i .none) 1 (evJ js i)).map V.bl)) := by rw [upd_ne nTD.symm]; exact hD
          have hTT : SqT K (upd H' T2 (.tup [.int (i : Nat), xv])) T2 [.int (i : Nat), xv] := SqT.of upd_same
          generalize upd H' T2 (.tup [.int (i : Nat), xv]) = H5 at sT hDT hTT ⊢
          obtain ⟨dx', fs', tt', ts', k1, k2, k3, k4⟩ := hl.same sT
          obtain ⟨b, d1, d2⟩ := k4.at (i := i) (by omega)
          refine ⟨T2, [.int (i : Nat), xv], rfl, hTT, rfl, .int (i : Nat), [xv], rfl, xv, [], rfl, rfl, rfl, ?_⟩
          unfold tYes
          refine iteT ⟨xv, rfl, .ref p, rfl, p, CL, dx', fs', .ref tt', rfl, k1, T.cl, T.nJ, k2, .int (i : Nat), rfl, tt', ts', _, .ref b, rfl, rfl, k3, d1, b, _, 0, .int (evJ js i), rfl, rfl, d2, at0, xv, ds.getD i .none, 1, evJ js i, rfl, .dp (dp_same sT _ _ hdx), _, hDT, small1000 (by rw [List.length_map, List.length_map, List.length_range]; omega), Same.updNew sT nD, ?_⟩
          rw [upd_same, List.range_succ, List.map_append, List.map_append]
          rfl
        · obtain ⟨sm, hD⟩ := hP
          refine ⟨D, _, rfl, SqL.of hD, _, rfl, ?_⟩
          have ew : withinB js (.tuple ds) = ((List.range ds.length).map fun i => isW (ds.getD i .none) 1 (evJ js i)).all id := by
            show (decide (ds.length = js.length) && _) = _
            rw [decide_eq_true hlen, Bool.true_and]
          rw [← ew]
          cases c : withinB js (.tuple ds) with
          | true => exact iteF (q c _ sm)
          | false => exact iteT ⟨.ref a, rfl, fin H' c sm⟩
      | none => cases e2
      | bool _ => cases e2
      | int _ => cases e2
      | str _ => cases e2
      | list _ => cases e2
      | dict _ => cases e2
theorem ixN_at {n a : Nat} (h : a < n) : ixN n ((a : Nat) : Int) = some a := by
  unfold ixN
  rw [if_pos (by omega), if_pos (by omega)]
  rfl
def ToldAt (K : PySem.W.Frag) (H : Hp) (v : V) : Told → Prop
  | .lot l => ∃ p q : Addr, v = .ref p ∧ SqT K H p [.str "none", .ref q] ∧ SqT K H q (natsV l)
  | .nums l => ∃ p q : Addr, v = .ref p ∧ SqT K H p [.str "priorities", .ref q] ∧ SqT K H q (l.map V.int)
theorem rgV_nats (n : Nat) : rgV 0 (n : Nat) = natsV (List.range n) := by
  unfold rgV natsV
  rw [show (((n : Nat) : Int) - 0).toNat = n by omega]
  exact List.map_congr_left fun i _ => by rw [Int.zero_add]
theorem rep_zero (n : Nat) : (List.replicate n [V.int 0]).flatten = (begin_ n).map V.int := by
  unfold begin_
  induction n with
  | zero => rfl
  | succ n ih => rw [List.replicate_succ, List.flatten_cons, ih, List.replicate_succ, List.map_cons]; rfl
theorem without_step {lot : List Nat} {m j : Nat} {o : Nat} (hget : lot[m]? = some o) : without (lot.take (m + 1)) j = if o = j then without (lot.take m) j else without (lot.take m) j ++ [o] := by
  have et : lot.take (m + 1) = lot.take m ++ [o] := by rw [List.take_add_one, hget]; rfl
  rw [et]
  unfold without
  rw [List.filter_append]
  split
  · rename_i c
    rw [List.filter_cons_of_neg (by simp [c]), List.filter_nil, List.append_nil]
  · rename_i c
    rw [List.filter_cons_of_pos (by simp [c]), List.filter_nil]
def spPrio (K : PySem.W.Frag) (C C2 : Addr) : Sp := fun vs H Q E => ∃ (p : Addr) (js : List Job) (v : V) (d : PyData), vs = [.ref p, v] ∧ LAt K C H p js ∧ GoodJ js ∧ Dk K H v d ∧ FewD d ∧
  (withinB js d = false → ∀ H' dd, Same H H' → H' dd = none → E (.ref C2) (some dd) (upd H' dd (.xd [("value", v)]))) ∧
  (∀ ws, d = .tuple (ws.map .int) → withinB js d = true → ∀ H' u, Same H H' → ToldAt K H' u (told js ws) → Q u H')
theorem ok_Priorities {k : Nat} {f : Addr} {fd : FuncData} {CL C2:Addr} (F : Fun K "priorities" "priorities" sPriorities f fd) (gCw : Cal P w K mg base (L2.CX P w) (k + 4) "_check_within" ["loads", "within"] (spCheck K CL C2)) (gCl : Cal P w K mg base CX0 (k + 4) "_can_stand_last" ["loads", "within", "lot"] (spCanL K CL)) (T : LF K CL) (flen : mg "len" = none) (flist : mg "list" = none) (frange : mg "range" = none) (ftuple : mg "tuple" = none) : FnOk P w K mg base (L2.CX P w) (k + 5) f fd ["loads", "within"] (spPrio K CL C2) := by
  obtain ⟨fCw, fdCw, GCw, kCw, bCw, mCw⟩ := gCw
  obtain ⟨fCl, fdCl, GCl, kCl, bCl, mCl⟩ := gCl
  refine F.okX scPriorities (fun vs H Q E h => ?_) (fun cdv A outer s H vs Q E hr h => ?_)
  · obtain ⟨p, js, v, d, rfl, _⟩ := h
    rfl
  · obtain ⟨p, js, v, d, rfl, hl, g, hd, hfw, qe, q⟩ := h
    refine ⟨_, (pss_cons (ps_expr (pe_call GCw hr (by rfl) mCw kCw bCw .nil (passes_call (takes_of rfl rfl rfl rfl) fun _ _ _ _ h => h) (pa_cons (pv 0) (pa_cons (pv 1) pa_nil)))) (PSs.nox (pss_cons (ps_set (i := 2) scPriorities.nd rfl (.inl rfl) (pe_listRg rfl (by rfl) flist (prg_1 (by rfl) frange (pe_callB call_len_seq (by rfl) flen PySem.boot_len (pa_cons (pe_fld (pv 0) rfl) pa_nil))))) (pss_cons (ps_set (i := 3) scPriorities.nd rfl (.inl rfl) (pe_op op_rep (pe_lst (pa_cons pe_int pa_nil)) (pe_callB call_len_seq (by rfl) flen PySem.boot_len (pa_cons (pv 2) pa_nil)))) (pss_cons (ps_for PassesOwn.never rfl (pi_range1 (by rfl) frange (pa_cons (pe_callB call_len_seq (by rfl) flen PySem.boot_len (pa_cons (pv 3) pa_nil)) pa_nil)) (pg_name (i := 4) scPriorities.nd rfl (.inl rfl)) (pss_cons (ps_set (i := 5) scPriorities.nd rfl (.inr rfl) (pe_call GCl hr (by rfl) mCl kCl bCl .nil pass0 (pa_cons (pv 0) (pa_cons (pv 1) (pa_cons (pv 2) pa_nil))))) (pss_cons (ps_if (pt_not (pt_truth (pv 5) (by intro _; rfl))) (pss_one (ps_ret (pe_tup (pa_cons pe_str (pa_cons (pe_callTy call_tuple_of (by rfl) ftuple (by decide +kernel) (pa_cons (pv 2) pa_nil)) pa_nil))))) pss_nil) (pss_cons (ps_asg (pv 4) (pg_sub (pv 3) (pe_ix ix_list (pv 5) pe_int (fun _ _ => rfl)) set_list)) (pss_one (ps_setLc (i := 2) (own := [("job", 6)]) (g := (gName 6)) (tt := _) rfl scPriorities.nd rfl rfl (by rfl) (pi_list (pv 2)) (blkOk_by (N := ["loads", "within", "lot", "numbers", "number", "last", "job"]) (sc := defScope sPriorities) (by decide +kernel)) (fun _ _ _ _ _ => (pg_name (i := 6) scPriorities.nd rfl (.inl rfl))) (fun _ _ _ _ _ => (pts_one (pt_cmpR op_ne (pv 6) (pe_ix (show IxR _ (rIxL K) from ix_list) (pv 5) pe_int (fun _ _ => rfl)) (nomark _)))) (fun _ _ _ _ _ => (pv 6)))))))) (pss_one (ps_ret (pe_tup (pa_cons pe_str (pa_cons (pe_callTy call_tuple_of (by rfl) ftuple (by decide +kernel) (pa_cons (pv 3) pa_nil)) pa_nil)))))))))), ?_⟩
    refine ⟨.ref p, rfl, v, rfl, p, js, v, d, rfl, hl, g, hd, hfw, qe, fun ew H1 s1 => ?_⟩
    obtain ⟨w_, ws, rfl, hw, hwl, rfl, hwb⟩ := withinB_ints hd ew
    have q := q ws rfl ew
    have hw1 := Same.seqT s1 hw
    have hl1 := hl.same s1
    have hfew := g.few
    obtain ⟨dx, fs, tt, ts, h1, h2, h3, h4⟩ := id hl1
    refine ⟨.ref p, rfl, p, CL, dx, fs, .ref tt, rfl, h1, T.cl, T.nJ, h2, tt, ts, rfl, .inr h3, _, rfl, ?_⟩
    rw [h4.1]
    refine ⟨RgOk.of_le (by omega) (by omega) (by omega) (by omega), fun L nL => ?_⟩
    rw [rgV_nats]
    have s2 := s1.trans (same_upd (o := .lst (natsV (List.range js.length))) nL)
    have hL : upd H1 L (.lst (natsV (List.range js.length))) L = some (.lst (natsV (List.range js.length))) := upd_same
    generalize upd H1 L (.lst (natsV (List.range js.length))) = H2 at s2 hL ⊢
    refine ⟨by show 1 ≤ sizeLine; decide, fun Z nZ => ⟨.ref L, rfl, L, _, rfl, .inl (SqL.of (same_upd nZ _ _ hL)), Z, _, [V.int 0], rfl, rfl, upd_same, by rw [natsV_len, List.length_range]; omega, by rw [natsV_len, List.length_range]; omega, ?_, fun N nN => ?_⟩⟩
    · rw [natsV_len, List.length_range]
      exact sl (by show 1 * _ ≤ _; omega)
    rw [natsV_len, List.length_range, show ((js.length : Nat) : Int).toNat = js.length by omega, rep_zero]
    have sZ := same_upd (o := .lst [V.int 0]) nZ
    have sN := same_upd (o := .lst ((begin_ js.length).map V.int)) nN
    have nLN : L ≠ N := by rintro rfl; rw [sZ _ _ hL] at nN; cases nN
    have hL := sN _ _ (sZ _ _ hL)
    have s3 := s2.trans (sZ.trans sN)
    have nN0 : H N = none := none_of (s2.trans sZ) nN
    have hN : upd (upd H2 Z (.lst [V.int 0])) N (.lst ((begin_ js.length).map V.int)) N = some (.lst ((begin_ js.length).map V.int)) := upd_same
    generalize upd (upd H2 Z (.lst [V.int 0])) N (.lst ((begin_ js.length).map V.int)) = H3 at hL s3 hN ⊢
    have hbl : (begin_ js.length).length = js.length := by unfold begin_; rw [List.length_replicate]
    refine ⟨.ref N, rfl, N, _, rfl, .inl (SqL.of hN), _, rfl, by rw [List.length_map, hbl]; omega, by rw [List.length_map, hbl]; omega, ?_⟩
    rw [List.length_map, hbl, show ((js.length : Nat) : Int).toNat = js.length by omega]
    refine for_range (n := js.length) (fun i σ H' => ∃ y4 y5 L lot ns, σ = [some (.ref p), some (.ref w_), some (.ref L), some (.ref N), y4, y5, none] ∧ Same H H' ∧ H' L = some (.lst (natsV lot)) ∧ H' N = some (.lst (ns.map V.int)) ∧ L ≠ N ∧ ns.length = js.length ∧ Asc lot ∧ (∀ j ∈ lot, j < js.length) ∧ greedy js ws (js.length - i) i lot ns = told js ws)
      ⟨none, none, L, _, _, rfl, s3, hL, hN, nLN, hbl, asc_range _, fun j hj => List.mem_range.mp hj, rfl⟩ (fun i σ H' hi hP => ?_) fun σ H' hP => ?_
    · obtain ⟨y4, y5, L, lot, ns, rfl, sm, hL, hN, hLN, hnl, ha, hlt, hgr⟩ := hP
      have oth : Oth js lot := ⟨ha.nd, hlt⟩
      have len_ := oth.len
      refine ⟨.ref p, rfl, .ref w_, rfl, .ref L, rfl, p, w_, L, js, ws, lot, rfl, hl.same sm, g, Same.seqT sm hw, hwl, SqL.of hL, oth, fun H4 F s4 nF hF => ?_⟩
      have sm4 := sm.trans s4
      have hL4 := s4 _ _ hL
      have hN4 := s4 _ _ hN
      obtain ⟨f, hf⟩ : ∃ f, js.length - i = f + 1 := ⟨js.length - i - 1, by omega⟩
      rw [hf] at hgr
      unfold greedy at hgr
      refine ⟨.ref F, rfl, !(natsV (lastJ js ws lot)).isEmpty, .inl ⟨_, SqL.of hF, rfl⟩, ?_⟩
      cases el : lastJ js ws lot with
      | nil =>
        rw [el] at hgr
        refine iteT ⟨.ref L, rfl, L, _, rfl, .inl ⟨SqL.of hL4, fun t nt => ?_⟩⟩
        have s5 := same_upd (o := .tup (natsV lot)) nt
        refine ⟨by show 2 ≤ sizeLine; decide, fun u nu => ?_⟩
        have s6 := same_upd (o := .tup [V.str "none", .ref t]) nu
        refine q _ _ (sm4.trans (s5.trans s6)) ?_
        rw [← hgr]
        exact ⟨u, t, rfl, SqT.of upd_same, SqT.of (s6 _ _ upd_same)⟩
      | cons j r =>
        rw [el] at hgr hF
        have hj : j ∈ lot := (List.mem_filter.mp (show j ∈ lastJ js ws lot by rw [el]; simp)).1
        have hjn := hlt j hj
        have hF0 : SqL K H4 F (natsV (j :: r)) := SqL.of hF
        refine iteF ⟨.int (0 + (i : Nat)), rfl, .ref N, rfl, .ref F, rfl, F, _, 0, .int (j : Nat), rfl, rfl, hF0, at0, N, _, _, j, rfl, rfl, hN4, ixN_at (by rw [List.length_map]; omega), ?_⟩
        have hFN : F ≠ N := by rintro rfl; rw [hN] at nF; cases nF
        have sm5 : Same H (upd H4 N (.lst ((ns.map V.int).set j (.int (0 + (i : Nat)))))) := Same.updNew sm4 nN0
        have hL5 : upd H4 N (.lst ((ns.map V.int).set j (.int (0 + (i : Nat))))) L = some (.lst (natsV lot)) := by rw [upd_ne hLN]; exact hL4
        have hF5 : upd H4 N (.lst ((ns.map V.int).set j (.int (0 + (i : Nat))))) F = some (.lst (natsV (j :: r))) := by rw [upd_ne hFN]; exact hF
        have hN5 : upd H4 N (.lst ((ns.map V.int).set j (.int (0 + (i : Nat))))) N = some (.lst ((ns.set j (i : Nat)).map V.int)) := by rw [upd_same, List.map_set, Int.zero_add]
        generalize upd H4 N (.lst ((ns.map V.int).set j (.int (0 + (i : Nat))))) = H5 at sm5 hL5 hF5 hN5 ⊢
        refine ⟨.ref L, rfl, L, rfl, ⟨_, SqL.of hL5⟩, fun D nD => ?_⟩
        have nDN : D ≠ N := by rintro rfl; rw [nD] at hN5; cases hN5
        refine lc_list (xs := natsV lot) (fun m H2 => Same H5 H2 ∧ H2 D = some (.lst (natsV (without (lot.take m) j)))) ⟨same_upd nD, upd_same⟩ (fun m H2 _ hP => SqL.of (hP.1 _ _ hL5)) (fun m x H2 hx hP => ?_) fun H6 hP => ?_
        · obtain ⟨s6, hD⟩ := hP
          have hm := (List.getElem?_eq_some_iff.mp hx).1
          rw [natsV_len] at hm
          have hget : lot[m]? = some lot[m] := List.getElem?_eq_getElem hm
          unfold natsV at hx
          rw [List.getElem?_map, hget] at hx
          obtain rfl : V.int ((lot[m] : Nat) : Int) = x := Option.some.inj hx
          have et := without_step (j := j) hget
          generalize lot[m] = o at et ⊢
          have lw : (without (lot.take m) j).length ≤ 5 := by
            unfold without
            have := List.length_filter_le (fun o => !decide (o = j)) (lot.take m)
            rw [List.length_take] at this
            omega
          refine ⟨rfl, .int (o : Nat), rfl, .ref F, rfl, F, _, 0, .int (j : Nat), rfl, rfl, SqL.of (s6 _ _ hF5), at0, rfl, _, rfl, ?_⟩
          by_cases c : o = j
          · refine iteC (by rw [c, decide_eq_true rfl]; rfl) ⟨s6, ?_⟩
            rw [et, if_pos c]
            exact hD
          · refine iteNE (fun y => c (by have := V.int.inj y; omega)) ⟨.int (o : Nat), rfl, _, hD, small1000 (by rw [natsV_len]; omega), Same.updNew s6 nD, ?_⟩
            rw [upd_same, et, if_neg c]
            unfold natsV
            rw [List.map_append]
            rfl
        · obtain ⟨s6, hD⟩ := hP
          rw [natsV_len, List.take_length] at hD
          refine ⟨_, _, D, without lot j, ns.set j (i : Nat), rfl, sm5.trans s6, hD, s6 _ _ hN5, nDN, by rw [List.length_set]; exact hnl, ha.without j, fun x hx => hlt x (mem_without.mp hx).1, ?_⟩
          rw [← hgr, show js.length - (i + 1) = f by omega]
    · obtain ⟨y4, y5, L, lot, ns, rfl, sm, hL, hN, hLN, hnl, ha, hlt, hgr⟩ := hP
      rw [Nat.sub_self] at hgr
      refine ⟨.ref N, rfl, N, _, rfl, .inl ⟨SqL.of hN, fun t nt => ?_⟩⟩
      have s5 := same_upd (o := .tup (ns.map V.int)) nt
      refine ⟨by show 2 ≤ sizeLine; decide, fun u nu => ?_⟩
      have s6 := same_upd (o := .tup [V.str "priorities", .ref t]) nu
      refine q _ _ (sm.trans (s5.trans s6)) ?_
      rw [← hgr]
      exact ⟨u, t, rfl, SqT.of upd_same, SqT.of (s6 _ _ upd_same)⟩
end
end K33

set_option maxRecDepth 100000
set_option maxHeartbeats 4000000
/-! k33: what shows priorities. -/
namespace K33
open PySem PySem.Spec PyProof.Rows L2 LamX VG TL
theorem scShowsNumbers : FnScope ["loads", "within", "numbers", "jobs", "number", "lots", "other", "job"] ["loads", "within", "numbers"] (defScope sShowsNumbers) := ⟨rfl, rfl, rfl, by decide +kernel, rfl, by decide +kernel, by decide +kernel⟩
theorem scShows : FnScope ["loads", "within", "value", "lot", "job"] ["loads", "within", "value"] (defScope sShows) := ⟨rfl, rfl, rfl, by decide +kernel, rfl, by decide +kernel, by decide +kernel⟩
def intD : PyData → Int
  | .int n => n
  | _ => 0
theorem ints_of {K : PySem.W.Frag} {H : Hp} : ∀ {xs : List V} {ds : List PyData}, DpAll K H xs ds → (∀ d ∈ ds, ∃ n, d = .int n) → xs = (ds.map intD).map V.int ∧ ds = (ds.map intD).map .int
  | [], _, h, _ => by cases h; exact ⟨rfl, rfl⟩
  | _ :: _, _, h, hi => by
    cases h with
    | cons g1 g2 =>
      obtain ⟨n, rfl⟩ := hi _ (List.mem_cons_self ..)
      cases g1
      obtain ⟨e1, e2⟩ := ints_of g2 fun d hd => hi d (List.mem_cons_of_mem _ hd)
      exact ⟨by rw [List.map_cons, List.map_cons, ← e1]; rfl, by rw [List.map_cons, List.map_cons, ← e2]; rfl⟩
/-- the jobs with greater numbers -/
def gtL (ns : List Int) (n j : Nat) : List Nat := (List.range n).filter fun o => decide (ns.getD o 0 > ns.getD j 0)
def numsB (js : List Job) (ws : List Int) (ds : List PyData) : Bool := decide (ds.length = js.length) && ((ds.map fun d => isW d 0 7).all id && (decide (ds.map intD).Nodup && ((List.range js.length).map fun j => fitP js ws j fun o => decide (o ∈ gtL (ds.map intD) js.length j)).all id))
theorem isW_all {ds : List PyData} {lo hi : Int} (h : (ds.map fun d => isW d lo hi).all id = true) : ∀ d ∈ ds, ∃ n, d = .int n ∧ lo ≤ n ∧ n ≤ hi := fun d hd => by
  rw [List.all_map, List.all_eq_true] at h
  exact isW_int (h d hd)
theorem oth_gtL {js : List Job} (ns : List Int) (j : Nat) : Oth js (gtL ns js.length j) := ⟨List.Pairwise.filter _ List.nodup_range, fun o ho => List.mem_range.mp (List.mem_filter.mp ho).1⟩
theorem filter_step {p : Nat → Bool} (m : Nat) : (List.range (m + 1)).filter p = if p m = true then (List.range m).filter p ++ [m] else (List.range m).filter p := by
  rw [List.range_succ, List.filter_append]
  split
  · rename_i c; rw [List.filter_cons_of_pos c, List.filter_nil]
  · rename_i c; rw [List.filter_cons_of_neg c, List.filter_nil, List.append_nil]
section
variable {P : Program} {w : World} {K : PySem.W.Frag} {mg : Str → Option Value} {base : Heap}
def spShowsNumbers (K : PySem.W.Frag) (C : Addr) : Sp := fun vs H Q _ => ∃ (p w_ a : Addr) (js : List Job) (ws : List Int) (xs : List V) (ds : List PyData), vs = [.ref p, .ref w_, .ref a] ∧ LAt K C H p js ∧ GoodJ js ∧ SqT K H w_ (ws.map V.int) ∧ ws.length = js.length ∧ SqT K H a xs ∧ DpAll K H xs ds ∧ ds.length ≤ 2000000 ∧
  ∀ H', Same H H' → Q (.bl (numsB js ws ds)) H'
theorem ok_ShowsNumbers {k : Nat} {f : Addr} {fd : FuncData} {CL:Addr} (F : Fun K "_shows_numbers" "_shows_numbers" sShowsNumbers f fd) (gWi : Cal P w K mg base CX0 (k + 3) "is_within" ["value", "low", "high"] (spWithin K)) (gIt : Cal P w K mg base CX0 (k + 3) "_is_in_time" ["loads", "job", "others", "most"] (spInTime K CL)) (T : LF K CL) (fall : mg "all" = none) (flen : mg "len" = none) (frange : mg "range" = none) (fset : mg "set" = none) : FnOk P w K mg base CX0 (k + 4) f fd ["loads", "within", "numbers"] (spShowsNumbers K CL) := by
  obtain ⟨fWi, fdWi, GWi, kWi, bWi, mWi⟩ := gWi
  obtain ⟨fIt, fdIt, GIt, kIt, bIt, mIt⟩ := gIt
  refine F.ok scShowsNumbers (fun vs H Q E h => ?_) (fun cdv A outer s H vs Q E hr h => ?_)
  · obtain ⟨p, w_, a, js, ws, xs, ds, rfl, _⟩ := h
    rfl
  · obtain ⟨p, w_, a, js, ws, xs, ds, rfl, hl, g, hw, hwl, hs, ha, hfw, q⟩ := h
    refine ⟨_, (pss_cons (ps_set (i := 3) scShowsNumbers.nd rfl (.inr rfl) (pe_callTy cr_range1 (by rfl) frange (by decide +kernel) (pa_cons (pe_callB call_len_seq (by rfl) flen PySem.boot_len (pa_cons (pe_fld (pv 0) rfl) pa_nil)) pa_nil))) (pss_cons (ps_if (PW.pt (pw_or (pt_cmpR op_ne (pe_callB call_len_seq (by rfl) flen PySem.boot_len (pa_cons (pv 2) pa_nil)) (pe_callB call_lenR (by rfl) flen PySem.boot_len (pa_cons (pv 3) pa_nil)) (nomark _)) (pw_or1 (pt_not (pt_val (pe_callB (cr_all rfl) (by rfl) fall (by decide +kernel) (pa_cons (pe_lc (own := [("number", 4)]) (g := (gName 4)) (tt := tYes) rfl scShowsNumbers.nd (pi_tup (pv 2)) (blkOk_by (N := ["loads", "within", "numbers", "jobs", "number", "lots", "other", "job"]) (sc := defScope sShowsNumbers) (by decide +kernel)) (fun _ _ _ _ _ => (pg_name (i := 4) scShowsNumbers.nd rfl (.inl rfl))) (fun _ _ _ _ _ => pts_nil) (fun _ _ _ _ _ => (pe_call GWi hr (by rfl) mWi kWi bWi .nil pass0 (pa_cons (pv 4) (pa_cons pe_int (pa_cons pe_int pa_nil)))))) pa_nil))))))) (pss_one (ps_ret pe_bl)) pss_nil) (pss_cons (ps_if (pt_cmpR op_lt (pe_callB call_lenSO (by rfl) flen PySem.boot_len (pa_cons (pe_callTy (call_setT rfl) (by rfl) fset (by decide +kernel) (pa_cons (pv 2) pa_nil)) pa_nil)) (pe_callB call_len_seq (by rfl) flen PySem.boot_len (pa_cons (pv 2) pa_nil)) (nomark _)) (pss_one (ps_ret pe_bl)) pss_nil) (pss_cons (ps_set (i := 5) scShowsNumbers.nd rfl (.inr rfl) (pe_lc (own := [("job", 7)]) (g := (gName 7)) (tt := tYes) rfl scShowsNumbers.nd (pi_rngV (pv 3)) (blkOk_by (N := ["loads", "within", "numbers", "jobs", "number", "lots", "other", "job"]) (sc := defScope sShowsNumbers) (by decide +kernel)) (fun _ _ _ _ _ => (pg_name (i := 7) scShowsNumbers.nd rfl (.inr rfl))) (fun _ _ _ _ _ => pts_nil) (fun _ _ _ _ _ => (pe_lc (own := [("other", 6)]) (g := (gName 6)) (tt := _) rfl scShowsNumbers.nd (pi_rngV (pv 3)) (blkOk_by (by kernel_rfl)) (fun _ _ _ _ _ => (pg_name (i := 6) scShowsNumbers.nd rfl (.inl rfl))) (fun _ _ _ _ _ => (pts_one (pt_cmpR op_gt (pe_ix (show IxR _ (rIxT K) from ix_tup) (pv 2) (pv 6) (fun _ _ => rfl)) (pe_ix (show IxR _ (rIxT K) from ix_tup) (pv 2) (pv 7) (fun _ _ => rfl)) (nomark _)))) (fun _ _ _ _ _ => (pv 6)))))) (pss_one (ps_ret (pe_callB (cr_all rfl) (by rfl) fall (by decide +kernel) (pa_cons (pe_lc (own := [("job", 7)]) (g := (gName 7)) (tt := tYes) rfl scShowsNumbers.nd (pi_rngV (pv 3)) (blkOk_by (N := ["loads", "within", "numbers", "jobs", "number", "lots", "other", "job"]) (sc := defScope sShowsNumbers) (by decide +kernel)) (fun _ _ _ _ _ => (pg_name (i := 7) scShowsNumbers.nd rfl (.inl rfl))) (fun _ _ _ _ _ => pts_nil) (fun _ _ _ _ _ => (pe_call GIt hr (by rfl) mIt kIt bIt .nil pass0 (pa_cons (pv 0) (pa_cons (pv 7) (pa_cons (pe_ix (show IxR _ (rIxL K) from ix_list) (pv 5) (pv 7) (fun _ _ => rfl)) (pa_cons (pe_ix (show IxR _ (rIxT K) from ix_tup) (pv 1) (pv 7) (fun _ _ => rfl)) pa_nil))))))) pa_nil)))))))), ?_⟩
    obtain ⟨dx, fs, tt, ts, h1, h2, h3, h4⟩ := id hl
    have hxl := dpAll_len ha
    have hfew := g.few
    refine ⟨.ref p, rfl, p, CL, dx, fs, .ref tt, rfl, h1, T.cl, T.nJ, h2, tt, ts, rfl, .inr h3, _, rfl, ?_⟩
    rw [h4.1]
    intro R nR
    have s1 := same_upd (o := .rng 0 (js.length : Nat)) nR
    have hR : upd H R (.rng 0 (js.length : Nat)) R = some (.rng 0 (js.length : Nat)) := upd_same
    generalize upd H R (.rng 0 (js.length : Nat)) = H1 at s1 hR ⊢
    have hs1 := Same.seqT s1 hs
    refine ⟨.ref a, rfl, a, xs, rfl, .inr hs1, .ref R, rfl, R, js.length, rfl, hR, by omega, rfl, _, rfl, ?_⟩
    have q1 := q H1 s1
    by_cases e1 : ds.length = js.length
    · refine iteC (by rw [hxl, e1, decide_eq_true rfl]; rfl) ⟨.ref a, rfl, a, rfl, ⟨_, hs1⟩, fun D nD => ?_⟩
      refine lc_tup (xs := xs) (fun i H' => Same H1 H' ∧ H' D = some (.lst (((ds.take i).map fun d => isW d 0 7).map V.bl))) ⟨same_upd nD, upd_same⟩ (fun i H' _ hP => Same.seqT hP.1 hs1) (fun i x H' hx hP => ?_) fun H2 hP => ?_
      · obtain ⟨sm, hD⟩ := hP
        have hi := (List.getElem?_eq_some_iff.mp hx).1
        have hi2 : i < ds.length := by omega
        have hdx := dpAll_get ha hx
        have et : ds.take (i + 1) = ds.take i ++ [ds.getD i .none] := by
          rw [List.take_add_one, List.getD_eq_getElem?_getD, List.getElem?_eq_getElem hi2]; rfl
        refine ⟨rfl, ?_⟩
        unfold tYes
        refine iteT ⟨x, rfl, x, ds.getD i .none, 0, 7, rfl, .dp (dp_same (s1.trans sm) _ _ hdx), _, hD, small1000 (by rw [List.length_map, List.length_map, List.length_take]; omega), Same.updNew sm nD, ?_⟩
        rw [upd_same, et, List.map_append, List.map_append]
        rfl
      · obtain ⟨sm, hD⟩ := hP
        rw [hxl, List.take_length] at hD
        refine ⟨D, _, rfl, SqL.of hD, _, rfl, ?_⟩
        have s2 := s1.trans sm
        have q2 := q H2 s2
        unfold numsB at q2
        rw [decide_eq_true e1, Bool.true_and] at q2
        cases e2 : (ds.map fun d => isW d 0 7).all id with
        | false =>
          rw [e2] at q2
          exact iteT q2
        | true =>
          rw [e2, Bool.true_and] at q2
          obtain ⟨ex, ed⟩ := ints_of ha fun d hd => let ⟨n, a, _⟩ := isW_all e2 d hd; ⟨n, a⟩
          generalize hns : ds.map intD = ns at ex ed q2
          have hnl : ns.length = js.length := by rw [← hns, List.length_map]; exact e1
          subst ex
          have hs2 := Same.seqT sm hs1
          have hR2 := sm _ _ hR
          refine iteF ⟨.ref a, rfl, a, ns, rfl, hs2, by omega, fun S c H3 nS s23 hS c1 c2 _ => ⟨S, _, c, rfl, hS, .ref a, rfl, a, _, rfl, .inr (Same.seqT s23 hs2), _, _, rfl, rfl, _, rfl, ?_⟩⟩
          have s3 := s2.trans s23
          have hs3 := Same.seqT s23 hs2
          have hR3 := s23 _ _ hR2
          have q3 := q _ s3
          unfold numsB at q3
          rw [decide_eq_true e1, Bool.true_and, e2, Bool.true_and, hns] at q3
          rw [List.length_map]
          by_cases e3 : ns.Nodup
          · rw [decide_eq_false (show ¬ ((c : Nat) : Int) < ((ns.length : Nat) : Int) from fun z => c2.mp (by omega) e3)]
            rw [decide_eq_true e3, Bool.true_and] at q3
            refine iteF ⟨.ref R, rfl, R, js.length, rfl, hR3, by omega, fun G nG => ?_⟩
            have sw3 := Same.seqT s3 hw
            have hl3 := hl.same s3
            refine lc_range (lo := 0) (n := js.length) (fun i H' => Same H3 H' ∧ ∃ as : List Addr, H' G = some (.lst (as.map V.ref)) ∧ as.length = i ∧ ∀ (k : Nat) (b : Addr), as[k]? = some b → b ≠ G ∧ H' b = some (.lst (natsV (gtL ns js.length k)))) ⟨same_upd nG, [], upd_same, rfl, fun k b e => by cases e⟩ (fun i H4 hi hP => ?_) fun H4 hP => ?_
            · obtain ⟨s4, as, hG, hal, has_⟩ := hP
              have hR4 := s4 _ _ hR3
              have hs4 := Same.seqT s4 hs3
              refine ⟨rfl, ?_⟩
              unfold tYes
              refine iteT ⟨.ref R, rfl, R, js.length, rfl, hR4, by omega, fun D nD => ?_⟩
              have nDG : D ≠ G := by rintro rfl; rw [nD] at hG; cases hG
              refine lc_range (lo := 0) (n := js.length) (fun m H' => Same H4 H' ∧ H' D = some (.lst (natsV ((List.range m).filter fun o => decide (ns.getD o 0 > ns.getD i 0))))) ⟨same_upd nD, upd_same⟩ (fun m H5 hm hP => ?_) fun H5 hP => ?_
              · obtain ⟨s5, hD⟩ := hP
                have hs5 := Same.seqT s5 hs4
                have lf : ((List.range m).filter fun o => decide (ns.getD o 0 > ns.getD i 0)).length ≤ 5 := by
                  have := List.length_filter_le (fun o => decide (ns.getD o 0 > ns.getD i 0)) (List.range m)
                  rw [List.length_range] at this
                  omega
                refine ⟨rfl, .ref a, rfl, .int (0 + (m : Nat)), rfl, a, _, _, .int (ns.getD m 0), rfl, rfl, hs5, by rw [Int.zero_add]; exact atI_getD (by omega), .ref a, rfl, .int (0 + (i : Nat)), rfl, a, _, _, .int (ns.getD i 0), rfl, rfl, hs5, by rw [Int.zero_add]; exact atI_getD (by omega), _, _, rfl, rfl, _, rfl, ?_⟩
                have fs_ := filter_step (p := fun o => decide (ns.getD o 0 > ns.getD i 0)) m
                by_cases c4 : ns.getD m 0 > ns.getD i 0
                · rw [if_pos (decide_eq_true c4)] at fs_
                  refine iteD c4 ⟨.int (0 + (m : Nat)), rfl, _, hD, small1000 (by rw [natsV_len]; omega), Same.updNew s5 nD, ?_⟩
                  rw [upd_same, fs_, Int.zero_add]
                  unfold natsV
                  rw [List.map_append]
                  rfl
                · rw [if_neg (by rw [decide_eq_false c4]; exact Bool.false_ne_true)] at fs_
                  refine iteE c4 ⟨s5, ?_⟩
                  rw [fs_]
                  exact hD
              · obtain ⟨s5, hD⟩ := hP
                refine ⟨_, s5 _ _ hG, small1000 (by rw [List.length_map]; omega), Same.updNew (s4.trans s5) nG, as ++ [D], by rw [upd_same, List.map_append]; rfl, by rw [List.length_append, hal]; rfl, fun k b e => ?_⟩
                by_cases ck : k < as.length
                · rw [List.getElem?_append_left ck] at e
                  obtain ⟨b1, b2⟩ := has_ k b e
                  exact ⟨b1, by rw [upd_ne b1]; exact s5 _ _ b2⟩
                · rw [List.getElem?_append_right (by omega)] at e
                  have ek : k = as.length := by
                    have := (List.getElem?_eq_some_iff.mp e).1
                    rw [List.length_singleton] at this
                    omega
                  subst ek
                  rw [Nat.sub_self] at e
                  cases Option.some.inj e
                  rw [hal]
                  exact ⟨nDG, by rw [upd_ne nDG]; exact hD⟩
            · obtain ⟨s4, as, hG, hal, has_⟩ := hP
              have hR4 := s4 _ _ hR3
              refine ⟨.ref R, rfl, R, js.length, rfl, hR4, by omega, fun D nD => ?_⟩
              refine lc_range (lo := 0) (n := js.length) (fun m H' => Same H4 H' ∧ H' D = some (.lst (((List.range m).map fun j => fitP js ws j fun o => decide (o ∈ gtL ns js.length j)).map V.bl))) ⟨same_upd nD, upd_same⟩ (fun m H5 hm hP => ?_) fun H5 hP => ?_
              · obtain ⟨s5, hD⟩ := hP
                have sm5 := s4.trans s5
                have eb : as[m]? = some (as[m]'(by omega)) := List.getElem?_eq_getElem (by omega)
                have hb := has_ m _ eb
                generalize as[m]'(by omega) = b at eb hb
                refine ⟨rfl, ?_⟩
                unfold tYes
                refine iteT ⟨.ref p, rfl, .int (0 + (m : Nat)), rfl, .ref G, rfl, .int (0 + (m : Nat)), rfl, G, _, _, .ref b, rfl, rfl, SqL.of (s5 _ _ hG), by rw [Int.zero_add]; exact atI_nat (by rw [List.getElem?_map, eb]; rfl), .ref w_, rfl, .int (0 + (m : Nat)), rfl, w_, _, _, .int (ws.getD m 0), rfl, rfl, Same.seqT sm5 sw3, by rw [Int.zero_add]; exact atI_getD (by omega), p, b, js, m, gtL ns js.length m, ws.getD m 0, by rw [Int.zero_add]; rfl, hl3.same sm5, g, hm, SqL.of (s5 _ _ hb.2), oth_gtL _ _, fun H6 s6 => ?_⟩
                have hD6 := s6 _ _ hD
                refine ⟨_, hD6, small1000 (by rw [List.length_map, List.length_map, List.length_range]; omega), Same.updNew (s5.trans s6) nD, ?_⟩
                rw [upd_same, List.range_succ, List.map_append, List.map_append]
                rfl
              · obtain ⟨s5, hD⟩ := hP
                refine ⟨D, _, rfl, SqL.of hD, ?_⟩
                have q4 := q _ (s3.trans (s4.trans s5))
                unfold numsB at q4
                rw [decide_eq_true e1, Bool.true_and, e2, Bool.true_and, hns, decide_eq_true e3, Bool.true_and] at q4
                exact q4
          · rw [decide_eq_true (show ((c : Nat) : Int) < ((ns.length : Nat) : Int) from by have := c2.mpr e3; omega)]
            rw [decide_eq_false e3, Bool.false_and] at q3
            exact iteT q3
    · refine iteNE (fun z => e1 (by have := V.int.inj z; omega)) ?_
      unfold numsB at q1
      rw [decide_eq_false e1] at q1
      exact q1
def natD (d : PyData) : Nat := (intD d).toNat
def lotB (js : List Job) (ws : List Int) (ds : List PyData) : Bool := (ds.map fun d => isW d 0 ((js.length : Nat) - 1)).all id && (decide (0 < ds.length) && (ascB (ds.map intD) && (lastJ js ws (ds.map natD)).isEmpty))
def isS (d : PyData) (z : Str) : Bool := match d with
  | .str x => decide (x = z)
  | _ => false
def toldB (js : List Job) (ws : List Int) : PyData → Bool
  | .tuple [a, .tuple ds] => if isS a "priorities" = true then numsB js ws ds else if isS a "none" = true then lotB js ws ds else false
  | _ => false
theorem eqv_isS {d : PyData} {z : Str} : PyData.eqv d (.str z) = isS d z := by
  cases d with
  | str x =>
    show (x == z) = decide (x = z)
    rw [Bool.eq_iff_iff, beq_iff_eq, decide_eq_true_eq]
  | none => rfl
  | bool _ => rfl
  | int _ => rfl
  | list _ => rfl
  | tuple _ => rfl
  | dict _ => rfl
theorem canLay_mem : ∀ {ds : List PyData}, PyData.canLayAll0 ds = true → ∀ d ∈ ds, d.canLay0 = true
  | [], _, d, hd => by cases hd
  | x :: ds, h, d, hd => by
    simp only [PyData.canLayAll0, Bool.and_eq_true] at h
    rcases List.mem_cons.mp hd with rfl | hd
    · exact h.1
    · exact canLay_mem h.2 d hd
theorem depth_mem : ∀ {ds : List PyData} {m : Nat}, PyData.depthAll ds ≤ m → ∀ d ∈ ds, d.depth ≤ m
  | [], _, _, d, hd => by cases hd
  | x :: ds, m, h, d, hd => by
    simp only [PyData.depthAll] at h
    rcases List.mem_cons.mp hd with rfl | hd
    · omega
    · exact depth_mem (ds := ds) (by omega) d hd
theorem weight_len : ∀ ds : List PyData, ds.length ≤ PyData.weightAll ds
  | [] => Nat.zero_le _
  | x :: ds => by
    have := weight_len ds
    simp only [PyData.weightAll, List.length_cons]
    omega
theorem weight_mem : ∀ {ds : List PyData}, ∀ d ∈ ds, d.weight ≤ PyData.weightAll ds
  | [], d, hd => by cases hd
  | x :: ds, d, hd => by
    simp only [PyData.weightAll]
    rcases List.mem_cons.mp hd with rfl | hd
    · omega
    · have := weight_mem d hd
      omega
/-- what is data of a tuple can be compared, and is not long -/
theorem okT_el {ds : List PyData} (h : okData (.tuple ds) = true) : ds.length ≤ 1048576 ∧ ∀ d ∈ ds, SeqAt.shaped d = true ∧ FewD d := by
  obtain ⟨_, hw, _, hdp, hl⟩ := okData.parts h
  have hw' : PyData.weightAll ds ≤ 2 ^ 20 := hw
  have hl' : PyData.canLayAll0 ds = true := hl.resolve_right fun z => by cases z
  have hdp' : PyData.depthAll ds ≤ 8 := by
    simp only [PyData.depth] at hdp
    omega
  have h1 := weight_len ds
  refine ⟨by omega, fun d hd => ⟨?_, fun es e => ?_⟩⟩
  · unfold SeqAt.shaped
    rw [canLay_mem hl' d hd, decide_eq_true (by have := depth_mem hdp' d hd; omega)]
    rfl
  · subst e
    have h2 := weight_mem _ hd
    have h3 : PyData.weight (.tuple es) = PyData.weightAll es := by simp only [PyData.weight]
    have h4 := weight_len es
    omega
theorem okD_few {d : PyData} (h : okData d = true) : FewD d := fun ds e => by
  subst e
  have := (okT_el h).1
  omega
theorem shaped_str (z : Str) (h : ∀ c ∈ z.cps.toList, c < 0x110000) : SeqAt.shaped (.str z) = true := by
  unfold SeqAt.shaped
  have : PyData.canLay0 (.str z) = true := by
    simp only [PyData.canLay0, PyData.strOk]
    rw [← Array.all_toList, List.all_eq_true]
    exact fun c hc => decide_eq_true (h c hc)
  rw [this]
  rfl
theorem shaped_lit (z : String) : SeqAt.shaped (.str (Str.ofString z)) = true := shaped_str _ (str_chars z)
theorem oth_asc {js : List Job} {ds : List PyData} (h : (ds.map fun d => isW d 0 ((js.length : Nat) - 1)).all id = true) (ha : ascB (ds.map intD) = true) : Oth js (ds.map natD) ∧ (ds.map intD).map V.int = natsV (ds.map natD) := by
  have hi := isW_all h
  have e : ds.map intD = (ds.map natD).map fun i => ((i : Nat) : Int) := by
    rw [List.map_map]
    refine List.map_congr_left fun d hd => ?_
    obtain ⟨n, rfl, n0, _⟩ := hi d hd
    show n = ((n.toNat : Nat) : Int)
    omega
  refine ⟨⟨?_, fun o ho => ?_⟩, by rw [e, natsV_ints]⟩
  · have hp : (ds.map intD).Pairwise (· < ·) := of_decide_eq_true ha
    rw [e, List.pairwise_map] at hp
    exact List.Pairwise.imp (fun h => by omega) hp
  · obtain ⟨d, hd, rfl⟩ := List.mem_map.mp ho
    obtain ⟨n, rfl, n0, n1⟩ := hi d hd
    show n.toNat < _
    omega
def spShows (K : PySem.W.Frag) (C C2 : Addr) : Sp := fun vs H Q E => ∃ (p : Addr) (js : List Job) (v v2 : V) (d d2 : PyData), vs = [.ref p, v, v2] ∧ LAt K C H p js ∧ GoodJ js ∧ Dk K H v d ∧ FewD d ∧ Dk K H v2 d2 ∧ okData d2 = true ∧
  (withinB js d = false → ∀ H' dd, Same H H' → H' dd = none → E (.ref C2) (some dd) (upd H' dd (.xd [("value", v)]))) ∧
  (∀ ws, d = .tuple (ws.map .int) → withinB js d = true → ∀ H', Same H H' → Q (.bl (toldB js ws d2)) H')
theorem ok_Shows {k : Nat} {f : Addr} {fd : FuncData} {CL C2:Addr} (F : Fun K "shows_priorities" "shows_priorities" sShows f fd) (gCw : Cal P w K mg base (L2.CX P w) (k + 4) "_check_within" ["loads", "within"] (spCheck K CL C2)) (gTo : Cal P w K mg base CX0 (k + 4) "is_tuple_of" ["value", "many"] (spTup K)) (gSn : Cal P w K mg base CX0 (k + 4) "_shows_numbers" ["loads", "within", "numbers"] (spShowsNumbers K CL)) (gWi : Cal P w K mg base CX0 (k + 4) "is_within" ["value", "low", "high"] (spWithin K)) (gAs : Cal P w K mg base CX0 (k + 4) "is_ascending" ["values"] (spAsc K)) (gCl : Cal P w K mg base CX0 (k + 4) "_can_stand_last" ["loads", "within", "lot"] (spCanT K CL)) (T : LF K CL) (fall : mg "all" = none) (flen : mg "len" = none) (ftuple : mg "tuple" = none) (ftype : mg "type" = none) : FnOk P w K mg base (L2.CX P w) (k + 5) f fd ["loads", "within", "value"] (spShows K CL C2) := by
  obtain ⟨fCw, fdCw, GCw, kCw, bCw, mCw⟩ := gCw
  obtain ⟨fTo, fdTo, GTo, kTo, bTo, mTo⟩ := gTo
  obtain ⟨fSn, fdSn, GSn, kSn, bSn, mSn⟩ := gSn
  obtain ⟨fWi, fdWi, GWi, kWi, bWi, mWi⟩ := gWi
  obtain ⟨fAs, fdAs, GAs, kAs, bAs, mAs⟩ := gAs
  obtain ⟨fCl, fdCl, GCl, kCl, bCl, mCl⟩ := gCl
  refine F.okX scShows (fun vs H Q E h => ?_) (fun cdv A outer s H vs Q E hr h => ?_)
  · obtain ⟨p, js, v, v2, d, d2, rfl, _⟩ := h
    rfl
  · obtain ⟨p, js, v, v2, d, d2, rfl, hl, g, hd, hfw, hd2, ok2, qe, q⟩ := h
    refine ⟨_, (pss_cons (ps_expr (pe_call GCw hr (by rfl) mCw kCw bCw .nil (passes_call (takes_of rfl rfl rfl rfl) fun _ _ _ _ h => h) (pa_cons (pv 0) (pa_cons (pv 1) pa_nil)))) (PSs.nox (pss_cons (ps_if (PW.pt (pw_or (pt_not (pt_val (pe_call GTo hr (by rfl) mTo kTo bTo .nil pass0 (pa_cons (pv 2) (pa_cons pe_int pa_nil))))) (pw_or1 (pt_cmpR op_notTyB (pe_callTy call_type1 (by rfl) ftype (by decide +kernel) (pa_cons (pe_ix ix_tup (pv 2) pe_int (fun _ _ => rfl)) pa_nil)) (pe_bltn (v := .ty "tuple") (by rfl) ftuple (by decide +kernel) rfl) (nomark _))))) (pss_one (ps_ret pe_bl)) pss_nil) (pss_cons (ps_if (pt_cmpR (op_eqD hr.units) (pe_ix ix_tup (pv 2) pe_int (fun _ _ => rfl)) pe_str (nomark _)) (pss_one (ps_ret (pe_call GSn hr (by rfl) mSn kSn bSn .nil pass0 (pa_cons (pv 0) (pa_cons (pv 1) (pa_cons (pe_ix ix_tup (pv 2) pe_int (fun _ _ => rfl)) pa_nil)))))) pss_nil) (pss_cons (ps_set (i := 3) scShows.nd rfl (.inl rfl) (pe_ix ix_tup (pv 2) pe_int (fun _ _ => rfl))) (pss_cons (ps_if (PW.pt (pw_or (pt_cmpR (op_neD hr.units) (pe_ix ix_tup (pv 2) pe_int (fun _ _ => rfl)) pe_str (nomark _)) (pw_or1 (pt_not (pt_val (pe_callB (cr_all rfl) (by rfl) fall (by decide +kernel) (pa_cons (pe_lc (own := [("job", 4)]) (g := (gName 4)) (tt := tYes) rfl scShows.nd (pi_tup (pv 3)) (blkOk_by (N := ["loads", "within", "value", "lot", "job"]) (sc := defScope sShows) (by decide +kernel)) (fun _ _ _ _ _ => (pg_name (i := 4) scShows.nd rfl (.inl rfl))) (fun _ _ _ _ _ => pts_nil) (fun _ _ _ _ _ => (pe_call GWi hr (by rfl) mWi kWi bWi .nil pass0 (pa_cons (pv 4) (pa_cons pe_int (pa_cons (pe_op op_sub (pe_callB (show CallR _ (.builtin "len") (rLenK K) from call_len_seq) (by rfl) flen PySem.boot_len (pa_cons (show PE _ _ (tFld K _ "jobs") from pe_fld (pv 0) rfl) pa_nil)) pe_int) pa_nil)))))) pa_nil))))))) (pss_one (ps_ret pe_bl)) pss_nil) (pss_one (ps_ret (pe_and (pe_cmpR op_gt (pe_callB call_len_seq (by rfl) flen PySem.boot_len (pa_cons (pv 3) pa_nil)) pe_int (nomark _)) (pe_and (pe_call GAs hr (by rfl) mAs kAs bAs .nil pass0 (pa_cons (pv 3) pa_nil)) (pe_one (pe_notT (pe_call GCl hr (by rfl) mCl kCl bCl .nil pass0 (pa_cons (pv 0) (pa_cons (pv 1) (pa_cons (pv 3) pa_nil)))))))))))))))), ?_⟩
    refine ⟨.ref p, rfl, v, rfl, p, js, v, d, rfl, hl, g, hd, hfw, qe, fun ew H1 s1 => ?_⟩
    obtain ⟨w_, ws, rfl, hw, hwl, rfl, hwb⟩ := withinB_ints hd ew
    have q := q ws rfl ew
    have hw1 := Same.seqT s1 hw
    have hl1 := hl.same s1
    have hfew := g.few
    have hd1 := Dk.same s1 hd2
    have q1 := q H1 s1
    refine ⟨v2, rfl, v2, d2, 2, rfl, hd1, _, rfl, ?_⟩
    cases e2 : isTup d2 2 with
    | false =>
      refine iteT ?_
      have : toldB js ws d2 = false := by
        unfold toldB
        split
        · cases e2
        · rfl
      rw [this] at q1
      exact q1
    | true =>
      obtain ⟨da, db, rfl⟩ := isTup_two e2
      obtain ⟨a, xs, rfl, hs, ha⟩ := dk_tup hd1
      obtain ⟨x1, x2, rfl, g1, g2⟩ := dpAll_two ha
      obtain ⟨_, okel⟩ := okT_el ok2
      have sh1 := (okel da (by simp)).1
      have fw2 := (okel db (by simp)).2
      refine iteF ⟨.ref a, rfl, a, _, 1, x2, rfl, rfl, hs, at1, x2, tyName db, rfl, (Dk.dp g2).ty, _, _, rfl, rfl, _, rfl, ?_⟩
      have notT : (∀ ds, db ≠ .tuple ds) → Q (.bl false) H1 := fun hn => by
        have : toldB js ws (.tuple [da, db]) = false := by
          unfold toldB
          split
          · rename_i e
            cases e
            exact absurd rfl (hn _)
          · rfl
        rw [this] at q1
        exact q1
      cases g2 with
      | non => exact iteT (notT fun _ z => nomatch z)
      | bl b => exact iteT (notT fun _ z => nomatch z)
      | str x => exact iteT (notT fun _ z => nomatch z)
      | int x => exact iteT (notT fun _ z => nomatch z)
      | lst hs _ => exact iteT (notT fun _ z => nomatch z)
      | @tup b ys ds hys hads =>
        have hdl := fw2 ds rfl
        have et : toldB js ws (.tuple [da, .tuple ds]) = if isS da "priorities" = true then numsB js ws ds else if isS da "none" = true then lotB js ws ds else false := rfl
        rw [et] at q
        refine iteF ⟨.ref a, rfl, a, _, 0, x1, rfl, rfl, hs, at0, da, .str "priorities", g1, .str _, sh1, shaped_lit "priorities", _, rfl, ?_⟩
        rw [eqv_isS]
        cases c1 : isS da "priorities" with
        | true =>
          rw [c1] at q
          exact iteT ⟨.ref p, rfl, .ref w_, rfl, .ref a, rfl, a, _, 1, .ref b, rfl, rfl, hs, at1, p, w_, b, js, ws, ys, ds, rfl, hl1, g, hw1, hwl, hys, hads, hdl, fun H' s' => q H' (s1.trans s')⟩
        | false =>
          rw [c1] at q
          refine iteF ⟨.ref a, rfl, a, _, 1, .ref b, rfl, rfl, hs, at1, .ref a, rfl, a, _, 0, x1, rfl, rfl, hs, at0, da, .str "none", g1, .str _, sh1, shaped_lit "none", _, rfl, ?_⟩
          rw [eqv_isS]
          cases c2 : isS da "none" with
          | false =>
            rw [c2] at q
            exact iteT (q H1 s1)
          | true =>
            rw [c2] at q
            have hyl := dpAll_len hads
            refine iteF ⟨.ref b, rfl, b, rfl, ⟨_, hys⟩, fun D nD => ?_⟩
            refine lc_tup (xs := ys) (fun i H' => Same H1 H' ∧ H' D = some (.lst (((ds.take i).map fun d => isW d 0 ((js.length : Nat) - 1)).map V.bl))) ⟨same_upd nD, upd_same⟩ (fun i H' _ hP => Same.seqT hP.1 hys) (fun i x H' hx hP => ?_) fun H2 hP => ?_
            · obtain ⟨sm, hD⟩ := hP
              have hi := (List.getElem?_eq_some_iff.mp hx).1
              have hi2 : i < ds.length := by omega
              have hdx := dpAll_get hads hx
              have et : ds.take (i + 1) = ds.take i ++ [ds.getD i .none] := by
                rw [List.take_add_one, List.getD_eq_getElem?_getD, List.getElem?_eq_getElem hi2]; rfl
              obtain ⟨dx, fs, tt, ts, h1, h2, h3, h4⟩ := hl1.same sm
              refine ⟨rfl, ?_⟩
              unfold tYes
              refine iteT ⟨x, rfl, .ref p, rfl, p, CL, dx, fs, .ref tt, rfl, h1, T.cl, T.nJ, h2, tt, ts, rfl, .inr h3, _, 1, rfl, rfl, x, ds.getD i .none, 0, _, by rw [h4.1]; rfl, .dp (dp_same sm _ _ hdx), _, hD, ?_, Same.updNew sm nD, ?_⟩
              · rw [List.length_map, List.length_map, List.length_take, sizeLine_eq]; omega
              · rw [upd_same, et, List.map_append, List.map_append]
                rfl
            · obtain ⟨sm, hD⟩ := hP
              rw [hyl, List.take_length] at hD
              refine ⟨D, _, rfl, SqL.of hD, _, rfl, ?_⟩
              have s2 := s1.trans sm
              have hys2 := Same.seqT sm hys
              unfold lotB at q
              cases e3 : (ds.map fun d => isW d 0 ((js.length : Nat) - 1)).all id with
              | false =>
                rw [e3] at q
                exact iteT (q H2 s2)
              | true =>
                rw [e3] at q
                obtain ⟨ex, ed⟩ := ints_of hads fun d hd => let ⟨n, a, _⟩ := isW_all e3 d hd; ⟨n, a⟩
                refine iteF ⟨.ref b, rfl, b, ys, rfl, .inr hys2, _, _, rfl, rfl, _, rfl, ?_⟩
                by_cases e0 : 0 < ds.length
                · refine iteD (show ((ys.length : Nat) : Int) > 0 by omega) ?_
                  have hlen2 : (ds.map intD).length = ds.length := List.length_map ..
                  have hys3 : SqT K H2 b ((ds.map intD).map V.int) := by rw [← ex]; exact hys2
                  refine ⟨.ref b, rfl, b, ds.map intD, rfl, hys3, by omega, by omega, fun H3 s3 => ⟨_, rfl, ?_⟩⟩
                  have s23 := s2.trans s3
                  have q3 := q H3 s23
                  rw [decide_eq_true e0] at q3
                  cases e4 : ascB (ds.map intD) with
                  | false =>
                    rw [e4] at q3
                    exact iteF q3
                  | true =>
                    rw [e4] at q3
                    obtain ⟨hoth, hnat⟩ := oth_asc e3 e4
                    rw [hnat] at hys3
                    have sm3 := sm.trans s3
                    refine iteT ⟨.ref p, rfl, .ref w_, rfl, .ref b, rfl, p, w_, b, js, ws, ds.map natD, rfl, hl1.same sm3, g, Same.seqT sm3 hw1, hwl, Same.seqT s3 hys3, hoth, fun H4 F s4 nF hF => ⟨!(natsV (lastJ js ws (ds.map natD))).isEmpty, .inl ⟨_, SqL.of hF, rfl⟩, ?_⟩⟩
                    have q4 := q H4 (s23.trans s4)
                    rw [decide_eq_true e0, e4] at q4
                    have ee : (natsV (lastJ js ws (ds.map natD))).isEmpty = (lastJ js ws (ds.map natD)).isEmpty := by
                      cases lastJ js ws (ds.map natD) <;> rfl
                    rw [ee, Bool.not_not]
                    exact q4
                · refine iteE (show ¬ ((ys.length : Nat) : Int) > 0 by omega) ?_
                  have q2 := q H2 s2
                  rw [decide_eq_false e0] at q2
                  exact q2
end
end K33

set_option maxRecDepth 100000
set_option maxHeartbeats 8000000
/-! k33: a value bent. -/
namespace K33
open PySem PySem.Spec PyProof.Rows L2 LamX VG TL
theorem scBent : FnScope ["pot", "value", "at", "some", "sign"] ["pot", "value"] (defScope sBent) := ⟨rfl, rfl, rfl, by decide +kernel, rfl, by decide +kernel, by decide +kernel⟩
/-- what can be bent: whole numbers, texts, tuples of these, so deep -/
inductive BD : Nat → PyData → Prop
  | int {n : Nat} {i : Int} : -1000 ≤ i → i ≤ 70000 → BD n (.int i)
  | str {n : Nat} {z : Str} : okS 12 z → okS 20 (Txt.upper z) → z ≠ "" → BD n (.str z)
  | tup {n : Nat} {ds : List PyData} : ds ≠ [] → ds.length ≤ 6 → (∀ d ∈ ds, BD n d) → BD (n + 1) (.tuple ds)
theorem slimAll_iff : ∀ {ds : List PyData}, slimAll ds = true ↔ ∀ d ∈ ds, slim d = true
  | [] => ⟨fun _ d h => (by cases h), fun _ => (by unfold slimAll; rfl)⟩
  | a :: ds => by
    simp only [slimAll, Bool.and_eq_true, List.mem_cons, forall_eq_or_imp, slimAll_iff (ds := ds)]
def okM (k m : Nat) (d : PyData) : Prop := okN k m d ∧ slim d = true
theorem okM.mono {k m k' m' : Nat} {d : PyData} (h : okM k m d) (hk : k ≤ k') (hm : m ≤ m') : okM k' m' d := ⟨h.1.mono hk hm, h.2⟩
theorem okM.int {i : Int} (h0 : -100000 ≤ i) (h1 : i ≤ 1000000) : okM 0 50 (.int i) := ⟨okN.int h0 h1, by simp only [slim]⟩
theorem okM.str {n : Nat} {x : Str} (h : okS n x) (hn : n ≤ 50) : okM 0 50 (.str x) := ⟨h.ok hn, by simp only [slim]⟩
theorem okM.non : okM 1 408 .none := ⟨⟨rfl, by simp [PyData.weight], rfl, by simp [PyData.depth], rfl⟩, by simp only [slim]⟩
theorem okM.bl (b : Bool) : okM 1 408 (.bool b) := ⟨⟨rfl, by simp [PyData.weight], rfl, by simp [PyData.depth], rfl⟩, by simp only [slim]⟩
theorem okM.tup {k m : Nat} {ds : List PyData} (h : ∀ d ∈ ds, okM k m d) (hl : ds.length ≤ 8) : okM (k + 1) (8 * (m + 1)) (.tuple ds) := ⟨okN.tup (fun d hd => (h d hd).1) hl, by
  simp only [slim, Bool.and_eq_true, decide_eq_true_eq]
  exact ⟨by omega, slimAll_iff.mpr fun d hd => (h d hd).2⟩⟩
theorem okM.lst {k m : Nat} {ds : List PyData} (h : ∀ d ∈ ds, okM k m d) (hl : ds.length ≤ 8) : okM (k + 1) (8 * (m + 1)) (.list ds) := ⟨okN.lst (fun d hd => (h d hd).1) hl, by
  simp only [slim, Bool.and_eq_true, decide_eq_true_eq]
  exact ⟨by omega, slimAll_iff.mpr fun d hd => (h d hd).2⟩⟩
def wB : Nat → Nat
  | 0 => 408
  | n + 1 => 8 * (wB n + 1)
theorem BD.ok {d : PyData} : ∀ {n : Nat}, BD n d → okM n (wB n) d := by
  intro n h
  induction h with
  | @int n i h1 h2 =>
    refine (okM.int (by omega) (by omega)).mono (Nat.zero_le _) ?_
    induction n with
    | zero => decide
    | succ n ih => unfold wB; omega
  | @str n z h1 h2 h3 =>
    refine (okM.str h1 (by decide)).mono (Nat.zero_le _) ?_
    induction n with
    | zero => decide
    | succ n ih => unfold wB; omega
  | tup h1 h2 h3 ih => exact okM.tup ih (by omega)
theorem shaped_of {k m : Nat} {d : PyData} (h : okN k m d) (hk : k ≤ 60) : SeqAt.shaped d = true := by
  unfold SeqAt.shaped
  rw [h.2.2.2.2, decide_eq_true (Nat.le_trans h.2.2.2.1 (by omega))]
  rfl
theorem wB_ge : ∀ n, 408 ≤ wB n
  | 0 => Nat.le_refl _
  | n + 1 => by have := wB_ge n; unfold wB; omega
/-- t[-1:] -/
theorem slice_last {K : PySem.W.Frag} {H : Hp} {a : Addr} {xs : List V} {Q : VK} (h : SqT K H a xs) (q : ∀ c H' ys, SqT K H' c ys → (∀ y ∈ ys, y ∈ xs) → ys.length ≤ 1 → Same H H' → Q (.ref c) H') : rSlA K (.ref a) (some (-1)) none H Q := by
  have e : HT.sIx xs.length 0 (some (-1)) = xs.length - 1 := by
    show (if (-1 : Int) < 0 then (-1 + (xs.length : Int)).toNat else min ((-1 : Int)).toNat xs.length) = _
    rw [if_pos (by decide)]
    omega
  refine ⟨a, xs, rfl, h, fun hw => q a H xs h (fun y hy => hy) ?_ (Same.refl H), fun _ p np => q p _ (cutV xs (some (-1)) none) (SqT.of upd_same) (fun y hy => List.mem_of_mem_drop (List.mem_of_mem_take (i := _) hy)) ?_ (same_upd np)⟩
  · have := hw.1
    rw [e] at this
    omega
  · unfold cutV
    rw [e, HT.sIx_none, List.length_take, List.length_drop]
    omega
/-- what is bent is no list: it stands where lists are forgotten -/
theorem bd_nl {K : PySem.W.Frag} {H H' : Hp} {p : Addr} (g : Same (wo H p) (wo H' p)) {n : Nat} {d : PyData} (b : BD n d) : ∀ {v : V}, Dp K (wo H p) v d → Dp K (VG.nl H H') v d := by
  induction b with
  | int _ _ => intro v h; cases h; exact .int _
  | str _ _ _ => intro v h; cases h; exact .str _
  | tup h1 h2 h3 ih =>
    intro v h
    cases h with
    | tup hs ha =>
      refine .tup (sqT_nl g (Same.seqT g hs)) ?_
      clear h1 h2 h3 hs
      rename_i ds _ _
      rename_i xs
      revert ha
      revert ih
      revert xs
      induction ds with
      | nil => intro xs ih ha; cases ha; exact .nil
      | cons d ds ihd =>
        intro xs ih ha
        cases ha with
        | cons a1 a2 => exact .cons (ih d (List.mem_cons_self ..) a1) (ihd (fun e he => ih e (List.mem_cons_of_mem _ he)) a2)
section
variable {P : Program} {w : World} {K : PySem.W.Frag} {mg : Str → Option Value} {base : Heap}
def spBent (K : PySem.W.Frag) (n : Nat) : Sp := fun vs H Q _ => ∃ (p : Addr) (m : Nat) (v : V) (d : PyData), vs = [.ref p, v] ∧ Dp K (wo H p) v d ∧ BD n d ∧ n ≤ 4 ∧ Pot H p m ∧ m + 20 * (n + 1) < 1000000 ∧
  ∀ u e H', Pot H' p (m + 20 * (n + 1)) → Same (wo H p) (wo H' p) → Dp K (nl H H') u e → okM (n + 1) (wB n) e → Q u H'
theorem ok_Bent {k : Nat} {f : Addr} {fd : FuncData} {spR:Sp} {n:Nat} (F : Fun K "_law_bent" "_law_bent" sBent f fd) (gTa : Cal P w K mg base CX0 (k + 4) "_law_take" ["pot", "upto"] spTake) (gOf : Cal P w K mg base CX0 (k + 4) "_law_of" ["pot", "some"] (spOf K)) (gSo : Cal P w K mg base CX0 (k + 4) "_law_some" ["pot", "pool", "many"] (spSome K)) (gOd : Cal P w K mg base CX0 (k + 4) "_law_odd" ["pot"] (spOdd K)) (gBe : Cal P w K mg base CX0 (k + 4) "_law_bent" ["pot", "value"] spR) (hR : ∀ j, n = j + 1 → ∀ vs H Q E, spBent K j vs H Q E → spR vs H Q E) (fbool : mg "bool" = none) (fint : mg "int" = none) (fisinstance : mg "isinstance" = none) (flen : mg "len" = none) (flist : mg "list" = none) (fstr : mg "str" = none) (ftuple : mg "tuple" = none) : FnOk P w K mg base CX0 (k + 5) f fd ["pot", "value"] (spBent K n) := by
  obtain ⟨fTa, fdTa, GTa, kTa, bTa, mTa⟩ := gTa
  obtain ⟨fOf, fdOf, GOf, kOf, bOf, mOf⟩ := gOf
  obtain ⟨fSo, fdSo, GSo, kSo, bSo, mSo⟩ := gSo
  obtain ⟨fOd, fdOd, GOd, kOd, bOd, mOd⟩ := gOd
  obtain ⟨fBe, fdBe, GBe, kBe, bBe, mBe⟩ := gBe
  refine F.ok scBent (fun vs H Q E h => ?_) (fun cdv A outer s H vs Q E hr h => ?_)
  · obtain ⟨p, m, v, d, rfl, _⟩ := h
    rfl
  · obtain ⟨p, m, v, d, rfl, hd, hb, hn, hp, hm, q⟩ := h
    refine ⟨_, (pss_cons (ps_if (PW.pt (pw_and (pt_val (pe_callB call_isi (by rfl) fisinstance (by decide +kernel) (pa_cons (pv 1) (pa_cons (pe_bltn (v := .ty "tuple") (by rfl) ftuple (by decide +kernel) rfl) pa_nil)))) (pw_and (pt_cmpR (op_neD hr.units) (pv 1) (pe_tup pa_nil) (nomark _)) (pw_and1 (pt_cmpR op_gt (pe_call GTa hr (by rfl) mTa kTa bTa .nil pass0 (pa_cons (pv 0) (pa_cons pe_int pa_nil))) pe_int (nomark _)))))) (pss_cons (ps_set (i := 2) scBent.nd rfl (.inr rfl) (pe_call GTa hr (by rfl) mTa kTa bTa .nil pass0 (pa_cons (pv 0) (pa_cons (pe_callB call_len_seq (by rfl) flen PySem.boot_len (pa_cons (pv 1) pa_nil)) pa_nil)))) (pss_one (ps_ret (pe_op op_catA (pe_op op_catA (pe_slice sl_tupA (pv 1) po_none (po_some (pv 2))) (pe_tup (pa_cons (pe_call GBe hr (by rfl) mBe kBe bBe .nil pass0 (pa_cons (pv 0) (pa_cons (pe_ix ix_tup (pv 1) (pv 2) (fun _ _ => rfl)) pa_nil))) pa_nil))) (pe_slice sl_tupA (pv 1) (po_some (pe_op op_add (pv 2) pe_int)) po_none))))) pss_nil) (pss_cons (ps_if (pt_val (pe_callB call_isi (by rfl) fisinstance (by decide +kernel) (pa_cons (pv 1) (pa_cons (pe_bltn (v := .ty "tuple") (by rfl) ftuple (by decide +kernel) rfl) pa_nil)))) (pss_cons (ps_set (i := 3) scBent.nd rfl (.inl rfl) (pe_lst (pa_cons (pe_callTy call_list_of (by rfl) flist (by decide +kernel) (pa_cons (pv 1) pa_nil)) (pa_cons (pe_slice sl_tupA (pv 1) (po_some pe_int) po_none) (pa_cons (pe_slice sl_tupA (pv 1) po_none (po_some (pe_un un_neg pe_int))) (pa_cons (pe_op op_catA (pv 1) (pe_slice sl_tupA (pv 1) (po_some (pe_un un_neg pe_int)) po_none)) (pa_cons (pe_revT (pv 1)) (pa_cons (pe_tup pa_nil) (pa_cons pe_non (pa_cons (pe_op op_catA (pv 1) (pe_tup (pa_cons pe_int pa_nil))) pa_nil)))))))))) (pss_one (ps_ret (pe_call GOf hr (by rfl) mOf kOf bOf .nil pass0 (pa_cons (pv 0) (pa_cons (pv 3) pa_nil)))))) pss_nil) (pss_cons (ps_if (pt_val (pe_callB call_isi (by rfl) fisinstance (by decide +kernel) (pa_cons (pv 1) (pa_cons (pe_bltn (v := .ty "bool") (by rfl) fbool (by decide +kernel) rfl) pa_nil)))) (pss_one ps_never) pss_nil) (pss_cons (ps_if (pt_val (pe_callB call_isi (by rfl) fisinstance (by decide +kernel) (pa_cons (pv 1) (pa_cons (pe_bltn (v := .ty "int") (by rfl) fint (by decide +kernel) rfl) pa_nil)))) (pss_one (ps_ret (pe_call GOf hr (by rfl) mOf kOf bOf .nil pass0 (pa_cons (pv 0) (pa_cons (pe_lst (pa_cons (pe_op op_add (pv 1) pe_int) (pa_cons (pe_op op_sub (pv 1) pe_int) (pa_cons (pe_cmpR op_eq (pv 1) pe_int (nomark _)) (pa_cons (pe_un un_neg (pv 1)) (pa_cons (pe_callTy call_str_int (by rfl) fstr (by decide +kernel) (pa_cons (pe_op op_mod (pe_callTy call_int1 (by rfl) fint (by decide +kernel) (pa_cons (pv 1) pa_nil)) (pe_op op_pow pe_int pe_int)) pa_nil)) (pa_cons pe_non (pa_cons (pe_tup (pa_cons (pv 1) pa_nil)) pa_nil)))))))) pa_nil))))) pss_nil) (pss_cons (ps_if (PW.pt (pw_and (pt_val (pe_callB call_isi (by rfl) fisinstance (by decide +kernel) (pa_cons (pv 1) (pa_cons (pe_bltn (v := .ty "str") (by rfl) fstr (by decide +kernel) rfl) pa_nil)))) (pw_and1 (pt_cmpR op_ne (pv 1) pe_str (nomark _))))) (pss_cons (ps_set (i := 2) scBent.nd rfl (.inr rfl) (pe_call GTa hr (by rfl) mTa kTa bTa .nil pass0 (pa_cons (pv 0) (pa_cons (pe_callB call_len_str (by rfl) flen PySem.boot_len (pa_cons (pv 1) pa_nil)) pa_nil)))) (pss_cons (ps_setLc (i := 3) (own := [("sign", 4)]) (g := (gName 4)) (tt := tYes) rfl scBent.nd rfl rfl (by rfl) (pi_list (pe_call GSo hr (by rfl) mSo kSo bSo .nil pass0 (pa_cons (pv 0) (pa_cons (pe_callTy (call_listS rfl) (by rfl) flist (by decide +kernel) (pa_cons pe_str pa_nil)) (pa_cons pe_int pa_nil))))) (blkOk_by (N := ["pot", "value", "at", "some", "sign"]) (sc := defScope sBent) (by decide +kernel)) (fun _ _ _ _ _ => (pg_name (i := 4) scBent.nd rfl (.inl rfl))) (fun _ _ _ _ _ => pts_nil) (fun _ _ _ _ _ => (pe_op op_add_str (pe_op op_add_str (pe_slice sl_str (pv 1) po_none (po_some (pv 2))) (pv 4)) (pe_slice sl_str (pv 1) (po_some (pe_op op_add (pv 2) pe_int)) po_none)))) (pss_one (ps_ret (pe_call GOf hr (by rfl) mOf kOf bOf .nil pass0 (pa_cons (pv 0) (pa_cons (pe_op op_cat (pv 3) (pe_lst (pa_cons (pe_op op_add_str (pv 1) pe_str) (pa_cons (pe_slice sl_str (pv 1) (po_some pe_int) po_none) (pa_cons (pe_upper (pv 1)) (pa_cons (pe_lst (pa_cons (pv 1) pa_nil)) (pa_cons pe_non (pa_cons (pe_op op_add_str pe_str (pv 1)) (pa_cons (pe_tup (pa_cons (pv 1) pa_nil)) pa_nil))))))))) pa_nil))))))) pss_nil) (pss_one ps_never)))))), ?_⟩
    have hdH := dp_same wo_le _ _ hd
    cases hb with
    | @int _ i i0 i1 =>
      cases hd
      have ty : TyX K H (.int i) (.type "int") := (Dk.dp (.int i)).tyx
      refine ⟨.int i, rfl, .int i, .ty "tuple", .type "int", .type "tuple", false, rfl, .ty "tuple", ty, (kit_ty (show kitB "int" "tuple" = some false by decide +kernel)), _, rfl, iteF (iteF ?_)⟩
      refine ⟨.int i, rfl, .int i, .ty "tuple", .type "int", .type "tuple", false, rfl, .ty "tuple", ty, (kit_ty (show kitB "int" "tuple" = some false by decide +kernel)), _, rfl, iteF ?_⟩
      refine ⟨.int i, rfl, .int i, .ty "bool", .type "int", .type "bool", false, rfl, .ty "bool", ty, (kit_ty (show kitB "int" "bool" = some false by decide +kernel)), _, rfl, iteF ?_⟩
      refine ⟨.int i, rfl, .int i, .ty "int", .type "int", .type "int", true, rfl, .ty "int", ty, (kit_ty (show kitB "int" "int" = some true by decide +kernel)), _, rfl, iteT ?_⟩
      have e10 : (10 : Int) ^ (6 : Int).toNat = 1000000 := by decide
      refine ⟨.ref p, rfl, .int i, rfl, i, 1, rfl, rfl, .int i, rfl, i, 1, rfl, rfl, .int i, rfl, rfl, .int i, rfl, i, rfl, .int i, rfl, .inl ⟨i, rfl, 10, 6, rfl, rfl, (by unfold CPow; decide), i, 10 ^ (6 : Int).toNat, rfl, rfl, (by show (0 : Int) < 10 ^ 6; decide), i % (10 ^ (6 : Int).toNat), rfl, ?_, .int i, rfl, by show 1 ≤ sizeLine; decide, fun c nc => ⟨by show 7 ≤ sizeLine; decide, fun l nl => ?_⟩⟩⟩
      · rw [e10]
        have h1 : (i % 1000000).natAbs < 1000000 := by omega
        by_cases z : (i % 1000000).natAbs = 0
        · rw [z]; decide
        · exact Nat.lt_trans ((Nat.log2_lt z).mpr (Nat.lt_trans h1 (by decide : 1000000 < 2 ^ 20))) (by decide)
      have s1 := same_upd (o := .tup [V.int i]) nc
      have s2 := s1.trans (same_upd (o := .lst [V.int (i + 1), .int (i - 1), .bl (decide (V.int i = V.int 1)), .int (-i), .str ((toString (i % (10 ^ (6 : Int).toNat)) : String) : Str), .non, .ref c]) nl)
      have nel := (hp.same s1).ne nl
      have nec := hp.ne nc
      refine ⟨p, l, [V.int (i + 1), .int (i - 1), .bl (decide (V.int i = V.int 1)), .int (-i), .str ((toString (i % (10 ^ (6 : Int).toNat)) : String) : Str), .non, .ref c], m, rfl, SqL.of (wo_at upd_same nel), by simp, by show 7 ≤ 1000; decide, hp.same s2, by omega, fun x hx H' hp' s' => ?_⟩
      have qq := fun u d (a : Dp K (VG.nl H H') u d) (b : okM 1 408 d) => q u d H' (hp'.mono (by omega)) ((wo_same_of s2).trans s') a (b.mono (by omega) (wB_ge n))
      have ec : H' c = some (.tup [V.int i]) ∧ c ≠ p := ⟨wo_le _ _ (s' _ _ (wo_at ((same_upd (o := .lst [V.int (i + 1), .int (i - 1), .bl (decide (V.int i = V.int 1)), .int (-i), .str ((toString (i % (10 ^ (6 : Int).toNat)) : String) : Str), .non, .ref c]) nl) _ _ upd_same) nec)), nec⟩
      simp only [List.mem_cons, List.not_mem_nil, or_false] at hx
      rcases hx with rfl | rfl | rfl | rfl | rfl | rfl | rfl
      · exact qq _ (.int _) (.int _) ((okM.int (by omega) (by omega)).mono (by omega) (by omega))
      · exact qq _ (.int _) (.int _) ((okM.int (by omega) (by omega)).mono (by omega) (by omega))
      · exact qq _ (.bool _) (.bl _) (okM.bl _)
      · exact qq _ (.int _) (.int _) ((okM.int (by omega) (by omega)).mono (by omega) (by omega))
      · refine qq _ (.str _) (.str _) ((okM.str (n := 10) ⟨?_, ?_⟩ (by omega)).mono (by omega) (by omega))
        · rw [e10]
          exact Nat.le_trans (toString_length_le (k := 6) (by omega) (by decide) (by omega)) (by decide)
        · exact str_chars _
      · exact qq _ .none .non okM.non
      · exact qq _ (.tuple [.int i]) (.tup (SqT.of (nl_at ((wo_same_of s2).trans s') (wo_at ec.1 ec.2) fun _ z => nomatch z)) (.cons (.int i) .nil)) ((okM.tup (k := 0) (m := 50) (fun d hd => by rw [List.mem_singleton.mp hd]; exact okM.int (by omega) (by omega)) (by show 1 ≤ 8; omega)).mono (by omega) (by omega))
    | @str _ z z1 z2 z3 =>
      cases hd
      have ty : TyX K H (.str z) (.type "str") := (Dk.dp (.str z)).tyx
      have zl := z1.1
      refine ⟨.str z, rfl, .str z, .ty "tuple", .type "str", .type "tuple", false, rfl, .ty "tuple", ty, (kit_ty (show kitB "str" "tuple" = some false by decide +kernel)), _, rfl, iteF (iteF ?_)⟩
      refine ⟨.str z, rfl, .str z, .ty "tuple", .type "str", .type "tuple", false, rfl, .ty "tuple", ty, (kit_ty (show kitB "str" "tuple" = some false by decide +kernel)), _, rfl, iteF ?_⟩
      refine ⟨.str z, rfl, .str z, .ty "bool", .type "str", .type "bool", false, rfl, .ty "bool", ty, (kit_ty (show kitB "str" "bool" = some false by decide +kernel)), _, rfl, iteF ?_⟩
      refine ⟨.str z, rfl, .str z, .ty "int", .type "str", .type "int", false, rfl, .ty "int", ty, (kit_ty (show kitB "str" "int" = some false by decide +kernel)), _, rfl, iteF ?_⟩
      refine ⟨.str z, rfl, .str z, .ty "str", .type "str", .type "str", true, rfl, .ty "str", ty, (kit_ty (show kitB "str" "str" = some true by decide +kernel)), _, rfl, iteT ⟨.str z, rfl, rfl, _, rfl, ?_⟩⟩
      have e0 : (!decide (V.str z = V.str "")) = true := by
        rw [decide_eq_false fun y => z3 (V.str.inj y)]
        rfl
      rw [e0]
      refine iteT ?_
      have zpos : 0 < z.length := by
        rw [len_list]
        exact List.length_pos_iff.mpr fun e => z3 (empty_iff.mpr e)
      refine ⟨.ref p, rfl, .str z, rfl, z, rfl, sl (by omega), ?_⟩
      refine ⟨p, (z.length : Nat), m, rfl, by omega, by omega, hp, by omega, fun d1 H1 d10 d11 hp1 s1 => ?_⟩
      refine ⟨.ref p, rfl, "rwx019- ", rfl, by decide, fun c nc => ?_⟩
      have t1 := same_upd (o := .lst ((VG.signs "rwx019- ").map V.str)) nc
      refine ⟨p, c, (VG.signs "rwx019- ").map V.str, 4, m + 1, rfl, SqL.of (wo_at upd_same (hp1.ne nc)), by decide, by decide, hp1.same t1, by omega, fun H2 Fo fs hp2 s2 hF lf af _ => ?_⟩
      have g2 := (s1.trans (wo_same_of t1)).trans s2
      have nFo : Fo ≠ p := fun z => by rw [z, wo_same] at hF; cases hF
      have hF2 := wo_le _ _ hF
      refine ⟨Fo, rfl, ⟨fs, SqL.of hF2⟩, fun D nD => ?_⟩
      have nDp := hp2.ne nD
      refine lc_list (xs := fs) (fun i H' => Same H2 H' ∧ ∃ zs : List Str, H' D = some (.lst (zs.map V.str)) ∧ zs.length = i ∧ ∀ z ∈ zs, okS 25 z) ⟨same_upd nD, [], upd_same, rfl, fun z hz => (List.not_mem_nil hz).elim⟩ (fun i H' _ hP => SqL.of (hP.1 _ _ hF2)) (fun i x H' hx hP => ?_) fun H3 hP => ?_
      · obtain ⟨sm, zs, hD, lz, az⟩ := hP
        obtain ⟨sg, hsg, rfl⟩ := List.mem_map.mp (af x (List.mem_of_getElem? hx))
        have osg : okS 1 sg := by
          unfold VG.signs at hsg
          obtain ⟨ch, hch, rfl⟩ := List.mem_map.mp hsg
          exact ⟨Nat.le_refl 1, fun c' hc' => by
            have e : c' = ch := by simpa using hc'
            rw [e]
            exact str_chars "rwx019- " ch hch⟩
        have hi : i < 4 := by rw [← lf]; exact (List.getElem?_eq_some_iff.mp hx).1
        have o1 : okS 25 ((cutS z none (some d1) ++ sg) ++ cutS z (some (d1 + 1)) none) := ((z1.cut none (some d1)).cat osg).cat (z1.cut (some (d1 + 1)) none)
        have c1 := (z1.cut none (some d1)).1
        have c2 := (z1.cut (some (d1 + 1)) none).1
        have c3 := osg.1
        have c4 := ((z1.cut none (some d1)).cat osg).1
        refine ⟨rfl, ?_⟩
        unfold tYes
        refine iteT ?_
        refine ⟨.str z, rfl, ?_⟩
        unfold tNoPart
        refine ⟨_, rfl, d1, rfl, z, rfl, sl (by omega), .str sg, rfl, _, _, rfl, rfl, sl (by omega), .str z, rfl, ?_⟩
        refine ⟨_, rfl, d1, 1, rfl, rfl, d1 + 1, rfl, z, rfl, sl (by omega), _, _, rfl, rfl, sl (by omega), _, hD, small1000 (by rw [List.length_map]; omega), Same.updNew sm nD, zs ++ [(cutS z none (some d1) ++ sg) ++ cutS z (some (d1 + 1)) none], ?_, ?_, ?_⟩
        · rw [upd_same, List.map_append]
          rfl
        · rw [List.length_append, lz]
          rfl
        · intro z hz
          rcases List.mem_append.mp hz with hz | hz
          · exact az z hz
          · rw [List.mem_singleton.mp hz]
            exact o1
      · obtain ⟨sm, zs, hD, lz, az⟩ := hP
        have hp3 := hp2.same sm
        have ox : okS 1 "x" := ⟨by decide, str_chars "x"⟩
        have om : okS 1 "-" := ⟨by decide, str_chars "-"⟩
        have ox1 := ox.1
        have om1 := om.1
        refine ⟨.ref p, rfl, .ref D, rfl, .str z, rfl, _, _, rfl, rfl, sl (by omega), .str z, rfl, 1, rfl, z, rfl, sl (by omega), .str z, rfl, ?_⟩
        refine ⟨⟨z, rfl⟩, z, rfl, rfl, by omega, .str z, rfl, by show 1 ≤ sizeLine; decide, fun c3 nc3 => ⟨.str z, rfl, _, _, rfl, rfl, sl (by omega), .str z, rfl, by show 1 ≤ sizeLine; decide, fun c4 nc4 => ⟨by show 7 ≤ sizeLine; decide, fun l nl => ?_⟩⟩⟩
        have u3 := same_upd (o := .lst [V.str z]) nc3
        have u4 := same_upd (o := .tup [V.str z]) nc4
        have u5 := same_upd (o := .lst [V.str (z ++ "x"), .str (cutS z (some 1) none), .str (Txt.upper z), .ref c3, .non, .str ("-" ++ z), .ref c4]) nl
        have e3 := hp3.ne nc3
        have e4 := (hp3.same u3).ne nc4
        refine ⟨D, l, zs.map V.str, [V.str (z ++ "x"), .str (cutS z (some 1) none), .str (Txt.upper z), .ref c3, .non, .str ("-" ++ z), .ref c4], rfl, rfl, ((u3.trans u4).trans u5) _ _ hD, upd_same, sl (by rw [List.length_map]; show zs.length + 7 ≤ 1000; omega), fun l2 nl2 => ?_⟩
        have u6 := same_upd (o := .lst (zs.map V.str ++ [V.str (z ++ "x"), .str (cutS z (some 1) none), .str (Txt.upper z), .ref c3, .non, .str ("-" ++ z), .ref c4])) nl2
        have u36 := ((u3.trans u4).trans u5).trans u6
        have e6 := (hp3.same ((u3.trans u4).trans u5)).ne nl2
        refine ⟨p, l2, _, m + 1 + 4, rfl, SqL.of (wo_at upd_same e6), by simp, by rw [List.length_append, List.length_map]; show zs.length + 7 ≤ 1000; omega, hp3.same u36, by omega, fun x hx H' hp' s' => ?_⟩
        have qq := fun u d (a : Dp K (VG.nl H H') u d) (b : okM 1 408 d) => q u d H' (hp'.mono (by omega)) ((g2.trans (wo_same_of (sm.trans u36))).trans s') a (b.mono (by omega) (wB_ge n))
        have f3 := s' _ _ (wo_at (((u4.trans u5).trans u6) _ _ upd_same) e3)
        have f4 := s' _ _ (wo_at ((u5.trans u6) _ _ upd_same) e4)
        have an : okM 0 50 (.str z) := okM.str z1 (by omega)
        rcases List.mem_append.mp hx with hx | hx
        · obtain ⟨z, hz, rfl⟩ := List.mem_map.mp hx
          exact qq _ (.str z) (.str z) ((okM.str (az z hz) (by omega)).mono (by omega) (by omega))
        · simp only [List.mem_cons, List.not_mem_nil, or_false] at hx
          rcases hx with rfl | rfl | rfl | rfl | rfl | rfl | rfl
          · exact qq _ (.str _) (.str _) ((okM.str (z1.cat ox) (by omega)).mono (by omega) (by omega))
          · exact qq _ (.str _) (.str _) ((okM.str (z1.cut (some 1) none) (by omega)).mono (by omega) (by omega))
          · exact qq _ (.str _) (.str _) ((okM.str z2 (by omega)).mono (by omega) (by omega))
          · exact qq _ (.list [.str z]) (.lst (SqL.of ((nl_new (nl_fresh (g2.trans (wo_same_of sm)) nc3 e3)).trans (wo_le _ _ f3))) (.cons (.str z) .nil)) ((okM.lst (k := 0) (m := 50) (fun d hd => by rw [List.mem_singleton.mp hd]; exact an) (by show 1 ≤ 8; omega)).mono (by omega) (by omega))
          · exact qq _ .none .non okM.non
          · exact qq _ (.str _) (.str _) ((okM.str (om.cat z1) (by omega)).mono (by omega) (by omega))
          · exact qq _ (.tuple [.str z]) (.tup (SqT.of (nl_at ((g2.trans (wo_same_of (sm.trans u36))).trans s') f4 fun _ z => nomatch z)) (.cons (.str z) .nil)) ((okM.tup (k := 0) (m := 50) (fun d hd => by rw [List.mem_singleton.mp hd]; exact an) (by show 1 ≤ 8; omega)).mono (by omega) (by omega))
    | @tup n' ds t1 t2 t3 =>
      cases hd with
      | @tup a xs _ hs ha =>
      have hb : BD (n' + 1) (.tuple ds) := .tup t1 t2 t3
      have hsH := Same.seqT wo_le hs
      have hxl := dpAll_len ha
      have hw0 := wB_ge n'
      have hws : wB (n' + 1) = 8 * (wB n' + 1) := rfl
      have ty : TyX K H (.ref a) (.type "tuple") := (Dk.dp hdH).tyx
      -- each part, as a value and as data
      have parts_ : ∀ {H' : Hp}, (∀ x d, Dp K (wo H p) x d → BD n' d → Dp K H' x d) → ∀ (ys : List V), (∀ x ∈ ys, x ∈ xs ∨ x = .int 0) → ∃ es, DpAll K H' ys es ∧ (∀ d ∈ es, okM n' (wB n') d) ∧ es.length = ys.length := fun {H'} sH ys => by
        induction ys with
        | nil => exact fun _ => ⟨[], .nil, fun d hd => (List.not_mem_nil hd).elim, rfl⟩
        | cons x r ih =>
          intro h
          obtain ⟨es, h1, h2, h3⟩ := ih fun y hy => h y (List.mem_cons_of_mem _ hy)
          obtain ⟨d, g1, g2⟩ : ∃ d, Dp K H' x d ∧ okM n' (wB n') d := by
            rcases h x List.mem_cons_self with hx | rfl
            · obtain ⟨i, hi, e⟩ := List.mem_iff_getElem.mp hx
              have hdx := dpAll_get ha (i := i) (by rw [List.getElem?_eq_getElem hi, e])
              have hm : ds.getD i .none ∈ ds := by
                rw [List.getD_eq_getElem?_getD, List.getElem?_eq_getElem (by omega)]
                exact List.getElem_mem _
              exact ⟨_, sH _ _ hdx (t3 _ hm), (t3 _ hm).ok⟩
            · exact ⟨_, .int 0, (okM.int (by omega) (by omega)).mono (Nat.zero_le _) (by omega)⟩
          exact ⟨d :: es, .cons g1 h1, fun e he => (List.mem_cons.mp he).elim (fun z => z ▸ g2) (h2 e), by rw [List.length_cons, List.length_cons, h3]⟩
      have shp : SeqAt.shaped (.tuple ds) = true := shaped_of hb.ok.1 (by omega)
      have lenr : xs.length ≤ 6 := by omega
      have xpos : 0 < xs.length := by
        have : ds.length ≠ 0 := fun e => t1 (List.length_eq_zero_iff.mp e)
        omega
      refine ⟨.ref a, rfl, .ref a, .ty "tuple", .type "tuple", .type "tuple", true, rfl, .ty "tuple", ty, (kit_ty (show kitB "tuple" "tuple" = some true by decide +kernel)), _, rfl, iteT ?_⟩
      refine ⟨.ref a, rfl, by show 0 ≤ sizeLine; decide, fun c0 nc0 => ?_⟩
      have s0 := same_upd (o := .tup []) nc0
      refine ⟨.tuple ds, .tuple [], dp_same s0 _ _ hdH, .tup (SqT.of upd_same) .nil, shp, by decide, _, rfl, ?_⟩
      have ene : PyData.eqv (.tuple ds) (.tuple []) = false := by
        cases ds with
        | nil => exact absurd rfl t1
        | cons _ _ => rfl
      rw [ene]
      refine iteT ?_
      refine ⟨.ref p, rfl, p, 6, m, rfl, by decide, by decide, hp.same s0, by omega, fun d0 H1 d00 d01 hp1 s1 => ?_⟩
      have g1 := (wo_same_of (a := p) s0).trans s1
      have hs1 := Same.seqT g1 hs
      have hs1H := Same.seqT wo_le hs1
      refine ⟨d0, 0, rfl, rfl, _, rfl, ?_⟩
      by_cases c : 0 < d0
      · rw [decide_eq_true c]
        refine iteT ?_
        refine ⟨.ref p, rfl, .ref a, rfl, a, _, rfl, .inr hs1H, ?_⟩
        refine ⟨p, ((xs.length : Nat) : Int), m + 1, rfl, by omega, by omega, hp1, by omega, fun d1 H2 d10 d11 hp2 s2 => ?_⟩
        obtain ⟨j, rfl⟩ : ∃ j : Nat, d1 = (j : Int) := ⟨d1.toNat, by omega⟩
        have hj : j < xs.length := by omega
        have g2 := g1.trans s2
        have hs2 := Same.seqT g2 hs
        refine ⟨.ref a, rfl, ?_⟩
        unfold tNoPart
        refine ⟨_, rfl, (j : Int), rfl, slice_to (j := j) (Same.seqT wo_le hs2) fun c1 H3 hc1 s3 => ?_⟩
        have g3 := g2.trans (wo_same_of (a := p) s3)
        have hs3 := Same.seqT g3 hs
        refine ⟨.ref p, rfl, .ref a, rfl, .int (j : Int), rfl, a, _, (j : Int), _, rfl, rfl, Same.seqT wo_le hs3, at_of rfl (List.getElem?_eq_getElem hj), ?_⟩
        have hp3 := hp2.same s3
        obtain ⟨qa, qb, qc, hpe3, _⟩ := id hp3
        have hc1w := sqT_wo hc1 hpe3
        have hdx := dpAll_get ha (i := j) (List.getElem?_eq_getElem hj)
        have hmj : ds.getD j .none ∈ ds := by
          rw [List.getD_eq_getElem?_getD, List.getElem?_eq_getElem (by omega)]
          exact List.getElem_mem _
        refine hR n' rfl _ _ _ _ ⟨p, m + 2, _, _, rfl, dp_same g3 _ _ hdx, t3 _ hmj, by omega, hp3, by omega, fun u d H4 hp4 s4 hd okd => ?_⟩
        refine ⟨by show 1 ≤ sizeLine; decide, fun t1_ nt1 => ?_⟩
        have u5 := same_upd (o := .tup [u]) nt1
        have g4 := g3.trans s4
        have ltk : (xs.take j).length ≤ 6 := by rw [List.length_take]; omega
        refine catA_one (Same.seqT u5 (Same.seqT wo_le (Same.seqT s4 hc1w))) (SqT.of upd_same) (Nat.le_of_lt (small1000 (by show _ + 1 ≤ 1000; omega))) fun c2 H5 hc2 s5 => ?_
        have g5 := g4.trans (wo_same_of (a := p) (u5.trans s5))
        have hs5 := Same.seqT g5 hs
        refine ⟨.ref a, rfl, _, rfl, (j : Int), 1, rfl, rfl, ((j + 1 : Nat) : Int), rfl, ?_⟩
        refine slice_from (j := j + 1) (Same.seqT wo_le hs5) fun c3 H6 hc3 s6 _ => ?_
        have ldr : (xs.drop (j + 1)).length ≤ 6 := by rw [List.length_drop]; omega
        refine catA_one (Same.seqT s6 hc2) hc3 (Nat.le_of_lt (small1000 (by rw [List.length_append]; show _ + 1 + _ ≤ 1000; omega))) fun c4 H7 hc4 s7 => ?_
        have s47 := ((u5.trans s5).trans s6).trans s7
        have hp7 := hp4.same s47
        obtain ⟨qa7, qb7, qc7, hpe7, _⟩ := id hp7
        have w7 := g4.trans (wo_same_of (a := p) s47)
        have sW : ∀ x d, Dp K (wo H p) x d → BD n' d → Dp K (VG.nl H H7) x d := fun x d h b => bd_nl w7 b h
        obtain ⟨dA, a1, a2, a3⟩ := parts_ (H' := VG.nl H H7) sW (xs.take j) fun x hx => .inl (List.mem_of_mem_take hx)
        obtain ⟨dB, b1', b2', b3'⟩ := parts_ (H' := VG.nl H H7) sW (xs.drop (j + 1)) fun x hx => .inl (List.mem_of_mem_drop hx)
        have hu := dp_same (nl_mono g3 (pot_lst hp3) s47) _ _ hd
        refine q _ (.tuple ((dA ++ [d]) ++ dB)) H7 (hp7.mono (by omega)) w7 (.tup (sqT_nl w7 (sqT_wo hc4 hpe7)) (dpAll_app (dpAll_app a1 (.cons hu .nil)) b1')) ?_
        refine (okM.tup (k := n' + 1) (m := wB n') (fun e he => ?_) ?_).mono (by omega) (by omega)
        · rcases List.mem_append.mp he with he | he
          · rcases List.mem_append.mp he with he | he
            · exact (a2 e he).mono (by omega) (by omega)
            · rw [List.mem_singleton.mp he]; exact okd
          · exact (b2' e he).mono (by omega) (by omega)
        · rw [List.length_append, List.length_append, a3, b3', List.length_take, List.length_drop]
          show min j _ + 1 + _ ≤ 8
          omega
      · rw [decide_eq_false c]
        refine iteF ?_
        obtain ⟨pa, pb, pc, hpe1, _⟩ := id hp1
        have ty1 := (Dk.dp (K := K) (dp_same (s0.trans (Same.refl _)) _ _ hdH)).tyx
        have tyH1 : TyX K H1 (.ref a) (.type "tuple") := (Dk.dp (dp_same wo_le _ _ (dp_same g1 _ _ (Dp.tup hs ha)))).tyx
        refine ⟨.ref a, rfl, .ref a, .ty "tuple", .type "tuple", .type "tuple", true, rfl, .ty "tuple", tyH1, (kit_ty (show kitB "tuple" "tuple" = some true by decide +kernel)), _, rfl, iteT ?_⟩
        refine ⟨.ref a, rfl, a, xs, rfl, .inr hs1H, fun e1 ne1 => ?_⟩
        have u1 := same_upd (o := .lst xs) ne1
        refine ⟨.ref a, rfl, 1, rfl, ?_⟩
        unfold tNoPart
        refine slice_any (Same.seqT u1 hs1H) fun e2 H2 y2 hy2 in2 le2 u2 => ?_
        refine ⟨.ref a, rfl, 1, rfl, -1, rfl, slice_any (Same.seqT (u1.trans u2) hs1H) fun e3 H3 y3 hy3 in3 le3 u3 => ?_⟩
        refine ⟨.ref a, rfl, .ref a, rfl, 1, rfl, -1, rfl, slice_last (Same.seqT ((u1.trans u2).trans u3) hs1H) fun e4 H4 y4 hy4 in4 le4 u4 => ?_⟩
        refine catA_one (Same.seqT (((u1.trans u2).trans u3).trans u4) hs1H) hy4 (sl (by omega)) fun e5 H5 hy5 u5 => ?_
        refine ⟨.ref a, rfl, a, xs, rfl, Same.seqT ((((u1.trans u2).trans u3).trans u4).trans u5) hs1H, fun y6 e6 in6 le6 ne6 => ?_⟩
        have u6 := same_upd (o := .tup y6) ne6
        refine ⟨by show 0 ≤ sizeLine; decide, fun e7 ne7 => ?_⟩
        have u7 := same_upd (o := .tup []) ne7
        refine ⟨.ref a, rfl, by show 1 ≤ sizeLine; decide, fun e8 ne8 => ?_⟩
        have u8 := same_upd (o := .tup [V.int 0]) ne8
        have a8 := (((((((u1.trans u2).trans u3).trans u4).trans u5).trans u6).trans u7).trans u8)
        refine catA_one (Same.seqT a8 hs1H) (SqT.of upd_same) (sl (by show _ + 1 ≤ 1000; omega)) fun e9 H9 hy9 u9 => ?_
        refine ⟨by show 8 ≤ sizeLine; decide, fun l nl => ?_⟩
        have ul := same_upd (o := .lst [V.ref e1, .ref e2, .ref e3, .ref e5, .ref e6, .ref e7, .non, .ref e9]) nl
        have a9 := a8.trans u9
        have hp9 := hp1.same a9
        have nel := hp9.ne nl
        have al := a9.trans ul
        refine ⟨.ref p, rfl, .ref l, rfl, p, l, [V.ref e1, .ref e2, .ref e3, .ref e5, .ref e6, .ref e7, .non, .ref e9], m + 1, rfl, SqL.of (wo_at upd_same nel), by simp, by show 8 ≤ 1000; decide, hp1.same al, by omega, fun x hx H' hp' s' => ?_⟩
        have gA := (g1.trans (wo_same_of al)).trans s'
        have qq := fun u d => q u d H' (hp'.mono (by omega)) gA
        have sW : ∀ x d, Dp K (wo H p) x d → BD n' d → Dp K (VG.nl H H') x d := fun x d h b => bd_nl gA b h
        obtain ⟨ra, rb, rc, hpel, _⟩ := id (hp1.same al)
        have T : ∀ {c : Addr} {ys : List V}, SqT K _ c ys → (∀ y ∈ ys, y ∈ xs ∨ y = .int 0) → ys.length ≤ 8 → Q (.ref c) H' := fun {c ys} h hin hle => by
          obtain ⟨es, h1, h2, h3⟩ := parts_ (H' := VG.nl H H') sW ys hin
          exact qq _ (.tuple es) (.tup (sqT_nl gA (Same.seqT s' (sqT_wo h hpel))) h1) ((okM.tup h2 (by omega)).mono (by omega) (by omega))
        simp only [List.mem_cons, List.not_mem_nil, or_false] at hx
        rcases hx with rfl | rfl | rfl | rfl | rfl | rfl | rfl | rfl
        · obtain ⟨es, h1, h2, h3⟩ := parts_ (H' := VG.nl H H') sW xs fun x hx => .inl hx
          have f1 := (((((((u2.trans u3).trans u4).trans u5).trans u6).trans u7).trans u8).trans u9).trans ul
          exact qq _ (.list es) (.lst (SqL.of ((nl_new (nl_fresh g1 ne1 (hp1.ne ne1))).trans (wo_le _ _ (s' _ _ (wo_at (f1 _ _ upd_same) (hp1.ne ne1)))))) h1) ((okM.lst h2 (by omega)).mono (by omega) (by omega))
        · exact T (Same.seqT (((((((u3.trans u4).trans u5).trans u6).trans u7).trans u8).trans u9).trans ul) hy2) (fun y hy => .inl (in2 y hy)) (by omega)
        · exact T (Same.seqT ((((((u4.trans u5).trans u6).trans u7).trans u8).trans u9).trans ul) hy3) (fun y hy => .inl (in3 y hy)) (by omega)
        · refine T (Same.seqT ((((u6.trans u7).trans u8).trans u9).trans ul) hy5) (fun y hy => ?_) ?_
          · exact (List.mem_append.mp hy).elim .inl fun z => .inl (in4 y z)
          · -- value + value[-1:]
            rw [List.length_append]
            omega
        · exact T (Same.seqT (((u7.trans u8).trans u9).trans ul) (SqT.of upd_same)) (fun y hy => .inl (in6 y hy)) (by omega)
        · exact T (Same.seqT ((u8.trans u9).trans ul) (SqT.of upd_same)) (fun y hy => (List.not_mem_nil hy).elim) (by show 0 ≤ 8; omega)
        · exact qq _ .none .non (okM.non.mono (by omega) (by omega))
        · exact T (Same.seqT ul hy9) (fun y hy => (List.mem_append.mp hy).elim (fun z => .inl z) fun z => .inr (List.mem_singleton.mp z)) (by rw [List.length_append]; show _ + 1 ≤ 8; omega)
end
end K33

set_option maxRecDepth 100000
set_option maxHeartbeats 8000000
/-! k33: the law's loads. -/
namespace K33
open PySem PySem.Spec PyProof.Rows L2 LamX VG TL
theorem scLoadsText : FnScope ["jobs", "number", "job"] ["jobs"] (defScope sLoadsText) := ⟨rfl, rfl, rfl, by decide +kernel, rfl, by decide +kernel, by decide +kernel⟩
theorem scLoadsDrawn : FnScope ["pot", "most", "many", "ranks", "found", "rank", "every", "work"] ["pot", "most"] (defScope sLoadsDrawn) := ⟨rfl, rfl, rfl, by decide +kernel, rfl, by decide +kernel, by decide +kernel⟩
theorem jobV_strs (j : Job) : jobW j = ("job" : Str) :: (([j.1, j.2.1, j.2.2] : List Int).map strN) := rfl
section
variable {P : Program} {w : World} {K : PySem.W.Frag} {mg : Str → Option Value} {base : Heap}
def spLoadsText (K : PySem.W.Frag) : Sp := fun vs H Q _ => ∃ (l : Addr) (xs : List V) (js : List Job), vs = [.ref l] ∧ SqL K H l xs ∧ JobsAt K H xs js ∧ GoodJ js ∧ ∀ H', Same H H' → Q (.str (loadsT js)) H'
theorem ok_LoadsText {k : Nat} {f : Addr} {fd : FuncData}  (F : Fun K "_law_loads_text" "_law_loads_text" sLoadsText f fd)   (fint : mg "int" = none) (fstr : mg "str" = none) : FnOk P w K mg base CX0 (k + 1) f fd ["jobs"] (spLoadsText K) := by
  refine F.ok scLoadsText (fun vs H Q E h => ?_) (fun cdv A outer s H vs Q E hr h => ?_)
  · obtain ⟨l, xs, js, rfl, _⟩ := h
    rfl
  · obtain ⟨l, xs, js, rfl, hl, hj, g, q⟩ := h
    refine ⟨_, (pss_one (ps_ret (pe_join pe_str (pe_lc (own := [("job", 2)]) (g := (gName 2)) (tt := tYes) rfl scLoadsText.nd (pi_list (pv 0)) (blkOk_by (N := ["jobs", "number", "job"]) (sc := defScope sLoadsText) (by decide +kernel)) (fun _ _ _ _ _ => (pg_name (i := 2) scLoadsText.nd rfl (.inl rfl))) (fun _ _ _ _ _ => pts_nil) (fun _ _ _ _ _ => (show PE _ _ (tM1 (rJoinK K) _ _) from (pe_join pe_str (pe_op op_cat (pe_lst (pa_cons pe_str pa_nil)) (pe_lc (own := [("number", 1)]) (g := (gName 1)) (tt := tYes) rfl scLoadsText.nd (show PI _ _ _ (iTup K _) from (pi_tup (pv 2))) (blkOk_by (by kernel_rfl)) (fun _ _ _ _ _ => (pg_name (i := 1) scLoadsText.nd rfl (.inl rfl))) (fun _ _ _ _ _ => pts_nil) (fun _ _ _ _ _ => (pe_callTy call_str_int (by rfl) fstr (by decide +kernel) (pa_cons (pe_callTy call_int1 (by rfl) fint (by decide +kernel) (pa_cons (pv 1) pa_nil)) pa_nil)))))))))))), ?_⟩
    have hxl := hj.1
    have hfew := g.few
    refine ⟨⟨_, rfl⟩, .ref l, rfl, l, rfl, ⟨_, hl⟩, fun D nD => ?_⟩
    refine lc_list (xs := xs) (fun i H' => Same H H' ∧ H' D = some (.lst (((js.take i).map jobT).map V.str))) ⟨same_upd nD, upd_same⟩ (fun i H' _ hP => hP.1.seq hl) (fun i x H' hx hP => ?_) fun H1 hP => ?_
    · obtain ⟨sm, hD⟩ := hP
      have hi := (List.getElem?_eq_some_iff.mp hx).1
      have hget : js[i]? = some js[i] := List.getElem?_eq_getElem (by omega)
      obtain ⟨p, e1, e2⟩ := hj.2 i _ hget
      cases Option.some.inj (hx.symm.trans e1)
      have hjo := g.job (List.getElem_mem (show i < js.length by omega))
      have et : js.take (i + 1) = js.take i ++ [js[i]] := by rw [List.take_add_one, hget]; rfl
      generalize js[i] = j at hjo et e2 hget
      have hev := hjo.ev
      have hrk := hjo.rk
      have hwk := hjo.wk
      have hb : ∀ n ∈ [j.1, j.2.1, j.2.2], 0 ≤ n ∧ n < 1000 := fun n hn => by
        simp only [List.mem_cons, List.not_mem_nil, or_false] at hn
        rcases hn with rfl | rfl | rfl <;> omega
      have e2' : SqT K H' p ([j.1, j.2.1, j.2.2].map V.int) := Same.seqT sm e2
      generalize hns : [j.1, j.2.1, j.2.2] = ns at hb e2'
      have hnl : ns.length = 3 := by rw [← hns]; rfl
      refine ⟨rfl, yesT ?_⟩
      refine ⟨⟨_, rfl⟩, by show 1 ≤ sizeLine; decide, fun A nA => ?_⟩
      have sA := same_upd (o := .lst [V.str "job"]) nA
      have hA : upd H' A (.lst [V.str "job"]) A = some (.lst [V.str "job"]) := upd_same
      have hD1 := sA _ _ hD
      have e3 := Same.seqT sA e2'
      generalize upd H' A (.lst [V.str "job"]) = H2 at sA hA hD1 e3 ⊢
      refine ⟨.ref p, rfl, p, rfl, ⟨_, e3⟩, fun B nB => ?_⟩
      have nBA : B ≠ A := by rintro rfl; rw [nB] at hA; cases hA
      refine lc_tup (xs := ns.map V.int) (fun m H3 => Same H2 H3 ∧ H3 B = some (.lst (((ns.take m).map strN).map V.str))) ⟨same_upd nB, upd_same⟩ (fun m H3 _ hP => Same.seqT hP.1 e3) (fun m x H3 hx hP => ?_) fun H3 hP => ?_
      · obtain ⟨s3, hB⟩ := hP
        have hm := (List.getElem?_eq_some_iff.mp hx).1
        rw [List.length_map] at hm
        have hget2 : ns[m]? = some ns[m] := List.getElem?_eq_getElem hm
        rw [List.getElem?_map, hget2] at hx
        obtain rfl : V.int ns[m] = x := Option.some.inj hx
        have hbm := hb _ (List.getElem_mem hm)
        have et2 : ns.take (m + 1) = ns.take m ++ [ns[m]] := by rw [List.take_add_one, hget2]; rfl
        generalize ns[m] = n at hbm et2
        refine ⟨rfl, ?_⟩
        unfold tYes
        refine iteT ⟨.int n, rfl, .inl ⟨n, rfl, n, rfl, log2_small (by have : n.natAbs < 1000 := by omega
                                                                       omega), _, hB, small1000 (by rw [List.length_map, List.length_map, List.length_take]; omega), Same.updNew s3 nB, ?_⟩⟩
        rw [upd_same, et2, List.map_append, List.map_append]
        rfl
      · obtain ⟨s3, hB⟩ := hP
        rw [List.length_map, List.take_length] at hB
        refine ⟨A, B, _, _, rfl, rfl, s3 _ _ hA, hB, sl (by rw [List.length_map, List.length_map]; show 1 + _ ≤ 1000; omega), fun C nC => ?_⟩
        have ew : [V.str "job"] ++ (ns.map strN).map V.str = (jobW j).map V.str := by rw [jobV_strs, hns]; rfl
        rw [ew]
        have sC := same_upd (o := .lst ((jobW j).map V.str)) nC
        have hD3 := sC _ _ (s3 _ _ hD1)
        have smC := sm.trans (sA.trans (s3.trans sC))
        refine ⟨" ", C, jobW j, rfl, rfl, .inl (SqL.of upd_same), ?_, ?_⟩
        · have h6 := jobW_sum hjo
          have h7 : (" " : Str).length = 1 := by decide
          have h8 : (jobW j).length = 4 := rfl
          show _ ≤ _
          rw [h7, h8]
          omega
        · refine ⟨_, hD3, small1000 (by rw [List.length_map, List.length_map, List.length_take]; omega), Same.updNew smC nD, ?_⟩
          rw [upd_same, et, List.map_append, List.map_append]
          rfl
    · obtain ⟨sm, hD⟩ := hP
      rw [hxl, List.take_length] at hD
      refine ⟨"\n", D, js.map jobT, rfl, rfl, .inl (SqL.of hD), ?_, q _ sm⟩
      have h1 := loads_sum g
      have h7 : ("\n" : Str).length = 1 := by decide
      show _ ≤ _
      rw [h7, List.length_map]
      omega
theorem sqT_car {H H' : Hp} {p a : Addr} {n : Nat} {ys : List V} (hp : Pot H p n) (s : Same (wo H p) (wo H' p)) (h : SqT K H a ys) : SqT K H' a ys := by
  obtain ⟨xs, e⟩ := pot_lst hp
  exact Same.seqT wo_le (Same.seqT s (sqT_wo h e))
theorem jobs_car {H H' : Hp} {p : Addr} {n : Nat} {xs : List V} {js : List Job} (hp : Pot H p n) (s : Same (wo H p) (wo H' p)) (h : JobsAt K H xs js) : JobsAt K H' xs js := ⟨h.1, fun i r e => let ⟨q, e1, e2⟩ := h.2 i r e; ⟨q, e1, sqT_car hp s e2⟩⟩
theorem none_wo {H H' : Hp} {p x : Addr} (s : Same (wo H p) (wo H' p)) (hx : H' x = none) (ne : x ≠ p) : H x = none := by
  cases e : H x with
  | none => rfl
  | some o =>
    have := s x o (wo_at e ne)
    rw [wo_ne ne, hx] at this
    cases this
theorem nodup_ints {ys zs : List V} {m : Nat} (h : (ys ++ zs).Perm (natsV (List.range m))) : ∃ ns : List Nat, ys = natsV ns ∧ ns.Nodup ∧ ∀ n ∈ ns, n < m := by
  have key : ∀ (l : List V), (∀ x ∈ l, x ∈ natsV (List.range m)) → ∃ ns : List Nat, l = natsV ns ∧ ∀ n ∈ ns, n < m := by
    intro l
    induction l with
    | nil => exact fun _ => ⟨[], rfl, fun n h => by cases h⟩
    | cons a r ih =>
      intro h
      obtain ⟨ns, rfl, hn⟩ := ih fun x hx => h x (List.mem_cons_of_mem _ hx)
      obtain ⟨i, hi, rfl⟩ := List.mem_map.mp (h a (List.mem_cons_self ..))
      exact ⟨i :: ns, rfl, fun n hx => (List.mem_cons.mp hx).elim (fun e => e ▸ List.mem_range.mp hi) (hn n)⟩
  obtain ⟨ns, rfl, hn⟩ := key ys fun x hx => h.mem_iff.mp (List.mem_append_left _ hx)
  refine ⟨ns, rfl, ?_, hn⟩
  have nd : (natsV (List.range m)).Nodup := List.Pairwise.map _ (fun a b hab z => hab (by have := V.int.inj z; omega)) List.nodup_range
  have nd2 := (List.nodup_append.mp (h.nodup_iff.mpr nd)).1
  unfold natsV at nd2
  rw [List.Nodup, List.pairwise_map] at nd2
  exact List.Pairwise.imp (fun h z => h (by rw [z])) nd2
def spLoadsDrawn (K : PySem.W.Frag) : Sp := fun vs H Q _ => ∃ (p : Addr) (n : Nat), vs = [.ref p, .int 5] ∧ Pot H p n ∧ n < 900000 ∧ ∀ H' l xs js, Pot H' p (n + 40) → Same (wo H p) (wo H' p) → H' l = some (.lst xs) → l ≠ p → JobsAt K H' xs js → GoodJ js → Q (.ref l) H'
theorem ok_LoadsDrawn {k : Nat} {f : Addr} {fd : FuncData}  (F : Fun K "_law_loads_drawn" "_law_loads_drawn" sLoadsDrawn f fd) (gTa : Cal P w K mg base CX0 (k + 3) "_law_take" ["pot", "upto"] spTake) (gOf : Cal P w K mg base CX0 (k + 3) "_law_of" ["pot", "some"] (spOf K)) (gSo : Cal P w K mg base CX0 (k + 3) "_law_some" ["pot", "pool", "many"] (spSome K))  (flist : mg "list" = none) (fmax : mg "max" = none) (frange : mg "range" = none) : FnOk P w K mg base CX0 (k + 4) f fd ["pot", "most"] (spLoadsDrawn K) := by
  obtain ⟨fTa, fdTa, GTa, kTa, bTa, mTa⟩ := gTa
  obtain ⟨fOf, fdOf, GOf, kOf, bOf, mOf⟩ := gOf
  obtain ⟨fSo, fdSo, GSo, kSo, bSo, mSo⟩ := gSo
  refine F.ok scLoadsDrawn (fun vs H Q E h => ?_) (fun cdv A outer s H vs Q E hr h => ?_)
  · obtain ⟨p, n, rfl, _⟩ := h
    rfl
  · obtain ⟨p, n, rfl, hp, hn, q⟩ := h
    refine ⟨_, (pss_cons (ps_set (i := 2) scLoadsDrawn.nd rfl (.inl rfl) (pe_op op_add pe_int (pe_call GTa hr (by rfl) mTa kTa bTa .nil pass0 (pa_cons (pv 0) (pa_cons (pv 1) pa_nil))))) (pss_cons (ps_par (i := 3) (j := 4) (by rfl) scLoadsDrawn.nd rfl rfl (by decide) rfl rfl (pa_cons (pe_call GSo hr (by rfl) mSo kSo bSo .nil pass0 (pa_cons (pv 0) (pa_cons (pe_listRg rfl (by rfl) flist (prg_1 (by rfl) frange pe_int)) (pa_cons (pv 2) pa_nil)))) (pa_cons (pe_lst pa_nil) pa_nil)) (by rfl)) (pss_cons (ps_for PassesOwn.never rfl (pi_list (pv 3)) (pg_name (i := 5) scLoadsDrawn.nd rfl (.inl rfl)) (pss_cons (ps_set (i := 6) scLoadsDrawn.nd rfl (.inl rfl) (pe_call GOf hr (by rfl) mOf kOf bOf .nil pass0 (pa_cons (pv 0) (pa_cons (pe_lst (pa_cons pe_int (pa_cons pe_int (pa_cons pe_int (pa_cons pe_int (pa_cons pe_int (pa_cons pe_int (pa_cons pe_int (pa_cons pe_int (pa_cons pe_int (pa_cons pe_int pa_nil))))))))))) pa_nil)))) (pss_cons (ps_set (i := 7) scLoadsDrawn.nd rfl (.inl rfl) (pe_ifExp (pt_cmpR op_gt (pe_call GTa hr (by rfl) mTa kTa bTa .nil pass0 (pa_cons (pv 0) (pa_cons pe_int pa_nil))) pe_int (nomark _)) (pe_op op_add pe_int (pe_call GTa hr (by rfl) mTa kTa bTa .nil pass0 (pa_cons (pv 0) (pa_cons (pe_callB (call_max2 rfl) (by rfl) fmax (by decide +kernel) (pa_cons pe_int (pa_cons (pe_op op_fdiv (pv 6) (pv 2)) pa_nil))) pa_nil)))) (pe_op op_add pe_int (pe_call GTa hr (by rfl) mTa kTa bTa .nil pass0 (pa_cons (pv 0) (pa_cons (pv 6) pa_nil)))))) (pss_one (ps_expr (pe_bm PySem.F.plainAttrs_list PySem.F.slot_list_append PySem.F.type_list_append mt_append (pv 4) (pa_cons (pe_tup (pa_cons (pv 6) (pa_cons (pv 5) (pa_cons (pv 7) pa_nil)))) pa_nil))))))) (pss_one (ps_ret (pv 4)))))), ?_⟩
    refine ⟨.ref p, rfl, .int 5, rfl, p, 5, n, rfl, by decide, by decide, hp, by omega, fun d H1 d0 d1 hp1 s1 => ⟨1, d, rfl, rfl, ?_⟩⟩
    obtain ⟨mm, hmm, m1, m5⟩ : ∃ mm : Nat, 1 + d = (mm : Nat) ∧ 1 ≤ mm ∧ mm ≤ 5 := ⟨(1 + d).toNat, by omega, by omega, by omega⟩
    show gName 2 (V.int (1 + d)) _ _ _
    rw [hmm]
    refine ⟨.ref p, rfl, 8, rfl, RgOk.of_le (by omega) (by omega) (by omega) (by omega), fun L nL => ?_⟩
    rw [show rgV 0 8 = natsV (List.range 8) from rgV_nats 8]
    have sL := same_upd (o := .lst (natsV (List.range 8))) nL
    have pL := hp1.ne nL
    refine ⟨.int (mm : Nat), rfl, p, L, natsV (List.range 8), mm, n + 1, rfl, SqL.of (wo_at upd_same pL), by rw [natsV_len, List.length_range]; omega, by decide, hp1.same sL, by omega, fun H2 S ys hp2 s2 hS hyl hym hpm => ?_⟩
    obtain ⟨zs, hpm⟩ := hpm
    obtain ⟨rs, rfl, rnd, rlt⟩ := nodup_ints hpm
    rw [natsV_len] at hyl
    have sw2 := s1.trans ((wo_same_of sL).trans s2)
    have hS2 := wo_le _ _ hS
    have nSp : S ≠ p := fun z => by rw [z, wo_same] at hS; cases hS
    refine ⟨by show 0 ≤ sizeLine; decide, fun F nF => ⟨.ref S, .ref F, rfl, ?_⟩⟩
    have sF := same_upd (o := .lst []) nF
    have pF := hp2.ne nF
    have nSF : S ≠ F := by rintro rfl; rw [hS2] at nF; cases nF
    have nF0 : H F = none := none_wo sw2 nF pF
    refine ⟨.ref S, rfl, S, rfl, ⟨_, SqL.of (sF _ _ hS2)⟩, ?_⟩
    refine for_list (xs := natsV rs) (fun i σ H' => ∃ y5 y6 y7 xs js, σ = [some (.ref p), some (.int 5), some (.int (mm : Nat)), some (.ref S), some (.ref F), y5, y6, y7] ∧ Pot H' p (n + 1 + mm + 3 * i) ∧ Same (wo H p) (wo H' p) ∧ H' S = some (.lst (natsV rs)) ∧ H' F = some (.lst xs) ∧ JobsAt K H' xs js ∧ js.length = i ∧ (∀ j ∈ js, (1 ≤ j.1 ∧ j.1 ≤ 99) ∧ (1 ≤ j.2.2 ∧ j.2.2 ≤ j.1)) ∧ js.map (·.2.1) = (rs.take i).map fun r => ((r : Nat) : Int))
      ⟨none, none, none, [], [], rfl, hp2.same sF, sw2.trans (wo_same_of sF), sF _ _ hS2, upd_same, ⟨rfl, fun i r e => by cases e⟩, rfl, (fun j hj => by cases hj), rfl⟩ (fun i σ H' _ hP => ?_) (fun i x σ H' hx hP => ?_) fun σ H' hP => ?_
    · obtain ⟨_, _, _, _, _, _, _, _, hS, _⟩ := hP
      exact SqL.of hS
    · obtain ⟨y5, y6, y7, xs, js, rfl, hp', sw, hS, hF, hj, hjl, hok, hrk⟩ := hP
      have hi := (List.getElem?_eq_some_iff.mp hx).1
      rw [natsV_len] at hi
      have hget : rs[i]? = some rs[i] := List.getElem?_eq_getElem hi
      unfold natsV at hx
      rw [List.getElem?_map, hget] at hx
      obtain rfl : V.int ((rs[i] : Nat) : Int) = x := Option.some.inj hx
      have et : rs.take (i + 1) = rs.take i ++ [rs[i]] := by rw [List.take_add_one, hget]; rfl
      generalize rs[i] = r at et
      refine ⟨.ref p, rfl, by show 10 ≤ sizeLine; decide, fun E1 nE => ?_⟩
      have sE := same_upd (o := .lst [V.int 4, .int 5, .int 6, .int 7, .int 8, .int 10, .int 12, .int 20, .int 30, .int 99]) nE
      have pE := hp'.ne nE
      refine ⟨p, E1, [V.int 4, .int 5, .int 6, .int 7, .int 8, .int 10, .int 12, .int 20, .int 30, .int 99], _, rfl, SqL.of (wo_at upd_same pE), by simp, by decide, hp'.same sE, by omega, fun x hx H3 hp3 s3 => ?_⟩
      obtain ⟨ev, rfl, ev4, ev99⟩ : ∃ ev : Int, x = .int ev ∧ 4 ≤ ev ∧ ev ≤ 99 := by
        simp only [List.mem_cons, List.not_mem_nil, or_false] at hx
        rcases hx with rfl | rfl | rfl | rfl | rfl | rfl | rfl | rfl | rfl | rfl <;> exact ⟨_, rfl, by decide, by decide⟩
      have sw3 := sw.trans ((wo_same_of sE).trans s3)
      have car : ∀ {H1 H2 : Hp} {b : Addr} {o : HO}, Same (wo H1 p) (wo H2 p) → b ≠ p → H1 b = some o → H2 b = some o := fun s ne e => wo_le _ _ (s _ _ (wo_at e ne))
      have g3 := (wo_same_of (a := p) sE).trans s3
      have hj3 := jobs_car hp' g3 hj
      have hF3 := car g3 pF hF
      have hS3 := car g3 nSp hS
      -- the work
      dsimp only [gName, tSeq, tAsg]
      refine val_any (fun v H5 => ∃ wk : Int, v = .int wk ∧ 1 ≤ wk ∧ wk ≤ ev ∧ Pot H5 p (n + 1 + mm + 3 * i + 1 + 1 + 1) ∧ Same (wo H3 p) (wo H5 p)) (fun R q => ?_) fun v H5 h => ?_
      · refine ⟨.ref p, rfl, p, 3, _, rfl, by decide, by decide, hp3, by omega, fun c H4 c0 c1 hp4 s4 => ⟨c, 0, rfl, rfl, _, rfl, ?_⟩⟩
        by_cases hc : c > 0
        · refine iteD hc ⟨.ref p, rfl, .int ev, rfl, .int (mm : Nat), rfl, ev, (mm : Nat), rfl, rfl, ⟨by omega, by omega⟩, 1, _, rfl, ?_⟩
          have hdiv : 0 ≤ ev / ((mm : Nat) : Int) ∧ ev / ((mm : Nat) : Int) ≤ ev := by
            refine ⟨Int.ediv_nonneg (by omega) (by omega), Int.ediv_le_self _ (by omega)⟩
          refine ⟨p, _, _, rfl, ?_, ?_, hp4, by omega, fun u H5 u0 u1 hp5 s5 => ⟨1, u, rfl, rfl, q _ _ ⟨_, rfl, by omega, ?_, hp5, s4.trans s5⟩⟩⟩
          · split <;> omega
          · split <;> omega
          · split at u1 <;> omega
        · refine iteE hc ⟨.ref p, rfl, .int ev, rfl, p, ev, _, rfl, by omega, by omega, hp4, by omega, fun u H5 u0 u1 hp5 s5 => ⟨1, u, rfl, rfl, q _ _ ⟨_, rfl, by omega, by omega, hp5, s4.trans s5⟩⟩⟩
      · obtain ⟨wk, rfl, w0, w1, hp5, s5⟩ := h
        have hj5 := jobs_car hp3 s5 hj3
        have hF5 := car s5 pF hF3
        have hS5 := car s5 nSp hS3
        refine ⟨.ref F, rfl, .inl ⟨rfl, _, SqL.of hF5⟩, .int ev, rfl, .int (r : Nat), rfl, .int wk, rfl, by show 3 ≤ sizeLine; decide, fun T1 nT => ?_⟩
        have sT := same_upd (o := .tup [V.int ev, .int (r : Nat), .int wk]) nT
        have hT : SqT K (upd H5 T1 (.tup [V.int ev, .int (r : Nat), .int wk])) T1 (jobV (ev, ((r : Nat) : Int), wk)) := SqT.of upd_same
        have hF6 := sT _ _ hF5
        have hS6 := sT _ _ hS5
        have hj6 := jobs_same sT hj5
        have hp6 := hp5.same sT
        have sw6 := sw3.trans (s5.trans (wo_same_of sT))
        generalize upd H5 T1 (.tup [V.int ev, .int (r : Nat), .int wk]) = H6 at hT hF6 hS6 hj6 hp6 sw6 ⊢
        have hjl2 := hj6.1
        refine ⟨F, _, _, rfl, rfl, hF6, small1000 (by omega), ?_⟩
        refine ⟨_, _, _, xs ++ [.ref T1], js ++ [(ev, ((r : Nat) : Int), wk)], rfl, (hp6.upd pF).mono (by omega), wo_updNew sw6 nF0, by rw [upd_ne nSF]; exact hS6, upd_same, jobs_snoc (jobs_list hF6 hj6) (sqT_upd hT hF6), by rw [List.length_append, hjl]; rfl, fun j h => ?_, ?_⟩
        · rcases List.mem_append.mp h with h | h
          · exact hok j h
          · rw [List.mem_singleton.mp h]
            exact ⟨⟨by show 1 ≤ ev; omega, ev99⟩, w0, w1⟩
        · rw [List.map_append, hrk, et, List.map_append]
          rfl
    · obtain ⟨y5, y6, y7, xs, js, rfl, hp', sw, hS, hF, hj, hjl, hok, hrk⟩ := hP
      rw [natsV_len] at hp' hjl hrk
      rw [List.take_length] at hrk
      refine ⟨.ref F, rfl, q H' F xs js (hp'.mono (by omega)) sw hF pF hj ⟨fun z => by rw [z] at hjl; have : rs.length = 0 := hjl.symm; omega, by omega, fun j h => (hok j h).1, fun j h => (hok j h).2, fun j h => ?_, ?_⟩⟩
      · have : j.2.1 ∈ js.map (·.2.1) := List.mem_map_of_mem (f := fun j : Job => j.2.1) h
        rw [hrk] at this
        obtain ⟨x, hx, e⟩ := List.mem_map.mp this
        have := rlt x hx
        omega
      · rw [hrk]
        exact List.Pairwise.map _ (fun a b hab z => hab (by omega)) rnd
end
end K33

set_option maxRecDepth 100000
set_option maxHeartbeats 8000000
/-! k33: the law's own answer times; all sequences. -/
namespace K33
open PySem PySem.Spec PyProof.Rows L2 LamX VG TL
abbrev sLongestL : Stmt := sLongest
abbrev sLongestT : Stmt := sLongest
abbrev sFitsL : Stmt := sFits
abbrev sFitsT : Stmt := sFits
theorem scLongestL : FnScope ["jobs", "mine", "others", "ticks", "due", "other"] ["jobs", "mine", "others"] (defScope sLongestL) := ⟨rfl, rfl, rfl, by decide +kernel, rfl, by decide +kernel, by decide +kernel⟩
theorem scLongestT : FnScope ["jobs", "mine", "others", "ticks", "due", "other"] ["jobs", "mine", "others"] (defScope sLongestT) := ⟨rfl, rfl, rfl, by decide +kernel, rfl, by decide +kernel, by decide +kernel⟩
theorem scFitsL : FnScope ["jobs", "within", "mine", "others", "ticks"] ["jobs", "within", "mine", "others"] (defScope sFitsL) := ⟨rfl, rfl, rfl, by decide +kernel, rfl, by decide +kernel, by decide +kernel⟩
theorem scFitsT : FnScope ["jobs", "within", "mine", "others", "ticks"] ["jobs", "within", "mine", "others"] (defScope sFitsT) := ⟨rfl, rfl, rfl, by decide +kernel, rfl, by decide +kernel, by decide +kernel⟩
theorem sumL_step {js : List Job} {t : Int} {os : List Nat} {i o : Nat} (h : os[i]? = some o) : sumL js t (os.take (i + 1)) = sumL js t (os.take i) + wkJ js o * ceilI t (evJ js o) := by
  have et : os.take (i + 1) = os.take i ++ [o] := by rw [List.take_add_one, h]; rfl
  rw [et, sumL_app]
  show _ + (_ + 0) = _
  rw [Int.add_zero]
section
variable {P : Program} {w : World} {K : PySem.W.Frag} {mg : Str → Option Value} {base : Heap}
def spLongL (K : PySem.W.Frag) : Sp := fun vs H Q _ => ∃ (l o : Addr) (xs : List V) (js : List Job) (m : Nat) (os : List Nat), vs = [.ref l, .int (m : Nat), .ref o] ∧ SqL K H l xs ∧ JobsAt K H xs js ∧ GoodJ js ∧ m < js.length ∧ SqL K H o (natsV os) ∧ Oth js os ∧ Q (optI (lng js m fun x => decide (x ∈ os))) H
theorem ok_LongestL {k : Nat} {f : Addr} {fd : FuncData}  (F : Fun K "_law_longest" "_law_longest" sLongestL f fd)   (fint : mg "int" = none) : FnOk P w K mg base CX0 (k + 1) f fd ["jobs", "mine", "others"] (spLongL K) := by
  refine F.ok scLongestL (fun vs H Q E h => ?_) (fun cdv A outer s H vs Q E hr h => ?_)
  · obtain ⟨l, o, xs, js, m, os, rfl, _⟩ := h
    rfl
  · obtain ⟨l, o, xs, js, m, os, rfl, hl, hj, g, hm, ho, oth, q⟩ := h
    refine ⟨_, (pss_cons (ps_set (i := 3) scLongestL.nd rfl (.inl rfl) (pe_ix ix_tup (pe_ix ix_list (pv 0) (pv 1) (fun _ _ => rfl)) pe_int (fun _ _ => rfl))) (pss_cons (ps_while PassesOwn.never (pt_cmpR op_le (pv 3) (pe_ix ix_tup (pe_ix ix_list (pv 0) (pv 1) (fun _ _ => rfl)) pe_int (fun _ _ => rfl)) (nomark _)) (pss_cons (ps_set (i := 4) scLongestL.nd rfl (.inl rfl) (pe_ix ix_tup (pe_ix ix_list (pv 0) (pv 1) (fun _ _ => rfl)) pe_int (fun _ _ => rfl))) (pss_cons (ps_for PassesOwn.never rfl (pi_list (pv 2)) (pg_name (i := 5) scLongestL.nd rfl (.inl rfl)) (pss_one (ps_set (i := 4) scLongestL.nd rfl (.inl rfl) (pe_op op_add (pv 4) (pe_op op_mul (pe_ix ix_tup (pe_ix ix_list (pv 0) (pv 5) (fun _ _ => rfl)) pe_int (fun _ _ => rfl)) (pe_callTy call_int1 (by rfl) fint (by decide +kernel) (pa_cons (pe_un un_neg (pe_op op_fdiv (pe_un un_neg (pv 3)) (pe_ix ix_tup (pe_ix ix_list (pv 0) (pv 5) (fun _ _ => rfl)) pe_int (fun _ _ => rfl)))) pa_nil))))))) (pss_cons (ps_if (pt_cmpR op_eq (pv 4) (pv 3) (nomark _)) (pss_one (ps_ret (pv 3))) pss_nil) (pss_one (ps_set (i := 3) scLongestL.nd rfl (.inl rfl) (pv 4))))))) (pss_one (ps_ret pe_non)))), ?_⟩
    obtain ⟨a, e1, e2⟩ := hj.at hm
    have hev := g.evb m
    refine ⟨.ref l, rfl, .int (m : Nat), rfl, l, _, _, .ref a, rfl, rfl, hl, e1, a, _, 2, .int (wkJ js m), rfl, rfl, e2, at2, ?_⟩
    refine ⟨fun c σ H' => ∃ t y4 y5 f, σ = [some (.ref l), some (.int (m : Nat)), some (.ref o), some (.int t), y4, y5] ∧ H' = H ∧ 0 ≤ t ∧ t ≤ stepP js m (fun x => decide (x ∈ os)) t ∧ lngF js m (fun x => decide (x ∈ os)) f t = lng js m (fun x => decide (x ∈ os)) ∧ 99 - t < (f : Nat) ∧ c = (100 - t).toNat,
      ⟨_, _, none, none, 101, rfl, rfl, (g.wkb m).1, stepP_first g, rfl, by have := (g.wkb m).1; omega, rfl⟩, fun c σ H1 hW => ?_⟩
    obtain ⟨t, y4, y5, f, rfl, rfl, ht0, hts, hlf, hf, rfl⟩ := hW
    refine ⟨.int t, rfl, .ref l, rfl, .int (m : Nat), rfl, l, _, _, .ref a, rfl, rfl, hl, e1, a, _, 0, .int (evJ js m), rfl, rfl, e2, at0, _, _, rfl, rfl, _, rfl, ?_⟩
    by_cases hte : t ≤ evJ js m
    · refine iteD hte ⟨fun σ' H' => ∃ c', c' < (100 - t).toNat ∧ ∃ t y4 y5 f, σ' = [some (.ref l), some (.int (m : Nat)), some (.ref o), some (.int t), y4, y5] ∧ H' = H1 ∧ 0 ≤ t ∧ t ≤ stepP js m (fun x => decide (x ∈ os)) t ∧ lngF js m (fun x => decide (x ∈ os)) f t = lng js m (fun x => decide (x ∈ os)) ∧ 99 - t < (f : Nat) ∧ c' = (100 - t).toNat, fun σ' H' h => h, ?_⟩
      refine ⟨.ref l, rfl, .int (m : Nat), rfl, l, _, _, .ref a, rfl, rfl, hl, e1, a, _, 2, .int (wkJ js m), rfl, rfl, e2, at2, ?_⟩
      refine ⟨.ref o, rfl, o, rfl, ⟨_, ho⟩, ?_⟩
      refine for_list (xs := natsV os) (fun i σ H' => ∃ y5, σ = [some (.ref l), some (.int (m : Nat)), some (.ref o), some (.int t), some (.int (wkJ js m + sumL js t (os.take i))), y5] ∧ H' = H1)
        ⟨y5, by rw [List.take_zero]; show _ = [_, _, _, _, some (V.int (wkJ js m + 0)), _]; rw [Int.add_zero]; rfl, rfl⟩ (fun i σ H' _ hP => by obtain ⟨_, _, rfl⟩ := hP; exact ho) (fun i x σ H' hx hP => ?_) fun σ H' hP => ?_
      · obtain ⟨y5, rfl, rfl⟩ := hP
        have hi := (List.getElem?_eq_some_iff.mp hx).1
        rw [natsV_len] at hi
        have hget : os[i]? = some os[i] := List.getElem?_eq_getElem hi
        unfold natsV at hx
        rw [List.getElem?_map, hget] at hx
        obtain rfl : V.int ((os[i] : Nat) : Int) = x := Option.some.inj hx
        have hjo := oth.lt _ (List.getElem_mem hi)
        have es := sumL_step (js := js) (t := t) hget
        generalize os[i] = j at hjo es
        obtain ⟨b, d1, d2⟩ := hj.at hjo
        have hwj := g.wkb j
        have hej := g.evb j
        refine ⟨.int _, rfl, .ref l, rfl, .int (j : Nat), rfl, l, _, _, .ref b, rfl, rfl, hl, d1, b, _, 2, .int (wkJ js j), rfl, rfl, d2, at2, .int t, rfl, t, rfl, .ref l, rfl, .int (j : Nat), rfl, l, _, _, .ref b, rfl, rfl, hl, d1, b, _, 0, .int (evJ js j), rfl, rfl, d2, at0, -t, evJ js j, rfl, rfl, ⟨by omega, by omega⟩, _, rfl, .inl ⟨_, rfl, wkJ js j, _, rfl, rfl, .inl ⟨by omega, by omega⟩, _, _, rfl, rfl, some (.int (j : Nat)), ?_, rfl⟩⟩
        rw [es, ← ceil_neg (by omega : 0 < evJ js j), ← Int.add_assoc]
        rfl
      · obtain ⟨y5, rfl, rfl⟩ := hP
        rw [natsV_len, List.take_length]
        have es : wkJ js m + sumL js t os = stepP js m (fun x => decide (x ∈ os)) t := stepP_sum oth m t
        refine ⟨.int (wkJ js m + sumL js t os), rfl, .int t, rfl, rfl, _, rfl, ?_⟩
        rw [es]
        by_cases hst : stepP js m (fun x => decide (x ∈ os)) t = t
        · refine iteD (congrArg V.int hst) ⟨.int t, rfl, ?_⟩
          have e : lng js m (fun x => decide (x ∈ os)) = some t := by
            rw [← hlf]
            cases f with
            | zero => have := hev.2; omega
            | succ f =>
              unfold lngF
              rw [if_pos hte, if_pos hst]
          rw [e] at q
          exact q
        · refine iteE (fun y => hst (V.int.inj y)) ⟨.int (stepP js m (fun x => decide (x ∈ os)) t), rfl, ?_⟩
          have e : ∃ f', lngF js m (fun x => decide (x ∈ os)) f' (stepP js m (fun x => decide (x ∈ os)) t) = lng js m (fun x => decide (x ∈ os)) ∧ 99 - t < (f' : Nat) + 1 := by
            cases f with
            | zero => have := hev.2; omega
            | succ f =>
              refine ⟨f, ?_, by omega⟩
              rw [← hlf]
              conv => rhs; unfold lngF
              rw [if_pos hte, if_neg hst]
          obtain ⟨f', e1', e2'⟩ := e
          exact ⟨_, by omega, _, _, _, f', rfl, rfl, by omega, stepP_mono g ht0 hts fun _ _ z => z, e1', by omega, rfl⟩
    · refine iteE hte ?_
      have e : lng js m (fun x => decide (x ∈ os)) = none := by
        rw [← hlf]
        cases f with
        | zero => rfl
        | succ f =>
          unfold lngF
          rw [if_neg hte]
      rw [e] at q
      exact q
def spFitsL (K : PySem.W.Frag) : Sp := fun vs H Q _ => ∃ (l w_ o : Addr) (xs : List V) (js : List Job) (ws : List Int) (m : Nat) (os : List Nat), vs = [.ref l, .ref w_, .int (m : Nat), .ref o] ∧ SqL K H l xs ∧ JobsAt K H xs js ∧ GoodJ js ∧ SqT K H w_ (ws.map V.int) ∧ ws.length = js.length ∧ m < js.length ∧ SqL K H o (natsV os) ∧ Oth js os ∧ Q (.bl (fitP js ws m fun x => decide (x ∈ os))) H
theorem ok_FitsL {k : Nat} {f : Addr} {fd : FuncData}  (F : Fun K "_law_fits" "_law_fits" sFitsL f fd) (gLg : Cal P w K mg base CX0 (k + 1) "_law_longest" ["jobs", "mine", "others"] (spLongL K))   : FnOk P w K mg base CX0 (k + 2) f fd ["jobs", "within", "mine", "others"] (spFitsL K) := by
  obtain ⟨fLg, fdLg, GLg, kLg, bLg, mLg⟩ := gLg
  refine F.ok scFitsL (fun vs H Q E h => ?_) (fun cdv A outer s H vs Q E hr h => ?_)
  · obtain ⟨l, w_, o, xs, js, ws, m, os, rfl, _⟩ := h
    rfl
  · obtain ⟨l, w_, o, xs, js, ws, m, os, rfl, hl, hj, g, hw, hwl, hm, ho, oth, q⟩ := h
    refine ⟨_, (pss_cons (ps_set (i := 4) scFitsL.nd rfl (.inl rfl) (pe_call GLg hr (by rfl) mLg kLg bLg .nil pass0 (pa_cons (pv 0) (pa_cons (pv 2) (pa_cons (pv 3) pa_nil))))) (pss_one (ps_ret (pe_and (pe_cmpR op_notN (pv 4) pe_non (nomark _)) (pe_one (pe_cmpR op_le (pv 4) (pe_ix ix_tup (pv 1) (pv 2) (fun _ _ => rfl)) (nomark _))))))), ?_⟩
    refine ⟨.ref l, rfl, .int (m : Nat), rfl, .ref o, rfl, l, o, xs, js, m, os, rfl, hl, hj, g, hm, ho, oth, ?_⟩
    unfold fitP at q
    cases e : lng js m (fun x => decide (x ∈ os)) with
    | none =>
      rw [e] at q
      exact ⟨.non, rfl, rfl, _, rfl, iteF q⟩
    | some t =>
      rw [e] at q
      exact ⟨.int t, rfl, rfl, _, rfl, iteT ⟨.int t, rfl, .ref w_, rfl, .int (m : Nat), rfl, w_, _, _, .int (ws.getD m 0), rfl, rfl, hw, atI_getD (by omega), t, _, rfl, rfl, q⟩⟩
def spLongT (K : PySem.W.Frag) : Sp := fun vs H Q _ => ∃ (l o : Addr) (xs : List V) (js : List Job) (m : Nat) (os : List Nat), vs = [.ref l, .int (m : Nat), .ref o] ∧ SqL K H l xs ∧ JobsAt K H xs js ∧ GoodJ js ∧ m < js.length ∧ SqT K H o (natsV os) ∧ Oth js os ∧ Q (optI (lng js m fun x => decide (x ∈ os))) H
theorem ok_LongestT {k : Nat} {f : Addr} {fd : FuncData}  (F : Fun K "_law_longest" "_law_longest" sLongestT f fd)   (fint : mg "int" = none) : FnOk P w K mg base CX0 (k + 1) f fd ["jobs", "mine", "others"] (spLongT K) := by
  refine F.ok scLongestT (fun vs H Q E h => ?_) (fun cdv A outer s H vs Q E hr h => ?_)
  · obtain ⟨l, o, xs, js, m, os, rfl, _⟩ := h
    rfl
  · obtain ⟨l, o, xs, js, m, os, rfl, hl, hj, g, hm, ho, oth, q⟩ := h
    refine ⟨_, (pss_cons (ps_set (i := 3) scLongestT.nd rfl (.inl rfl) (pe_ix ix_tup (pe_ix ix_list (pv 0) (pv 1) (fun _ _ => rfl)) pe_int (fun _ _ => rfl))) (pss_cons (ps_while PassesOwn.never (pt_cmpR op_le (pv 3) (pe_ix ix_tup (pe_ix ix_list (pv 0) (pv 1) (fun _ _ => rfl)) pe_int (fun _ _ => rfl)) (nomark _)) (pss_cons (ps_set (i := 4) scLongestT.nd rfl (.inl rfl) (pe_ix ix_tup (pe_ix ix_list (pv 0) (pv 1) (fun _ _ => rfl)) pe_int (fun _ _ => rfl))) (pss_cons (ps_for PassesOwn.never rfl (pi_tup (pv 2)) (pg_name (i := 5) scLongestT.nd rfl (.inl rfl)) (pss_one (ps_set (i := 4) scLongestT.nd rfl (.inl rfl) (pe_op op_add (pv 4) (pe_op op_mul (pe_ix ix_tup (pe_ix ix_list (pv 0) (pv 5) (fun _ _ => rfl)) pe_int (fun _ _ => rfl)) (pe_callTy call_int1 (by rfl) fint (by decide +kernel) (pa_cons (pe_un un_neg (pe_op op_fdiv (pe_un un_neg (pv 3)) (pe_ix ix_tup (pe_ix ix_list (pv 0) (pv 5) (fun _ _ => rfl)) pe_int (fun _ _ => rfl)))) pa_nil))))))) (pss_cons (ps_if (pt_cmpR op_eq (pv 4) (pv 3) (nomark _)) (pss_one (ps_ret (pv 3))) pss_nil) (pss_one (ps_set (i := 3) scLongestT.nd rfl (.inl rfl) (pv 4))))))) (pss_one (ps_ret pe_non)))), ?_⟩
    obtain ⟨a, e1, e2⟩ := hj.at hm
    have hev := g.evb m
    refine ⟨.ref l, rfl, .int (m : Nat), rfl, l, _, _, .ref a, rfl, rfl, hl, e1, a, _, 2, .int (wkJ js m), rfl, rfl, e2, at2, ?_⟩
    refine ⟨fun c σ H' => ∃ t y4 y5 f, σ = [some (.ref l), some (.int (m : Nat)), some (.ref o), some (.int t), y4, y5] ∧ H' = H ∧ 0 ≤ t ∧ t ≤ stepP js m (fun x => decide (x ∈ os)) t ∧ lngF js m (fun x => decide (x ∈ os)) f t = lng js m (fun x => decide (x ∈ os)) ∧ 99 - t < (f : Nat) ∧ c = (100 - t).toNat,
      ⟨_, _, none, none, 101, rfl, rfl, (g.wkb m).1, stepP_first g, rfl, by have := (g.wkb m).1; omega, rfl⟩, fun c σ H1 hW => ?_⟩
    obtain ⟨t, y4, y5, f, rfl, rfl, ht0, hts, hlf, hf, rfl⟩ := hW
    refine ⟨.int t, rfl, .ref l, rfl, .int (m : Nat), rfl, l, _, _, .ref a, rfl, rfl, hl, e1, a, _, 0, .int (evJ js m), rfl, rfl, e2, at0, _, _, rfl, rfl, _, rfl, ?_⟩
    by_cases hte : t ≤ evJ js m
    · refine iteD hte ⟨fun σ' H' => ∃ c', c' < (100 - t).toNat ∧ ∃ t y4 y5 f, σ' = [some (.ref l), some (.int (m : Nat)), some (.ref o), some (.int t), y4, y5] ∧ H' = H1 ∧ 0 ≤ t ∧ t ≤ stepP js m (fun x => decide (x ∈ os)) t ∧ lngF js m (fun x => decide (x ∈ os)) f t = lng js m (fun x => decide (x ∈ os)) ∧ 99 - t < (f : Nat) ∧ c' = (100 - t).toNat, fun σ' H' h => h, ?_⟩
      refine ⟨.ref l, rfl, .int (m : Nat), rfl, l, _, _, .ref a, rfl, rfl, hl, e1, a, _, 2, .int (wkJ js m), rfl, rfl, e2, at2, ?_⟩
      refine ⟨.ref o, rfl, o, rfl, ⟨_, ho⟩, ?_⟩
      refine for_tup (xs := natsV os) (fun i σ H' => ∃ y5, σ = [some (.ref l), some (.int (m : Nat)), some (.ref o), some (.int t), some (.int (wkJ js m + sumL js t (os.take i))), y5] ∧ H' = H1)
        ⟨y5, by rw [List.take_zero]; show _ = [_, _, _, _, some (V.int (wkJ js m + 0)), _]; rw [Int.add_zero]; rfl, rfl⟩ (fun i σ H' _ hP => by obtain ⟨_, _, rfl⟩ := hP; exact ho) (fun i x σ H' hx hP => ?_) fun σ H' hP => ?_
      · obtain ⟨y5, rfl, rfl⟩ := hP
        have hi := (List.getElem?_eq_some_iff.mp hx).1
        rw [natsV_len] at hi
        have hget : os[i]? = some os[i] := List.getElem?_eq_getElem hi
        unfold natsV at hx
        rw [List.getElem?_map, hget] at hx
        obtain rfl : V.int ((os[i] : Nat) : Int) = x := Option.some.inj hx
        have hjo := oth.lt _ (List.getElem_mem hi)
        have es := sumL_step (js := js) (t := t) hget
        generalize os[i] = j at hjo es
        obtain ⟨b, d1, d2⟩ := hj.at hjo
        have hwj := g.wkb j
        have hej := g.evb j
        refine ⟨.int _, rfl, .ref l, rfl, .int (j : Nat), rfl, l, _, _, .ref b, rfl, rfl, hl, d1, b, _, 2, .int (wkJ js j), rfl, rfl, d2, at2, .int t, rfl, t, rfl, .ref l, rfl, .int (j : Nat), rfl, l, _, _, .ref b, rfl, rfl, hl, d1, b, _, 0, .int (evJ js j), rfl, rfl, d2, at0, -t, evJ js j, rfl, rfl, ⟨by omega, by omega⟩, _, rfl, .inl ⟨_, rfl, wkJ js j, _, rfl, rfl, .inl ⟨by omega, by omega⟩, _, _, rfl, rfl, some (.int (j : Nat)), ?_, rfl⟩⟩
        rw [es, ← ceil_neg (by omega : 0 < evJ js j), ← Int.add_assoc]
        rfl
      · obtain ⟨y5, rfl, rfl⟩ := hP
        rw [natsV_len, List.take_length]
        have es : wkJ js m + sumL js t os = stepP js m (fun x => decide (x ∈ os)) t := stepP_sum oth m t
        refine ⟨.int (wkJ js m + sumL js t os), rfl, .int t, rfl, rfl, _, rfl, ?_⟩
        rw [es]
        by_cases hst : stepP js m (fun x => decide (x ∈ os)) t = t
        · refine iteD (congrArg V.int hst) ⟨.int t, rfl, ?_⟩
          have e : lng js m (fun x => decide (x ∈ os)) = some t := by
            rw [← hlf]
            cases f with
            | zero => have := hev.2; omega
            | succ f =>
              unfold lngF
              rw [if_pos hte, if_pos hst]
          rw [e] at q
          exact q
        · refine iteE (fun y => hst (V.int.inj y)) ⟨.int (stepP js m (fun x => decide (x ∈ os)) t), rfl, ?_⟩
          have e : ∃ f', lngF js m (fun x => decide (x ∈ os)) f' (stepP js m (fun x => decide (x ∈ os)) t) = lng js m (fun x => decide (x ∈ os)) ∧ 99 - t < (f' : Nat) + 1 := by
            cases f with
            | zero => have := hev.2; omega
            | succ f =>
              refine ⟨f, ?_, by omega⟩
              rw [← hlf]
              conv => rhs; unfold lngF
              rw [if_pos hte, if_neg hst]
          obtain ⟨f', e1', e2'⟩ := e
          exact ⟨_, by omega, _, _, _, f', rfl, rfl, by omega, stepP_mono g ht0 hts fun _ _ z => z, e1', by omega, rfl⟩
    · refine iteE hte ?_
      have e : lng js m (fun x => decide (x ∈ os)) = none := by
        rw [← hlf]
        cases f with
        | zero => rfl
        | succ f =>
          unfold lngF
          rw [if_neg hte]
      rw [e] at q
      exact q
def spFitsT (K : PySem.W.Frag) : Sp := fun vs H Q _ => ∃ (l w_ o : Addr) (xs : List V) (js : List Job) (ws : List Int) (m : Nat) (os : List Nat), vs = [.ref l, .ref w_, .int (m : Nat), .ref o] ∧ SqL K H l xs ∧ JobsAt K H xs js ∧ GoodJ js ∧ SqT K H w_ (ws.map V.int) ∧ ws.length = js.length ∧ m < js.length ∧ SqT K H o (natsV os) ∧ Oth js os ∧ Q (.bl (fitP js ws m fun x => decide (x ∈ os))) H
theorem ok_FitsT {k : Nat} {f : Addr} {fd : FuncData}  (F : Fun K "_law_fits" "_law_fits" sFitsT f fd) (gLg : Cal P w K mg base CX0 (k + 1) "_law_longest" ["jobs", "mine", "others"] (spLongT K))   : FnOk P w K mg base CX0 (k + 2) f fd ["jobs", "within", "mine", "others"] (spFitsT K) := by
  obtain ⟨fLg, fdLg, GLg, kLg, bLg, mLg⟩ := gLg
  refine F.ok scFitsT (fun vs H Q E h => ?_) (fun cdv A outer s H vs Q E hr h => ?_)
  · obtain ⟨l, w_, o, xs, js, ws, m, os, rfl, _⟩ := h
    rfl
  · obtain ⟨l, w_, o, xs, js, ws, m, os, rfl, hl, hj, g, hw, hwl, hm, ho, oth, q⟩ := h
    refine ⟨_, (pss_cons (ps_set (i := 4) scFitsT.nd rfl (.inl rfl) (pe_call GLg hr (by rfl) mLg kLg bLg .nil pass0 (pa_cons (pv 0) (pa_cons (pv 2) (pa_cons (pv 3) pa_nil))))) (pss_one (ps_ret (pe_and (pe_cmpR op_notN (pv 4) pe_non (nomark _)) (pe_one (pe_cmpR op_le (pv 4) (pe_ix ix_tup (pv 1) (pv 2) (fun _ _ => rfl)) (nomark _))))))), ?_⟩
    refine ⟨.ref l, rfl, .int (m : Nat), rfl, .ref o, rfl, l, o, xs, js, m, os, rfl, hl, hj, g, hm, ho, oth, ?_⟩
    unfold fitP at q
    cases e : lng js m (fun x => decide (x ∈ os)) with
    | none =>
      rw [e] at q
      exact ⟨.non, rfl, rfl, _, rfl, iteF q⟩
    | some t =>
      rw [e] at q
      exact ⟨.int t, rfl, rfl, _, rfl, iteT ⟨.int t, rfl, .ref w_, rfl, .int (m : Nat), rfl, w_, _, _, .int (ws.getD m 0), rfl, rfl, hw, atI_getD (by omega), t, _, rfl, rfl, q⟩⟩
end
end K33

set_option maxRecDepth 100000
set_option maxHeartbeats 8000000
/-! k33: all sequences, and whether one does. -/
namespace K33
open PySem PySem.Spec PyProof.Rows L2 LamX VG TL
theorem scSequences : FnScope ["many", "found", "lap", "longer", "one", "job"] ["many"] (defScope sSequences) := ⟨rfl, rfl, rfl, by decide +kernel, rfl, by decide +kernel, by decide +kernel⟩
theorem scIsThere : FnScope ["jobs", "within", "line", "at", "job"] ["jobs", "within"] (defScope sIsThere) := ⟨rfl, rfl, rfl, by decide +kernel, rfl, by decide +kernel, by decide +kernel⟩
def TupsAt (K : PySem.W.Frag) (H : Hp) (as : List V) (ss : List (List Nat)) : Prop := as.length = ss.length ∧ ∀ (i : Nat) (s : List Nat), ss[i]? = some s → ∃ a, as[i]? = some (.ref a) ∧ SqT K H a (natsV s)
theorem tups_same {K : PySem.W.Frag} {H H' : Hp} {as : List V} {ss : List (List Nat)} (s : Same H H') (h : TupsAt K H as ss) : TupsAt K H' as ss := ⟨h.1, fun i r e => let ⟨p, e1, e2⟩ := h.2 i r e; ⟨p, e1, Same.seqT s e2⟩⟩
theorem tups_list {K : PySem.W.Frag} {H : Hp} {R : Addr} {as ys : List V} {o : HO} {ss : List (List Nat)} (hR : H R = some (.lst ys)) (h : TupsAt K H as ss) : TupsAt K (upd H R o) as ss := ⟨h.1, fun i r e => let ⟨p, e1, e2⟩ := h.2 i r e; ⟨p, e1, sqT_upd e2 hR⟩⟩
theorem tups_nil {K : PySem.W.Frag} {H : Hp} : TupsAt K H [] [] := ⟨rfl, fun i s e => by cases e⟩
theorem tups_app {K : PySem.W.Frag} {H : Hp} {as bs : List V} {ss ts : List (List Nat)} (h : TupsAt K H as ss) (g : TupsAt K H bs ts) : TupsAt K H (as ++ bs) (ss ++ ts) := by
  refine ⟨by rw [List.length_append, List.length_append, h.1, g.1], fun i q e => ?_⟩
  by_cases c : i < ss.length
  · rw [List.getElem?_append_left c] at e
    rw [List.getElem?_append_left (by rw [h.1]; exact c)]
    exact h.2 i q e
  · rw [List.getElem?_append_right (by omega)] at e
    rw [List.getElem?_append_right (by rw [h.1]; omega), h.1]
    exact g.2 _ q e
theorem tups_one {K : PySem.W.Frag} {H : Hp} {a : Addr} {s : List Nat} (h : SqT K H a (natsV s)) : TupsAt K H [.ref a] [s] := ⟨rfl, fun i t e => by
  cases i with
  | zero => cases e; exact ⟨a, rfl, h⟩
  | succ i => cases e⟩
def extS (n : Nat) (one : List Nat) : List (List Nat) := ((List.range n).filter fun j => !decide (j ∈ one)).map fun j => one ++ [j]
theorem seqs_succ (n l : Nat) : seqs n (l + 1) = ((seqs n l).map (extS n)).flatten := rfl
theorem seqs_few : ∀ n, n ≤ 5 → ∀ l, l ≤ 5 → (seqs n l).length ≤ 120 := by decide +kernel
theorem extS_few {n : Nat} {one : List Nat} (h : n ≤ 5) : (extS n one).length ≤ 5 := by
  unfold extS
  rw [List.length_map]
  have := List.length_filter_le (fun j => !decide (j ∈ one)) (List.range n)
  rw [List.length_range] at this
  omega
theorem flat_take {n i : Nat} {ss : List (List Nat)} {one : List Nat} (h : ss[i]? = some one) : ((ss.take (i + 1)).map (extS n)).flatten = ((ss.take i).map (extS n)).flatten ++ extS n one := by
  have et : ss.take (i + 1) = ss.take i ++ [one] := by rw [List.take_add_one, h]; rfl
  rw [et, List.map_append, List.flatten_append]
  show _ ++ (extS n one ++ []) = _
  rw [List.append_nil]
theorem flat_len {n : Nat} (h : n ≤ 5) : ∀ ss : List (List Nat), ((ss.map (extS n)).flatten).length ≤ 5 * ss.length
  | [] => Nat.zero_le _
  | s :: ss => by
    rw [List.map_cons, List.flatten_cons, List.length_append, List.length_cons]
    have := extS_few (one := s) h
    have := flat_len h ss
    omega
section
variable {P : Program} {w : World} {K : PySem.W.Frag} {mg : Str → Option Value} {base : Heap}
def spSeqs (K : PySem.W.Frag) : Sp := fun vs H Q _ => ∃ n : Nat, vs = [.int (n : Nat)] ∧ n ≤ 5 ∧ ∀ H' F as, Same H H' → H' F = some (.lst as) → TupsAt K H' as (seqs n n) → Q (.ref F) H'
theorem ok_Sequences {k : Nat} {f : Addr} {fd : FuncData}  (F : Fun K "_law_sequences" "_law_sequences" sSequences f fd)   (frange : mg "range" = none) : FnOk P w K mg base CX0 (k + 1) f fd ["many"] (spSeqs K) := by
  refine F.ok scSequences (fun vs H Q E h => ?_) (fun cdv A outer s H vs Q E hr h => ?_)
  · obtain ⟨n, rfl, _⟩ := h
    rfl
  · obtain ⟨n, rfl, hn, q⟩ := h
    refine ⟨_, (pss_cons (ps_set (i := 1) scSequences.nd rfl (.inl rfl) (pe_lst (pa_cons (pe_tup pa_nil) pa_nil))) (pss_cons (ps_for PassesOwn.never rfl (pi_range1 (by rfl) frange (pa_cons (pv 0) pa_nil)) (pg_name (i := 2) scSequences.nd rfl (.inl rfl)) (pss_cons (ps_set (i := 3) scSequences.nd rfl (.inl rfl) (pe_lst pa_nil)) (pss_cons (ps_for PassesOwn.never rfl (pi_list (pv 1)) (pg_name (i := 4) scSequences.nd rfl (.inr rfl)) (pss_one (ps_expr (pe_bm PySem.F.plainAttrs_list PySem.F.slot_list_extend PySem.F.type_list_extend mt_extend (pv 3) (pa_cons (pe_lc (own := [("job", 5)]) (g := (gName 5)) (tt := _) rfl scSequences.nd (pi_range1 (by rfl) frange (pa_cons (pv 0) pa_nil)) (blkOk_by (N := ["many", "found", "lap", "longer", "one", "job"]) (sc := defScope sSequences) (by decide +kernel)) (fun _ _ _ _ _ => (pg_name (i := 5) scSequences.nd rfl (.inl rfl))) (fun _ _ _ _ _ => (pts_one (pt_cmpR (show OpR _ (compareOp .NotIn) (rIn K true) from op_notIn_seq) (pv 5) (pv 4) (by rfl)))) (fun _ _ _ _ _ => (pe_op (show OpR _ (binaryOp .Add) (rCatA K) from op_catA) (pv 4) (pe_tup (pa_cons (pv 5) pa_nil))))) pa_nil))))) (pss_one (ps_set (i := 1) scSequences.nd rfl (.inl rfl) (pv 3)))))) (pss_one (ps_ret (pv 1))))), ?_⟩
    refine ⟨by show 0 ≤ sizeLine; decide, fun T0 nT => ⟨by show 1 ≤ sizeLine; decide, fun F nF => ?_⟩⟩
    have s1 := same_upd (o := .tup []) nT
    have hT : SqT K (upd H T0 (.tup [])) T0 (natsV []) := SqT.of upd_same
    generalize upd H T0 (.tup []) = H1 at s1 hT nF ⊢
    have s2 := s1.trans (same_upd (o := .lst [V.ref T0]) nF)
    have hF : upd H1 F (.lst [V.ref T0]) F = some (.lst [V.ref T0]) := upd_same
    have hT := Same.seqT (same_upd (o := .lst [V.ref T0]) nF) hT
    generalize upd H1 F (.lst [V.ref T0]) = H2 at s2 hF hT ⊢
    refine ⟨.int (n : Nat), rfl, (n : Nat), rfl, by omega, by omega, ?_⟩
    rw [show ((n : Nat) : Int).toNat = n by omega]
    refine for_range (n := n) (fun l σ H' => ∃ F y2 y3 y4 as, σ = [some (.int (n : Nat)), some (.ref F), y2, y3, y4, none] ∧ Same H H' ∧ H' F = some (.lst as) ∧ TupsAt K H' as (seqs n l))
      ⟨F, none, none, none, _, rfl, s2, hF, tups_one hT⟩ (fun l σ H' hl hP => ?_) fun σ H' hP => ?_
    · obtain ⟨F, y2, y3, y4, as, rfl, sm, hF, has_⟩ := hP
      refine ⟨by show 0 ≤ sizeLine; decide, fun G nG => ?_⟩
      have sG := same_upd (o := .lst []) nG
      have nG0 : H G = none := none_of sm nG
      have nFG : F ≠ G := by rintro rfl; rw [hF] at nG; cases nG
      have hlen := seqs_few n hn l (by omega)
      refine ⟨.ref F, rfl, F, rfl, ⟨_, SqL.of (sG _ _ hF)⟩, ?_⟩
      refine for_list (xs := as) (fun i σ H3 => ∃ y4 bs, σ = [some (.int (n : Nat)), some (.ref F), some (.int (0 + (l : Nat))), some (.ref G), y4, none] ∧ Same H H3 ∧ H3 F = some (.lst as) ∧ TupsAt K H3 as (seqs n l) ∧ H3 G = some (.lst bs) ∧ TupsAt K H3 bs (((seqs n l).take i).map (extS n)).flatten)
        ⟨y4, [], rfl, sm.trans sG, sG _ _ hF, tups_same sG has_, upd_same, tups_nil⟩ (fun i σ H3 _ hP => ?_) (fun i x σ H3 hx hP => ?_) fun σ H3 hP => ?_
      · obtain ⟨_, _, _, _, hF, _⟩ := hP
        exact SqL.of hF
      · obtain ⟨y4, bs, rfl, sm3, hF3, has3, hG3, hbs⟩ := hP
        have hi := (List.getElem?_eq_some_iff.mp hx).1
        have hi2 : i < (seqs n l).length := by rw [← has3.1]; exact hi
        have hget : (seqs n l)[i]? = some (seqs n l)[i] := List.getElem?_eq_getElem hi2
        obtain ⟨a, e1, e2⟩ := has3.2 i _ hget
        cases Option.some.inj (hx.symm.trans e1)
        have ef := flat_take (n := n) hget
        have hone := (mem_seqs.mp (List.getElem_mem hi2)).1
        have hfl := flat_len hn ((seqs n l).take i)
        rw [List.length_take] at hfl
        have hbl := hbs.1
        generalize (seqs n l)[i] = one at e2 ef hone
        refine ⟨.ref G, rfl, .inl ⟨rfl, _, SqL.of hG3⟩, .int (n : Nat), rfl, (n : Nat), rfl, by omega, by omega, fun D nD => ?_⟩
        rw [show ((n : Nat) : Int).toNat = n by omega]
        have nDF : D ≠ F := by rintro rfl; rw [nD] at hF3; cases hF3
        have nDG : D ≠ G := by rintro rfl; rw [nD] at hG3; cases hG3
        refine lc_range (lo := 0) (n := n) (fun m H4 => Same H3 H4 ∧ ∃ ds, H4 D = some (.lst ds) ∧ TupsAt K H4 ds (((List.range m).filter fun j => !decide (j ∈ one)).map fun j => one ++ [j])) ⟨same_upd nD, [], upd_same, tups_nil⟩ (fun m H4 hm hP => ?_) fun H4 hP => ?_
        · obtain ⟨s4, ds, hD, hds⟩ := hP
          have e4 := Same.seqT s4 e2
          have fs_ := filter_step (p := fun j => !decide (j ∈ one)) m
          have ld : (((List.range m).filter fun j => !decide (j ∈ one)).map fun j => one ++ [j]).length ≤ 5 := by
            rw [List.length_map]
            have := List.length_filter_le (fun j => !decide (j ∈ one)) (List.range m)
            rw [List.length_range] at this
            omega
          have hdl := hds.1
          refine ⟨rfl, .int (0 + (m : Nat)), rfl, .ref a, rfl, a, natsV one, rfl, .inr e4, rfl, by rw [natsV_ints]; exact flat_ints _, _, rfl, ?_⟩
          have ein : inV (.int (0 + (m : Nat))) (natsV one) = decide (m ∈ one) := by
            rw [natsV_ints, inV_ints, Int.zero_add, Bool.eq_iff_iff, decide_eq_true_eq, decide_eq_true_eq, List.mem_map]
            exact ⟨fun ⟨x, hx, e⟩ => by have : x = m := by omega
                                        exact this ▸ hx, fun h => ⟨m, h, rfl⟩⟩
          rw [ein]
          by_cases c : m ∈ one
          · rw [if_neg (by rw [decide_eq_true c]; exact Bool.false_ne_true)] at fs_
            refine iteC (by rw [decide_eq_true c]; rfl) ⟨s4, ds, hD, ?_⟩
            rw [fs_]
            exact hds
          · rw [if_pos (by rw [decide_eq_false c]; rfl)] at fs_
            refine iteNE c ⟨.ref a, rfl, .int (0 + (m : Nat)), rfl, by show 1 ≤ sizeLine; decide, fun T1 nT1 => ?_⟩
            have sT := same_upd (o := .tup [V.int (0 + (m : Nat))]) nT1
            refine catA_one (Same.seqT sT e4) (SqT.of upd_same) (by rw [natsV_len]; exact sl (by show _ + 1 ≤ 1000; omega)) fun b H5 hb s5 => ?_
            have s45 := s4.trans (sT.trans s5)
            have hD5 := s5 _ _ (sT _ _ hD)
            refine ⟨_, hD5, small1000 (by omega), Same.updNew s45 nD, _, upd_same, ?_⟩
            rw [fs_, List.map_append]
            refine tups_app (tups_list hD5 (tups_same (sT.trans s5) hds)) (tups_list hD5 (tups_one (s := one ++ [m]) ?_))
            have : natsV (one ++ [m]) = natsV one ++ [V.int (0 + (m : Nat))] := by
              unfold natsV
              rw [List.map_append, Int.zero_add]
              rfl
            rw [this]
            exact hb
        · obtain ⟨s4, ds, hD, hds⟩ := hP
          have hds : TupsAt K H4 ds (extS n one) := hds
          have hdl := hds.1
          have hxl := extS_few (one := one) hn
          refine ⟨G, D, _, _, rfl, rfl, s4 _ _ hG3, hD, sl (by omega), ?_⟩
          have hG4 := s4 _ _ hG3
          refine ⟨_, bs ++ ds, rfl, Same.updNew (sm3.trans s4) nG0, by rw [upd_ne nFG]; exact s4 _ _ hF3, tups_list hG4 (tups_same s4 has3), upd_same, ?_⟩
          rw [ef]
          exact tups_app (tups_list hG4 (tups_same s4 hbs)) (tups_list hG4 hds)
      · obtain ⟨y4, bs, rfl, sm3, hF3, has3, hG3, hbs⟩ := hP
        rw [has3.1, List.take_length, ← seqs_succ] at hbs
        exact ⟨.ref G, rfl, G, _, _, _, bs, rfl, sm3, hG3, hbs⟩
    · obtain ⟨F, y2, y3, y4, as, rfl, sm, hF, has_⟩ := hP
      exact ⟨.ref F, rfl, q _ F as sm hF has_⟩
def spThere (K : PySem.W.Frag) : Sp := fun vs H Q _ => ∃ (l w_ : Addr) (xs : List V) (js : List Job) (ws : List Int), vs = [.ref l, .ref w_] ∧ SqL K H l xs ∧ JobsAt K H xs js ∧ GoodJ js ∧ SqT K H w_ (ws.map V.int) ∧ ws.length = js.length ∧ ∀ H', Same H H' → Q (.bl (thereB js ws)) H'
theorem ok_IsThere {k : Nat} {f : Addr} {fd : FuncData}  (F : Fun K "_law_is_there" "_law_is_there" sIsThere f fd) (gSq : Cal P w K mg base CX0 (k + 2) "_law_sequences" ["many"] (spSeqs K)) (gFi : Cal P w K mg base CX0 (k + 2) "_law_fits" ["jobs", "within", "mine", "others"] (spFitsT K))  (fall : mg "all" = none) (fenumerate : mg "enumerate" = none) (flen : mg "len" = none) : FnOk P w K mg base CX0 (k + 3) f fd ["jobs", "within"] (spThere K) := by
  obtain ⟨fSq, fdSq, GSq, kSq, bSq, mSq⟩ := gSq
  obtain ⟨fFi, fdFi, GFi, kFi, bFi, mFi⟩ := gFi
  refine F.ok scIsThere (fun vs H Q E h => ?_) (fun cdv A outer s H vs Q E hr h => ?_)
  · obtain ⟨l, w_, xs, js, ws, rfl, _⟩ := h
    rfl
  · obtain ⟨l, w_, xs, js, ws, rfl, hl, hj, g, hw, hwl, q⟩ := h
    refine ⟨_, (pss_cons (ps_for PassesOwn.never rfl (pi_list (pe_call GSq hr (by rfl) mSq kSq bSq .nil pass0 (pa_cons (pe_callB call_len_seq (by rfl) flen PySem.boot_len (pa_cons (pv 0) pa_nil)) pa_nil))) (pg_name (i := 2) scIsThere.nd rfl (.inr rfl)) (pss_one (ps_if (pt_val (pe_callB (cr_all rfl) (by rfl) fall (by decide +kernel) (pa_cons (pe_lc (own := [("at", 3), ("job", 4)]) (g := (gTup K 2 (gCons (gName 3) (gCons (gName 4) gNil)))) (tt := tYes) rfl scIsThere.nd (pi_enumT (by rfl) fenumerate (pa_cons (pv 2) pa_nil)) (blkOk_by (N := ["jobs", "within", "line", "at", "job"]) (sc := defScope sIsThere) (by decide +kernel)) (fun _ _ _ _ _ => (pg_tup (by rfl) (pgs_cons (pg_name (i := 3) scIsThere.nd rfl (.inl rfl)) (pgs_cons (pg_name (i := 4) scIsThere.nd rfl (.inl rfl)) pgs_nil)))) (fun _ _ _ _ _ => pts_nil) (fun _ _ _ _ _ => (pe_call GFi hr (by rfl) mFi kFi bFi .nil pass0 (pa_cons (pv 0) (pa_cons (pv 1) (pa_cons (pv 4) (pa_cons (show PE _ _ (tSl (rSlA K) _ _ _) from (pe_slice sl_tupA (pv 2) po_none (po_some (pv 3)))) pa_nil))))))) pa_nil))) (pss_one (ps_ret pe_bl)) pss_nil))) (pss_one (ps_ret pe_bl))), ?_⟩
    have hfew := g.few
    refine ⟨.ref l, rfl, l, xs, rfl, .inl hl, js.length, by rw [hj.1]; rfl, hfew, fun H1 F as s1 hF has_ => ⟨F, rfl, ⟨_, SqL.of hF⟩, ?_⟩⟩
    refine for_list (xs := as) (fun i σ H2 => ∃ y2, σ = [some (.ref l), some (.ref w_), y2, none, none] ∧ Same H1 H2 ∧ ((seqs js.length js.length).take i).any (lineB js ws) = false) ⟨none, rfl, Same.refl _, rfl⟩ (fun i σ H2 _ hP => ?_) (fun i x σ H2 hx hP => ?_) fun σ H2 hP => ?_
    · obtain ⟨_, _, sm, _⟩ := hP
      exact SqL.of (sm _ _ hF)
    · obtain ⟨y2, rfl, sm, hno⟩ := hP
      have hi := (List.getElem?_eq_some_iff.mp hx).1
      have hi2 : i < (seqs js.length js.length).length := by rw [← has_.1]; exact hi
      have hget : (seqs js.length js.length)[i]? = some (seqs js.length js.length)[i] := List.getElem?_eq_getElem hi2
      obtain ⟨a, e1, e2⟩ := has_.2 i _ hget
      cases Option.some.inj (hx.symm.trans e1)
      have hmem := List.getElem_mem hi2
      have et : (seqs js.length js.length).take (i + 1) = (seqs js.length js.length).take i ++ [(seqs js.length js.length)[i]] := by rw [List.take_add_one, hget]; rfl
      generalize (seqs js.length js.length)[i] = line at e2 hmem et
      obtain ⟨m1, m2, m3⟩ := mem_seqs.mp hmem
      have e3 := Same.seqT sm e2
      refine ⟨.ref a, rfl, a, natsV line, rfl, e3, fun D nD => ?_⟩
      refine lc_any (n := line.length) (fun m H3 => Same H2 H3 ∧ H3 D = some (.lst (((List.range m).map fun m => fitP js ws (line.getD m 0) fun o => decide (o ∈ line.take m)).map V.bl))) ⟨same_upd nD, upd_same⟩ (fun m H3 hm hP => ⟨_, .int ((line[m]'hm : Nat) : Int), Same.seqT hP.1 e3, by unfold natsV; rw [List.getElem?_map, List.getElem?_eq_getElem hm]; rfl⟩) (fun H3 hP => ⟨_, Same.seqT hP.1 e3, by rw [natsV_len]; exact Nat.le_refl _⟩) (fun m x H3 H4 hm hP hy => ?_) fun H3 hP => ?_
      · obtain ⟨s3, hD⟩ := hP
        obtain ⟨T2, xv, rfl, nT, rfl, hx⟩ := hy
        have hx := hx _ (Same.seqT s3 e3)
        unfold natsV at hx
        rw [List.getElem?_map, List.getElem?_eq_getElem hm] at hx
        have hgd : line.getD m 0 = line[m] := by rw [List.getD_eq_getElem?_getD, List.getElem?_eq_getElem hm]; rfl
        have hjm := m3 _ (List.getElem_mem hm)
        rw [← hgd] at hjm hx
        obtain rfl : V.int ((line.getD m 0 : Nat) : Int) = xv := Option.some.inj hx
        clear hx
        generalize hjj : line.getD m 0 = j at hjm
        have sT := same_upd (o := .tup [.int (m : Nat), .int (j : Nat)]) nT
        have hTT : SqT K (upd H3 T2 (.tup [.int (m : Nat), .int (j : Nat)])) T2 [.int (m : Nat), .int (j : Nat)] := SqT.of upd_same
        have hD5 := sT _ _ hD
        have s5 := s3.trans sT
        generalize upd H3 T2 (.tup [.int (m : Nat), .int (j : Nat)]) = H5 at sT hTT hD5 s5 ⊢
        have sm5 := s1.trans (sm.trans s5)
        refine ⟨T2, [.int (m : Nat), .int (j : Nat)], rfl, hTT, rfl, .int (m : Nat), [.int (j : Nat)], rfl, .int (j : Nat), [], rfl, rfl, rfl, ?_⟩
        unfold tYes
        refine iteT ⟨.ref l, rfl, .ref w_, rfl, .int (j : Nat), rfl, .ref a, rfl, ?_⟩
        unfold tNoPart
        refine ⟨_, rfl, (m : Int), rfl, slice_to (j := m) (Same.seqT s5 e3) fun c H6 hc s6 => ?_⟩
        have hc : SqT K H6 c (natsV (line.take m)) := by
          unfold natsV at hc ⊢
          rw [List.map_take]
          exact hc
        have sm6 := sm5.trans s6
        have hot : Oth js (line.take m) := ⟨List.Nodup.sublist (List.take_sublist _ _) m2, fun o ho => m3 o (List.mem_of_mem_take ho)⟩
        refine ⟨l, w_, c, xs, js, ws, j, line.take m, rfl, sm6.seq hl, jobs_same sm6 hj, g, Same.seqT sm6 hw, hwl, hjm, hc, hot, _, s6 _ _ hD5, small1000 (by rw [List.length_map, List.length_map, List.length_range]; omega), Same.updNew (s5.trans s6) nD, ?_⟩
        rw [upd_same, List.range_succ, List.map_append, List.map_append, ← hjj]
        rfl
      · obtain ⟨s3, hD⟩ := hP
        refine ⟨D, _, rfl, SqL.of hD, _, rfl, ?_⟩
        have el : ((List.range line.length).map fun m => fitP js ws (line.getD m 0) fun o => decide (o ∈ line.take m)).all id = lineB js ws line := by
          unfold lineB
          rw [List.all_map]
          rfl
        rw [el]
        cases c : lineB js ws line with
        | true =>
          refine iteT ?_
          have q1 := q H3 (s1.trans (sm.trans s3))
          have : thereB js ws = true := List.any_eq_true.mpr ⟨line, hmem, c⟩
          rw [this] at q1
          exact q1
        | false =>
          refine iteF ⟨_, rfl, sm.trans s3, ?_⟩
          rw [et, List.any_append, hno, List.any_cons, c]
          rfl
    · obtain ⟨y2, rfl, sm, hno⟩ := hP
      rw [has_.1, List.take_length] at hno
      have q1 := q H2 (s1.trans sm)
      have : thereB js ws = false := hno
      rw [this] at q1
      exact q1
end
end K33

set_option maxRecDepth 100000
set_option maxHeartbeats 8000000
/-! k33: what is right, by the law's own looks. -/
namespace K33
open PySem PySem.Spec PyProof.Rows L2 LamX VG TL
theorem scLIsWithin : FnScope ["jobs", "value", "one", "job"] ["jobs", "value"] (defScope sLIsWithin) := ⟨rfl, rfl, rfl, by decide +kernel, rfl, by decide +kernel, by decide +kernel⟩
theorem scIsTold : FnScope ["jobs", "within", "value", "some", "one", "every", "job"] ["jobs", "within", "value"] (defScope sIsTold) := ⟨rfl, rfl, rfl, by decide +kernel, rfl, by decide +kernel, by decide +kernel⟩
def isTu : PyData → Bool
  | .tuple _ => true
  | _ => false
def isSt : PyData → Bool
  | .str _ => true
  | _ => false
theorem kit_tu {K : PySem.W.Frag} (d : PyData) : PySem.W.kitOne K (.type (tyName d)) (.type "tuple") = some (isTu d) := by
  cases d with
  | none => exact kit_ty (a := "NoneType") (b := "tuple") (r := false) (by decide +kernel)
  | bool _ => exact kit_ty (a := "bool") (b := "tuple") (r := false) (by decide +kernel)
  | int _ => exact kit_ty (a := "int") (b := "tuple") (r := false) (by decide +kernel)
  | str _ => exact kit_ty (a := "str") (b := "tuple") (r := false) (by decide +kernel)
  | list _ => exact kit_ty (a := "list") (b := "tuple") (r := false) (by decide +kernel)
  | tuple _ => exact kit_ty (a := "tuple") (b := "tuple") (r := true) (by decide +kernel)
  | dict _ => exact kit_ty (a := "dict") (b := "tuple") (r := false) (by decide +kernel)
theorem kit_st {K : PySem.W.Frag} (d : PyData) : PySem.W.kitOne K (.type (tyName d)) (.type "str") = some (isSt d) := by
  cases d with
  | none => exact kit_ty (a := "NoneType") (b := "str") (r := false) (by decide +kernel)
  | bool _ => exact kit_ty (a := "bool") (b := "str") (r := false) (by decide +kernel)
  | int _ => exact kit_ty (a := "int") (b := "str") (r := false) (by decide +kernel)
  | str _ => exact kit_ty (a := "str") (b := "str") (r := true) (by decide +kernel)
  | list _ => exact kit_ty (a := "list") (b := "str") (r := false) (by decide +kernel)
  | tuple _ => exact kit_ty (a := "tuple") (b := "str") (r := false) (by decide +kernel)
  | dict _ => exact kit_ty (a := "dict") (b := "str") (r := false) (by decide +kernel)
theorem isTu_of {d : PyData} (h : isTu d = true) : ∃ ds, d = .tuple ds := by
  cases d with
  | tuple ds => exact ⟨ds, rfl⟩
  | none => cases h
  | bool _ => cases h
  | int _ => cases h
  | str _ => cases h
  | list _ => cases h
  | dict _ => cases h
theorem isSt_of {d : PyData} (h : isSt d = true) : ∃ z, d = .str z := by
  cases d with
  | str ds => exact ⟨ds, rfl⟩
  | none => cases h
  | bool _ => cases h
  | int _ => cases h
  | tuple _ => cases h
  | list _ => cases h
  | dict _ => cases h
theorem asc_unique : ∀ {l m : List Int}, l.Pairwise (· < ·) → m.Pairwise (· < ·) → (∀ k, k ∈ l ↔ k ∈ m) → l = m
  | [], [], _, _, _ => rfl
  | [], b :: m, _, _, h => absurd ((h b).mpr (by simp)) (by simp)
  | a :: l, [], _, _, h => absurd ((h a).mp (by simp)) (by simp)
  | a :: l, b :: m, h1, h2, h => by
    rw [List.pairwise_cons] at h1 h2
    have hab : a = b := by
      rcases List.mem_cons.mp ((h a).mp (by simp)) with e | e
      · exact e
      · rcases List.mem_cons.mp ((h b).mpr (by simp)) with f | f
        · exact f.symm
        · have x := h2.1 a e
          have y := h1.1 b f
          omega
    subst hab
    rw [asc_unique h1.2 h2.2 fun k => ?_]
    constructor
    · intro hk
      rcases List.mem_cons.mp ((h k).mp (List.mem_cons_of_mem _ hk)) with e | e
      · have := h1.1 k hk
        omega
      · exact e
    · intro hk
      rcases List.mem_cons.mp ((h k).mpr (List.mem_cons_of_mem _ hk)) with e | e
      · have := h2.1 k hk
        omega
      · exact e
theorem eqv_ints : ∀ l m : List Int, PyData.eqvAll (l.map .int) (m.map .int) = decide (l = m)
  | [], [] => rfl
  | [], _ :: _ => rfl
  | _ :: _, [] => rfl
  | a :: l, b :: m => by
    show (a == b && PyData.eqvAll (l.map .int) (m.map .int)) = _
    rw [eqv_ints l m, Bool.eq_iff_iff, Bool.and_eq_true, beq_iff_eq, decide_eq_true_eq, decide_eq_true_eq, List.cons.injEq]
theorem dp_ints {K : PySem.W.Frag} {H : Hp} : ∀ l : List Int, DpAll K H (l.map V.int) (l.map PyData.int)
  | [] => .nil
  | a :: l => .cons (.int a) (dp_ints l)
theorem canLay_ints : ∀ l : List Int, PyData.canLayAll0 (l.map .int) = true
  | [] => rfl
  | a :: l => by
    rw [List.map_cons]
    simp only [PyData.canLayAll0, PyData.canLay0, canLay_ints l, Bool.and_self]
theorem depth_ints : ∀ l : List Int, PyData.depthAll (l.map .int) = 0
  | [] => rfl
  | a :: l => by
    rw [List.map_cons]
    simp only [PyData.depthAll, PyData.depth, depth_ints l]
    rfl
theorem shaped_ints (l : List Int) : SeqAt.shaped (.list (l.map .int)) = true := by
  unfold SeqAt.shaped
  have h1 : PyData.canLay0 (.list (l.map .int)) = true := by simp only [PyData.canLay0]; exact canLay_ints l
  have h2 : PyData.depth (.list (l.map .int)) ≤ 64 := by simp only [PyData.depth, depth_ints]; decide
  rw [h1, decide_eq_true h2]
  rfl
theorem eqv_nil {es : List PyData} : PyData.eqv (.tuple es) (.tuple []) = decide (es = []) := by cases es <;> rfl
theorem toldB_no {js : List Job} {ws : List Int} {d : PyData} (h : ∀ da es, d = .tuple [da, .tuple es] → isS da "priorities" = false ∧ isS da "none" = false) : toldB js ws d = false := by
  unfold toldB
  split
  · rename_i a ds
    obtain ⟨h1, h2⟩ := h a ds rfl
    rw [if_neg (by rw [h1]; exact Bool.false_ne_true), if_neg (by rw [h2]; exact Bool.false_ne_true)]
  · rfl
theorem range_at {n m : Nat} {x : V} (h : (natsV (List.range n))[m]? = some x) : m < n ∧ x = .int (m : Nat) := by
  unfold natsV at h
  have hm := (List.getElem?_eq_some_iff.mp h).1
  rw [List.length_map, List.length_range] at hm
  rw [List.getElem?_map, List.getElem?_range hm] at h
  exact ⟨hm, (Option.some.inj h).symm⟩
section
variable {P : Program} {w : World} {K : PySem.W.Frag} {mg : Str → Option Value} {base : Heap}
def spLWithin (K : PySem.W.Frag) : Sp := fun vs H Q _ => ∃ (l : Addr) (xs : List V) (js : List Job) (v : V) (d : PyData), vs = [.ref l, v] ∧ SqL K H l xs ∧ JobsAt K H xs js ∧ GoodJ js ∧ Dk K H v d ∧ ∀ H', Same H H' → Q (.bl (withinB js d)) H'
theorem ok_LIsWithin {k : Nat} {f : Addr} {fd : FuncData}  (F : Fun K "_law_is_within" "_law_is_within" sLIsWithin f fd) (gIi : Cal P w K mg base CX0 (k + 1) "_law_is_int" ["value", "low", "high"] (spWithin K))  (fall : mg "all" = none) (fisinstance : mg "isinstance" = none) (flen : mg "len" = none) (ftuple : mg "tuple" = none) (fzip : mg "zip" = none) : FnOk P w K mg base CX0 (k + 2) f fd ["jobs", "value"] (spLWithin K) := by
  obtain ⟨fIi, fdIi, GIi, kIi, bIi, mIi⟩ := gIi
  refine F.ok scLIsWithin (fun vs H Q E h => ?_) (fun cdv A outer s H vs Q E hr h => ?_)
  · obtain ⟨l, xs, js, v, d, rfl, _⟩ := h
    rfl
  · obtain ⟨l, xs, js, v, d, rfl, hl, hj, g, hd, q⟩ := h
    refine ⟨_, (pss_cons (ps_if (PW.pt (pw_or (pt_not (pt_val (pe_callB call_isi (by rfl) fisinstance (by decide +kernel) (pa_cons (pv 1) (pa_cons (pe_bltn (v := .ty "tuple") (by rfl) ftuple (by decide +kernel) rfl) pa_nil))))) (pw_or1 (pt_cmpR op_ne (pe_callB call_len_seq (by rfl) flen PySem.boot_len (pa_cons (pv 1) pa_nil)) (pe_callB call_len_seq (by rfl) flen PySem.boot_len (pa_cons (pv 0) pa_nil)) (nomark _))))) (pss_one (ps_ret pe_bl)) pss_nil) (pss_one (ps_ret (pe_callB (cr_all rfl) (by rfl) fall (by decide +kernel) (pa_cons (pe_lc (own := [("one", 2), ("job", 3)]) (g := (gTup K 2 (gCons (gName 2) (gCons (gName 3) gNil)))) (tt := tYes) rfl scLIsWithin.nd (pi_zipM (by rfl) fzip (pa_cons (pv 1) (pa_cons (pv 0) pa_nil))) (blkOk_by (N := ["jobs", "value", "one", "job"]) (sc := defScope sLIsWithin) (by decide +kernel)) (fun _ _ _ _ _ => (pg_tup (by rfl) (pgs_cons (pg_name (i := 2) scLIsWithin.nd rfl (.inl rfl)) (pgs_cons (pg_name (i := 3) scLIsWithin.nd rfl (.inl rfl)) pgs_nil)))) (fun _ _ _ _ _ => pts_nil) (fun _ _ _ _ _ => (pe_call GIi hr (by rfl) mIi kIi bIi .nil pass0 (pa_cons (pv 2) (pa_cons pe_int (pa_cons (pe_ix (show IxR _ (rIxT K) from ix_tup) (pv 3) pe_int (fun _ _ => rfl)) pa_nil)))))) pa_nil))))), ?_⟩
    have hxl := hj.1
    have hfew := g.few
    refine ⟨v, rfl, v, .ty "tuple", .type (tyName d), .type "tuple", isTu d, rfl, .ty _, hd.tyx, kit_tu d, _, rfl, ?_⟩
    cases et : isTu d with
    | false =>
      refine iteT ?_
      have : withinB js d = false := by
        cases d with
        | tuple _ => cases et
        | none => rfl
        | bool _ => rfl
        | int _ => rfl
        | str _ => rfl
        | list _ => rfl
        | dict _ => rfl
      have q1 := q H (Same.refl H)
      rw [this] at q1
      exact q1
    | true =>
      obtain ⟨ds, rfl⟩ := isTu_of et
      obtain ⟨a, ys, rfl, hs, ha⟩ := dk_tup hd
      have hyl := dpAll_len ha
      refine iteF ⟨.ref a, rfl, a, ys, rfl, .inr hs, .ref l, rfl, l, xs, rfl, .inl hl, rfl, _, rfl, ?_⟩
      by_cases e1 : ds.length = js.length
      · have ew : withinB js (.tuple ds) = ((List.range ds.length).map fun i => isW (ds.getD i .none) 1 (evJ js i)).all id := by
          show (decide (ds.length = js.length) && _) = _
          rw [decide_eq_true e1, Bool.true_and]
        refine iteC (by rw [hyl, hxl, e1, decide_eq_true rfl]; rfl) ⟨.ref a, rfl, .ref l, rfl, a, l, ys, xs, rfl, hs, hl, fun D nD => ?_⟩
        refine lc_any (n := ds.length) (fun i H' => Same H H' ∧ H' D = some (.lst (((List.range i).map fun i => isW (ds.getD i .none) 1 (evJ js i)).map V.bl))) ⟨same_upd nD, upd_same⟩ (fun i H' hi hP => ⟨_, _, ys[i]'(by omega), xs[i]'(by omega), Same.seqT hP.1 hs, hP.1.seq hl, List.getElem?_eq_getElem (by omega), List.getElem?_eq_getElem (by omega)⟩) (fun H' hP => ⟨_, _, Same.seqT hP.1 hs, hP.1.seq hl, .inl (by omega)⟩) (fun i x H' H'' hi hP hy => ?_) fun H' hP => ?_
        · obtain ⟨sm, hD⟩ := hP
          obtain ⟨T2, x1, x2, rfl, nT, rfl, hx1, hx2⟩ := hy
          have hx1 := hx1 _ (Same.seqT sm hs)
          have hx2 := hx2 _ (sm.seq hl)
          have hdx := dpAll_get ha hx1
          have hi2 : i < js.length := by omega
          obtain ⟨b, d1, d2⟩ := hj.at hi2
          have hxb : xs[i]? = some (.ref b) := by
            have := d1
            unfold atI ixN at this
            rw [if_pos (by omega), if_pos (by omega)] at this
            exact this
          cases Option.some.inj (hx2.symm.trans hxb)
          have sT := sm.trans (same_upd (o := .tup [x1, .ref b]) nT)
          have hDT := (same_upd (o := .tup [x1, .ref b]) nT) _ _ hD
          have hTT : SqT K (upd H' T2 (.tup [x1, .ref b])) T2 [x1, .ref b] := SqT.of upd_same
          generalize upd H' T2 (.tup [x1, .ref b]) = H5 at sT hDT hTT ⊢
          refine ⟨T2, [x1, .ref b], rfl, hTT, rfl, x1, [.ref b], rfl, .ref b, [], rfl, rfl, rfl, ?_⟩
          unfold tYes
          refine iteT ⟨x1, rfl, .ref b, rfl, b, _, 0, .int (evJ js i), rfl, rfl, Same.seqT sT d2, at0, x1, ds.getD i .none, 1, evJ js i, rfl, .dp (dp_same sT _ _ hdx), _, hDT, small1000 (by rw [List.length_map, List.length_map, List.length_range]; omega), Same.updNew sT nD, ?_⟩
          rw [upd_same, List.range_succ, List.map_append, List.map_append]
          rfl
        · obtain ⟨sm, hD⟩ := hP
          refine ⟨D, _, rfl, SqL.of hD, ?_⟩
          rw [← ew]
          exact q _ sm
      · refine iteNE (fun z => e1 (by have := V.int.inj z; omega)) ?_
        have q1 := q H (Same.refl H)
        have : withinB js (.tuple ds) = false := by
          show (decide (ds.length = js.length) && _) = false
          rw [decide_eq_false e1]
          rfl
        rw [this] at q1
        exact q1
def spTold (K : PySem.W.Frag) : Sp := fun vs H Q _ => ∃ (l w_ : Addr) (xs : List V) (js : List Job) (ws : List Int) (v : V) (d : PyData), vs = [.ref l, .ref w_, v] ∧ SqL K H l xs ∧ JobsAt K H xs js ∧ GoodJ js ∧ SqT K H w_ (ws.map V.int) ∧ ws.length = js.length ∧ Dk K H v d ∧ okData d = true ∧ slim d = true ∧ ∀ H', Same H H' → Q (.bl (toldB js ws d)) H'
theorem ok_IsTold {k : Nat} {f : Addr} {fd : FuncData}  (F : Fun K "_law_is_told" "_law_is_told" sIsTold f fd) (gIi : Cal P w K mg base CX0 (k + 2) "_law_is_int" ["value", "low", "high"] (spWithin K)) (gFi : Cal P w K mg base CX0 (k + 2) "_law_fits" ["jobs", "within", "mine", "others"] (spFitsL K))  (fall : mg "all" = none) (fany : mg "any" = none) (fisinstance : mg "isinstance" = none) (flen : mg "len" = none) (flist : mg "list" = none) (frange : mg "range" = none) (fset : mg "set" = none) (fsorted : mg "sorted" = none) (fstr : mg "str" = none) (ftuple : mg "tuple" = none) : FnOk P w K mg base CX0 (k + 3) f fd ["jobs", "within", "value"] (spTold K) := by
  obtain ⟨fIi, fdIi, GIi, kIi, bIi, mIi⟩ := gIi
  obtain ⟨fFi, fdFi, GFi, kFi, bFi, mFi⟩ := gFi
  refine F.ok scIsTold (fun vs H Q E h => ?_) (fun cdv A outer s H vs Q E hr h => ?_)
  · obtain ⟨l, w_, xs, js, ws, v, d, rfl, _⟩ := h
    rfl
  · obtain ⟨l, w_, xs, js, ws, v, d, rfl, hl, hj, g, hw, hwl, hd, ok, sl_, q⟩ := h
    refine ⟨_, (pss_cons (ps_if (PW.pt (pw_or (pt_not (pt_val (pe_callB call_isi (by rfl) fisinstance (by decide +kernel) (pa_cons (pv 2) (pa_cons (pe_bltn (v := .ty "tuple") (by rfl) ftuple (by decide +kernel) rfl) pa_nil))))) (pw_or (pt_cmpR op_ne (pe_callB call_len_seq (by rfl) flen PySem.boot_len (pa_cons (pv 2) pa_nil)) pe_int (nomark _)) (pw_or1 (pt_not (pt_val (pe_callB call_isi (by rfl) fisinstance (by decide +kernel) (pa_cons (pe_ix ix_tup (pv 2) pe_int (fun _ _ => rfl)) (pa_cons (pe_bltn (v := .ty "str") (by rfl) fstr (by decide +kernel) rfl) pa_nil))))))))) (pss_one (ps_ret pe_bl)) pss_nil) (pss_cons (ps_set (i := 3) scIsTold.nd rfl (.inr rfl) (pe_ix ix_tup (pv 2) pe_int (fun _ _ => rfl))) (pss_cons (ps_if (pt_cmpR op_eq (pe_ix ix_tup (pv 2) pe_int (fun _ _ => rfl)) pe_str (nomark _)) (pss_cons (ps_if (PW.pt (pw_or (pt_not (pt_val (pe_callB call_isi (by rfl) fisinstance (by decide +kernel) (pa_cons (pv 3) (pa_cons (pe_bltn (v := .ty "tuple") (by rfl) ftuple (by decide +kernel) rfl) pa_nil))))) (pw_or (pt_cmpR op_ne (pe_callB call_len_seq (by rfl) flen PySem.boot_len (pa_cons (pv 3) pa_nil)) (pe_callB call_len_seq (by rfl) flen PySem.boot_len (pa_cons (pv 0) pa_nil)) (nomark _)) (pw_or1 (pt_not (pt_val (pe_callB (cr_all rfl) (by rfl) fall (by decide +kernel) (pa_cons (pe_lc (own := [("one", 4)]) (g := (gName 4)) (tt := tYes) rfl scIsTold.nd (pi_tup (pv 3)) (blkOk_by (N := ["jobs", "within", "value", "some", "one", "every", "job"]) (sc := defScope sIsTold) (by decide +kernel)) (fun _ _ _ _ _ => (pg_name (i := 4) scIsTold.nd rfl (.inl rfl))) (fun _ _ _ _ _ => pts_nil) (fun _ _ _ _ _ => (pe_call GIi hr (by rfl) mIi kIi bIi .nil pass0 (pa_cons (pv 4) (pa_cons pe_int (pa_cons pe_int pa_nil)))))) pa_nil)))))))) (pss_one (ps_ret pe_bl)) pss_nil) (pss_cons (ps_if (pt_cmpR op_lt (pe_callB call_lenSO (by rfl) flen PySem.boot_len (pa_cons (pe_callTy (call_setT rfl) (by rfl) fset (by decide +kernel) (pa_cons (pv 3) pa_nil)) pa_nil)) (pe_callB call_len_seq (by rfl) flen PySem.boot_len (pa_cons (pv 3) pa_nil)) (nomark _)) (pss_one (ps_ret pe_bl)) pss_nil) (pss_cons (ps_set (i := 5) scIsTold.nd rfl (.inr rfl) (pe_listRg rfl (by rfl) flist (prg_1 (by rfl) frange (pe_callB call_len_seq (by rfl) flen PySem.boot_len (pa_cons (pv 0) pa_nil))))) (pss_one (ps_ret (pe_callB (cr_all rfl) (by rfl) fall (by decide +kernel) (pa_cons (pe_lc (own := [("job", 6)]) (g := (gName 6)) (tt := tYes) rfl scIsTold.nd (pi_list (pv 5)) (blkOk_by (N := ["jobs", "within", "value", "some", "one", "every", "job"]) (sc := defScope sIsTold) (by decide +kernel)) (fun _ _ _ _ _ => (pg_name (i := 6) scIsTold.nd rfl (.inr rfl))) (fun _ _ _ _ _ => pts_nil) (fun _ _ _ _ _ => (pe_call GFi hr (by rfl) mFi kFi bFi .nil pass0 (pa_cons (pv 0) (pa_cons (pv 1) (pa_cons (pv 6) (pa_cons (pe_lc (own := [("one", 4)]) (g := (gName 4)) (tt := _) rfl scIsTold.nd (show PI _ _ _ (iList K _) from (pi_list (pv 5))) (blkOk_by (by kernel_rfl)) (fun _ _ _ _ _ => (pg_name (i := 4) scIsTold.nd rfl (.inl rfl))) (fun _ _ _ _ _ => (pts_one (pt_cmpR op_gt (pe_ix (show IxR _ (rIxT K) from ix_tup) (pv 3) (pv 4) (fun _ _ => rfl)) (pe_ix (show IxR _ (rIxT K) from ix_tup) (pv 3) (pv 6) (fun _ _ => rfl)) (nomark _)))) (fun _ _ _ _ _ => (pv 4))) pa_nil))))))) pa_nil))))))) pss_nil) (pss_cons (ps_if (PW.pt (pw_or (pt_cmpR op_ne (pe_ix ix_tup (pv 2) pe_int (fun _ _ => rfl)) pe_str (nomark _)) (pw_or (pt_not (pt_val (pe_callB call_isi (by rfl) fisinstance (by decide +kernel) (pa_cons (pv 3) (pa_cons (pe_bltn (v := .ty "tuple") (by rfl) ftuple (by decide +kernel) rfl) pa_nil))))) (pw_or1 (pt_cmpR (op_eqD hr.units) (pv 3) (pe_tup pa_nil) (nomark _)))))) (pss_one (ps_ret pe_bl)) pss_nil) (pss_cons (ps_if (PW.pt (pw_or (pt_not (pt_val (pe_callB (cr_all rfl) (by rfl) fall (by decide +kernel) (pa_cons (pe_lc (own := [("one", 4)]) (g := (gName 4)) (tt := tYes) rfl scIsTold.nd (pi_tup (pv 3)) (blkOk_by (N := ["jobs", "within", "value", "some", "one", "every", "job"]) (sc := defScope sIsTold) (by decide +kernel)) (fun _ _ _ _ _ => (pg_name (i := 4) scIsTold.nd rfl (.inl rfl))) (fun _ _ _ _ _ => pts_nil) (fun _ _ _ _ _ => (pe_call GIi hr (by rfl) mIi kIi bIi .nil pass0 (pa_cons (pv 4) (pa_cons pe_int (pa_cons (pe_op op_sub (pe_callB (show CallR _ (.builtin "len") (rLenK K) from call_len_seq) (by rfl) flen PySem.boot_len (pa_cons (pv 0) pa_nil)) pe_int) pa_nil)))))) pa_nil)))) (pw_or1 (pt_cmpR (op_neD hr.units) (pe_callTy call_list_of (by rfl) flist (by decide +kernel) (pa_cons (pv 3) pa_nil)) (pe_callB (cr_sortedSet rfl) (by rfl) fsorted (by decide +kernel) (pa_cons (pe_callTy (call_setT rfl) (by rfl) fset (by decide +kernel) (pa_cons (pv 3) pa_nil)) pa_nil)) (nomark _))))) (pss_one (ps_ret pe_bl)) pss_nil) (pss_one (ps_ret (pe_not (pe_callB (cr_any rfl) (by rfl) fany (by decide +kernel) (pa_cons (pe_lc (own := [("job", 6)]) (g := (gName 6)) (tt := tYes) rfl scIsTold.nd (pi_tup (pv 3)) (blkOk_by (N := ["jobs", "within", "value", "some", "one", "every", "job"]) (sc := defScope sIsTold) (by decide +kernel)) (fun _ _ _ _ _ => (pg_name (i := 6) scIsTold.nd rfl (.inr rfl))) (fun _ _ _ _ _ => pts_nil) (fun _ _ _ _ _ => (pe_call GFi hr (by rfl) mFi kFi bFi .nil pass0 (pa_cons (pv 0) (pa_cons (pv 1) (pa_cons (pv 6) (pa_cons (pe_lc (own := [("one", 4)]) (g := (gName 4)) (tt := _) rfl scIsTold.nd (show PI _ _ _ (iTup K _) from (pi_tup (pv 3))) (blkOk_by (by kernel_rfl)) (fun _ _ _ _ _ => (pg_name (i := 4) scIsTold.nd rfl (.inl rfl))) (fun _ _ _ _ _ => (pts_one (pt_cmpR op_ne (pv 4) (pv 6) (nomark _)))) (fun _ _ _ _ _ => (pv 4))) pa_nil))))))) pa_nil)))))))))), ?_⟩
    have hxl := hj.1
    have hfew := g.few
    have q1 := q H (Same.refl H)
    have no : (∀ da es, d = .tuple [da, .tuple es] → isS da "priorities" = false ∧ isS da "none" = false) → Q (.bl false) H := fun h => by
      rw [toldB_no h] at q1
      exact q1
    refine ⟨v, rfl, v, .ty "tuple", .type (tyName d), .type "tuple", isTu d, rfl, .ty _, hd.tyx, kit_tu d, _, rfl, ?_⟩
    cases et : isTu d with
    | false => exact iteT (no fun da es e => by rw [e] at et; cases et)
    | true =>
      obtain ⟨ds, rfl⟩ := isTu_of et
      obtain ⟨a, ys, rfl, hs, ha⟩ := dk_tup hd
      have hyl := dpAll_len ha
      refine iteF ⟨.ref a, rfl, a, ys, rfl, .inr hs, rfl, _, rfl, ?_⟩
      by_cases e2 : ds.length = 2
      · obtain ⟨da, db, rfl⟩ : ∃ da db, ds = [da, db] := by
          match ds, e2 with
          | [x, y], _ => exact ⟨x, y, rfl⟩
        obtain ⟨x1, x2, rfl, g1, g2⟩ := dpAll_two ha
        obtain ⟨_, okel⟩ := okT_el ok
        have sh2 := (okel db (by simp)).1
        have sl2 : slim db = true := by
          simp only [slim, slimAll, Bool.and_eq_true] at sl_
          exact sl_.2.2.1
        refine iteF ⟨.ref a, rfl, a, _, 0, x1, rfl, rfl, hs, at0, x1, .ty "str", .type (tyName da), .type "str", isSt da, rfl, .ty _, (Dk.dp g1).tyx, kit_st da, _, rfl, ?_⟩
        cases es : isSt da with
        | false =>
          refine iteT (no fun da' es' e => ?_)
          cases e
          cases da with
          | str _ => cases es
          | none => exact ⟨rfl, rfl⟩
          | bool _ => exact ⟨rfl, rfl⟩
          | int _ => exact ⟨rfl, rfl⟩
          | list _ => exact ⟨rfl, rfl⟩
          | tuple _ => exact ⟨rfl, rfl⟩
          | dict _ => exact ⟨rfl, rfl⟩
        | true =>
          obtain ⟨z, rfl⟩ := isSt_of es
          cases g1
          refine iteF ⟨.ref a, rfl, a, _, 1, x2, rfl, rfl, hs, at1, .ref a, rfl, a, _, 0, .str z, rfl, rfl, hs, at0, rfl, _, rfl, ?_⟩
          have c1e : isS (.str z) "priorities" = decide (z = "priorities") := rfl
          have c2e : isS (.str z) "none" = decide (z = "none") := rfl
          by_cases c1 : z = "priorities"
          · refine iteD (congrArg V.str c1) ⟨x2, rfl, x2, .ty "tuple", .type (tyName db), .type "tuple", isTu db, rfl, .ty _, (Dk.dp g2).tyx, kit_tu db, _, rfl, ?_⟩
            cases eb : isTu db with
            | false =>
              refine iteT ?_
              have : toldB js ws (.tuple [.str z, db]) = false := by
                unfold toldB
                split
                · rename_i e; cases e; cases eb
                · rfl
              rw [this] at q1
              exact q1
            | true =>
              obtain ⟨es_, rfl⟩ := isTu_of eb
              obtain ⟨b, zs, rfl, hb, hzb⟩ := dk_tup (Dk.dp g2)
              have hzl := dpAll_len hzb
              have qe : ∀ H', Same H H' → Q (.bl (numsB js ws es_)) H' := fun H' s' => by
                have := q H' s'
                have e : toldB js ws (.tuple [.str z, .tuple es_]) = numsB js ws es_ := by
                  show (if isS (.str z) "priorities" = true then _ else _) = _
                  rw [c1e, if_pos (decide_eq_true c1)]
                rw [e] at this
                exact this
              refine iteF ⟨.ref b, rfl, b, zs, rfl, .inr hb, .ref l, rfl, l, xs, rfl, .inl hl, rfl, _, rfl, ?_⟩
              by_cases e1 : es_.length = js.length
              · refine iteC (by rw [hzl, hxl, e1, decide_eq_true rfl]; rfl) ⟨.ref b, rfl, b, rfl, ⟨_, hb⟩, fun D nD => ?_⟩
                refine lc_tup (xs := zs) (fun i H' => Same H H' ∧ H' D = some (.lst (((es_.take i).map fun d => isW d 0 7).map V.bl))) ⟨same_upd nD, upd_same⟩ (fun i H' _ hP => Same.seqT hP.1 hb) (fun i x H' hx hP => ?_) fun H2 hP => ?_
                · obtain ⟨sm, hD⟩ := hP
                  have hi := (List.getElem?_eq_some_iff.mp hx).1
                  have hi2 : i < es_.length := by omega
                  have hdx := dpAll_get hzb hx
                  have et : es_.take (i + 1) = es_.take i ++ [es_.getD i .none] := by
                    rw [List.take_add_one, List.getD_eq_getElem?_getD, List.getElem?_eq_getElem hi2]; rfl
                  refine ⟨rfl, yesT ⟨x, rfl, x, es_.getD i .none, 0, 7, rfl, .dp (dp_same sm _ _ hdx), _, hD, small1000 (by rw [List.length_map, List.length_map, List.length_take]; omega), Same.updNew sm nD, ?_⟩⟩
                  rw [upd_same, et, List.map_append, List.map_append]
                  rfl
                · obtain ⟨sm, hD⟩ := hP
                  rw [hzl, List.take_length] at hD
                  refine ⟨D, _, rfl, SqL.of hD, _, rfl, ?_⟩
                  have q2 := qe H2 sm
                  unfold numsB at q2
                  rw [decide_eq_true e1, Bool.true_and] at q2
                  cases e2 : (es_.map fun d => isW d 0 7).all id with
                  | false =>
                    rw [e2] at q2
                    exact iteT q2
                  | true =>
                    rw [e2, Bool.true_and] at q2
                    obtain ⟨ex, ed⟩ := ints_of hzb fun d hd => let ⟨n, a, _⟩ := isW_all e2 d hd; ⟨n, a⟩
                    generalize hns : es_.map intD = ns at ex ed q2
                    have hnl : ns.length = js.length := by rw [← hns, List.length_map]; exact e1
                    subst ex
                    have hb2 := Same.seqT sm hb
                    refine iteF ⟨.ref b, rfl, b, ns, rfl, hb2, by omega, fun S c H3 nS s23 hS c1_ c2_ _ => ⟨S, _, c, rfl, hS, .ref b, rfl, b, _, rfl, .inr (Same.seqT s23 hb2), _, _, rfl, rfl, _, rfl, ?_⟩⟩
                    have s3 := sm.trans s23
                    have hb3 := Same.seqT s23 hb2
                    have q3 := qe H3 s3
                    unfold numsB at q3
                    rw [decide_eq_true e1, Bool.true_and, e2, Bool.true_and, hns] at q3
                    rw [List.length_map]
                    by_cases e3 : ns.Nodup
                    · rw [decide_eq_false (show ¬ ((c : Nat) : Int) < ((ns.length : Nat) : Int) from fun z => c2_.mp (by omega) e3)]
                      rw [decide_eq_true e3, Bool.true_and] at q3
                      have hl3 := s3.seq hl
                      refine iteF ⟨.ref l, rfl, l, xs, rfl, .inl hl3, _, rfl, RgOk.of_le (by omega) (by omega) (by omega) (by omega), fun E nE => ?_⟩
                      rw [hxl, rgV_nats]
                      have sE := same_upd (o := .lst (natsV (List.range js.length))) nE
                      have hE : upd H3 E (.lst (natsV (List.range js.length))) E = some (.lst (natsV (List.range js.length))) := upd_same
                      have s4 := s3.trans sE
                      have hb4 := Same.seqT sE hb3
                      generalize upd H3 E (.lst (natsV (List.range js.length))) = H4 at sE hE s4 hb4 ⊢
                      refine ⟨.ref E, rfl, E, rfl, ⟨_, SqL.of hE⟩, fun D2 nD2 => ?_⟩
                      refine lc_list (xs := natsV (List.range js.length)) (fun m H' => Same H4 H' ∧ H' D2 = some (.lst (((List.range m).map fun j => fitP js ws j fun o => decide (o ∈ gtL ns js.length j)).map V.bl))) ⟨same_upd nD2, upd_same⟩ (fun m H' _ hP => SqL.of (hP.1 _ _ hE)) (fun m x H5 hx hP => ?_) fun H5 hP => ?_
                      · obtain ⟨hm, rfl⟩ := range_at hx
                        obtain ⟨s5, hD2⟩ := hP
                        have s45 := s4.trans s5
                        have hE5 := s5 _ _ hE
                        have hb5 := Same.seqT s5 hb4
                        refine ⟨rfl, yesT ⟨.ref l, rfl, .ref w_, rfl, .int (m : Nat), rfl, .ref E, rfl, E, rfl, ⟨_, SqL.of hE5⟩, fun B nB => ?_⟩⟩
                        refine lc_list (xs := natsV (List.range js.length)) (fun k H' => Same H5 H' ∧ H' B = some (.lst (natsV ((List.range k).filter fun o => decide (ns.getD o 0 > ns.getD m 0))))) ⟨same_upd nB, upd_same⟩ (fun k H' _ hP => SqL.of (hP.1 _ _ hE5)) (fun k x H6 hx hP => ?_) fun H6 hP => ?_
                        · obtain ⟨hk, rfl⟩ := range_at hx
                          obtain ⟨s6, hB⟩ := hP
                          have hb6 := Same.seqT s6 hb5
                          have lf : ((List.range k).filter fun o => decide (ns.getD o 0 > ns.getD m 0)).length ≤ 5 := by
                            have := List.length_filter_le (fun o => decide (ns.getD o 0 > ns.getD m 0)) (List.range k)
                            rw [List.length_range] at this
                            omega
                          have fs_ := filter_step (p := fun o => decide (ns.getD o 0 > ns.getD m 0)) k
                          refine ⟨rfl, .ref b, rfl, .int (k : Nat), rfl, b, _, _, .int (ns.getD k 0), rfl, rfl, hb6, atI_getD (by omega), .ref b, rfl, .int (m : Nat), rfl, b, _, _, .int (ns.getD m 0), rfl, rfl, hb6, atI_getD (by omega), _, _, rfl, rfl, _, rfl, ?_⟩
                          by_cases c4 : ns.getD k 0 > ns.getD m 0
                          · rw [if_pos (decide_eq_true c4)] at fs_
                            refine iteD c4 ⟨.int (k : Nat), rfl, _, hB, small1000 (by rw [natsV_len]; omega), Same.updNew s6 nB, ?_⟩
                            rw [upd_same, fs_]
                            unfold natsV
                            rw [List.map_append]
                            rfl
                          · rw [if_neg (by rw [decide_eq_false c4]; exact Bool.false_ne_true)] at fs_
                            refine iteE c4 ⟨s6, ?_⟩
                            rw [fs_]
                            exact hB
                        · obtain ⟨s6, hB⟩ := hP
                          rw [natsV_len, List.length_range] at hB
                          have s46 := s45.trans s6
                          refine ⟨l, w_, B, xs, js, ws, m, gtL ns js.length m, rfl, s46.seq hl, jobs_same s46 hj, g, Same.seqT s46 hw, hwl, hm, SqL.of hB, oth_gtL _ _, _, s6 _ _ hD2, small1000 (by rw [List.length_map, List.length_map, List.length_range]; omega), Same.updNew (s5.trans s6) nD2, ?_⟩
                          rw [upd_same, List.range_succ, List.map_append, List.map_append]
                          rfl
                      · obtain ⟨s5, hD2⟩ := hP
                        rw [natsV_len, List.length_range] at hD2
                        refine ⟨D2, _, rfl, SqL.of hD2, ?_⟩
                        have q4 := qe _ (s4.trans s5)
                        unfold numsB at q4
                        rw [decide_eq_true e1, Bool.true_and, e2, Bool.true_and, hns, decide_eq_true e3, Bool.true_and] at q4
                        exact q4
                    · rw [decide_eq_true (show ((c : Nat) : Int) < ((ns.length : Nat) : Int) from by have := c2_.mpr e3; omega)]
                      rw [decide_eq_false e3, Bool.false_and] at q3
                      exact iteT q3
              · refine iteNE (fun z => e1 (by have := V.int.inj z; omega)) ?_
                have q2 := qe H (Same.refl H)
                unfold numsB at q2
                rw [decide_eq_false e1] at q2
                exact q2
          · refine iteE (fun y => c1 (V.str.inj y)) ?_
            refine ⟨.ref a, rfl, a, _, 0, .str z, rfl, rfl, hs, at0, rfl, _, rfl, ?_⟩
            by_cases c2 : z = "none"
            · refine iteC (by rw [c2, decide_eq_true rfl]; rfl) ⟨x2, rfl, x2, .ty "tuple", .type (tyName db), .type "tuple", isTu db, rfl, .ty _, (Dk.dp g2).tyx, kit_tu db, _, rfl, ?_⟩
              cases eb : isTu db with
              | false =>
                refine iteT ?_
                have : toldB js ws (.tuple [.str z, db]) = false := by
                  unfold toldB
                  split
                  · rename_i e; cases e; cases eb
                  · rfl
                rw [this] at q1
                exact q1
              | true =>
                obtain ⟨es_, rfl⟩ := isTu_of eb
                obtain ⟨b, zs, rfl, hb, hzb⟩ := dk_tup (Dk.dp g2)
                have hzl := dpAll_len hzb
                have hel : es_.length ≤ 64 := by
                  simp only [slim, Bool.and_eq_true, decide_eq_true_eq] at sl2
                  exact sl2.1
                have qe : ∀ H', Same H H' → Q (.bl (lotB js ws es_)) H' := fun H' s' => by
                  have := q H' s'
                  have e : toldB js ws (.tuple [.str z, .tuple es_]) = lotB js ws es_ := by
                    show (if isS (.str z) "priorities" = true then _ else if isS (.str z) "none" = true then _ else _) = _
                    rw [c1e, if_neg (by rw [decide_eq_false c1]; exact Bool.false_ne_true), c2e, if_pos (decide_eq_true c2)]
                  rw [e] at this
                  exact this
                refine iteF ⟨.ref b, rfl, by show 0 ≤ sizeLine; decide, fun T0 nT0 => ?_⟩
                have s0 := same_upd (o := .tup []) nT0
                have hT0 : SqT K (upd H T0 (.tup [])) T0 [] := SqT.of upd_same
                generalize upd H T0 (.tup []) = H0 at s0 hT0 ⊢
                refine ⟨.tuple es_, .tuple [], dp_same s0 _ _ g2, .tup hT0 .nil, sh2, by decide, _, rfl, ?_⟩
                rw [eqv_nil]
                have hb0 := Same.seqT s0 hb
                by_cases e0 : es_ = []
                · rw [decide_eq_true e0]
                  have q2 := qe H0 s0
                  subst e0
                  exact iteT q2
                · rw [decide_eq_false e0]
                  have e0' : 0 < es_.length := List.length_pos_iff.mpr e0
                  refine iteF ⟨.ref b, rfl, b, rfl, ⟨_, hb0⟩, fun D nD => ?_⟩
                  refine lc_tup (xs := zs) (fun i H' => Same H0 H' ∧ H' D = some (.lst (((es_.take i).map fun d => isW d 0 ((js.length : Nat) - 1)).map V.bl))) ⟨same_upd nD, upd_same⟩ (fun i H' _ hP => Same.seqT hP.1 hb0) (fun i x H' hx hP => ?_) fun H2 hP => ?_
                  · obtain ⟨sm, hD⟩ := hP
                    have hi := (List.getElem?_eq_some_iff.mp hx).1
                    have hi2 : i < es_.length := by omega
                    have hdx := dpAll_get hzb hx
                    have et : es_.take (i + 1) = es_.take i ++ [es_.getD i .none] := by
                      rw [List.take_add_one, List.getD_eq_getElem?_getD, List.getElem?_eq_getElem hi2]; rfl
                    refine ⟨rfl, yesT ⟨x, rfl, .ref l, rfl, l, xs, rfl, .inl ((s0.trans sm).seq hl), _, 1, rfl, rfl, x, es_.getD i .none, 0, _, by rw [hxl]; rfl, .dp (dp_same (s0.trans sm) _ _ hdx), _, hD, small1000 (by rw [List.length_map, List.length_map, List.length_take]; omega), Same.updNew sm nD, ?_⟩⟩
                    rw [upd_same, et, List.map_append, List.map_append]
                    rfl
                  · obtain ⟨sm, hD⟩ := hP
                    rw [hzl, List.take_length] at hD
                    refine ⟨D, _, rfl, SqL.of hD, _, rfl, ?_⟩
                    have s2 := s0.trans sm
                    cases e3 : (es_.map fun d => isW d 0 ((js.length : Nat) - 1)).all id with
                    | false =>
                      have q2 := qe H2 s2
                      unfold lotB at q2
                      rw [e3] at q2
                      exact iteT q2
                    | true =>
                      have hall := isW_all e3
                      obtain ⟨ex, ed⟩ := ints_of hzb fun d hd => let ⟨n, a, _⟩ := hall d hd; ⟨n, a⟩
                      have hb2 := Same.seqT sm hb0
                      have hnl : (es_.map intD).length = es_.length := List.length_map ..
                      have hin : ∀ k ∈ es_.map intD, 0 ≤ k ∧ k < js.length := fun k hk => by
                        obtain ⟨d, hd, rfl⟩ := List.mem_map.mp hk
                        obtain ⟨n, rfl, n0, n1⟩ := hall d hd
                        show 0 ≤ n ∧ n < _
                        omega
                      rw [ex] at hb2
                      refine iteF ⟨.ref b, rfl, b, (es_.map intD).map V.int, rfl, .inr hb2, fun L nL => ?_⟩
                      have sL := same_upd (o := .lst ((es_.map intD).map V.int)) nL
                      have hL : upd H2 L (.lst ((es_.map intD).map V.int)) L = some (.lst ((es_.map intD).map V.int)) := upd_same
                      have hb3 := Same.seqT sL hb2
                      have s3 := s2.trans sL
                      generalize upd H2 L (.lst ((es_.map intD).map V.int)) = H3 at sL hL hb3 s3 ⊢
                      refine ⟨.ref b, rfl, b, es_.map intD, rfl, hb3, by omega, fun S c H4 nS s34 hS c1_ c2_ c3_ => ?_⟩
                      have hc5 : c < 64 := by
                        have := c3_ ((List.range js.length).map fun i : Nat => (i : Int)) fun k hk => by
                          have := hin k hk
                          exact List.mem_map.mpr ⟨k.toNat, List.mem_range.mpr (by omega), by omega⟩
                        rw [List.length_map, List.length_range] at this
                        omega
                      refine ⟨S, _, c, rfl, hS, hc5, fun ns' p' hs' hmem' hcl' np' => ?_⟩
                      have s5 := s34.trans (same_upd (o := .lst (ns'.map V.int)) np')
                      have hL5 := s5 _ _ hL
                      have hp5 : upd H4 p' (.lst (ns'.map V.int)) p' = some (.lst (ns'.map V.int)) := upd_same
                      have hb5 := Same.seqT s5 hb3
                      have s05 := s3.trans s5
                      generalize upd H4 p' (.lst (ns'.map V.int)) = H5 at s5 hL5 hp5 hb5 s05 ⊢
                      refine ⟨.list ((es_.map intD).map .int), .list (ns'.map .int), .lst (SqL.of hL5) (dp_ints _), .lst (SqL.of hp5) (dp_ints _), shaped_ints _, shaped_ints _, _, rfl, ?_⟩
                      have ee : PyData.eqv (.list ((es_.map intD).map .int)) (.list (ns'.map .int)) = ascB (es_.map intD) := by
                        show PyData.eqvAll _ _ = _
                        rw [eqv_ints, Bool.eq_iff_iff, decide_eq_true_eq]
                        unfold ascB
                        rw [decide_eq_true_eq]
                        exact ⟨fun e => e ▸ hs', fun h => asc_unique h hs' fun k => ((hmem' k).trans decide_eq_true_iff).symm⟩
                      rw [ee]
                      have q5 := qe H5 s05
                      unfold lotB at q5
                      rw [e3, decide_eq_true e0', Bool.true_and, Bool.true_and] at q5
                      cases e4 : ascB (es_.map intD) with
                      | false =>
                        rw [e4] at q5
                        exact iteT q5
                      | true =>
                        obtain ⟨hoth, hnat⟩ := oth_asc e3 e4
                        rw [hnat] at hb5
                        generalize hlot : es_.map natD = lot at hoth hnat hb5 q5
                        have hll : lot.length ≤ 64 := by rw [← hlot, List.length_map]; exact hel
                        refine iteF ⟨.ref b, rfl, b, rfl, ⟨_, hb5⟩, fun D2 nD2 => ?_⟩
                        refine lc_tup (xs := natsV lot) (fun m H' => Same H5 H' ∧ H' D2 = some (.lst (((lot.take m).map fun j => fitP js ws j fun o => decide (o ∈ without lot j)).map V.bl))) ⟨same_upd nD2, upd_same⟩ (fun m H' _ hP => Same.seqT hP.1 hb5) (fun m x H6 hx hP => ?_) fun H6 hP => ?_
                        · obtain ⟨s6, hD2⟩ := hP
                          have hm := (List.getElem?_eq_some_iff.mp hx).1
                          rw [natsV_len] at hm
                          have hget : lot[m]? = some lot[m] := List.getElem?_eq_getElem hm
                          unfold natsV at hx
                          rw [List.getElem?_map, hget] at hx
                          obtain rfl : V.int ((lot[m] : Nat) : Int) = x := Option.some.inj hx
                          have hjn := hoth.lt _ (List.getElem_mem hm)
                          have et : lot.take (m + 1) = lot.take m ++ [lot[m]] := by rw [List.take_add_one, hget]; rfl
                          generalize lot[m] = j at hjn et
                          have hb6 := Same.seqT s6 hb5
                          refine ⟨rfl, yesT ⟨.ref l, rfl, .ref w_, rfl, .int (j : Nat), rfl, .ref b, rfl, b, rfl, ⟨_, hb6⟩, fun B nB => ?_⟩⟩
                          refine lc_tup (xs := natsV lot) (fun k H' => Same H6 H' ∧ H' B = some (.lst (natsV (without (lot.take k) j)))) ⟨same_upd nB, upd_same⟩ (fun k H' _ hP => Same.seqT hP.1 hb6) (fun k x H7 hx hP => ?_) fun H7 hP => ?_
                          · obtain ⟨s7, hB⟩ := hP
                            have hk := (List.getElem?_eq_some_iff.mp hx).1
                            rw [natsV_len] at hk
                            have hget : lot[k]? = some lot[k] := List.getElem?_eq_getElem hk
                            unfold natsV at hx
                            rw [List.getElem?_map, hget] at hx
                            obtain rfl : V.int ((lot[k] : Nat) : Int) = x := Option.some.inj hx
                            have et := without_step (j := j) hget
                            generalize lot[k] = o at et
                            have lw : (without (lot.take k) j).length ≤ 64 := by
                              unfold without
                              have := List.length_filter_le (fun o => !decide (o = j)) (lot.take k)
                              rw [List.length_take] at this
                              omega
                            refine ⟨rfl, .int (o : Nat), rfl, .int (j : Nat), rfl, rfl, _, rfl, ?_⟩
                            by_cases c : o = j
                            · refine iteC (by rw [c, decide_eq_true rfl]; rfl) ⟨s7, ?_⟩
                              rw [et, if_pos c]
                              exact hB
                            · refine iteNE (fun y => c (by have := V.int.inj y; omega)) ⟨.int (o : Nat), rfl, _, hB, small1000 (by rw [natsV_len]; omega), Same.updNew s7 nB, ?_⟩
                              rw [upd_same, et, if_neg c]
                              unfold natsV
                              rw [List.map_append]
                              rfl
                          · obtain ⟨s7, hB⟩ := hP
                            rw [natsV_len, List.take_length] at hB
                            have s07 := s05.trans (s6.trans s7)
                            have hot : Oth js (without lot j) := ⟨List.Pairwise.filter _ hoth.nd, fun o ho => hoth.lt o (mem_without.mp ho).1⟩
                            refine ⟨l, w_, B, xs, js, ws, j, without lot j, rfl, s07.seq hl, jobs_same s07 hj, g, Same.seqT s07 hw, hwl, hjn, SqL.of hB, hot, _, s7 _ _ hD2, small1000 (by rw [List.length_map, List.length_map, List.length_take]; omega), Same.updNew (s6.trans s7) nD2, ?_⟩
                            rw [upd_same, et, List.map_append, List.map_append]
                            rfl
                        · obtain ⟨s6, hD2⟩ := hP
                          rw [natsV_len, List.take_length] at hD2
                          refine ⟨D2, _, rfl, SqL.of hD2, ?_⟩
                          have q6 := qe H6 (s05.trans s6)
                          unfold lotB at q6
                          rw [e3, decide_eq_true e0', Bool.true_and, Bool.true_and, e4, Bool.true_and, hlot] at q6
                          have ea : (!((lot.map fun j => fitP js ws j fun o => decide (o ∈ without lot j)).any id)) = (lastJ js ws lot).isEmpty := by
                            unfold lastJ
                            rw [List.any_map, Bool.eq_iff_iff, Bool.not_eq_true', List.isEmpty_iff, List.filter_eq_nil_iff]
                            constructor
                            · intro h x hx hf
                              have := List.any_eq_false.mp h x hx
                              exact this hf
                            · intro h
                              exact List.any_eq_false.mpr h
                          rw [← ea] at q6
                          exact ⟨_, rfl, q6⟩
            · refine iteNE (fun y => c2 (V.str.inj y)) (no fun da es e => ?_)
              cases e
              exact ⟨by rw [c1e, decide_eq_false c1], by rw [c2e, decide_eq_false c2]⟩
      · exact iteNE (fun z => e2 (by have := V.int.inj z; omega)) (no fun da es e => by cases e; exact absurd rfl e2)
end
end K33

set_option maxRecDepth 100000
set_option maxHeartbeats 8000000
/-! k33: values near to what is told. -/
namespace K33
open PySem PySem.Spec PyProof.Rows L2 LamX VG TL
theorem scValues : FnScope ["pot", "jobs", "told", "many", "found", "lap", "some", "lot"] ["pot", "jobs", "told"] (defScope sValues) := ⟨rfl, rfl, rfl, by decide +kernel, rfl, by decide +kernel, by decide +kernel⟩
/-- what can be compared and shown, and is short -/
def Fit3 (K : PySem.W.Frag) (H : Hp) (x : V) : Prop := ∃ d, Dk K H x d ∧ okData d = true ∧ slim d = true
theorem Fit3.same {K : PySem.W.Frag} {H H' : Hp} {x : V} (s : Same H H') (h : Fit3 K H x) : Fit3 K H' x := let ⟨d, a, b⟩ := h; ⟨d, a.same s, b⟩
theorem fit_of {K : PySem.W.Frag} {H : Hp} {x : V} {d : PyData} {k m : Nat} (h : Dp K H x d) (o : okM k m d) (hk : k ≤ 8) (hm : m ≤ 2 ^ 20) : Fit3 K H x := ⟨d, .dp h, o.1.ok hk hm, o.2⟩
def Few8 (il : List Int) : Prop := il.length ≤ 8 ∧ ∀ x ∈ il, 0 ≤ x ∧ x ≤ 99
theorem okM_ints {il : List Int} (h : Few8 il) : ∀ d ∈ il.map PyData.int, okM 0 50 d := fun d hd => by
  obtain ⟨x, hx, rfl⟩ := List.mem_map.mp hd
  have := h.2 x hx
  exact okM.int (by omega) (by omega)
def wordZ (z : Str) : Prop := z = "none" ∨ z = "priorities"
theorem wordZ.ok {z : Str} (h : wordZ z) : okS 12 z := by
  rcases h with rfl | rfl
  · exact ⟨by decide, str_chars "none"⟩
  · exact ⟨by decide, str_chars "priorities"⟩
theorem wordZ.up {z : Str} (h : wordZ z) : okS 20 (Txt.upper z) ∧ z ≠ "" := by
  rcases h with rfl | rfl
  · exact ⟨⟨by decide +kernel, fun c hc => by have := (List.all_eq_true.mp (show (Txt.upper ("none" : Str)).cps.toList.all (fun c => decide (c < 0x110000)) = true by decide +kernel)) c hc; exact of_decide_eq_true this⟩, by decide⟩
  · exact ⟨⟨by decide +kernel, fun c hc => by have := (List.all_eq_true.mp (show (Txt.upper ("priorities" : Str)).cps.toList.all (fun c => decide (c < 0x110000)) = true by decide +kernel)) c hc; exact of_decide_eq_true this⟩, by decide⟩
theorem dp_intsT {K : PySem.W.Frag} {H : Hp} {q : Addr} {il : List Int} (h : SqT K H q (il.map V.int)) : Dp K H (.ref q) (.tuple (il.map .int)) := .tup h (dp_ints _)
theorem okM_intsT {il : List Int} (h : Few8 il) : okM 1 408 (.tuple (il.map .int)) := okM.tup (okM_ints h) (by rw [List.length_map]; exact h.1)
theorem okM_intsL {il : List Int} (h : Few8 il) : okM 1 408 (.list (il.map .int)) := okM.lst (okM_ints h) (by rw [List.length_map]; exact h.1)
theorem fit_pair {K : PySem.W.Frag} {H : Hp} {a q : Addr} {z : Str} {il : List Int} (h : SqT K H a [.str z, .ref q]) (hq : SqT K H q (il.map V.int)) (hz : wordZ z) (hi : Few8 il) : Fit3 K H (.ref a) := by
  refine fit_of (d := .tuple [.str z, .tuple (il.map .int)]) (.tup h (.cons (.str z) (.cons (dp_intsT hq) .nil))) (k := 2) (m := 3272) (okM.tup (k := 1) (m := 408) (fun d hd => ?_) (by show 2 ≤ 8; decide)) (by decide) (by decide)
  simp only [List.mem_cons, List.not_mem_nil, or_false] at hd
  rcases hd with rfl | rfl
  · exact (okM.str hz.ok (by decide)).mono (by decide) (by decide)
  · exact okM_intsT hi
theorem bd_pair {z : Str} {il : List Int} (hz : wordZ z) (hi : Few8 il) (h6 : il.length ≤ 6) (hne : il ≠ []) : BD 2 (.tuple [.str z, .tuple (il.map .int)]) := by
  refine .tup (by simp) (by show 2 ≤ 6; decide) fun d hd => ?_
  simp only [List.mem_cons, List.not_mem_nil, or_false] at hd
  rcases hd with rfl | rfl
  · exact .str hz.ok hz.up.1 hz.up.2
  · refine .tup (by simpa using hne) (by rw [List.length_map]; exact h6) fun d hd => ?_
    obtain ⟨x, hx, rfl⟩ := List.mem_map.mp hd
    have := hi.2 x hx
    exact .int (by omega) (by omega)
theorem ints_sub {il : List Int} : ∀ {ys : List V}, (∀ y ∈ ys, y ∈ il.map V.int) → ∃ il' : List Int, ys = il'.map V.int ∧ ∀ x ∈ il', x ∈ il
  | [], _ => ⟨[], rfl, fun x h => by cases h⟩
  | y :: ys, h => by
    obtain ⟨il', e, hi⟩ := ints_sub fun z hz => h z (List.mem_cons_of_mem _ hz)
    obtain ⟨x, hx, rfl⟩ := List.mem_map.mp (h y (List.mem_cons_self ..))
    exact ⟨x :: il', by rw [e]; rfl, fun z hz => (List.mem_cons.mp hz).elim (fun e => e ▸ hx) (hi z)⟩
theorem few_range {n : Nat} (h : n ≤ 8) : Few8 ((List.range n).map fun i : Nat => (i : Int)) := ⟨by rw [List.length_map, List.length_range]; exact h, fun x hx => by
  obtain ⟨i, hi, rfl⟩ := List.mem_map.mp hx
  have := List.mem_range.mp hi
  omega⟩
theorem few_nats {ns : List Nat} (h : ns.length ≤ 8) (hb : ∀ n ∈ ns, n < 8) : Few8 (ns.map fun i : Nat => (i : Int)) := ⟨by rw [List.length_map]; exact h, fun x hx => by
  obtain ⟨i, hi, rfl⟩ := List.mem_map.mp hx
  have := hb i hi
  omega⟩
/-- what stands apart from p and F -/
abbrev wo2 (H : Hp) (p F : Addr) : Hp := wo (wo H p) F
theorem wo2_upd {H : Hp} {p F : Addr} {o : HO} : wo2 (upd H F o) p F = wo2 H p F := by
  funext b
  unfold wo2
  by_cases h : b = F
  · rw [h, wo_same, wo_same]
  · rw [wo_ne h, wo_ne h]
    by_cases h2 : b = p
    · rw [h2, wo_same, wo_same]
    · rw [wo_ne h2, wo_ne h2, upd_ne h]
theorem wo2_le {H : Hp} {p F : Addr} : Same (wo2 H p F) H := wo_le.trans wo_le
theorem wo2_same {H H' : Hp} {p F : Addr} (s : Same (wo H p) (wo H' p)) : Same (wo2 H p F) (wo2 H' p F) := wo_same_of s
theorem nl_wo2 {H H' : Hp} {p F : Addr} {xs ys : List V} (hp : H p = some (.lst xs)) (hF : H F = some (.lst ys)) : Same (VG.nl H H') (wo2 H' p F) := fun b o e => by
  have hb : b ≠ F := fun z => by rw [z, nl_lst hF] at e; cases e
  unfold wo2
  rw [wo_ne hb]
  exact nl_wo ⟨_, hp⟩ _ _ e
theorem sqT_wo2 {K : PySem.W.Frag} {H : Hp} {c p F : Addr} {xs ys zs : List V} (h : SqT K H c xs) (hp : H p = some (.lst ys)) (hF : H F = some (.lst zs)) : SqT K (wo2 H p F) c xs := by
  have h1 := sqT_wo h hp
  by_cases e : F = p
  · unfold wo2
    have : wo (wo H p) F = wo H p := by
      funext b
      by_cases hb : b = F
      · rw [hb, wo_same, e, wo_same]
      · rw [wo_ne hb]
    rw [this]
    exact h1
  · exact sqT_wo h1 (by rw [wo_ne e]; exact hF)
theorem sqL_wo2 {K : PySem.W.Frag} {H : Hp} {c p F : Addr} {xs : List V} (h : H c = some (.lst xs)) (hp : c ≠ p) (hF : c ≠ F) : SqL K (wo2 H p F) c xs := SqL.of (wo_at (wo_at h hp) hF)
theorem sqT_pot {K : PySem.W.Frag} {H : Hp} {p c : Addr} {n : Nat} {xs : List V} (hp : Pot H p n) (h : SqT K H c xs) : SqT K (wo H p) c xs := by
  obtain ⟨ys, e⟩ := pot_lst hp
  exact sqT_wo h e
theorem new_wo2 {H : Hp} {p F : Addr} {o : HO} (h : H F = none) : Same (wo H p) (wo2 (upd H F o) p F) := fun b x e => by
  have h2 : b ≠ p := fun z => by rw [z, wo_same] at e; cases e
  have h3 : b ≠ F := fun z => by rw [z] at h2 e; rw [wo_ne h2, h] at e; cases e
  unfold wo2
  rw [wo_ne h3, wo_ne h2, upd_ne h3]
  rw [wo_ne h2] at e
  exact e
theorem dp_pair {K : PySem.W.Frag} {H : Hp} {a q : Addr} {z : Str} {il : List Int} (h : SqT K H a [.str z, .ref q]) (hq : SqT K H q (il.map V.int)) : Dp K H (.ref a) (.tuple [.str z, .tuple (il.map .int)]) := .tup h (.cons (.str z) (.cons (dp_intsT hq) .nil))
theorem fit_list2 {K : PySem.W.Frag} {H : Hp} {a q : Addr} {z : Str} {il : List Int} (h : SqL K H a [.str z, .ref q]) (hq : SqT K H q (il.map V.int)) (hz : wordZ z) (hi : Few8 il) : Fit3 K H (.ref a) := by
  refine fit_of (d := .list [.str z, .tuple (il.map .int)]) (.lst h (.cons (.str z) (.cons (dp_intsT hq) .nil))) (k := 2) (m := 3272) (okM.lst (k := 1) (m := 408) (fun d hd => ?_) (by show 2 ≤ 8; decide)) (by decide) (by decide)
  simp only [List.mem_cons, List.not_mem_nil, or_false] at hd
  rcases hd with rfl | rfl
  · exact (okM.str hz.ok (by decide)).mono (by decide) (by decide)
  · exact okM_intsT hi
theorem fit_listIn {K : PySem.W.Frag} {H : Hp} {a q : Addr} {z : Str} {il : List Int} (h : SqT K H a [.str z, .ref q]) (hq : SqL K H q (il.map V.int)) (hz : wordZ z) (hi : Few8 il) : Fit3 K H (.ref a) := by
  refine fit_of (d := .tuple [.str z, .list (il.map .int)]) (.tup h (.cons (.str z) (.cons (.lst hq (dp_ints _)) .nil))) (k := 2) (m := 3272) (okM.tup (k := 1) (m := 408) (fun d hd => ?_) (by show 2 ≤ 8; decide)) (by decide) (by decide)
  simp only [List.mem_cons, List.not_mem_nil, or_false] at hd
  rcases hd with rfl | rfl
  · exact (okM.str hz.ok (by decide)).mono (by decide) (by decide)
  · exact okM_intsL hi
theorem fit_some {K : PySem.W.Frag} {H : Hp} {a q : Addr} {z : Str} {il : List Int} {ys : List V} (h : SqT K H a ys) (hq : SqT K H q (il.map V.int)) (hz : wordZ z) (hi : Few8 il) (hin : ∀ y ∈ ys, y ∈ [V.str z, .ref q]) (hle : ys.length ≤ 2) : Fit3 K H (.ref a) := by
  have key : ∀ l : List V, (∀ y ∈ l, y ∈ [V.str z, .ref q]) → ∃ ds, DpAll K H l ds ∧ (∀ d ∈ ds, okM 1 408 d) ∧ ds.length = l.length := by
    intro l
    induction l with
    | nil => exact fun _ => ⟨[], .nil, fun d h => (by cases h), rfl⟩
    | cons y l ih =>
      intro h
      obtain ⟨ds, h1, h2, h3⟩ := ih fun x hx => h x (List.mem_cons_of_mem _ hx)
      have hy := h y (List.mem_cons_self ..)
      simp only [List.mem_cons, List.not_mem_nil, or_false] at hy
      rcases hy with rfl | rfl
      · exact ⟨.str z :: ds, .cons (.str z) h1, fun d hd => (List.mem_cons.mp hd).elim (fun e => e ▸ (okM.str hz.ok (by decide)).mono (by decide) (by decide)) (h2 d), by rw [List.length_cons, List.length_cons, h3]⟩
      · exact ⟨.tuple (il.map .int) :: ds, .cons (dp_intsT hq) h1, fun d hd => (List.mem_cons.mp hd).elim (fun e => e ▸ okM_intsT hi) (h2 d), by rw [List.length_cons, List.length_cons, h3]⟩
  obtain ⟨ds, h1, h2, h3⟩ := key ys hin
  exact fit_of (d := .tuple ds) (.tup h h1) (k := 2) (m := 3272) (okM.tup (k := 1) (m := 408) h2 (by omega)) (by decide) (by decide)
section
variable {P : Program} {w : World} {K : PySem.W.Frag} {mg : Str → Option Value} {base : Heap}
/-- what is told stands at u -/
def TA (K : PySem.W.Frag) (H : Hp) (u q : Addr) (z : Str) (il : List Int) : Prop := SqT K H u [.str z, .ref q] ∧ SqT K H q (il.map V.int)
theorem TA.same {H H' : Hp} {u q : Addr} {z : Str} {il : List Int} (s : Same H H') (h : TA K H u q z il) : TA K H' u q z il := ⟨Same.seqT s h.1, Same.seqT s h.2⟩
theorem TA.car {H H' : Hp} {p u q : Addr} {n : Nat} {z : Str} {il : List Int} (hp : Pot H p n) (s : Same (wo H p) (wo H' p)) (h : TA K H u q z il) : TA K H' u q z il := ⟨sqT_car hp s h.1, sqT_car hp s h.2⟩
def spValues (K : PySem.W.Frag) : Sp := fun vs H Q _ => ∃ (p l u q0 : Addr) (n nj : Nat) (xs : List V) (z : Str) (il : List Int), vs = [.ref p, .ref l, .ref u] ∧ SqL K H l xs ∧ xs.length = nj ∧ 1 ≤ nj ∧ nj ≤ 5 ∧ TA K H u q0 z il ∧ wordZ z ∧ Few8 il ∧ il.length ≤ 6 ∧ il ≠ [] ∧ Pot H p n ∧ n < 800000 ∧
  ∀ H' F ys, Pot H' p (n + 400) → Same (wo H p) (wo H' p) → H' F = some (.lst ys) → F ≠ p → (∀ y ∈ ys, Fit3 K (wo2 H' p F) y) → Q (.ref F) H'
theorem ok_Values {k : Nat} {f : Addr} {fd : FuncData}  (F : Fun K "_law_values" "_law_values" sValues f fd) (gSo : Cal P w K mg base CX0 (k + 8) "_law_some" ["pot", "pool", "many"] (spSome K)) (gTa : Cal P w K mg base CX0 (k + 8) "_law_take" ["pot", "upto"] spTake) (gOd : Cal P w K mg base CX0 (k + 8) "_law_odd" ["pot"] (spOdd K)) (gBe : Cal P w K mg base CX0 (k + 8) "_law_bent" ["pot", "value"] (spBent K 2))  (flen : mg "len" = none) (flist : mg "list" = none) (frange : mg "range" = none) (fsorted : mg "sorted" = none) (ftuple : mg "tuple" = none) : FnOk P w K mg base CX0 (k + 9) f fd ["pot", "jobs", "told"] (spValues K) := by
  obtain ⟨fSo, fdSo, GSo, kSo, bSo, mSo⟩ := gSo
  obtain ⟨fTa, fdTa, GTa, kTa, bTa, mTa⟩ := gTa
  obtain ⟨fOd, fdOd, GOd, kOd, bOd, mOd⟩ := gOd
  obtain ⟨fBe, fdBe, GBe, kBe, bBe, mBe⟩ := gBe
  refine F.ok scValues (fun vs H Q E h => ?_) (fun cdv A outer s H vs Q E hr h => ?_)
  · obtain ⟨p, l, u, q0, n, nj, xs, z, il, rfl, _⟩ := h
    rfl
  · obtain ⟨p, l, u, q0, n, nj, xs, z, il, rfl, hl, hxl, n1, n5, ta, hz, hi, h6, hne, hp, hn, q⟩ := h
    refine ⟨_, (pss_cons (ps_set (i := 3) scValues.nd rfl (.inl rfl) (pe_callB call_len_seq (by rfl) flen PySem.boot_len (pa_cons (pv 1) pa_nil))) (pss_cons (ps_set (i := 4) scValues.nd rfl (.inl rfl) (pe_lst (pa_cons (pv 2) (pa_cons (pe_callTy call_list_of (by rfl) flist (by decide +kernel) (pa_cons (pv 2) pa_nil)) (pa_cons (pe_slice sl_tupA (pv 2) po_none (po_some pe_int)) (pa_cons (pe_tup (pa_cons (pe_ix ix_tup (pv 2) pe_int (fun _ _ => rfl)) (pa_cons (pe_callTy call_list_of (by rfl) flist (by decide +kernel) (pa_cons (pe_ix ix_tup (pv 2) pe_int (fun _ _ => rfl)) pa_nil)) pa_nil))) (pa_cons (pe_tup (pa_cons pe_str (pa_cons (pe_tupRg rfl (by rfl) ftuple (prg_1 (by rfl) frange (pv 3))) pa_nil))) (pa_cons (pe_tup (pa_cons pe_str (pa_cons (pe_tup pa_nil) pa_nil))) (pa_cons pe_non pa_nil))))))))) (pss_cons (ps_set (i := 4) scValues.nd rfl (.inl rfl) (pe_op op_cat (pv 4) (pe_lst (pa_cons (pe_tup (pa_cons (pe_ix ix_tup (pv 2) pe_int (fun _ _ => rfl)) (pa_cons (pe_revT (pe_ix ix_tup (pv 2) pe_int (fun _ _ => rfl))) pa_nil))) (pa_cons (pe_tup (pa_cons pe_str (pa_cons (pe_tupRg rfl (by rfl) ftuple (prg_1 (by rfl) frange (pv 3))) pa_nil))) (pa_cons (pe_call GOd hr (by rfl) mOd kOd bOd .nil pass0 (pa_cons (pv 0) pa_nil)) pa_nil)))))) (pss_cons (ps_for PassesOwn.never rfl (pi_range1 (by rfl) frange (pa_cons pe_int pa_nil)) (pg_name (i := 5) scValues.nd rfl (.inl rfl)) (pss_cons (ps_set (i := 6) scValues.nd rfl (.inl rfl) (pe_call GSo hr (by rfl) mSo kSo bSo .nil pass0 (pa_cons (pv 0) (pa_cons (pe_listRg rfl (by rfl) flist (prg_1 (by rfl) frange pe_int)) (pa_cons (pv 3) pa_nil))))) (pss_cons (ps_set (i := 7) scValues.nd rfl (.inl rfl) (pe_callTy call_tuple_of (by rfl) ftuple (by decide +kernel) (pa_cons (pe_callB cr_sorted (by rfl) fsorted (by decide +kernel) (pa_cons (pe_call GSo hr (by rfl) mSo kSo bSo .nil pass0 (pa_cons (pv 0) (pa_cons (pe_listRg rfl (by rfl) flist (prg_1 (by rfl) frange (pv 3))) (pa_cons (pe_op op_add pe_int (pe_call GTa hr (by rfl) mTa kTa bTa .nil pass0 (pa_cons (pv 0) (pa_cons (pv 3) pa_nil)))) pa_nil)))) pa_nil)) pa_nil))) (pss_one (ps_expr (pe_bm PySem.F.plainAttrs_list PySem.F.slot_list_extend PySem.F.type_list_extend mt_extend (pv 4) (pa_cons (pe_lst (pa_cons (pe_tup (pa_cons pe_str (pa_cons (pe_callTy call_tuple_of (by rfl) ftuple (by decide +kernel) (pa_cons (pv 6) pa_nil)) pa_nil))) (pa_cons (pe_tup (pa_cons pe_str (pa_cons (pv 7) pa_nil))) (pa_cons (pe_call GBe hr (by rfl) mBe kBe bBe .nil pass0 (pa_cons (pv 0) (pa_cons (pv 2) pa_nil))) pa_nil)))) pa_nil))))))) (pss_one (ps_ret (pv 4))))))), ?_⟩
    refine ⟨.ref l, rfl, l, xs, rfl, .inl hl, ?_⟩
    have sw : Same (wo H p) (wo H p) := Same.refl _
    have hnj : (V.int ((xs.length : Nat) : Int)) = V.int ((nj : Nat) : Int) := by rw [hxl]
    show gName 3 (V.int ((xs.length : Nat) : Int)) _ _ _
    rw [hnj]
    have hR := few_range (n := nj) (by omega)
    have eR : rgV 0 ((nj : Nat) : Int) = (((List.range nj).map fun i : Nat => (i : Int)).map V.int) := by rw [rgV_nats, natsV_ints]
    have rgk : RgOk 0 ((nj : Nat) : Int) := RgOk.of_le (by omega) (by omega) (by omega) (by omega)
    refine ⟨.ref u, rfl, .ref u, rfl, u, _, rfl, .inr ta.1, fun L1 nL1 => ?_⟩
    have sL1 := same_upd (o := (.lst [V.str z, .ref q0])) nL1
    have eL1 : L1 ≠ p := hp.ne nL1
    have hL1 : upd H L1 (.lst [V.str z, .ref q0]) L1 = some (.lst [V.str z, .ref q0]) := upd_same
    have ta := ta.same sL1
    have hp := hp.same sL1
    have sw := sw.trans (wo_same_of sL1)
    generalize upd H L1 (.lst [V.str z, .ref q0]) = Hz1 at hL1 ta hp sw ⊢
    clear sL1 nL1
    refine ⟨.ref u, rfl, ?_⟩
    unfold tNoPart
    refine ⟨1, rfl, slice_any ta.1 fun c3 Hc y3 hy3 in3 le3 sc3 => ?_⟩
    have hL1 := sc3 _ _ hL1
    have ta := ta.same sc3
    have hp := hp.same sc3
    have sw := sw.trans (wo_same_of sc3)
    have fit3 : Fit3 K (wo Hc p) (.ref c3) := fit_some (sqT_pot hp hy3) (sqT_pot hp ta.2) hz hi in3 le3
    refine ⟨.ref u, rfl, u, _, 0, .str z, rfl, rfl, ta.1, at0, .ref u, rfl, u, _, 1, .ref q0, rfl, rfl, ta.1, at1, q0, _, rfl, .inr ta.2, fun L4 nL4 => ?_⟩
    have sL4 := same_upd (o := (.lst (il.map V.int))) nL4
    have eL4 : L4 ≠ p := hp.ne nL4
    have hL4 : upd Hc L4 (.lst (il.map V.int)) L4 = some (.lst (il.map V.int)) := upd_same
    have hL1 := sL4 _ _ hL1
    have ta := ta.same sL4
    have fit3 := fit3.same (wo_same_of sL4)
    have hp := hp.same sL4
    have sw := sw.trans (wo_same_of sL4)
    generalize upd Hc L4 (.lst (il.map V.int)) = Hz2 at hL4 hL1 ta fit3 hp sw ⊢
    clear sL4 nL4
    refine ⟨by show 2 ≤ sizeLine; decide, fun T4 nT4 => ?_⟩
    have sT4 := same_upd (o := (.tup [V.str z, .ref L4])) nT4
    have eT4 : T4 ≠ p := hp.ne nT4
    have hT4 : upd Hz2 T4 (.tup [V.str z, .ref L4]) T4 = some (.tup [V.str z, .ref L4]) := upd_same
    have hL1 := sT4 _ _ hL1
    have hL4 := sT4 _ _ hL4
    have ta := ta.same sT4
    have fit3 := fit3.same (wo_same_of sT4)
    have hp := hp.same sT4
    have sw := sw.trans (wo_same_of sT4)
    generalize upd Hz2 T4 (.tup [V.str z, .ref L4]) = Hz3 at hT4 hL1 hL4 ta fit3 hp sw ⊢
    clear sT4 nT4
    refine ⟨.int (nj : Nat), rfl, (nj : Nat), rfl, rgk, fun R5 nR5 => ?_⟩
    rw [eR]
    have sR5 := same_upd (o := (.tup (((List.range nj).map fun i : Nat => (i : Int)).map V.int))) nR5
    have eR5 : R5 ≠ p := hp.ne nR5
    have hR5 : upd Hz3 R5 (.tup (((List.range nj).map fun i : Nat => (i : Int)).map V.int)) R5 = some (.tup (((List.range nj).map fun i : Nat => (i : Int)).map V.int)) := upd_same
    have hL1 := sR5 _ _ hL1
    have hL4 := sR5 _ _ hL4
    have hT4 := sR5 _ _ hT4
    have ta := ta.same sR5
    have fit3 := fit3.same (wo_same_of sR5)
    have hp := hp.same sR5
    have sw := sw.trans (wo_same_of sR5)
    generalize upd Hz3 R5 (.tup (((List.range nj).map fun i : Nat => (i : Int)).map V.int)) = Hz4 at hR5 hL1 hL4 hT4 ta fit3 hp sw ⊢
    clear sR5 nR5
    refine ⟨by show 2 ≤ sizeLine; decide, fun T5 nT5 => ?_⟩
    have sT5 := same_upd (o := (.tup [V.str "none", .ref R5])) nT5
    have eT5 : T5 ≠ p := hp.ne nT5
    have hT5 : upd Hz4 T5 (.tup [V.str "none", .ref R5]) T5 = some (.tup [V.str "none", .ref R5]) := upd_same
    have hL1 := sT5 _ _ hL1
    have hL4 := sT5 _ _ hL4
    have hT4 := sT5 _ _ hT4
    have hR5 := sT5 _ _ hR5
    have ta := ta.same sT5
    have fit3 := fit3.same (wo_same_of sT5)
    have hp := hp.same sT5
    have sw := sw.trans (wo_same_of sT5)
    generalize upd Hz4 T5 (.tup [V.str "none", .ref R5]) = Hz5 at hT5 hL1 hL4 hT4 hR5 ta fit3 hp sw ⊢
    clear sT5 nT5
    refine ⟨by show 0 ≤ sizeLine; decide, fun E6 nE6 => ?_⟩
    have sE6 := same_upd (o := (.tup [])) nE6
    have eE6 : E6 ≠ p := hp.ne nE6
    have hE6 : upd Hz5 E6 (.tup []) E6 = some (.tup []) := upd_same
    have hL1 := sE6 _ _ hL1
    have hL4 := sE6 _ _ hL4
    have hT4 := sE6 _ _ hT4
    have hR5 := sE6 _ _ hR5
    have hT5 := sE6 _ _ hT5
    have ta := ta.same sE6
    have fit3 := fit3.same (wo_same_of sE6)
    have hp := hp.same sE6
    have sw := sw.trans (wo_same_of sE6)
    generalize upd Hz5 E6 (.tup []) = Hz6 at hE6 hL1 hL4 hT4 hR5 hT5 ta fit3 hp sw ⊢
    clear sE6 nE6
    refine ⟨by show 2 ≤ sizeLine; decide, fun T6 nT6 => ?_⟩
    have sT6 := same_upd (o := (.tup [V.str "none", .ref E6])) nT6
    have eT6 : T6 ≠ p := hp.ne nT6
    have hT6 : upd Hz6 T6 (.tup [V.str "none", .ref E6]) T6 = some (.tup [V.str "none", .ref E6]) := upd_same
    have hL1 := sT6 _ _ hL1
    have hL4 := sT6 _ _ hL4
    have hT4 := sT6 _ _ hT4
    have hR5 := sT6 _ _ hR5
    have hT5 := sT6 _ _ hT5
    have hE6 := sT6 _ _ hE6
    have ta := ta.same sT6
    have fit3 := fit3.same (wo_same_of sT6)
    have hp := hp.same sT6
    have sw := sw.trans (wo_same_of sT6)
    generalize upd Hz6 T6 (.tup [V.str "none", .ref E6]) = Hz7 at hT6 hL1 hL4 hT4 hR5 hT5 hE6 ta fit3 hp sw ⊢
    clear sT6 nT6
    refine ⟨by show 7 ≤ sizeLine; decide, fun F1 nF1 => ?_⟩
    have sF1 := same_upd (o := (.lst [V.ref u, .ref L1, .ref c3, .ref T4, .ref T5, .ref T6, .non])) nF1
    have eF1 : F1 ≠ p := hp.ne nF1
    have hF1 : upd Hz7 F1 (.lst [V.ref u, .ref L1, .ref c3, .ref T4, .ref T5, .ref T6, .non]) F1 = some (.lst [V.ref u, .ref L1, .ref c3, .ref T4, .ref T5, .ref T6, .non]) := upd_same
    have hL1 := sF1 _ _ hL1
    have hL4 := sF1 _ _ hL4
    have hT4 := sF1 _ _ hT4
    have hR5 := sF1 _ _ hR5
    have hT5 := sF1 _ _ hT5
    have hE6 := sF1 _ _ hE6
    have hT6 := sF1 _ _ hT6
    have ta := ta.same sF1
    have fit3 := fit3.same (wo_same_of sF1)
    have hp := hp.same sF1
    have sw := sw.trans (wo_same_of sF1)
    generalize upd Hz7 F1 (.lst [V.ref u, .ref L1, .ref c3, .ref T4, .ref T5, .ref T6, .non]) = Hz8 at hF1 hL1 hL4 hT4 hR5 hT5 hE6 hT6 ta fit3 hp sw ⊢
    clear sF1 nF1
    have fu : Fit3 K (wo Hz8 p) (.ref u) := fit_pair (sqT_pot hp ta.1) (sqT_pot hp ta.2) hz hi
    have f1 : Fit3 K (wo Hz8 p) (.ref L1) := fit_list2 (SqL.of (wo_at hL1 eL1)) (sqT_pot hp ta.2) hz hi
    have f4 : Fit3 K (wo Hz8 p) (.ref T4) := fit_listIn (sqT_pot hp (SqT.of hT4)) (SqL.of (wo_at hL4 eL4)) hz hi
    have f5 : Fit3 K (wo Hz8 p) (.ref T5) := fit_pair (sqT_pot hp (SqT.of hT5)) (sqT_pot hp (SqT.of hR5)) (.inl rfl) hR
    have f6 : Fit3 K (wo Hz8 p) (.ref T6) := fit_pair (il := []) (sqT_pot hp (SqT.of hT6)) (sqT_pot hp (SqT.of hE6)) (.inl rfl) ⟨by show 0 ≤ 8; decide, fun x h => by cases h⟩
    refine ⟨.ref F1, rfl, .ref u, rfl, u, _, 0, .str z, rfl, rfl, ta.1, at0, .ref u, rfl, u, _, 1, .ref q0, rfl, rfl, ta.1, at1, q0, _, rfl, ta.2, fun y7 q7 in7 le7 nq7 => ?_⟩
    obtain ⟨il7, rfl, in7b⟩ := ints_sub in7
    have hi7 : Few8 il7 := ⟨by rw [List.length_map, List.length_map] at le7; have := hi.1; omega, fun x hx => hi.2 x (in7b x hx)⟩
    have sq7 := same_upd (o := (.tup (il7.map V.int))) nq7
    have eq7 : q7 ≠ p := hp.ne nq7
    have hq7 : upd Hz8 q7 (.tup (il7.map V.int)) q7 = some (.tup (il7.map V.int)) := upd_same
    have hF1 := sq7 _ _ hF1
    have ta := ta.same sq7
    have fit3 := fit3.same (wo_same_of sq7)
    have fu := fu.same (wo_same_of sq7)
    have f1 := f1.same (wo_same_of sq7)
    have f4 := f4.same (wo_same_of sq7)
    have f5 := f5.same (wo_same_of sq7)
    have f6 := f6.same (wo_same_of sq7)
    have hp := hp.same sq7
    have sw := sw.trans (wo_same_of sq7)
    generalize upd Hz8 q7 (.tup (il7.map V.int)) = Hz9 at hq7 hF1 ta fit3 fu f1 f4 f5 f6 hp sw ⊢
    clear sq7 nq7
    refine ⟨by show 2 ≤ sizeLine; decide, fun T7 nT7 => ?_⟩
    have sT7 := same_upd (o := (.tup [V.str z, .ref q7])) nT7
    have eT7 : T7 ≠ p := hp.ne nT7
    have hT7 : upd Hz9 T7 (.tup [V.str z, .ref q7]) T7 = some (.tup [V.str z, .ref q7]) := upd_same
    have hF1 := sT7 _ _ hF1
    have hq7 := sT7 _ _ hq7
    have ta := ta.same sT7
    have fit3 := fit3.same (wo_same_of sT7)
    have fu := fu.same (wo_same_of sT7)
    have f1 := f1.same (wo_same_of sT7)
    have f4 := f4.same (wo_same_of sT7)
    have f5 := f5.same (wo_same_of sT7)
    have f6 := f6.same (wo_same_of sT7)
    have hp := hp.same sT7
    have sw := sw.trans (wo_same_of sT7)
    generalize upd Hz9 T7 (.tup [V.str z, .ref q7]) = Hz10 at hT7 hF1 hq7 ta fit3 fu f1 f4 f5 f6 hp sw ⊢
    clear sT7 nT7
    refine ⟨.int (nj : Nat), rfl, (nj : Nat), rfl, rgk, fun R8 nR8 => ?_⟩
    rw [eR]
    have sR8 := same_upd (o := (.tup (((List.range nj).map fun i : Nat => (i : Int)).map V.int))) nR8
    have eR8 : R8 ≠ p := hp.ne nR8
    have hR8 : upd Hz10 R8 (.tup (((List.range nj).map fun i : Nat => (i : Int)).map V.int)) R8 = some (.tup (((List.range nj).map fun i : Nat => (i : Int)).map V.int)) := upd_same
    have hF1 := sR8 _ _ hF1
    have hq7 := sR8 _ _ hq7
    have hT7 := sR8 _ _ hT7
    have ta := ta.same sR8
    have fit3 := fit3.same (wo_same_of sR8)
    have fu := fu.same (wo_same_of sR8)
    have f1 := f1.same (wo_same_of sR8)
    have f4 := f4.same (wo_same_of sR8)
    have f5 := f5.same (wo_same_of sR8)
    have f6 := f6.same (wo_same_of sR8)
    have hp := hp.same sR8
    have sw := sw.trans (wo_same_of sR8)
    generalize upd Hz10 R8 (.tup (((List.range nj).map fun i : Nat => (i : Int)).map V.int)) = Hz11 at hR8 hF1 hq7 hT7 ta fit3 fu f1 f4 f5 f6 hp sw ⊢
    clear sR8 nR8
    refine ⟨by show 2 ≤ sizeLine; decide, fun T8 nT8 => ?_⟩
    have sT8 := same_upd (o := (.tup [V.str "priorities", .ref R8])) nT8
    have eT8 : T8 ≠ p := hp.ne nT8
    have hT8 : upd Hz11 T8 (.tup [V.str "priorities", .ref R8]) T8 = some (.tup [V.str "priorities", .ref R8]) := upd_same
    have hF1 := sT8 _ _ hF1
    have hq7 := sT8 _ _ hq7
    have hT7 := sT8 _ _ hT7
    have hR8 := sT8 _ _ hR8
    have ta := ta.same sT8
    have fit3 := fit3.same (wo_same_of sT8)
    have fu := fu.same (wo_same_of sT8)
    have f1 := f1.same (wo_same_of sT8)
    have f4 := f4.same (wo_same_of sT8)
    have f5 := f5.same (wo_same_of sT8)
    have f6 := f6.same (wo_same_of sT8)
    have hp := hp.same sT8
    have sw := sw.trans (wo_same_of sT8)
    generalize upd Hz11 T8 (.tup [V.str "priorities", .ref R8]) = Hz12 at hT8 hF1 hq7 hT7 hR8 ta fit3 fu f1 f4 f5 f6 hp sw ⊢
    clear sT8 nT8
    have f7 : Fit3 K (wo Hz12 p) (.ref T7) := fit_pair (sqT_pot hp (SqT.of hT7)) (sqT_pot hp (SqT.of hq7)) hz hi7
    have f8 : Fit3 K (wo Hz12 p) (.ref T8) := fit_pair (sqT_pot hp (SqT.of hT8)) (sqT_pot hp (SqT.of hR8)) (.inr rfl) hR
    refine ⟨.ref p, rfl, p, n, rfl, hp, by omega, fun v9 d9 H9 hp9 s9 hd9 ok9 => ?_⟩
    have f9 : Fit3 K (wo H9 p) v9 := by
      unfold okOdd at ok9
      rw [Bool.and_eq_true] at ok9
      exact ⟨d9, hd9.same (nl_wo (pot_lst hp)), ok9.1, ok9.2⟩
    have hF1 := wo_le _ _ (s9 _ _ (wo_at hF1 eF1))
    have ta := ta.car hp s9
    have fit3 := fit3.same s9
    have fu := fu.same s9
    have f1 := f1.same s9
    have f4 := f4.same s9
    have f5 := f5.same s9
    have f6 := f6.same s9
    have f7 := f7.same s9
    have f8 := f8.same s9
    have sw := sw.trans s9
    have hp := hp9
    refine ⟨by show 3 ≤ sizeLine; decide, fun F2 nF2 => ?_⟩
    have sF2 := same_upd (o := (.lst [V.ref T7, .ref T8, v9])) nF2
    have eF2 : F2 ≠ p := hp.ne nF2
    have hF2 : upd H9 F2 (.lst [V.ref T7, .ref T8, v9]) F2 = some (.lst [V.ref T7, .ref T8, v9]) := upd_same
    have hF1 := sF2 _ _ hF1
    have ta := ta.same sF2
    have fit3 := fit3.same (wo_same_of sF2)
    have fu := fu.same (wo_same_of sF2)
    have f1 := f1.same (wo_same_of sF2)
    have f4 := f4.same (wo_same_of sF2)
    have f5 := f5.same (wo_same_of sF2)
    have f6 := f6.same (wo_same_of sF2)
    have f7 := f7.same (wo_same_of sF2)
    have f8 := f8.same (wo_same_of sF2)
    have f9 := f9.same (wo_same_of sF2)
    have hp := hp.same sF2
    have sw := sw.trans (wo_same_of sF2)
    generalize upd H9 F2 (.lst [V.ref T7, .ref T8, v9]) = Hz13 at hF2 hF1 ta fit3 fu f1 f4 f5 f6 f7 f8 f9 hp sw ⊢
    clear sF2 nF2
    refine ⟨F1, F2, _, _, rfl, rfl, hF1, hF2, by show 7 + 3 ≤ sizeLine; decide, fun F nF => ?_⟩
    have allf : ∀ y ∈ [V.ref u, .ref L1, .ref c3, .ref T4, .ref T5, .ref T6, .non] ++ [V.ref T7, .ref T8, v9], Fit3 K (wo Hz13 p) y := fun y hy => by
      simp only [List.mem_append, List.mem_cons, List.not_mem_nil, or_false] at hy
      rcases hy with (rfl | rfl | rfl | rfl | rfl | rfl | rfl) | rfl | rfl | rfl
      · exact fu
      · exact f1
      · exact fit3
      · exact f4
      · exact f5
      · exact f6
      · exact ⟨.none, .dp .non, by decide +kernel, by decide +kernel⟩
      · exact f7
      · exact f8
      · exact f9
    generalize hys : [V.ref u, .ref L1, .ref c3, .ref T4, .ref T5, .ref T6, .non] ++ [V.ref T7, .ref T8, v9] = ys at allf ⊢
    have hyl : ys.length = 10 := by rw [← hys]; rfl
    have sF := same_upd (o := .lst ys) nF
    have eF : F ≠ p := hp.ne nF
    have hF : upd Hz13 F (.lst ys) F = some (.lst ys) := upd_same
    have allF : ∀ y ∈ ys, Fit3 K (wo2 (upd Hz13 F (.lst ys)) p F) y := fun y hy => (allf y hy).same (new_wo2 nF)
    have nF0 : H F = none := none_wo sw nF eF
    have hp := hp.same sF
    have sw := sw.trans (wo_same_of sF)
    have ta := ta.same sF
    generalize upd Hz13 F (.lst ys) = HF at hF allF hp sw ta ⊢
    clear sF nF allf fu f1 fit3 f4 f5 f6 f7 f8 f9 hF1 hF2
    refine ⟨4, rfl, by decide, by decide, ?_⟩
    refine for_range (n := 4) (fun i σ H' => ∃ y5 y6 y7 ys, σ = [some (.ref p), some (.ref l), some (.ref u), some (.int (nj : Nat)), some (.ref F), y5, y6, y7] ∧ Pot H' p (n + 1 + 75 * i) ∧ Same (wo H p) (wo H' p) ∧ TA K H' u q0 z il ∧ H' F = some (.lst ys) ∧ ys.length = 10 + 3 * i ∧ ∀ y ∈ ys, Fit3 K (wo2 H' p F) y)
      ⟨none, none, none, ys, rfl, hp, sw, ta, hF, hyl, allF⟩ (fun i σ H' hi4 hP => ?_) fun σ H' hP => ?_
    · clear hF allF hp sw ta
      obtain ⟨y5, y6, y7, ys, rfl, hp, sw, ta, hF, hyl, allF⟩ := hP
      refine ⟨.ref p, rfl, 8, rfl, RgOk.of_le (by omega) (by omega) (by omega) (by omega), fun A1 nA1 => ?_⟩
      rw [show rgV 0 8 = natsV (List.range 8) from rgV_nats 8]
      have allF := fun y hy => (allF y hy).same (wo2_same (wo_same_of (same_upd (o := .lst (natsV (List.range 8))) nA1)))
      have sA1 := same_upd (o := (.lst (natsV (List.range 8)))) nA1
      have eA1 : A1 ≠ p := hp.ne nA1
      have hA1 : upd H' A1 (.lst (natsV (List.range 8))) A1 = some (.lst (natsV (List.range 8))) := upd_same
      have hF := sA1 _ _ hF
      have ta := ta.same sA1
      have hp := hp.same sA1
      have sw := sw.trans (wo_same_of sA1)
      generalize upd H' A1 (.lst (natsV (List.range 8))) = Hz1 at hA1 hF ta allF hp sw ⊢
      clear sA1 nA1
      refine ⟨.int (nj : Nat), rfl, p, A1, natsV (List.range 8), nj, _, rfl, SqL.of (wo_at hA1 eA1), by rw [natsV_len, List.length_range]; omega, by decide, hp, by omega, fun H2 B1 ys1 hp2 s2 hB1 hl1 hm1 hpm1 => ?_⟩
      obtain ⟨zs1, hpm1⟩ := hpm1
      obtain ⟨rs1, rfl, rnd1, rlt1⟩ := nodup_ints hpm1
      rw [natsV_len] at hl1
      have eB1 : B1 ≠ p := fun e => by rw [e, wo_same] at hB1; cases hB1
      have hB1 := wo_le _ _ hB1
      have allF := fun y hy => (allF y hy).same (wo2_same s2)
      have hF := wo_le _ _ (s2 _ _ (wo_at hF eF))
      have ta := ta.car hp s2
      have sw := sw.trans s2
      have hp := hp2
      refine ⟨.ref p, rfl, .int (nj : Nat), rfl, (nj : Nat), rfl, rgk, fun A2 nA2 => ?_⟩
      rw [show rgV 0 ((nj : Nat) : Int) = natsV (List.range nj) from rgV_nats nj]
      have allF := fun y hy => (allF y hy).same (wo2_same (wo_same_of (same_upd (o := .lst (natsV (List.range nj))) nA2)))
      have sA2 := same_upd (o := (.lst (natsV (List.range nj)))) nA2
      have eA2 : A2 ≠ p := hp.ne nA2
      have hA2 : upd H2 A2 (.lst (natsV (List.range nj))) A2 = some (.lst (natsV (List.range nj))) := upd_same
      have hF := sA2 _ _ hF
      have hB1 := sA2 _ _ hB1
      have ta := ta.same sA2
      have hp := hp.same sA2
      have sw := sw.trans (wo_same_of sA2)
      generalize upd H2 A2 (.lst (natsV (List.range nj))) = Hz2 at hA2 hF hB1 ta allF hp sw ⊢
      clear sA2 nA2
      refine ⟨.ref p, rfl, .int (nj : Nat), rfl, p, (nj : Nat), _, rfl, by omega, by omega, hp, by omega, fun d3 H3 d30 d31 hp3 s3 => ?_⟩
      have allF := fun y hy => (allF y hy).same (wo2_same s3)
      have hF := wo_le _ _ (s3 _ _ (wo_at hF eF))
      have hB1 := wo_le _ _ (s3 _ _ (wo_at hB1 eB1))
      have hA2 := wo_le _ _ (s3 _ _ (wo_at hA2 eA2))
      have ta := ta.car hp s3
      have sw := sw.trans s3
      have hp := hp3
      refine ⟨1, d3, rfl, rfl, ?_⟩
      obtain ⟨mm, rfl⟩ : ∃ mm : Nat, d3 = (mm : Int) := ⟨d3.toNat, by omega⟩
      refine ⟨p, A2, natsV (List.range nj), mm + 1, _, ?_, SqL.of (wo_at hA2 eA2), by rw [natsV_len, List.length_range]; omega, by rw [natsV_len, List.length_range]; omega, hp, by omega, fun H4 B2 ys2 hp4 s4 hB2 hl2 hm2 hpm2 => ?_⟩
      · show [V.ref p, .ref A2, .int (1 + (mm : Int))] = [V.ref p, .ref A2, .int ((mm + 1 : Nat) : Int)]
        rw [Int.add_comm]
        rfl
      obtain ⟨zs2, hpm2⟩ := hpm2
      obtain ⟨rs2, rfl, rnd2, rlt2⟩ := nodup_ints hpm2
      rw [natsV_len] at hl2
      have eB2 : B2 ≠ p := fun e => by rw [e, wo_same] at hB2; cases hB2
      have hB2 := wo_le _ _ hB2
      have allF := fun y hy => (allF y hy).same (wo2_same s4)
      have hF := wo_le _ _ (s4 _ _ (wo_at hF eF))
      have hB1 := wo_le _ _ (s4 _ _ (wo_at hB1 eB1))
      have ta := ta.car hp s4
      have sw := sw.trans s4
      have hp := hp4
      refine ⟨B2, rs2.map (fun i : Nat => (i : Int)), rfl, by rw [← natsV_ints]; exact SqL.of hB2, by rw [List.length_map]; omega, fun ns3 B3 pm3 so3 nB3 => ?_⟩
      have allF := fun y hy => (allF y hy).same (wo2_same (wo_same_of (same_upd (o := .lst (ns3.map V.int)) nB3)))
      have sB3 := same_upd (o := (.lst (ns3.map V.int))) nB3
      have eB3 : B3 ≠ p := hp.ne nB3
      have hB3 : upd H4 B3 (.lst (ns3.map V.int)) B3 = some (.lst (ns3.map V.int)) := upd_same
      have hF := sB3 _ _ hF
      have hB1 := sB3 _ _ hB1
      have hB2 := sB3 _ _ hB2
      have ta := ta.same sB3
      have hp := hp.same sB3
      have sw := sw.trans (wo_same_of sB3)
      generalize upd H4 B3 (.lst (ns3.map V.int)) = Hz3 at hB3 hF hB1 hB2 ta allF hp sw ⊢
      clear sB3 nB3
      refine ⟨B3, _, rfl, .inl ⟨SqL.of hB3, fun C4 nC4 => ?_⟩⟩
      have allF := fun y hy => (allF y hy).same (wo2_same (wo_same_of (same_upd (o := .tup (ns3.map V.int)) nC4)))
      have sC4 := same_upd (o := (.tup (ns3.map V.int))) nC4
      have eC4 : C4 ≠ p := hp.ne nC4
      have hC4 : upd Hz3 C4 (.tup (ns3.map V.int)) C4 = some (.tup (ns3.map V.int)) := upd_same
      have hF := sC4 _ _ hF
      have hB1 := sC4 _ _ hB1
      have hB2 := sC4 _ _ hB2
      have hB3 := sC4 _ _ hB3
      have ta := ta.same sC4
      have hp := hp.same sC4
      have sw := sw.trans (wo_same_of sC4)
      generalize upd Hz3 C4 (.tup (ns3.map V.int)) = Hz4 at hC4 hF hB1 hB2 hB3 ta allF hp sw ⊢
      clear sC4 nC4
      refine ⟨.ref F, rfl, .inl ⟨rfl, _, SqL.of hF⟩, .ref B1, rfl, B1, _, rfl, .inl ⟨SqL.of hB1, fun C5 nC5 => ?_⟩⟩
      have allF := fun y hy => (allF y hy).same (wo2_same (wo_same_of (same_upd (o := .tup (natsV rs1)) nC5)))
      have sC5 := same_upd (o := (.tup (natsV rs1))) nC5
      have eC5 : C5 ≠ p := hp.ne nC5
      have hC5 : upd Hz4 C5 (.tup (natsV rs1)) C5 = some (.tup (natsV rs1)) := upd_same
      have hF := sC5 _ _ hF
      have hB1 := sC5 _ _ hB1
      have hB2 := sC5 _ _ hB2
      have hB3 := sC5 _ _ hB3
      have hC4 := sC5 _ _ hC4
      have ta := ta.same sC5
      have hp := hp.same sC5
      have sw := sw.trans (wo_same_of sC5)
      generalize upd Hz4 C5 (.tup (natsV rs1)) = Hz5 at hC5 hF hB1 hB2 hB3 hC4 ta allF hp sw ⊢
      clear sC5 nC5
      refine ⟨by show 2 ≤ sizeLine; decide, fun D5 nD5 => ?_⟩
      have allF := fun y hy => (allF y hy).same (wo2_same (wo_same_of (same_upd (o := .tup [V.str "priorities", .ref C5]) nD5)))
      have sD5 := same_upd (o := (.tup [V.str "priorities", .ref C5])) nD5
      have eD5 : D5 ≠ p := hp.ne nD5
      have hD5 : upd Hz5 D5 (.tup [V.str "priorities", .ref C5]) D5 = some (.tup [V.str "priorities", .ref C5]) := upd_same
      have hF := sD5 _ _ hF
      have hB1 := sD5 _ _ hB1
      have hB2 := sD5 _ _ hB2
      have hB3 := sD5 _ _ hB3
      have hC4 := sD5 _ _ hC4
      have hC5 := sD5 _ _ hC5
      have ta := ta.same sD5
      have hp := hp.same sD5
      have sw := sw.trans (wo_same_of sD5)
      generalize upd Hz5 D5 (.tup [V.str "priorities", .ref C5]) = Hz6 at hD5 hF hB1 hB2 hB3 hC4 hC5 ta allF hp sw ⊢
      clear sD5 nD5
      refine ⟨.ref C4, rfl, by show 2 ≤ sizeLine; decide, fun D6 nD6 => ?_⟩
      have allF := fun y hy => (allF y hy).same (wo2_same (wo_same_of (same_upd (o := .tup [V.str "none", .ref C4]) nD6)))
      have sD6 := same_upd (o := (.tup [V.str "none", .ref C4])) nD6
      have eD6 : D6 ≠ p := hp.ne nD6
      have hD6 : upd Hz6 D6 (.tup [V.str "none", .ref C4]) D6 = some (.tup [V.str "none", .ref C4]) := upd_same
      have hF := sD6 _ _ hF
      have hB1 := sD6 _ _ hB1
      have hB2 := sD6 _ _ hB2
      have hB3 := sD6 _ _ hB3
      have hC4 := sD6 _ _ hC4
      have hC5 := sD6 _ _ hC5
      have hD5 := sD6 _ _ hD5
      have ta := ta.same sD6
      have hp := hp.same sD6
      have sw := sw.trans (wo_same_of sD6)
      generalize upd Hz6 D6 (.tup [V.str "none", .ref C4]) = Hz7 at hD6 hF hB1 hB2 hB3 hC4 hC5 hD5 ta allF hp sw ⊢
      clear sD6 nD6
      have hfl := pot_lst hp
      obtain ⟨pv_, hpv⟩ := hfl
      have g5 : Fit3 K (wo2 Hz7 p F) (.ref D5) := fit_pair (sqT_wo2 (SqT.of hD5) hpv hF) (sqT_wo2 (SqT.of (by rw [← natsV_ints]; exact hC5)) hpv hF) (.inr rfl) (few_nats (ns := rs1) (by omega) rlt1)
      have hns3 : Few8 ns3 := by
        refine ⟨by rw [pm3.length_eq, List.length_map]; omega, fun x hx => ?_⟩
        obtain ⟨i, hi, rfl⟩ := List.mem_map.mp (pm3.mem_iff.mp hx)
        have := rlt2 i hi
        omega
      have g6 : Fit3 K (wo2 Hz7 p F) (.ref D6) := fit_pair (sqT_wo2 (SqT.of hD6) hpv hF) (sqT_wo2 (SqT.of hC4) hpv hF) (.inl rfl) hns3
      refine ⟨.ref p, rfl, .ref u, rfl, p, _, .ref u, .tuple [.str z, .tuple (il.map .int)], rfl, dp_pair (sqT_pot hp ta.1) (sqT_pot hp ta.2), bd_pair hz hi h6 hne, by omega, hp, by omega, fun b7 d7 H7 hp7 s7 hd7 ok7 => ?_⟩
      have g7 : Fit3 K (wo2 H7 p F) b7 := fit_of (dp_same (nl_wo2 hpv hF) _ _ hd7) ok7 (by decide) (by decide)
      have allF := fun y hy => (allF y hy).same (wo2_same s7)
      have g5 := g5.same (wo2_same s7)
      have g6 := g6.same (wo2_same s7)
      have hF := wo_le _ _ (s7 _ _ (wo_at hF eF))
      have hB1 := wo_le _ _ (s7 _ _ (wo_at hB1 eB1))
      have hB2 := wo_le _ _ (s7 _ _ (wo_at hB2 eB2))
      have hB3 := wo_le _ _ (s7 _ _ (wo_at hB3 eB3))
      have hC4 := wo_le _ _ (s7 _ _ (wo_at hC4 eC4))
      have hC5 := wo_le _ _ (s7 _ _ (wo_at hC5 eC5))
      have hD5 := wo_le _ _ (s7 _ _ (wo_at hD5 eD5))
      have hD6 := wo_le _ _ (s7 _ _ (wo_at hD6 eD6))
      have ta := ta.car hp s7
      have sw := sw.trans s7
      have hp := hp7
      refine ⟨by show 3 ≤ sizeLine; decide, fun G8 nG8 => ?_⟩
      have allF := fun y hy => (allF y hy).same (wo2_same (wo_same_of (same_upd (o := .lst [V.ref D5, .ref D6, b7]) nG8)))
      have g5 := g5.same (wo2_same (wo_same_of (same_upd (o := .lst [V.ref D5, .ref D6, b7]) nG8)))
      have g6 := g6.same (wo2_same (wo_same_of (same_upd (o := .lst [V.ref D5, .ref D6, b7]) nG8)))
      have g7 := g7.same (wo2_same (wo_same_of (same_upd (o := .lst [V.ref D5, .ref D6, b7]) nG8)))
      have sG8 := same_upd (o := (.lst [V.ref D5, .ref D6, b7])) nG8
      have eG8 : G8 ≠ p := hp.ne nG8
      have hG8 : upd H7 G8 (.lst [V.ref D5, .ref D6, b7]) G8 = some (.lst [V.ref D5, .ref D6, b7]) := upd_same
      have hF := sG8 _ _ hF
      have hB1 := sG8 _ _ hB1
      have hB2 := sG8 _ _ hB2
      have hB3 := sG8 _ _ hB3
      have hC4 := sG8 _ _ hC4
      have hC5 := sG8 _ _ hC5
      have hD5 := sG8 _ _ hD5
      have hD6 := sG8 _ _ hD6
      have ta := ta.same sG8
      have hp := hp.same sG8
      have sw := sw.trans (wo_same_of sG8)
      generalize upd H7 G8 (.lst [V.ref D5, .ref D6, b7]) = Hz8 at hG8 hF hB1 hB2 hB3 hC4 hC5 hD5 hD6 ta allF g5 g6 g7 hp sw ⊢
      clear sG8 nG8
      refine ⟨F, G8, _, _, rfl, rfl, hF, hG8, by rw [hyl]; exact sl (by show 10 + 3 * i + 3 ≤ 1000; omega), ?_⟩
      refine ⟨_, _, _, ys ++ [V.ref D5, .ref D6, b7], rfl, (hp.upd eF).mono (by omega), wo_updNew sw nF0, ⟨sqT_upd ta.1 hF, sqT_upd ta.2 hF⟩, upd_same, by rw [List.length_append, hyl]; show _ + 3 = _; omega, fun y hy => ?_⟩
      rw [wo2_upd]
      rcases List.mem_append.mp hy with hy | hy
      · exact allF y hy
      · simp only [List.mem_cons, List.not_mem_nil, or_false] at hy
        rcases hy with rfl | rfl | rfl
        · exact g5
        · exact g6
        · exact g7
    · clear hF allF hp sw ta
      obtain ⟨y5, y6, y7, ys, rfl, hp, sw, ta, hF, hyl, allF⟩ := hP
      exact ⟨.ref F, rfl, q H' F ys (hp.mono (by omega)) sw hF eF allF⟩
end
end K33

set_option maxRecDepth 100000
set_option maxHeartbeats 8000000
/-! k33: the whole of it. -/
namespace VG
open PySem PySem.Spec PyProof.Rows L2 LamX
theorem Dk.ext {K : PySem.W.Frag} {H H' : Hp} {v : V} {d : PyData} (h : Dk K H v d) (e : ExtN H H') : Dk K H' v d := dk_extN h e
end VG
namespace K33
open PySem PySem.Spec PyProof.Rows L2 LamX VG TL
theorem scRight : FnScope ["pot", "jobs", "loads", "within", "every", "rank", "work", "told", "value", "some", "odd", "caught", "one"] ["pot"] (defScope sRight) := ⟨rfl, rfl, rfl, by decide +kernel, rfl, by decide +kernel, by decide +kernel⟩
def lamsE3 : Expr → List LamD
  | .List [e, _] _ => lamsE e
  | e => lamsE e
def lamsS3 : Stmt → List LamD
  | .Assign _ v _ => lamsE3 v
  | _ => []
def lamRight (i : Nat) : LamD := (((defBody sRight).map lamsS3).flatten).getD i ⟨⟨[], [], none, [], [], none, []⟩, .Constant .none 0 ⟨0, 0, 0, 0⟩, defScope sRight⟩
theorem lamRight_sc (i : Nat) (h : i < 2) : LamS (defScope sRight) (lamRight i).scope := by
  match i, h with
  | 0, _ => exact lamS_by (by decide +kernel)
  | 1, _ => exact lamS_by (by decide +kernel)
structure Err1 (K : PySem.W.Frag) (CS C : Addr) : Prop where
  i : IsC K C
  n : PySem.W.findIn K (.ref C) "value" = some none
  x : PySem.W.exmOne K (.ref C) (.ref CS) = some true
theorem same_f {x : V} : (!decide (x = x)) = false := by simp
theorem ExtP.ext {H H1 H2 : Hp} {p : Addr} (e : ExtP p H H1) (s : ExtN H1 H2) : ExtP p H H2 := fun b o z ne nt => s _ _ (e b o z ne nt) nt
theorem ExtP.wo {H H' : Hp} {p : Addr} (s : Same (wo H p) (wo H' p)) : ExtP p H H' := fun b o e ne _ => wo_le _ _ (s _ _ (wo_at e ne))
theorem same_two {H : Hp} {x dx C : Addr} (nx : H x = none) (nd : H dx = none) : Same H (upd (upd H dx (.own x)) x (.ins C dx [])) := Same.updNew (same_upd nd) nx
/-- what is told, as data -/
def toldZ : Told → Str
  | .lot _ => "none"
  | .nums _ => "priorities"
def toldI : Told → List Int
  | .lot l => l.map fun i : Nat => (i : Int)
  | .nums l => l
theorem told_at {K : PySem.W.Frag} {H : Hp} {v : V} {t : Told} (h : ToldAt K H v t) : ∃ u q, v = .ref u ∧ TA K H u q (toldZ t) (toldI t) := by
  cases t with
  | lot l =>
    obtain ⟨p, q, e, h1, h2⟩ := h
    exact ⟨p, q, e, h1, by show SqT K H q ((l.map fun i : Nat => (i : Int)).map V.int); rw [← natsV_ints]; exact h2⟩
  | nums l =>
    obtain ⟨p, q, e, h1, h2⟩ := h
    exact ⟨p, q, e, h1, h2⟩
theorem told_word (t : Told) : wordZ (toldZ t) := by
  cases t with
  | lot l => exact .inl rfl
  | nums l => exact .inr rfl
theorem isW_in {n lo hi : Int} (h1 : lo ≤ n) (h2 : n ≤ hi) : isW (.int n) lo hi = true := by
  show (decide (lo ≤ n) && decide (n ≤ hi)) = true
  rw [decide_eq_true h1, decide_eq_true h2]
  rfl
theorem map_intD (l : List Int) : (l.map PyData.int).map intD = l := by
  rw [List.map_map]
  exact List.map_id'' (fun _ => rfl) l
theorem told_right {js : List Job} (g : GoodJ js) {ws : List Int} {t : Told} (h : told js ws = t) : toldB js ws (.tuple [.str (toldZ t), .tuple ((toldI t).map .int)]) = true ∧ Few8 (toldI t) ∧ (toldI t).length ≤ 5 ∧ toldI t ≠ [] ∧ decide (V.str (toldZ t) = V.str "priorities") = thereB js ws := by
  have hfew := g.few
  have hne : 0 < js.length := List.length_pos_iff.mpr g.ne
  cases t with
  | lot l =>
    obtain ⟨h1, h2, h3, h4, h5⟩ := told_lot g h
    have oth : Oth js l := ⟨h3.nd, h4⟩
    have hl := oth.len
    refine ⟨?_, ⟨by show (l.map _).length ≤ 8; rw [List.length_map]; omega, fun x hx => ?_⟩, by show (l.map _).length ≤ 5; rw [List.length_map]; omega, by show l.map _ ≠ []; simpa using h2, by rw [h1]; rfl⟩
    · have e1 : ((l.map fun i : Nat => (i : Int)).map PyData.int).map intD = l.map fun i : Nat => (i : Int) := map_intD _
      have e2 : ((l.map fun i : Nat => (i : Int)).map PyData.int).map natD = l := by
        rw [List.map_map, List.map_map]
        exact List.map_id'' (fun i => by show (((i : Nat) : Int)).toNat = i; omega) l
      show (if isS (.str "none") "priorities" = true then numsB js ws ((l.map fun i : Nat => (i : Int)).map PyData.int) else if isS (.str "none") "none" = true then lotB js ws ((l.map fun i : Nat => (i : Int)).map PyData.int) else false) = true
      rw [if_neg (by decide), if_pos (by decide)]
      unfold lotB
      rw [e1, e2, h5]
      have a1 : (((l.map fun i : Nat => (i : Int)).map PyData.int).map fun d => isW d 0 ((js.length : Nat) - 1)).all id = true := by
        rw [List.all_map, List.all_eq_true]
        intro d hd
        obtain ⟨x, hx, rfl⟩ := List.mem_map.mp hd
        obtain ⟨i, hi, rfl⟩ := List.mem_map.mp hx
        have := h4 i hi
        show isW (.int ((i : Nat) : Int)) 0 ((js.length : Nat) - 1) = true
        exact isW_in (by omega) (by omega)
      have a2 : decide (0 < ((l.map fun i : Nat => (i : Int)).map PyData.int).length) = true := by
        rw [List.length_map, List.length_map]
        exact decide_eq_true (List.length_pos_iff.mpr h2)
      have a3 : ascB (l.map fun i : Nat => (i : Int)) = true := by
        unfold ascB
        rw [decide_eq_true_eq, List.pairwise_map]
        exact List.Pairwise.imp (fun h => by omega) h3
      rw [a1, a2, a3]
      rfl
    · obtain ⟨i, hi, rfl⟩ := List.mem_map.mp hx
      have := h4 i hi
      omega
  | nums l =>
    obtain ⟨h1, h2, h3, h4, h5⟩ := told_nums g h
    refine ⟨?_, ⟨by show l.length ≤ 8; omega, fun x hx => by have := h3 x hx; omega⟩, by show l.length ≤ 5; omega, by show l ≠ []; exact List.length_pos_iff.mp (by omega), by rw [h1]; rfl⟩
    show (if isS (.str "priorities") "priorities" = true then numsB js ws (l.map PyData.int) else if isS (.str "priorities") "none" = true then lotB js ws (l.map PyData.int) else false) = true
    rw [if_pos (by decide)]
    unfold numsB
    rw [map_intD, List.length_map, decide_eq_true h2, decide_eq_true h4]
    have a1 : ((l.map PyData.int).map fun d => isW d 0 7).all id = true := by
      rw [List.all_map, List.all_eq_true]
      intro d hd
      obtain ⟨x, hx, rfl⟩ := List.mem_map.mp hd
      have := h3 x hx
      show isW (.int x) 0 7 = true
      exact isW_in (by omega) (by omega)
    have a2 : ((List.range js.length).map fun j => fitP js ws j fun o => decide (o ∈ gtL l js.length j)).all id = true := by
      rw [List.all_map, List.all_eq_true]
      intro j hj
      have hj := List.mem_range.mp hj
      have := h5 j hj
      show fitP js ws j (fun o => decide (o ∈ gtL l js.length j)) = true
      rw [fit_congr (q := fun o => decide (l.getD j 0 < l.getD o 0)) fun o ho => ?_]
      · exact this
      · unfold gtL
        rw [Bool.eq_iff_iff, decide_eq_true_eq, decide_eq_true_eq, List.mem_filter]
        exact ⟨fun h => of_decide_eq_true h.2, fun h => ⟨List.mem_range.mpr ho, decide_eq_true h⟩⟩
    rw [a1, a2]
    rfl
theorem within_ok {js : List Job} {ws : List Int} (hl : ws.length = js.length) (hb : ∀ i, i < js.length → 1 ≤ ws.getD i 0 ∧ ws.getD i 0 ≤ evJ js i) : withinB js (.tuple (ws.map .int)) = true := by
  show (decide ((ws.map PyData.int).length = js.length) && _) = true
  rw [List.length_map, decide_eq_true hl, Bool.true_and, List.all_map, List.all_eq_true]
  intro i hi
  have hi := List.mem_range.mp hi
  obtain ⟨h1, h2⟩ := hb i (by omega)
  show isW ((ws.map PyData.int).getD i .none) 1 (evJ js i) = true
  have e : (ws.map PyData.int).getD i .none = .int (ws.getD i 0) := by
    rw [List.getD_eq_getElem?_getD, List.getD_eq_getElem?_getD, List.getElem?_map, List.getElem?_eq_getElem (by omega)]
    rfl
  rw [e]
  exact isW_in h1 h2
section
variable {P : Program} {w : World} {K : PySem.W.Frag} {mg : Str → Option Value} {base : Heap}
theorem LAt.car {C : Addr} {H H' : Hp} {p a : Addr} {n : Nat} {js : List Job} (hp : Pot H p n) (s : Same (wo H p) (wo H' p)) (h : LAt K C H a js) : LAt K C H' a js := by
  obtain ⟨dx, fs, t, ts, h1, h2, h3, h4⟩ := h
  have ne : a ≠ p := by
    rintro rfl
    obtain ⟨xs, e⟩ := pot_lst hp
    rw [h1] at e
    cases e
  exact ⟨dx, fs, t, ts, wo_le _ _ (s _ _ (wo_at h1 ne)), h2, sqT_car hp s h3, jobs_car hp s h4⟩
theorem JobsAt.ext {H H' : Hp} {xs : List V} {js : List Job} (h : JobsAt K H xs js) (e : ExtN H H') : JobsAt K H' xs js := ⟨h.1, fun i r q => let ⟨p, e1, e2⟩ := h.2 i r q; ⟨p, e1, sqT_extN e2 e⟩⟩
theorem LAt.ext {C : Addr} {H H' : Hp} {a : Addr} {js : List Job} (h : LAt K C H a js) (e : ExtN H H') : LAt K C H' a js := by
  obtain ⟨dx, fs, t, ts, h1, h2, h3, h4⟩ := h
  exact ⟨dx, fs, t, ts, e _ _ h1 (fun ps z => by cases z), h2, sqT_extN h3 e, h4.ext e⟩
theorem TA.ext {H H' : Hp} {u q : Addr} {z : Str} {il : List Int} (h : TA K H u q z il) (e : ExtN H H') : TA K H' u q z il := ⟨sqT_extN h.1 e, sqT_extN h.2 e⟩
theorem extN_wo {H H' : Hp} {c : Addr} (e : ExtN H H') : ExtN (wo H c) (wo H' c) := fun b o h n => by
  have hb : b ≠ c := fun z => by rw [z, wo_same] at h; cases h
  rw [wo_ne hb] at h ⊢
  exact e b o h n
theorem JobsAt.same {H H' : Hp} {xs : List V} {js : List Job} (h : JobsAt K H xs js) (s : Same H H') : JobsAt K H' xs js := jobs_same s h
theorem JobsAt.car {H H' : Hp} {p : Addr} {n : Nat} {xs : List V} {js : List Job} (hp : Pot H p n) (s : Same (wo H p) (wo H' p)) (h : JobsAt K H xs js) : JobsAt K H' xs js := jobs_car hp s h
theorem LAt.updL {C : Addr} {H : Hp} {D a : Addr} {js : List Job} {ys : List V} {o : HO} (h : LAt K C H a js) (hD : H D = some (.lst ys)) : LAt K C (upd H D o) a js := by
  obtain ⟨dx, fs, t, ts, h1, h2, h3, h4⟩ := h
  have ne : a ≠ D := by rintro rfl; rw [h1] at hD; cases hD
  exact ⟨dx, fs, t, ts, by rw [upd_ne ne]; exact h1, h2, sqT_upd h3 hD, jobs_list hD h4⟩
theorem getD_snoc {l : List Int} {b : Int} {k : Nat} : (l ++ [b]).getD k 0 = if k < l.length then l.getD k 0 else if k = l.length then b else 0 := by
  rw [List.getD_eq_getElem?_getD, List.getD_eq_getElem?_getD]
  split
  · rename_i c; rw [List.getElem?_append_left c]
  · rename_i c
    rw [List.getElem?_append_right (by omega)]
    split
    · rename_i d; subst d; rw [Nat.sub_self]; rfl
    · rename_i d
      rw [List.getElem?_eq_none (by rw [List.length_singleton]; omega)]
      rfl
theorem okB (b : Bool) : okData (.bool b) = true := by cases b <;> decide +kernel
theorem pair_ok {z : Str} {il : List Int} (hz : wordZ z) (hi : Few8 il) : okData (.tuple [.str z, .tuple (il.map .int)]) = true ∧ slim (.tuple [.str z, .tuple (il.map .int)]) = true := by
  have : okM 2 3272 (.tuple [.str z, .tuple (il.map .int)]) := okM.tup (k := 1) (m := 408) (fun d hd => by
    simp only [List.mem_cons, List.not_mem_nil, or_false] at hd
    rcases hd with rfl | rfl
    · exact (okM.str hz.ok (by decide)).mono (by decide) (by decide)
    · exact okM_intsT hi) (by show 2 ≤ 8; decide)
  exact ⟨this.1.ok (by decide) (by decide), this.2⟩
def spRight (K : PySem.W.Frag) (T : List (Addr × Str)) : Sp := fun vs H Q _ => ∃ p : Addr, vs = [.ref p] ∧ Pot H p 0 ∧ Tabs T H ∧ ∀ H', ExtP p H H' → Tabs T H' → Q (.bl true) H'
theorem ok_Right {k : Nat} {f : Addr} {fd : FuncData} {C2 CL CS g cc Pt fLo:Addr} {gd fdLo:FuncData} {T:List (Addr × Str)} (F : Fun K "_law_right" "_law_right" sRight f fd) (hcc : fd.code = .ref cc) (TB : TabB base mg cc Pt) (Tm : (Pt, Str.ofString "_law_right.<locals>." ++ "<lambda>") ∈ T) (T1 : ∀ p ∈ T, p.1 = Pt → p.2 = Str.ofString "_law_right.<locals>." ++ "<lambda>") (FH : Fun K "_law_heard" "_law_heard" sHeard g gd) (bH : L2.Binds K gd ["call"] []) (gH : mg "_law_heard" = some (.ref g)) (gS : mg "CoreError" = some (.ref CS)) (gLd : Cal P w K mg base CX0 (k + 10) "_law_loads_drawn" ["pot", "most"] (spLoadsDrawn K)) (gLt : Cal P w K mg base CX0 (k + 10) "_law_loads_text" ["jobs"] (spLoadsText K)) (gOf : Cal P w K mg base CX0 (k + 10) "_law_of" ["pot", "some"] (spOf K)) (gTa : Cal P w K mg base CX0 (k + 10) "_law_take" ["pot", "upto"] spTake) (gPrD : Cal P w K mg base (L2.CX P w) (k + 10) "priorities" ["loads", "within"] (spPrio K CL C2)) (gTl : Cal P w K mg base CX0 (k + 10) "_law_is_told" ["jobs", "within", "value"] (spTold K)) (gTh : Cal P w K mg base CX0 (k + 10) "_law_is_there" ["jobs", "within"] (spThere K)) (gVa : Cal P w K mg base CX0 (k + 10) "_law_values" ["pot", "jobs", "told"] (spValues K)) (gSpD : Cal P w K mg base (L2.CX P w) (k + 10) "shows_priorities" ["loads", "within", "value"] (spShows K CL C2)) (gBe : Cal P w K mg base CX0 (k + 10) "_law_bent" ["pot", "value"] (spBent K 1)) (gOd : Cal P w K mg base CX0 (k + 10) "_law_odd" ["pot"] (spOdd K)) (gLw : Cal P w K mg base CX0 (k + 10) "_law_is_within" ["jobs", "value"] (spLWithin K)) (gPrL : Cal P w K mg base (L2.CX P w) (k + 8) "priorities" ["loads", "within"] (spPrio K CL C2)) (gSpL : Cal P w K mg base (L2.CX P w) (k + 8) "shows_priorities" ["loads", "within", "value"] (spShows K CL C2)) (MLo : Mk K CL fLo) (GLo : FnOk P w K mg base CX0 (k + 9) fLo fdLo ["self", "text"] (spLoads K CL)) (bLo : L2.Binds K fdLo ["self", "text"] []) (gLo : mg "Loads" = some (.ref CL)) (T2 : LF K CL) (gBadWithin : mg "BadWithin" = some (.ref C2)) (X2 : Err1 K CS C2) (kt2 : PySem.W.kitOne K (.ref C2) (.ref C2) = some true) (fall : mg "all" = none) (fisinstance : mg "isinstance" = none) (flist : mg "list" = none) (fmin : mg "min" = none) (frepr : mg "repr" = none) (ftuple : mg "tuple" = none) : FnG P w K mg base (k + 11) f fd ["pot"] (spRight K T) := by
  obtain ⟨fLd, fdLd, GLd, kLd, bLd, mLd⟩ := gLd
  obtain ⟨fLt, fdLt, GLt, kLt, bLt, mLt⟩ := gLt
  obtain ⟨fOf, fdOf, GOf, kOf, bOf, mOf⟩ := gOf
  obtain ⟨fTa, fdTa, GTa, kTa, bTa, mTa⟩ := gTa
  obtain ⟨fPrD, fdPrD, GPrD, kPrD, bPrD, mPrD⟩ := gPrD
  obtain ⟨fTl, fdTl, GTl, kTl, bTl, mTl⟩ := gTl
  obtain ⟨fTh, fdTh, GTh, kTh, bTh, mTh⟩ := gTh
  obtain ⟨fVa, fdVa, GVa, kVa, bVa, mVa⟩ := gVa
  obtain ⟨fSpD, fdSpD, GSpD, kSpD, bSpD, mSpD⟩ := gSpD
  obtain ⟨fBe, fdBe, GBe, kBe, bBe, mBe⟩ := gBe
  obtain ⟨fOd, fdOd, GOd, kOd, bOd, mOd⟩ := gOd
  obtain ⟨fLw, fdLw, GLw, kLw, bLw, mLw⟩ := gLw
  obtain ⟨fPrL, fdPrL, GPrL, kPrL, bPrL, mPrL⟩ := gPrL
  obtain ⟨fSpL, fdSpL, GSpL, kSpL, bSpL, mSpL⟩ := gSpL
  refine fnG_code F hcc scRight (fun vs H Q E h => ?_) (fun A outer s H vs Q hr gd h => ?_)
  · obtain ⟨p, rfl, _⟩ := h
    rfl
  · have M : LamM (cxOf CX0 P w K mg base ["pot", "jobs", "loads", "within", "every", "rank", "work", "told", "value", "some", "odd", "caught", "one"] "_law_right" (defScope sRight) f (.ref cc) A outer s H E0).nox T cc Pt := ⟨TB, rfl, Tm, T1⟩
    obtain ⟨p, rfl, hp, hT, q⟩ := h
    refine ⟨_, (pss_cons (ps_set (i := 1) scRight.nd rfl (.inl rfl) (pe_call GLd hr (by rfl) mLd kLd bLd .nil pass0 (pa_cons (pv 0) (pa_cons pe_int pa_nil)))) (pss_cons (ps_asg (pe_tup (pa_cons (pe_make MLo GLo hr (by rfl) gLo bLo .nil pass0 (pa_cons (pe_call GLt hr (by rfl) mLt kLt bLt .nil pass0 (pa_cons (pv 1) pa_nil)) pa_nil)) (pa_cons (pe_lst pa_nil) pa_nil))) (pg_tup (by rfl) (pgs_cons (pg_name (i := 2) scRight.nd rfl (.inr rfl)) (pgs_cons (pg_name (i := 3) scRight.nd rfl (.inl rfl)) pgs_nil)))) (pss_cons (ps_for PassesOwn.never rfl (pi_list (pv 1)) (pg_tup (by rfl) (pgs_cons (pg_name (i := 4) scRight.nd rfl (.inl rfl)) (pgs_cons (pg_name (i := 5) scRight.nd rfl (.inl rfl)) (pgs_cons (pg_name (i := 6) scRight.nd rfl (.inl rfl)) pgs_nil)))) (pss_one (ps_expr (pe_bm PySem.F.plainAttrs_list PySem.F.slot_list_append PySem.F.type_list_append mt_append (pv 3) (pa_cons (pe_call GOf hr (by rfl) mOf kOf bOf .nil pass0 (pa_cons (pv 0) (pa_cons (pe_lst (pa_cons (pv 4) (pa_cons (pv 4) (pa_cons (pe_callB (call_min2 rfl) (by rfl) fmin (by decide +kernel) (pa_cons (pv 4) (pa_cons (pe_op op_add (pv 6) (pe_call GTa hr (by rfl) mTa kTa bTa .nil pass0 (pa_cons (pv 0) (pa_cons pe_int pa_nil)))) pa_nil))) (pa_cons (pe_op op_add pe_int (pe_call GTa hr (by rfl) mTa kTa bTa .nil pass0 (pa_cons (pv 0) (pa_cons (pv 4) pa_nil)))) pa_nil))))) pa_nil))) pa_nil))))) (pss_cons (ps_set (i := 3) scRight.nd rfl (.inl rfl) (pe_callTy call_tuple_of (by rfl) ftuple (by decide +kernel) (pa_cons (pv 3) pa_nil))) (pss_cons (ps_set (i := 7) scRight.nd rfl (.inr rfl) (pe_call GPrD hr (by rfl) mPrD kPrD bPrD .nil passX (pa_cons (pv 2) (pa_cons (pv 3) pa_nil)))) (pss_cons (ps_if (PW.pt (pw_or (pt_not (pt_val (pe_call GTl hr (by rfl) mTl kTl bTl .nil pass0 (pa_cons (pv 1) (pa_cons (pv 3) (pa_cons (pv 7) pa_nil)))))) (pw_or1 (pt_cmpR op_ne (pe_cmpR op_eq (pe_ix ix_tup (pv 7) pe_int (fun _ _ => rfl)) pe_str (nomark _)) (pe_call GTh hr (by rfl) mTh kTh bTh .nil pass0 (pa_cons (pv 1) (pa_cons (pv 3) pa_nil))) (nomark _))))) (pss_one (ps_ret pe_bl)) pss_nil) (pss_cons (ps_for PassesOwn.never rfl (pi_list (pe_call GVa hr (by rfl) mVa kVa bVa .nil pass0 (pa_cons (pv 0) (pa_cons (pv 1) (pa_cons (pv 7) pa_nil))))) (pg_name (i := 8) scRight.nd rfl (.inl rfl)) (pss_one (ps_if (pt_cmpR op_ne (pe_callB (call_repr gd hr.units) (by rfl) frepr (by decide +kernel) (pa_cons (pe_call GSpD hr (by rfl) mSpD kSpD bSpD .nil passX (pa_cons (pv 2) (pa_cons (pv 3) (pa_cons (pv 8) pa_nil)))) pa_nil)) (pe_callB (call_repr gd hr.units) (by rfl) frepr (by decide +kernel) (pa_cons (pe_call GTl hr (by rfl) mTl kTl bTl .nil pass0 (pa_cons (pv 1) (pa_cons (pv 3) (pa_cons (pv 8) pa_nil)))) pa_nil)) (nomark _)) (pss_one (ps_ret pe_bl)) pss_nil))) (pss_cons (ps_set (i := 9) scRight.nd rfl (.inl rfl) (pe_lst (pa_cons (pe_slice sl_tupA (pv 3) (po_some pe_int) po_none) (pa_cons (pe_op op_catA (pv 3) (pe_tup (pa_cons pe_int pa_nil))) (pa_cons (pe_callTy call_list_of (by rfl) flist (by decide +kernel) (pa_cons (pv 3) pa_nil)) (pa_cons (pe_op op_catA (pe_tup (pa_cons pe_int pa_nil)) (pe_slice sl_tupA (pv 3) (po_some pe_int) po_none)) (pa_cons (pe_call GBe hr (by rfl) mBe kBe bBe .nil pass0 (pa_cons (pv 0) (pa_cons (pv 3) pa_nil))) (pa_cons (pe_call GOd hr (by rfl) mOd kOd bOd .nil pass0 (pa_cons (pv 0) pa_nil)) pa_nil)))))))) (pss_cons (ps_set (i := 10) scRight.nd rfl (.inr rfl) (pe_call GOf hr (by rfl) mOf kOf bOf .nil pass0 (pa_cons (pv 0) (pa_cons (pv 9) pa_nil)))) (pss_cons (ps_set (i := 11) scRight.nd rfl (.inl rfl) (pe_lst (pa_cons (pe_ix ix_tup (pe_heard (ι := Unit) (D := fun _ => lamRight 0) (k := (k+8)) FH bH (by rfl) gH gS hr (pe_lam M (lamRight_sc 0 (by omega)) (by rfl)) (fun _ => lamRight_sc 0 (by omega)) (fun _ _ _ _ => by rfl) (fun _ A' outer' s' H' E' f' c' hr' => pe_call (X := lamCx _ A' outer' s' H' E' (lamRight 0).scope f' c') GPrL hr' (by rfl) mPrL kPrL bPrL .nil VG.passL (pa_cons (pv 2) (pa_cons (pv 10) pa_nil)))) pe_int (fun _ _ => rfl)) (pa_cons pe_non pa_nil)))) (pss_cons (ps_asg (pe_ix ix_tup (pe_heard (ι := Unit) (D := fun _ => lamRight 1) (k := (k+8)) FH bH (by rfl) gH gS hr (pe_lam M (lamRight_sc 1 (by omega)) (by rfl)) (fun _ => lamRight_sc 1 (by omega)) (fun _ _ _ _ => by rfl) (fun _ A' outer' s' H' E' f' c' hr' => pe_call (X := lamCx _ A' outer' s' H' E' (lamRight 1).scope f' c') GSpL hr' (by rfl) mSpL kSpL bSpL .nil VG.passL (pa_cons (pv 2) (pa_cons (pv 10) (pa_cons (pv 7) pa_nil))))) pe_int (fun _ _ => rfl)) (pg_sub (pv 11) pe_int set_list)) (pss_cons (ps_if (pt_val (pe_call GLw hr (by rfl) mLw kLw bLw .nil pass0 (pa_cons (pv 1) (pa_cons (pv 10) pa_nil)))) (pss_one (ps_ret (pe_cmpR (op_eqD hr.units) (pv 11) (pe_lst (pa_cons pe_non (pa_cons pe_non pa_nil))) (nomark _)))) pss_nil) (pss_one (ps_ret (pe_callB (cr_all rfl) (by rfl) fall (by decide +kernel) (pa_cons (pe_lc (own := [("one", 12)]) (g := (gName 12)) (tt := tYes) rfl scRight.nd (pi_list (pv 11)) (blkOk_by (N := ["pot", "jobs", "loads", "within", "every", "rank", "work", "told", "value", "some", "odd", "caught", "one"]) (sc := defScope sRight) (by decide +kernel)) (fun _ _ _ _ _ => (pg_name (i := 12) scRight.nd rfl (.inl rfl))) (fun _ _ _ _ _ => pts_nil) (fun _ _ _ _ _ => (pe_and (pe_callB (show CallR _ (.builtin "isinstance") (rIsErrB K) from call_isErrB) (by rfl) fisinstance (by decide +kernel) (pa_cons (pv 12) (pa_cons (pgr (by rfl) gBadWithin) pa_nil))) (pe_one (pe_cmpR op_eq (pe_callB (show CallR _ (.builtin "repr") (rRepr K) from call_repr gd hr.units) (by rfl) frepr (by decide +kernel) (pa_cons (show PE _ _ (tErrF K "value" _) from pe_errF (pv 12)) pa_nil)) (pe_callB (show CallR _ (.builtin "repr") (rRepr K) from call_repr gd hr.units) (by rfl) frepr (by decide +kernel) (pa_cons (pv 10) pa_nil)) (nomark _)))))) pa_nil)))))))))))))))), ?_⟩
    refine ⟨.ref p, rfl, p, 0, rfl, hp, by decide, fun H1 l xs js hp1 sw hl el hj g => ?_⟩
    have hHT : ∃ ys, H p = some (.lst ys) := pot_lst hp
    have hp := hp1
    clear hp1
    have hfew := g.few
    have hxl := hj.1
    refine ⟨.ref l, rfl, l, xs, js, rfl, SqL.of hl, hj, g, fun H2 s2 => ?_⟩
    have hl := s2 _ _ hl
    have hj := hj.same s2
    have hp := hp.same s2
    have sw := sw.trans (wo_same_of s2)
    intro q0 dx nq ndx nex
    have sN := same_two (C := CL) nq ndx
    have eq0 : q0 ≠ p := hp.ne nq
    refine ⟨q0, dx, js, rfl, upd_same, g, fun H3 k3 la => ⟨rfl, ?_⟩⟩
    have s23 : Same H2 H3 := fun b o e => k3 b o (sN b o e) fun y => by rw [y, nq] at e; cases e
    have hl := s23 _ _ hl
    have hj := hj.same s23
    have hp := hp.same s23
    have sw := sw.trans (wo_same_of s23)
    clear k3 sN s23 s2
    refine ⟨by show 0 ≤ sizeLine; decide, fun W nW => ?_⟩
    have nW0 : H W = none := none_wo sw nW (hp.ne nW)
    have nWl0 : W ≠ l := by rintro rfl; rw [nW] at hl; cases hl
    have sW := same_upd (o := (.lst [])) nW
    have eW : W ≠ p := hp.ne nW
    have hW : upd H3 W (.lst []) W = some (.lst []) := upd_same
    have hl := sW _ _ hl
    have hj := hj.same sW
    have la := la.same sW
    have hp := hp.same sW
    have sw := sw.trans (wo_same_of sW)
    generalize upd H3 W (.lst []) = Hz1 at hW hl hj la hp sw ⊢
    clear sW nW
    refine ⟨by show 2 ≤ sizeLine; decide, fun T0 nT0 => ?_⟩
    have sT0 := same_upd (o := (.tup [V.ref q0, .ref W])) nT0
    have eT0 : T0 ≠ p := hp.ne nT0
    have hT0 : upd Hz1 T0 (.tup [V.ref q0, .ref W]) T0 = some (.tup [V.ref q0, .ref W]) := upd_same
    have hl := sT0 _ _ hl
    have hW := sT0 _ _ hW
    have hj := hj.same sT0
    have la := la.same sT0
    have hp := hp.same sT0
    have sw := sw.trans (wo_same_of sT0)
    generalize upd Hz1 T0 (.tup [V.ref q0, .ref W]) = Hz2 at hT0 hl hW hj la hp sw ⊢
    clear sT0 nT0
    refine ⟨T0, [.ref q0, .ref W], rfl, SqT.of hT0, rfl, .ref q0, [.ref W], rfl, .ref W, [], rfl, rfl, ?_⟩
    clear hT0
    refine ⟨.ref l, rfl, l, rfl, ⟨_, SqL.of hl⟩, ?_⟩
    refine for_list (xs := xs) (fun i σ H' => ∃ y4 y5 y6 ws, σ = [some (.ref p), some (.ref l), some (.ref q0), some (.ref W), y4, y5, y6, none, none, none, none, none, none] ∧ Pot H' p (40 + 3 * i) ∧ Same (wo H p) (wo H' p) ∧ H' l = some (.lst xs) ∧ JobsAt K H' xs js ∧ LAt K CL H' q0 js ∧ H' W = some (.lst (ws.map V.int)) ∧ ws.length = i ∧ ∀ k, k < i → 1 ≤ ws.getD k 0 ∧ ws.getD k 0 ≤ evJ js k)
      ⟨none, none, none, [], rfl, hp.mono (by omega), sw, hl, hj, la, hW, rfl, fun k h => absurd h (Nat.not_lt_zero k)⟩ (fun i σ H' _ hP => ?_) (fun i x σ H' hx hP => ?_) fun σ H' hP => ?_
    · obtain ⟨_, _, _, _, _, _, _, h, _⟩ := hP
      exact SqL.of h
    · clear hp sw hl hj la hW
      obtain ⟨y4, y5, y6, ws, rfl, hp, sw, hl, hj, la, hW, hwl, hwb⟩ := hP
      have hi := (List.getElem?_eq_some_iff.mp hx).1
      have hi2 : i < js.length := by omega
      obtain ⟨b, d1, d2⟩ := hj.at hi2
      have hxb : xs[i]? = some (.ref b) := by
        have := d1
        unfold atI ixN at this
        rw [if_pos (by omega), if_pos (by omega)] at this
        exact this
      cases Option.some.inj (hx.symm.trans hxb)
      have hev := g.evb i
      have hwk := g.wk1 hi2
      refine ⟨b, _, rfl, d2, rfl, .int (evJ js i), [.int (rkJ js i), .int (wkJ js i)], rfl, .int (rkJ js i), [.int (wkJ js i)], rfl, .int (wkJ js i), [], rfl, rfl, ?_⟩
      refine ⟨.ref W, rfl, .inl ⟨rfl, _, SqL.of hW⟩, .ref p, rfl, .int (evJ js i), rfl, .int (evJ js i), rfl, .int (evJ js i), rfl, .int (wkJ js i), rfl, .ref p, rfl, p, 8, _, rfl, by decide, by decide, hp, by omega, fun t H4 t0 t1 hp4 s4 => ?_⟩
      clear d1 d2 hxb
      have hl := wo_le _ _ (s4 _ _ (wo_at hl el))
      have hW := wo_le _ _ (s4 _ _ (wo_at hW eW))
      have hj := hj.car hp s4
      have la := la.car hp s4
      have sw := sw.trans s4
      have hp := hp4
      refine ⟨wkJ js i, t, rfl, rfl, evJ js i, _, rfl, .ref p, rfl, .int (evJ js i), rfl, p, evJ js i, _, rfl, by omega, by omega, hp, by omega, fun t2 H5 t20 t21 hp5 s5 => ⟨1, t2, rfl, rfl, ?_⟩⟩
      have hl := wo_le _ _ (s5 _ _ (wo_at hl el))
      have hW := wo_le _ _ (s5 _ _ (wo_at hW eW))
      have hj := hj.car hp s5
      have la := la.car hp s5
      have sw := sw.trans s5
      have hp := hp5
      refine ⟨by show 4 ≤ sizeLine; decide, fun L nL => ?_⟩
      have hin : ∀ x ∈ [V.int (evJ js i), .int (evJ js i), .int (if wkJ js i + t < evJ js i then wkJ js i + t else evJ js i), .int (1 + t2)], ∃ b : Int, x = .int b ∧ 1 ≤ b ∧ b ≤ evJ js i := fun x hx => by
        simp only [List.mem_cons, List.not_mem_nil, or_false] at hx
        rcases hx with rfl | rfl | rfl | rfl
        · exact ⟨_, rfl, by omega, by omega⟩
        · exact ⟨_, rfl, by omega, by omega⟩
        · refine ⟨_, rfl, ?_, ?_⟩ <;> split <;> omega
        · exact ⟨_, rfl, by omega, by omega⟩
      generalize hys : [V.int (evJ js i), .int (evJ js i), .int (if wkJ js i + t < evJ js i then wkJ js i + t else evJ js i), .int (1 + t2)] = ys at hin ⊢
      have hyl : ys.length = 4 := by rw [← hys]; rfl
      have sL := same_upd (o := (.lst ys)) nL
      have eL : L ≠ p := hp.ne nL
      have hL : upd H5 L (.lst ys) L = some (.lst ys) := upd_same
      have hl := sL _ _ hl
      have hW := sL _ _ hW
      have hj := hj.same sL
      have la := la.same sL
      have hp := hp.same sL
      have sw := sw.trans (wo_same_of sL)
      generalize upd H5 L (.lst ys) = Hz1 at hL hl hW hj la hp sw ⊢
      clear sL nL
      refine ⟨p, L, ys, _, rfl, SqL.of (wo_at hL eL), fun z => (by rw [z] at hyl; cases hyl), by omega, hp, by omega, fun x hx H6 hp6 s6 => ?_⟩
      obtain ⟨bb, rfl, b1, b2⟩ := hin x hx
      have hl := wo_le _ _ (s6 _ _ (wo_at hl el))
      have hW := wo_le _ _ (s6 _ _ (wo_at hW eW))
      have hj := hj.car hp s6
      have la := la.car hp s6
      have sw := sw.trans s6
      have hp := hp6
      refine ⟨W, _, _, rfl, rfl, hW, small1000 (by rw [List.length_map]; omega), ?_⟩
      refine ⟨_, _, _, ws ++ [bb], rfl, (hp.upd eW).mono (by omega), wo_updNew sw nW0, by rw [upd_ne nWl0.symm]; exact hl, jobs_list hW hj, la.updL hW, by rw [upd_same, List.map_append]; rfl, by rw [List.length_append, hwl]; rfl, fun k hk => ?_⟩
      rw [getD_snoc]
      split
      · rename_i c
        exact hwb k (by omega)
      · rename_i c
        obtain rfl : k = i := by omega
        rw [if_pos (by omega)]
        exact ⟨b1, b2⟩
    · clear hp sw hl hj la hW
      obtain ⟨y4, y5, y6, ws, rfl, hp, sw, hl, hj, la, hW, hwl, hwb⟩ := hP
      rw [hxl] at hwl hwb hp
      refine ⟨.ref W, rfl, W, _, rfl, .inl ⟨SqL.of hW, fun w_ nw_ => ?_⟩⟩
      have sw_ := same_upd (o := (.tup (ws.map V.int))) nw_
      have ew_ : w_ ≠ p := hp.ne nw_
      have hw_ : upd H' w_ (.tup (ws.map V.int)) w_ = some (.tup (ws.map V.int)) := upd_same
      have hl := sw_ _ _ hl
      have hW := sw_ _ _ hW
      have hj := hj.same sw_
      have la := la.same sw_
      have hp := hp.same sw_
      have sw := sw.trans (wo_same_of sw_)
      generalize upd H' w_ (.tup (ws.map V.int)) = Hz1 at hw_ hl hW hj la hp sw ⊢
      clear sw_ nw_
      have hww : SqT K Hz1 w_ (ws.map V.int) := SqT.of hw_
      clear hW
      have hwi := within_ok hwl hwb
      have wsb : ∀ x ∈ ws, 1 ≤ x ∧ x ≤ 99 := fun x hx => by
        obtain ⟨i, hi, e⟩ := List.mem_iff_getElem.mp hx
        have h1 := hwb i (by omega)
        have h2 := g.evb i
        rw [List.getD_eq_getElem?_getD, List.getElem?_eq_getElem hi, e] at h1
        have h1 : 1 ≤ x ∧ x ≤ evJ js i := h1
        omega
      have fewW : FewD (.tuple (ws.map .int)) := fun ds e => by cases e; rw [List.length_map]; omega
      have nobad : ∀ {A : Prop}, withinB js (.tuple (ws.map .int)) = false → A := fun e => by rw [hwi] at e; cases e
      refine ⟨.ref q0, rfl, .ref w_, rfl, q0, js, .ref w_, .tuple (ws.map .int), rfl, la, g, .dp (.tup (SqT.of hw_) (dp_ints _)), fewW, fun e => nobad e, fun ws' ee _ H7 u s7 tat => ?_⟩
      obtain rfl : ws = ws' := by
        have := PyData.tuple.inj ee
        have h2 := congrArg (List.map intD) this
        rwa [map_intD, map_intD] at h2
      clear ee hww
      have hl := s7 _ _ hl
      have hw_ := s7 _ _ hw_
      have hj := hj.same s7
      have la := la.same s7
      have hp := hp.same s7
      have sw := sw.trans (wo_same_of s7)
      obtain ⟨ua, uq, rfl, ta⟩ := told_at tat
      obtain ⟨tB, tI, t5, tn, tEq⟩ := told_right g (rfl : told js ws = told js ws)
      have tW := told_word (told js ws)
      generalize toldZ (told js ws) = tz at ta tB tEq tW
      generalize toldI (told js ws) = til at ta tB tI t5 tn
      clear tat
      have okT : okData (.tuple [.str tz, .tuple (til.map .int)]) = true ∧ slim (.tuple [.str tz, .tuple (til.map .int)]) = true := pair_ok tW tI
      refine ⟨.ref l, rfl, .ref w_, rfl, .ref ua, rfl, l, w_, xs, js, ws, .ref ua, _, rfl, SqL.of hl, hj, g, SqT.of hw_, hwl, .dp (dp_pair ta.1 ta.2), okT.1, okT.2, fun H8 s8 => ⟨_, rfl, ?_⟩⟩
      rw [tB]
      have hl := s8 _ _ hl
      have hw_ := s8 _ _ hw_
      have hj := hj.same s8
      have la := la.same s8
      have ta := ta.same s8
      have hp := hp.same s8
      have sw := sw.trans (wo_same_of s8)
      refine iteF ⟨.ref ua, rfl, ua, _, 0, .str tz, rfl, rfl, ta.1, at0, rfl, .ref l, rfl, .ref w_, rfl, l, w_, xs, js, ws, rfl, SqL.of hl, hj, g, SqT.of hw_, hwl, fun H9 s9 => ⟨rfl, _, rfl, ?_⟩⟩
      rw [tEq, same_f]
      refine iteF ?_
      have hl := s9 _ _ hl
      have hw_ := s9 _ _ hw_
      have hj := hj.same s9
      have la := la.same s9
      have ta := ta.same s9
      have hp := hp.same s9
      have sw := sw.trans (wo_same_of s9)
      have n1 : 1 ≤ xs.length := by have := List.length_pos_iff.mpr g.ne; omega
      refine ⟨.ref p, rfl, .ref l, rfl, .ref ua, rfl, p, l, ua, uq, _, xs.length, xs, tz, til, rfl, SqL.of hl, rfl, n1, by omega, ta, tW, tI, by omega, tn, hp, by omega, fun H10 F ys hp10 s10 hF eF allF => ⟨F, rfl, ⟨_, SqL.of hF⟩, ?_⟩⟩
      have hl := wo_le _ _ (s10 _ _ (wo_at hl el))
      have hw_ := wo_le _ _ (s10 _ _ (wo_at hw_ ew_))
      have hj := hj.car hp s10
      have la := la.car hp s10
      have ta := ta.car hp s10
      have sw := sw.trans s10
      have hp := hp10
      have allF : ∀ y ∈ ys, Fit3 K (wo H10 p) y := fun y hy => (allF y hy).same wo_le
      refine for_list (xs := ys) (fun i σ H' => ∃ y8, σ = [some (.ref p), some (.ref l), some (.ref q0), some (.ref w_), y4, y5, y6, some (.ref ua), y8, none, none, none, none] ∧ Same H10 H') ⟨none, rfl, Same.refl _⟩ (fun i σ H' _ hP => ?_) (fun i x σ H' hx hP => ?_) fun σ H' hP => ?_
      · obtain ⟨_, _, sm⟩ := hP
        exact SqL.of (sm _ _ hF)
      · obtain ⟨y8, rfl, sm⟩ := hP
        obtain ⟨d, hd, ok, sl⟩ := allF x (List.mem_of_getElem? hx)
        have hd := (hd.same wo_le).same sm
        refine ⟨.ref q0, rfl, .ref w_, rfl, x, rfl, q0, js, .ref w_, x, .tuple (ws.map .int), d, rfl, la.same sm, g, .dp (.tup (SqT.of (sm _ _ hw_)) (dp_ints _)), fewW, hd, ok, fun e => nobad e, fun ws' ee _ H11 s11 => ?_⟩
        obtain rfl : ws = ws' := by
          have := PyData.tuple.inj ee
          have h2 := congrArg (List.map intD) this
          rwa [map_intD, map_intD] at h2
        have sm11 := sm.trans s11
        refine ⟨.bl _, .bool (toldB js ws d), rfl, .dp (.bl _), okB _, .ref l, rfl, .ref w_, rfl, x, rfl, l, w_, xs, js, ws, x, d, rfl, SqL.of (sm11 _ _ hl), jobs_same sm11 hj, g, SqT.of (sm11 _ _ hw_), hwl, hd.same s11, ok, sl, fun H12 s12 => ⟨.bl _, .bool (toldB js ws d), rfl, .dp (.bl _), okB _, rfl, _, rfl, ?_⟩⟩
        rw [same_f]
        exact iteF ⟨_, rfl, sm11.trans s12⟩
      · obtain ⟨y8, rfl, sm⟩ := hP
        clear allF hF
        have hl := sm _ _ hl
        have hw_ := sm _ _ hw_
        have hj := hj.same sm
        have la := la.same sm
        have ta := ta.same sm
        have hp := hp.same sm
        have sw := sw.trans (wo_same_of sm)
        have hB1 : BD 1 (.tuple (ws.map .int)) := .tup (by have := List.length_pos_iff.mpr g.ne; intro z; have := congrArg List.length z; rw [List.length_map, hwl] at this; exact absurd this (by show ¬ js.length = 0; omega)) (by rw [List.length_map]; omega) fun d hd => by
          obtain ⟨x, hx, rfl⟩ := List.mem_map.mp hd
          have := wsb x hx
          exact .int (by omega) (by omega)
        have fW : Few8 ws := ⟨by omega, fun x hx => by have := wsb x hx; omega⟩
        have subW : ∀ ys : List V, (∀ y ∈ ys, y ∈ ws.map V.int ∨ y = .int 0 ∨ y = .int 1) → ys.length ≤ 8 → ∃ il : List Int, ys = il.map V.int ∧ Few8 il := fun ys h hl => by
          have h2 : ∀ y ∈ ys, y ∈ (0 :: 1 :: ws).map V.int := fun y hy => by
            rcases h y hy with z | z | z
            · exact List.mem_cons_of_mem _ (List.mem_cons_of_mem _ z)
            · subst z; simp
            · subst z; simp
          obtain ⟨il, rfl, hi⟩ := ints_sub h2
          rw [List.length_map] at hl
          exact ⟨il, rfl, hl, fun x hx => by
            rcases List.mem_cons.mp (hi x hx) with z | z
            · omega
            · rcases List.mem_cons.mp z with z | z
              · omega
              · exact fW.2 x z⟩
        refine ⟨.ref w_, rfl, 1, rfl, ?_⟩
        unfold tNoPart
        refine slice_any (SqT.of hw_) fun a1 Ha ya hya ina lea sa => ?_
        have hl := sa _ _ hl
        have hw_ := sa _ _ hw_
        have hj := hj.same sa
        have la := la.same sa
        have ta := ta.same sa
        have hp := hp.same sa
        have sw := sw.trans (wo_same_of sa)
        obtain ⟨ia, rfl, fa⟩ := subW ya (fun y hy => .inl (ina y hy)) (by rw [List.length_map] at lea; omega)
        have f1 : Fit3 K (wo Ha p) (.ref a1) := fit_of (dp_intsT (sqT_pot hp hya)) (okM_intsT fa) (by decide) (by decide)
        refine ⟨.ref w_, rfl, by show 1 ≤ sizeLine; decide, fun t1 nt1 => ?_⟩
        have st1 := same_upd (o := (.tup [V.int 1])) nt1
        have et1 : t1 ≠ p := hp.ne nt1
        have ht1 : upd Ha t1 (.tup [V.int 1]) t1 = some (.tup [V.int 1]) := upd_same
        have hl := st1 _ _ hl
        have hw_ := st1 _ _ hw_
        have hj := hj.same st1
        have la := la.same st1
        have ta := ta.same st1
        have f1 := f1.same (wo_same_of st1)
        have hp := hp.same st1
        have sw := sw.trans (wo_same_of st1)
        generalize upd Ha t1 (.tup [V.int 1]) = Hz1 at ht1 hl hw_ hj la ta f1 hp sw ⊢
        clear st1 nt1
        refine catA_one (SqT.of hw_) (SqT.of ht1) (sl (by rw [List.length_map]; show _ + 1 ≤ 1000; omega)) fun a2 Hb hyb sb => ?_
        have hl := sb _ _ hl
        have hw_ := sb _ _ hw_
        have hj := hj.same sb
        have la := la.same sb
        have ta := ta.same sb
        have f1 := f1.same (wo_same_of sb)
        have hp := hp.same sb
        have sw := sw.trans (wo_same_of sb)
        obtain ⟨ib, eb, fb⟩ := subW (ws.map V.int ++ [V.int 1]) (fun y hy => (List.mem_append.mp hy).elim .inl fun z => .inr (.inr (List.mem_singleton.mp z))) (by rw [List.length_append, List.length_map]; show _ + 1 ≤ 8; omega)
        rw [eb] at hyb
        have f2 : Fit3 K (wo Hb p) (.ref a2) := fit_of (dp_intsT (sqT_pot hp hyb)) (okM_intsT fb) (by decide) (by decide)
        refine ⟨.ref w_, rfl, w_, _, rfl, .inr (SqT.of hw_), fun a3 na3 => ?_⟩
        have sa3 := same_upd (o := (.lst (ws.map V.int))) na3
        have ea3 : a3 ≠ p := hp.ne na3
        have ha3 : upd Hb a3 (.lst (ws.map V.int)) a3 = some (.lst (ws.map V.int)) := upd_same
        have hl := sa3 _ _ hl
        have hw_ := sa3 _ _ hw_
        have hj := hj.same sa3
        have la := la.same sa3
        have ta := ta.same sa3
        have f1 := f1.same (wo_same_of sa3)
        have f2 := f2.same (wo_same_of sa3)
        have hp := hp.same sa3
        have sw := sw.trans (wo_same_of sa3)
        generalize upd Hb a3 (.lst (ws.map V.int)) = Hz2 at ha3 hl hw_ hj la ta f1 f2 hp sw ⊢
        clear sa3 na3
        have f3 : Fit3 K (wo Hz2 p) (.ref a3) := fit_of (d := .list (ws.map .int)) (.lst (SqL.of (wo_at ha3 ea3)) (dp_ints _)) (okM_intsL fW) (by decide) (by decide)
        refine ⟨by show 1 ≤ sizeLine; decide, fun t4 nt4 => ?_⟩
        have st4 := same_upd (o := (.tup [V.int 0])) nt4
        have et4 : t4 ≠ p := hp.ne nt4
        have ht4 : upd Hz2 t4 (.tup [V.int 0]) t4 = some (.tup [V.int 0]) := upd_same
        have hl := st4 _ _ hl
        have hw_ := st4 _ _ hw_
        have hj := hj.same st4
        have la := la.same st4
        have ta := ta.same st4
        have f1 := f1.same (wo_same_of st4)
        have f2 := f2.same (wo_same_of st4)
        have f3 := f3.same (wo_same_of st4)
        have hp := hp.same st4
        have sw := sw.trans (wo_same_of st4)
        generalize upd Hz2 t4 (.tup [V.int 0]) = Hz3 at ht4 hl hw_ hj la ta f1 f2 f3 hp sw ⊢
        clear st4 nt4
        refine ⟨.ref w_, rfl, 1, rfl, ?_⟩
        refine slice_any (SqT.of hw_) fun c4 Hc yc hyc inc lec sc => ?_
        have hl := sc _ _ hl
        have hw_ := sc _ _ hw_
        have ht4 := sc _ _ ht4
        have hj := hj.same sc
        have la := la.same sc
        have ta := ta.same sc
        have f1 := f1.same (wo_same_of sc)
        have f2 := f2.same (wo_same_of sc)
        have f3 := f3.same (wo_same_of sc)
        have hp := hp.same sc
        have sw := sw.trans (wo_same_of sc)
        refine catA_one (SqT.of ht4) hyc (sl (by rw [List.length_map] at lec; show 1 + _ ≤ 1000; omega)) fun a4 Hd hyd sd => ?_
        have hl := sd _ _ hl
        have hw_ := sd _ _ hw_
        have hj := hj.same sd
        have la := la.same sd
        have ta := ta.same sd
        have f1 := f1.same (wo_same_of sd)
        have f2 := f2.same (wo_same_of sd)
        have f3 := f3.same (wo_same_of sd)
        have hp := hp.same sd
        have sw := sw.trans (wo_same_of sd)
        obtain ⟨id_, ed, fd_⟩ := subW ([V.int 0] ++ yc) (fun y hy => (List.mem_append.mp hy).elim (fun z => .inr (.inl (List.mem_singleton.mp z))) fun z => .inl (inc y z)) (by rw [List.length_map] at lec; rw [List.length_append]; show 1 + _ ≤ 8; omega)
        rw [ed] at hyd
        have f4 : Fit3 K (wo Hd p) (.ref a4) := fit_of (dp_intsT (sqT_pot hp hyd)) (okM_intsT fd_) (by decide) (by decide)
        refine ⟨.ref p, rfl, .ref w_, rfl, p, _, .ref w_, .tuple (ws.map .int), rfl, dp_intsT (sqT_pot hp (SqT.of hw_)), hB1, by decide, hp, by omega, fun a5 d5 He hpe se hd5 ok5 => ?_⟩
        have f5 : Fit3 K (wo He p) a5 := fit_of (dp_same (nl_wo (pot_lst hp)) _ _ hd5) ok5 (by decide) (by decide)
        have hl := wo_le _ _ (se _ _ (wo_at hl el))
        have hw_ := wo_le _ _ (se _ _ (wo_at hw_ ew_))
        have hj := hj.car hp se
        have la := la.car hp se
        have ta := ta.car hp se
        have f1 := f1.same se
        have f2 := f2.same se
        have f3 := f3.same se
        have f4 := f4.same se
        have sw := sw.trans se
        have hp := hpe
        refine ⟨.ref p, rfl, p, _, rfl, hp, by omega, fun a6 d6 Hf hpf sf hd6 ok6 => ?_⟩
        have f6 : Fit3 K (wo Hf p) a6 := by
          unfold okOdd at ok6
          rw [Bool.and_eq_true] at ok6
          exact ⟨d6, hd6.same (nl_wo (pot_lst hp)), ok6.1, ok6.2⟩
        have hl := wo_le _ _ (sf _ _ (wo_at hl el))
        have hw_ := wo_le _ _ (sf _ _ (wo_at hw_ ew_))
        have hj := hj.car hp sf
        have la := la.car hp sf
        have ta := ta.car hp sf
        have f1 := f1.same sf
        have f2 := f2.same sf
        have f3 := f3.same sf
        have f4 := f4.same sf
        have f5 := f5.same sf
        have sw := sw.trans sf
        have hp := hpf
        refine ⟨by show 6 ≤ sizeLine; decide, fun G nG => ?_⟩
        have sG := same_upd (o := (.lst [V.ref a1, .ref a2, .ref a3, .ref a4, a5, a6])) nG
        have eG : G ≠ p := hp.ne nG
        have hG : upd Hf G (.lst [V.ref a1, .ref a2, .ref a3, .ref a4, a5, a6]) G = some (.lst [V.ref a1, .ref a2, .ref a3, .ref a4, a5, a6]) := upd_same
        have hl := sG _ _ hl
        have hw_ := sG _ _ hw_
        have hj := hj.same sG
        have la := la.same sG
        have ta := ta.same sG
        have f1 := f1.same (wo_same_of sG)
        have f2 := f2.same (wo_same_of sG)
        have f3 := f3.same (wo_same_of sG)
        have f4 := f4.same (wo_same_of sG)
        have f5 := f5.same (wo_same_of sG)
        have f6 := f6.same (wo_same_of sG)
        have hp := hp.same sG
        have sw := sw.trans (wo_same_of sG)
        generalize upd Hf G (.lst [V.ref a1, .ref a2, .ref a3, .ref a4, a5, a6]) = Hz4 at hG hl hw_ hj la ta f1 f2 f3 f4 f5 f6 hp sw ⊢
        clear sG nG
        have allG : ∀ y ∈ [V.ref a1, .ref a2, .ref a3, .ref a4, a5, a6], Fit3 K (wo Hz4 p) y := fun y hy => by
          simp only [List.mem_cons, List.not_mem_nil, or_false] at hy
          rcases hy with rfl | rfl | rfl | rfl | rfl | rfl
          · exact f1
          · exact f2
          · exact f3
          · exact f4
          · exact f5
          · exact f6
        refine ⟨.ref p, rfl, .ref G, rfl, p, G, _, _, rfl, SqL.of (wo_at hG eG), by simp, by show 6 ≤ 1000; decide, hp, by omega, fun x hx Hg hpg sg => ?_⟩
        have fx : Fit3 K (wo Hg p) x := (allG x hx).same sg
        clear allG f1 f2 f3 f4 f5 f6 hx
        have hl := wo_le _ _ (sg _ _ (wo_at hl el))
        have hw_ := wo_le _ _ (sg _ _ (wo_at hw_ ew_))
        have hj := hj.car hp sg
        have la := la.car hp sg
        have ta := ta.car hp sg
        have sw := sw.trans sg
        have hp := hpg
        obtain ⟨d, hdx, okx, slx⟩ := fx
        have hd := hdx.same wo_le
        clear hdx slx
        have tc : Tabs T Hg := tabs_wo hT hHT sw
        have ec : ExtP p H Hg := ExtP.wo sw
        have fewD := okD_few okx
        cases hb : withinB js d with
        | false =>
          refine ⟨tc, fun f1 F1 e1 t1 l1 nf1 => ⟨(), f1, rfl, l1, fun J1 s1 E1 Q1 hE1 hB1 => ?_⟩⟩
          have e1 := e1.trans (ExtN.of s1)
          clear tc
          have tc := t1.ext s1
          have hl := e1 _ _ hl (fun ps z => by cases z)
          have hj := hj.ext e1
          have la := la.ext e1
          have ta := ta.ext e1
          have hd := hd.ext e1
          have ec := ExtP.ext ec e1
          refine ⟨.ref q0, rfl, x, rfl, q0, js, x, d, rfl, la, g, hd, fewD, fun eb M1 dd1 s61 nd1 => ?_, fun ws_ ee ew => (by rw [hb] at ew; cases ew)⟩
          refine hE1 _ _ _ ⟨X2.x, C2, dd1, rfl, rfl, fun ea1 pt1 na1 np1 => ?_⟩
          have hl := s61 _ _ hl
          have hj := hj.same s61
          have la := la.same s61
          have ta := ta.same s61
          have hd := hd.same s61
          have ec := ExtP.ext ec (ExtN.of s61)
          have tc := tc.ext s61
          have sd1 := same_upd (o := .xd [("value", x)]) nd1
          have se1 := same_upd (o := ErrO C2 dd1 ea1) na1
          have sp1 := same_upd (o := .tup [V.ref ea1, .non]) np1
          have herr1 := sp1 _ _ (upd_same (H := upd M1 dd1 (.xd [("value", x)])) (a := ea1) (o := ErrO C2 dd1 ea1))
          have hdd1 := (se1.trans sp1) _ _ (upd_same (H := M1) (a := dd1) (o := .xd [("value", x)]))
          have hpt1 : upd (upd (upd M1 dd1 (.xd [("value", x)])) ea1 (ErrO C2 dd1 ea1)) pt1 (.tup [V.ref ea1, .non]) pt1 = some (.tup [V.ref ea1, .non]) := upd_same
          have hl := ((sd1.trans se1).trans sp1) _ _ hl
          have hj := hj.same ((sd1.trans se1).trans sp1)
          have la := la.same ((sd1.trans se1).trans sp1)
          have ta := ta.same ((sd1.trans se1).trans sp1)
          have hd := hd.same ((sd1.trans se1).trans sp1)
          have ec := ExtP.ext ec (ExtN.of ((sd1.trans se1).trans sp1))
          have tc := tc.ext ((sd1.trans se1).trans sp1)
          generalize upd (upd (upd M1 dd1 (.xd [("value", x)])) ea1 (ErrO C2 dd1 ea1)) pt1 (.tup [V.ref ea1, .non]) = N1 at hl hj la ta hd ec tc herr1 hdd1 hpt1 ⊢
          refine ⟨pt1, _, 0, .ref ea1, rfl, rfl, SqT.of hpt1, at0, by show 2 ≤ sizeLine; decide, fun C nC => ?_⟩
          have sC := same_upd (o := .lst [V.ref ea1, .non]) nC
          have hC : upd N1 C (.lst [V.ref ea1, .non]) C = some (.lst [V.ref ea1, .non]) := upd_same
          have nCl : l ≠ C := by rintro rfl; rw [hl] at nC; cases nC
          have hdW := hd.same (same_wo_new (o := .lst [V.ref ea1, .non]) nC)
          have eC : ∀ {o : HO}, H C = some o → C ≠ p → (∀ ps, o ≠ .tbl ps) → False := fun e n t => by rw [ec _ _ e n t] at nC; cases nC
          have npC : C = p ∨ C ≠ p := Classical.em _
          have hl := sC _ _ hl
          have hdd1 := sC _ _ hdd1
          have herr1 := sC _ _ herr1
          have hj := hj.same sC
          have la := la.same sC
          have ta := ta.same sC
          have hd := hd.same sC
          have ec := ExtP.ext ec (ExtN.of sC)
          have tc := tc.ext sC
          generalize upd N1 C (.lst [V.ref ea1, .non]) = O1 at hl hdd1 herr1 hj la ta hd ec tc hC hdW ⊢
          refine ⟨tc, fun f2 F2 e2 t2 l2 nf2 => ⟨(), f2, rfl, l2, fun J2 s2 E2 Q2 hE2 hB2 => ?_⟩⟩
          have e2 := e2.trans (ExtN.of s2)
          clear tc
          have tc := t2.ext s2
          have hl := e2 _ _ hl (fun ps z => by cases z)
          have hdd1 := e2 _ _ hdd1 (fun ps z => by cases z)
          have hC := e2 _ _ hC (fun ps z => by cases z)
          have herr1 := e2 _ _ herr1 (fun ps z => by unfold ErrO at z; cases z)
          have hj := hj.ext e2
          have la := la.ext e2
          have ta := ta.ext e2
          have hd := hd.ext e2
          have hdW := hdW.ext (extN_wo e2)
          have ec := ExtP.ext ec e2
          refine ⟨.ref q0, rfl, x, rfl, .ref ua, rfl, q0, js, x, .ref ua, d, .tuple [.str tz, .tuple (til.map .int)], rfl, la, g, hd, fewD, .dp (dp_pair ta.1 ta.2), okT.1, fun eb M2 dd2 s62 nd2 => ?_, fun ws_ ee ew => (by rw [hb] at ew; cases ew)⟩
          refine hE2 _ _ _ ⟨X2.x, C2, dd2, rfl, rfl, fun ea2 pt2 na2 np2 => ?_⟩
          have hl := s62 _ _ hl
          have hdd1 := s62 _ _ hdd1
          have hC := s62 _ _ hC
          have herr1 := s62 _ _ herr1
          have hj := hj.same s62
          have la := la.same s62
          have ta := ta.same s62
          have hd := hd.same s62
          have hdW := hdW.same (wo_same_of s62)
          have ec := ExtP.ext ec (ExtN.of s62)
          have tc := tc.ext s62
          have sd2 := same_upd (o := .xd [("value", x)]) nd2
          have se2 := same_upd (o := ErrO C2 dd2 ea2) na2
          have sp2 := same_upd (o := .tup [V.ref ea2, .non]) np2
          have herr2 := sp2 _ _ (upd_same (H := upd M2 dd2 (.xd [("value", x)])) (a := ea2) (o := ErrO C2 dd2 ea2))
          have hdd2 := (se2.trans sp2) _ _ (upd_same (H := M2) (a := dd2) (o := .xd [("value", x)]))
          have hpt2 : upd (upd (upd M2 dd2 (.xd [("value", x)])) ea2 (ErrO C2 dd2 ea2)) pt2 (.tup [V.ref ea2, .non]) pt2 = some (.tup [V.ref ea2, .non]) := upd_same
          have hl := ((sd2.trans se2).trans sp2) _ _ hl
          have hdd1 := ((sd2.trans se2).trans sp2) _ _ hdd1
          have hC := ((sd2.trans se2).trans sp2) _ _ hC
          have herr1 := ((sd2.trans se2).trans sp2) _ _ herr1
          have hj := hj.same ((sd2.trans se2).trans sp2)
          have la := la.same ((sd2.trans se2).trans sp2)
          have ta := ta.same ((sd2.trans se2).trans sp2)
          have hd := hd.same ((sd2.trans se2).trans sp2)
          have hdW := hdW.same (wo_same_of ((sd2.trans se2).trans sp2))
          have ec := ExtP.ext ec (ExtN.of ((sd2.trans se2).trans sp2))
          have tc := tc.ext ((sd2.trans se2).trans sp2)
          generalize upd (upd (upd M2 dd2 (.xd [("value", x)])) ea2 (ErrO C2 dd2 ea2)) pt2 (.tup [V.ref ea2, .non]) = N2 at hl hdd1 hC herr1 hj la ta hd hdW ec tc herr2 hdd2 hpt2 ⊢
          refine ⟨pt2, _, 0, .ref ea2, rfl, rfl, SqT.of hpt2, at0, .ref C, rfl, C, [V.ref ea1, .non], 1, 1, rfl, rfl, hC, rfl, ?_⟩
          have hC2 : upd N2 C (.lst ([V.ref ea1, .non].set 1 (.ref ea2))) C = some (.lst [V.ref ea1, .ref ea2]) := upd_same
          have hl := (upd_ne (o := (.lst ([V.ref ea1, .non].set 1 (.ref ea2)))) nCl).trans hl
          have hdd1 := (upd_ne (o := (.lst ([V.ref ea1, .non].set 1 (.ref ea2)))) (fun z => by rw [z, hC] at hdd1; cases hdd1)).trans hdd1
          have hdd2 := (upd_ne (o := (.lst ([V.ref ea1, .non].set 1 (.ref ea2)))) (fun z => by rw [z, hC] at hdd2; cases hdd2)).trans hdd2
          have herr1 := (upd_ne (o := (.lst ([V.ref ea1, .non].set 1 (.ref ea2)))) (fun z => by rw [z, hC] at herr1; unfold ErrO at herr1; cases herr1)).trans herr1
          have herr2 := (upd_ne (o := (.lst ([V.ref ea1, .non].set 1 (.ref ea2)))) (fun z => by rw [z, hC] at herr2; unfold ErrO at herr2; cases herr2)).trans herr2
          have hj := jobs_list (o := (.lst ([V.ref ea1, .non].set 1 (.ref ea2)))) hC hj
          have hd : Dk K (upd N2 C (.lst ([V.ref ea1, .non].set 1 (.ref ea2)))) x d := Dk.same wo_le (by rw [wo_upd]; exact hdW)
          have tc := tabs_upd (o := (.lst ([V.ref ea1, .non].set 1 (.ref ea2)))) tc hC
          have ec : ExtP p H (upd N2 C (.lst ([V.ref ea1, .non].set 1 (.ref ea2)))) := fun b o e n t => by
            have hbC : b ≠ C := fun z => by subst z; exact eC e n t
            rw [upd_ne hbC]
            exact ec b o e n t
          generalize upd N2 C (.lst ([V.ref ea1, .non].set 1 (.ref ea2))) = O2 at hC2 hl hj hd tc ec hdd1 hdd2 herr1 herr2 ⊢
          refine ⟨.ref l, rfl, x, rfl, l, xs, js, x, d, rfl, SqL.of hl, hj, g, hd, fun O3 s3 => ⟨_, rfl, ?_⟩⟩
          rw [hb]
          have hC2 := s3 _ _ hC2
          have hl := s3 _ _ hl
          have hdd1 := s3 _ _ hdd1
          have hdd2 := s3 _ _ hdd2
          have herr1 := s3 _ _ herr1
          have herr2 := s3 _ _ herr2
          have hd := hd.same s3
          have ec := ExtP.ext ec (ExtN.of s3)
          have tc := tc.ext s3
          refine iteF ⟨.ref C, rfl, C, rfl, ⟨_, SqL.of hC2⟩, fun D nD => ?_⟩
          have eD : D ≠ C := by rintro rfl; rw [hC2] at nD; cases nD
          have errAt : ∀ (i : Nat) (y : V), [V.ref ea1, .ref ea2][i]? = some y → ∃ e dd, y = .ref e ∧ O3 e = some (ErrO C2 dd e) ∧ O3 dd = some (.xd [("value", x)]) := fun i y h => by
            match i, h with
            | 0, h => cases h; exact ⟨ea1, dd1, rfl, herr1, hdd1⟩
            | 1, h => cases h; exact ⟨ea2, dd2, rfl, herr2, hdd2⟩
            | i + 2, h => cases h
          refine lc_list (xs := [V.ref ea1, .ref ea2]) (fun i H' => Same O3 H' ∧ H' D = some (.lst ((List.replicate i true).map V.bl))) ⟨same_upd nD, upd_same⟩ (fun i H' _ hP => SqL.of (hP.1 _ _ hC2)) (fun i y H' hy hP => ?_) fun H' hP => ?_
          · obtain ⟨sm, hD⟩ := hP
            obtain ⟨e_, dd_, rfl, k1, k2⟩ := errAt i y hy
            have k1 := sm _ _ k1
            have k2 := sm _ _ k2
            have hdm := hd.same sm
            have hi := (List.getElem?_eq_some_iff.mp hy).1
            refine ⟨rfl, yesT ⟨.ref e_, rfl, e_, C2, C2, dd_, _, true, rfl, k1, k2, X2.i, kt2, true, rfl, iteT ⟨.ref e_, rfl, e_, C2, dd_, [("value", x)], x, rfl, k1, X2.i.f, X2.n, k2, rfl, x, d, rfl, hdm, okx, x, rfl, x, d, rfl, hdm, okx, rfl, _, hD, small1000 (by rw [List.length_map, List.length_replicate]; have : i < 2 := hi; omega), Same.updNew sm nD, ?_⟩⟩⟩
            rw [upd_same, List.replicate_succ', List.map_append]
            show some (HO.lst (_ ++ [V.bl (decide (V.str d.shown = V.str d.shown))])) = _
            rw [decide_eq_true rfl]
            rfl
          · obtain ⟨sm, hD⟩ := hP
            refine ⟨D, _, rfl, SqL.of hD, ?_⟩
            exact q _ (ExtP.ext ec (ExtN.of sm)) (tc.ext sm)
        | true =>
          refine ⟨tc, fun f1 F1 e1 t1 l1 nf1 => ⟨(), f1, rfl, l1, fun J1 s1 E1 Q1 hE1 hB1 => ?_⟩⟩
          have e1 := e1.trans (ExtN.of s1)
          clear tc
          have tc := t1.ext s1
          have hl := e1 _ _ hl (fun ps z => by cases z)
          have hj := hj.ext e1
          have la := la.ext e1
          have ta := ta.ext e1
          have hd := hd.ext e1
          have ec := ExtP.ext ec e1
          refine ⟨.ref q0, rfl, x, rfl, q0, js, x, d, rfl, la, g, hd, fewD, fun eb => (by rw [hb] at eb; cases eb), fun ws_ ee ew M1 u1 s61 tu1 => ?_⟩
          refine hB1 _ _ fun pt1 np1 => ?_
          have hl := s61 _ _ hl
          have hj := hj.same s61
          have la := la.same s61
          have ta := ta.same s61
          have hd := hd.same s61
          have ec := ExtP.ext ec (ExtN.of s61)
          have tc := tc.ext s61
          have sp1 := same_upd (o := .tup [V.non, u1]) np1
          have hpt1 : upd M1 pt1 (.tup [V.non, u1]) pt1 = some (.tup [V.non, u1]) := upd_same
          have hl := sp1 _ _ hl
          have hj := hj.same sp1
          have la := la.same sp1
          have ta := ta.same sp1
          have hd := hd.same sp1
          have ec := ExtP.ext ec (ExtN.of sp1)
          have tc := tc.ext sp1
          generalize upd M1 pt1 (.tup [V.non, u1]) = N1 at hl hj la ta hd ec tc hpt1 ⊢
          refine ⟨pt1, _, 0, .non, rfl, rfl, SqT.of hpt1, at0, by show 2 ≤ sizeLine; decide, fun C nC => ?_⟩
          have sC := same_upd (o := .lst [V.non, .non]) nC
          have hC : upd N1 C (.lst [V.non, .non]) C = some (.lst [V.non, .non]) := upd_same
          have nCl : l ≠ C := by rintro rfl; rw [hl] at nC; cases nC
          have hdW := hd.same (same_wo_new (o := .lst [V.non, .non]) nC)
          have eC : ∀ {o : HO}, H C = some o → C ≠ p → (∀ ps, o ≠ .tbl ps) → False := fun e n t => by rw [ec _ _ e n t] at nC; cases nC
          have hl := sC _ _ hl
          have hj := hj.same sC
          have la := la.same sC
          have ta := ta.same sC
          have hd := hd.same sC
          have ec := ExtP.ext ec (ExtN.of sC)
          have tc := tc.ext sC
          generalize upd N1 C (.lst [V.non, .non]) = O1 at hl hj la ta hd ec tc hC hdW ⊢
          refine ⟨tc, fun f2 F2 e2 t2 l2 nf2 => ⟨(), f2, rfl, l2, fun J2 s2 E2 Q2 hE2 hB2 => ?_⟩⟩
          have e2 := e2.trans (ExtN.of s2)
          clear tc
          have tc := t2.ext s2
          have hl := e2 _ _ hl (fun ps z => by cases z)
          have hC := e2 _ _ hC (fun ps z => by cases z)
          have hj := hj.ext e2
          have la := la.ext e2
          have ta := ta.ext e2
          have hd := hd.ext e2
          have hdW := hdW.ext (extN_wo e2)
          have ec := ExtP.ext ec e2
          refine ⟨.ref q0, rfl, x, rfl, .ref ua, rfl, q0, js, x, .ref ua, d, .tuple [.str tz, .tuple (til.map .int)], rfl, la, g, hd, fewD, .dp (dp_pair ta.1 ta.2), okT.1, fun eb => (by rw [hb] at eb; cases eb), fun ws2_ ee2 ew2 M2 s62 => ?_⟩
          refine hB2 _ _ fun pt2 np2 => ?_
          have hl := s62 _ _ hl
          have hC := s62 _ _ hC
          have hj := hj.same s62
          have la := la.same s62
          have ta := ta.same s62
          have hd := hd.same s62
          have hdW := hdW.same (wo_same_of s62)
          have ec := ExtP.ext ec (ExtN.of s62)
          have tc := tc.ext s62
          have sp2 := same_upd (o := .tup [V.non, .bl (toldB js ws2_ (.tuple [.str tz, .tuple (til.map .int)]))]) np2
          have hpt2 : upd M2 pt2 (.tup [V.non, .bl (toldB js ws2_ (.tuple [.str tz, .tuple (til.map .int)]))]) pt2 = some (.tup [V.non, .bl (toldB js ws2_ (.tuple [.str tz, .tuple (til.map .int)]))]) := upd_same
          have hl := sp2 _ _ hl
          have hC := sp2 _ _ hC
          have hj := hj.same sp2
          have la := la.same sp2
          have ta := ta.same sp2
          have hd := hd.same sp2
          have hdW := hdW.same (wo_same_of sp2)
          have ec := ExtP.ext ec (ExtN.of sp2)
          have tc := tc.ext sp2
          generalize upd M2 pt2 (.tup [V.non, .bl (toldB js ws2_ (.tuple [.str tz, .tuple (til.map .int)]))]) = N2 at hl hC hj la ta hd hdW ec tc hpt2 ⊢
          refine ⟨pt2, _, 0, .non, rfl, rfl, SqT.of hpt2, at0, .ref C, rfl, C, [V.non, .non], 1, 1, rfl, rfl, hC, rfl, ?_⟩
          have hC2 : upd N2 C (.lst ([V.non, .non].set 1 .non)) C = some (.lst [V.non, .non]) := upd_same
          have hl := (upd_ne (o := (.lst ([V.non, .non].set 1 .non))) nCl).trans hl
          have hj := jobs_list (o := (.lst ([V.non, .non].set 1 .non))) hC hj
          have hd : Dk K (upd N2 C (.lst ([V.non, .non].set 1 .non))) x d := Dk.same wo_le (by rw [wo_upd]; exact hdW)
          have tc := tabs_upd (o := (.lst ([V.non, .non].set 1 .non))) tc hC
          have ec : ExtP p H (upd N2 C (.lst ([V.non, .non].set 1 .non))) := fun b o e n t => by
            have hbC : b ≠ C := fun z => by subst z; exact eC e n t
            rw [upd_ne hbC]
            exact ec b o e n t
          generalize upd N2 C (.lst ([V.non, .non].set 1 .non)) = O2 at hC2 hl hj hd tc ec  ⊢
          refine ⟨.ref l, rfl, x, rfl, l, xs, js, x, d, rfl, SqL.of hl, hj, g, hd, fun O3 s3 => ⟨_, rfl, ?_⟩⟩
          rw [hb]
          have hC2 := s3 _ _ hC2
          have hl := s3 _ _ hl
          have ec := ExtP.ext ec (ExtN.of s3)
          have tc := tc.ext s3
          refine iteT ⟨.ref C, rfl, by show 2 ≤ sizeLine; decide, fun L nL => ?_⟩
          have sL := same_upd (o := .lst [V.non, .non]) nL
          refine ⟨.list [.none, .none], .list [.none, .none], .lst (SqL.of (sL _ _ hC2)) (.cons .non (.cons .non .nil)), .lst (SqL.of upd_same) (.cons .non (.cons .non .nil)), by decide, by decide, ?_⟩
          exact q _ (ExtP.ext ec (ExtN.of sL)) (tc.ext sL)
end
end K33

set_option maxRecDepth 100000
set_option maxHeartbeats 8000000
/-! k33: the law. -/
namespace K33
open PySem PySem.Spec PyProof.Rows L2 LamX VG TL
theorem scLaw : FnScope ["script", "place"] ["script"] (defScope sLaw) := ⟨rfl, rfl, rfl, by decide +kernel, rfl, by decide +kernel, by decide +kernel⟩
section
variable {P : Program} {w : World} {K : PySem.W.Frag} {mg : Str → Option Value} {base : Heap}
def spLaw (K : PySem.W.Frag) (T : List (Addr × Str)) : Sp := fun vs H Q _ => ∃ (a : Addr) (ns : List Int), vs = [.ref a] ∧ SqL K H a (ns.map V.int) ∧ ns.length ≤ 63 ∧ Tabs T H ∧ ∀ H', Q (.bl true) H'
theorem ok_Law {k : Nat} {f : Addr} {fd : FuncData} {T:List (Addr × Str)} (F : Fun K "law" "law" sLaw f fd) (gRt : CalG P w K mg base (k + 11) "_law_right" ["pot"] (spRight K T)) (gPo : Cal P w K mg base CX0 (k + 11) "_law_pot" ["script", "place"] (spPot K)) (gCe : Cal P w K mg base CX0 (k + 11) "_law_cells" ["script", "most"] (spCells K))  (fall : mg "all" = none) : FnG P w K mg base (k + 12) f fd ["script"] (spLaw K T) := by
  obtain ⟨fRt, fdRt, GRt, kRt, bRt, mRt⟩ := gRt
  obtain ⟨fPo, fdPo, GPo, kPo, bPo, mPo⟩ := gPo
  obtain ⟨fCe, fdCe, GCe, kCe, bCe, mCe⟩ := gCe
  refine fnG_of F scLaw (fun vs H Q E h => ?_) (fun cdv A outer s H vs Q hr gd h => ?_)
  · obtain ⟨a, ns, rfl, _⟩ := h
    rfl
  · obtain ⟨a, ns, rfl, hs, hn, hT, q⟩ := h
    refine ⟨_, (pss_one (ps_ret (pe_callB (cr_all rfl) (by rfl) fall (by decide +kernel) (pa_cons (pe_lc (own := [("place", 1)]) (g := (gName 1)) (tt := tYes) rfl scLaw.nd (pi_list (pe_call GCe hr (by rfl) mCe kCe bCe .nil pass0 (pa_cons (pv 0) (pa_cons pe_int pa_nil)))) (blkOk_by (N := ["script", "place"]) (sc := defScope sLaw) (by decide +kernel)) (fun _ _ _ _ _ => (pg_name (i := 1) scLaw.nd rfl (.inl rfl))) (fun _ _ _ _ _ => pts_nil) (fun _ _ _ _ _ => (pe_callG GRt hr gd (by rfl) mRt kRt bRt (pa_cons (pe_call GPo hr (by rfl) mPo kPo bPo .nil pass0 (pa_cons (pv 0) (pa_cons (pv 1) pa_nil))) pa_nil)))) pa_nil)))), ?_⟩
    refine ⟨.ref a, rfl, a, ns, rfl, hs, hn, fun l m hm nl => ?_⟩
    have s1 := same_upd (o := .lst ((List.range m).map fun i => V.int (i : Nat))) nl
    refine ⟨l, rfl, ⟨_, SqL.of upd_same⟩, fun D nD => ?_⟩
    have s2 := same_upd (o := .lst []) nD
    have hs1 := s1.seq hs
    have hl1 : SqL K (upd H l (.lst ((List.range m).map fun i => V.int (i : Nat)))) l ((List.range m).map fun i => V.int (i : Nat)) := SqL.of upd_same
    have hT1 := hT.ext s1
    generalize upd H l (.lst ((List.range m).map fun i => V.int (i : Nat))) = H0 at nD s2 hs1 hl1 hT1 ⊢
    refine lc_list (xs := (List.range m).map fun i => V.int (i : Nat)) (fun i H' => ExtN H0 H' ∧ Tabs T H' ∧ H' D = some (.lst ((List.replicate i true).map V.bl)))
      ⟨ExtN.of s2, hT1.ext s2, upd_same⟩ (fun i H' _ hP => sqL_extN hl1 hP.1) (fun i x H' hx hP => ?_) fun H2 hP => ?_
    · obtain ⟨en, ht, hD⟩ := hP
      obtain ⟨j, hj, rfl⟩ := List.mem_map.mp (List.mem_of_getElem? hx)
      have hjm := List.mem_range.mp hj
      have hi : i < m := by have := (List.getElem?_eq_some_iff.mp hx).1; rw [List.length_map, List.length_range] at this; exact this
      refine ⟨rfl, ?_⟩
      unfold tYes
      refine iteT ⟨.ref a, rfl, .int (j : Nat), rfl, a, ns, j, rfl, sqL_extN hs1 en, hn, by omega, fun p H3 np s3 hp => ⟨p, rfl, hp, ht.ext s3, fun H4 e4 t4 => ?_⟩⟩
      have nDp : D ≠ p := fun z => by rw [z, np] at hD; cases hD
      have hD4 := e4 _ _ (s3 _ _ hD) nDp (fun ps z => by cases z)
      refine ⟨_, hD4, small1000 (by rw [List.length_map, List.length_replicate]; omega), fun b o e nt => ?_, tabs_upd t4 hD4, ?_⟩
      · rw [upd_ne (ne_of_none e nD)]
        have eb := en b o e nt
        exact e4 b o (s3 b o eb) (fun z => by rw [z, np] at eb; cases eb) nt
      · rw [upd_same, List.replicate_succ', List.map_append]
        rfl
    · obtain ⟨en, ht, hD⟩ := hP
      have ea : (List.replicate ((List.range m).map fun i => V.int (i : Nat)).length true).all id = true := List.all_eq_true.mpr fun x hx => by
        rw [List.eq_of_mem_replicate hx]
        rfl
      refine ⟨D, List.replicate ((List.range m).map fun i => V.int (i : Nat)).length true, rfl, SqL.of hD, ?_⟩
      rw [ea]
      exact q _
end
end K33

set_option maxRecDepth 100000
set_option maxHeartbeats 2000000
/-! k36: the law's call from outside, with some empty tables. -/
namespace K33
open PySem PySem.Spec PyProof.Rows L2 LamX VG
/-- the tables, and the script where the written part has it not -/
def startT (K : PySem.W.Frag) (Ps : List Addr) (a : Addr) (o : Obj) (xs : List V) : Hp := fun b =>
  if b ∈ Ps then some (.tbl #[]) else if b = a then (match K.lookup a with
    | none => some (.frz o (.lst xs))
    | some _ => none) else none
theorem startT_cases {K : PySem.W.Frag} {Ps : List Addr} {a b : Addr} {o : Obj} {xs : List V} {u : HO} (h : startT K Ps a o xs b = some u) : (b ∈ Ps ∧ u = .tbl #[]) ∨ (b = a ∧ K.lookup a = none ∧ u = .frz o (.lst xs)) := by
  unfold startT at h
  by_cases c : b ∈ Ps
  · rw [if_pos c] at h
    exact .inl ⟨c, (Option.some.inj h).symm⟩
  · rw [if_neg c] at h
    by_cases c2 : b = a
    · rw [if_pos c2] at h
      cases hk : K.lookup a with
      | some x =>
        rw [hk] at h
        cases h
      | none =>
        rw [hk] at h
        exact .inr ⟨c2, rfl, (Option.some.inj h).symm⟩
    · rw [if_neg c2] at h
      cases h
theorem call_tops {P : Program} {w : World} {K : PySem.W.Frag} {mg mb : Str → Option Value} {k : Nat} {fa a : Addr} {Ts : List (Addr × Addr)} {fd : FuncData} {x : Str} {sp : Sp} {s : Shared} {us : List Value} {ns : List Int}
    (kin : K.In s.heap) (gl : s.heap.Ns mainGlobals mg) (bl : s.heap.Ns builtinsNs mb) (blb : ∀ y : Str, y ≠ "__name__" → mb y = bootBuiltins y) (nol : s.heap.NoLimit) (gens : s.gens = #[])
    (tabs : ∀ t ∈ Ts, s.heap.get? t.2 = some { cls := .none, data := .fields #[] }) (tabsK : ∀ t ∈ Ts, K.lookup t.2 = none) (cods : ∀ t ∈ Ts, PySem.W.CodeHd s.heap t.1 t.2)
    (bmain : ∃ (bm : Addr) (ob : Obj), mg "__builtins__" = some (.ref bm) ∧ bm ≠ builtinsNs ∧ s.heap.get? bm = some ob ∧ ob.cls = .type "module" ∧ ob.dict = some builtinsNs ∧ ob.data = .plain)
    (scr : s.heap.get? a = some { cls := .type "list", data := .seq us.toArray }) (areI : IntsAre us ns) (short : ns.length ≤ sizeLine) (room : Room k callerA)
    (F : ∀ base : Heap, K.In base → base.Ns mainGlobals mg → (∀ t ∈ Ts, TabB base mg t.1 t.2) → FnG P w K mg base k fa fd [x] sp) (bind : ∀ (s : Shared) (u : Value), BindsTo s fd ⟨[u], []⟩ [(x, u)])
    (keep : ∀ H : Hp, (∀ t ∈ Ts, H t.2 = some (.tbl #[])) → SqL K H a (ns.map V.int) → sp [.ref a] H (fun v _ => v = .bl true) E0) :
    codeAny (model P w) callerA (.call (.ref fa) ⟨[.ref a], []⟩) (fun r s' => r = .ok (.ret (.bool true)) ∧ OldK s.heap s'.heap ∧ s'.os = s.os ∧ AllBare s'.gens) s := by
  have vals := vals_ints areI
  have same_len := areI.length
  have tab : ∀ b ∈ Ts.map (·.2), s.heap.get? b = some { cls := .none, data := .fields #[] } := fun b hb => by
    obtain ⟨t, ht, rfl⟩ := List.mem_map.mp hb
    exact tabs t ht
  generalize hH : startT K (Ts.map (·.2)) a { cls := .type "list", data := .seq us.toArray } (ns.map V.int) = H
  have look : ∀ {b : Addr} {u : HO}, H b = some u → (b ∈ Ts.map (·.2) ∧ u = .tbl #[]) ∨ (b = a ∧ K.lookup a = none ∧ u = .frz { cls := .type "list", data := .seq us.toArray } (.lst (ns.map V.int))) := fun {b u} e => startT_cases (hH ▸ e)
  have apart : a ∉ Ts.map (·.2) := fun z => by
    have e := tab a z
    rw [e] at scr
    exact absurd (congrArg Obj.data (Option.some.inj scr)) (fun y => nomatch y)
  have hP : ∀ b ∈ Ts.map (·.2), H b = some (.tbl #[]) := fun b hb => by rw [← hH]; exact if_pos hb
  have hPt : ∀ t ∈ Ts, H t.2 = some (.tbl #[]) := fun t ht => hP _ (List.mem_map.mpr ⟨t, ht, rfl⟩)
  have hseq : SqL K H a (ns.map V.int) := by
    cases hk : K.lookup a with
    | some o =>
      have e := (kin a o hk).symm.trans scr
      exact .inr ⟨_, us.toArray, _, by rw [hk, Option.some.inj e], rfl, rfl, rfl, by rw [List.size_toArray, same_len]; exact short, by simpa using vals⟩
    | none =>
      refine .inl (.inr ⟨{ cls := .type "list", data := .seq us.toArray }, ?_⟩)
      rw [← hH]
      unfold startT
      rw [if_neg apart, if_pos rfl, hk]
  have sound : HOk P w H s.heap := fun b u e => by
    rcases look e with ⟨hb, rfl⟩ | ⟨rfl, _, rfl⟩
    · exact tab b hb
    · exact ⟨scr, by rw [List.length_map]; exact short, us, _, vals, scr⟩
  -- what is no list and no empty record is not tracked
  have out : ∀ {b : Addr} {o : Obj}, s.heap.get? b = some o → (∀ is n, o.data ≠ .seq is n) → o.data ≠ .fields #[] → H b = none := fun {b o} e n1 n2 => by
    cases q : H b with
    | none => rfl
    | some u =>
      rcases look q with ⟨hb, _⟩ | ⟨rfl, _⟩
      · exact absurd (congrArg Obj.data (Option.some.inj ((tab b hb).symm.trans e))).symm n2
      · exact absurd (congrArg Obj.data (Option.some.inj (scr.symm.trans e))).symm (n1 _ _)
  have outD : ∀ {b : Addr} {o : Obj} {es : Array DictEntry} {n : Nat}, s.heap.get? b = some o → o.data = .dict es n → H b = none := fun {b o es n} e d => out e (fun _ _ z => by rw [d] at z; cases z) fun z => by rw [d] at z; cases z
  have dictK : ∀ {b : Addr} {m : Str → Option Value}, s.heap.Ns b m → (hidT s.heap H).Ns b m := fun {b m} hn => by
    obtain ⟨o, es, n, e, d, r⟩ := hn
    exact ⟨o, es, n, hidT_get e (outD e d), d, r⟩
  have kinB : K.In (hidT s.heap H) := fun b o e => hidT_get (kin b o e) (by
    cases q : H b with
    | none => rfl
    | some u =>
      rcases look q with ⟨hb, _⟩ | ⟨rfl, z, _⟩
      · obtain ⟨t, ht, rfl⟩ := List.mem_map.mp hb
        exact absurd ((tabsK t ht).symm.trans e) fun y => nomatch y
      · exact absurd (z.symm.trans e) fun y => nomatch y)
  have module : L2.Mod K mg (hidT s.heap H) := by
    obtain ⟨ml, e1, e2⟩ := nol
    exact ⟨kinB, dictK gl, ⟨mb, dictK bl, blb⟩, ml, dictK e1, e2⟩
  have table : ∀ t ∈ Ts, TabB (hidT s.heap H) mg t.1 t.2 := fun t ht => by
    have cod := cods t ht
    have tab := tabs t ht
    refine ⟨?_, ?_, fun z => ?_⟩
    · obtain ⟨o, vs, file, tf, flags, tg, inF, text, tt, e1, e2, e3, e4, rest⟩ := cod
      refine ⟨o, vs, file, tf, flags, tg, inF, text, tt, hidT_get e1 (out e1 (fun _ _ y => by rw [e3] at y; cases y) fun y => ?_), e2, e3, e4, rest⟩
      rw [e3] at y
      have y' : vs = #[] := Data.fields.inj y
      rw [y'] at e4
      cases e4
    · obtain ⟨bm, ob, m1, m2, m3, m4, m5, m6⟩ := bmain
      refine ⟨bm, ob, m1, m2, fun y => ?_, fun y => ?_, hidT_get m3 (out m3 (fun _ _ y => by rw [m6] at y; cases y) fun y => by rw [m6] at y; cases y), m4, m5, m6⟩
      · obtain ⟨o, es, n, e, d, _⟩ := gl
        rw [← y, m3] at e
        rw [← Option.some.inj e, m6] at d
        cases d
      · have e := m3.symm.trans (y ▸ tab)
        have d := m6
        rw [Option.some.inj e] at d
        cases d
    · obtain ⟨o, es, n, e, d, _⟩ := gl
      have e' := e.symm.trans (z ▸ tab)
      rw [Option.some.inj e'] at d
      cases d
  have env : Env0 P w K mg (hidT s.heap H) callerA [] s H := ⟨rfl, module, fun b o e => of_hidT e, Nat.le_of_eq (hidT_size _ _), trivial, fun b hb => (List.not_mem_nil hb).elim, sound, .of_eq gens⟩
  refine codeAny_mono ((F _ kinB (dictK gl) table).run callerA [] s H ⟨[.ref a], []⟩ [.ref a] [.ref a] _ room rfl env (bind s (.ref a)) (.cons rfl .nil) (keep H hPt hseq)) fun r s' res => ?_
  match r, res with
  | .ok (.ret u), res =>
    obtain ⟨v, H', same_os, bare, un, sound', rv, ev⟩ := res
    have ev' : v = .bl true := ev
    subst ev'
    obtain rfl : u = Value.bool true := rv
    have stays : ∀ b o, b ∉ Ts.map (·.2) → s.heap.get? b = some o → s'.heap.get? b = some o := fun b o nb e => by
      cases q : H b with
      | none => exact un.keep b o e q (fun z => (List.not_mem_nil z).elim) (by simp)
      | some u =>
        rcases look q with ⟨z, _⟩ | ⟨rfl, _, rfl⟩
        · exact absurd z nb
        · have g := (sound' b _ (un.frzs b _ _ q)).1
          rw [← Option.some.inj (scr.symm.trans e)]
          exact g
    refine ⟨rfl, ⟨fun b o e => ?_, fun b o e => ?_⟩, same_os, bare⟩
    · by_cases hb : b ∈ Ts.map (·.2)
      · obtain ⟨more, hm⟩ := un.tbls b #[] (hP b hb)
        have after : s'.heap.get? b = some { cls := .none, data := .fields (#[] ++ more) } := sound' b _ hm
        obtain ⟨t, ht, rfl⟩ := List.mem_map.mp hb
        obtain rfl := Option.some.inj ((tabs t ht).symm.trans e)
        refine .inr (.inl ⟨((cods t ht).tab (tabs t ht)).isCodeTable, rfl, #[], more, rfl, ?_⟩)
        rw [after]
      · exact .inl (stays b o hb e)
    · by_cases hb : b ∈ Ts.map (·.2)
      · obtain ⟨more, hm⟩ := un.tbls b #[] (hP b hb)
        exact ⟨_, sound' b _ hm⟩
      · exact ⟨o, stays b o hb e⟩
  | .ok .next, res => exact False.elim res
  | .ok .brk, res => exact False.elim res
  | .ok .cont, res => exact False.elim res
  | .error e, res => exact False.elim res
end K33

set_option maxRecDepth 100000
set_option maxHeartbeats 16000000
/-! k33: the end. -/
namespace K33
open PySem PySem.Spec PyProof.Rows L2 LamX VG
def dd (x : Str) (st : Stmt) : He.DefD := ⟨(x, none), x, x, defArgs st, defBody st, defScope st, [], []⟩
def dIni (C : Str) : He.DefD := ⟨(C, some "__init__"), "__init__", "CoreError.__init__", defArgs sInit, defBody sInit, defScope sInit, [], []⟩
def fns : List He.DefD := [dd "is_within" sWithin, dd "is_tuple_of" sIsTupleOf, dd "is_ascending" sIsAscending, dd "number_of" sNumberOf, dd "number_in" sNumberIn, dd "job_row" sJobRow, dd "priorities" sPriorities, dd "shows_priorities" sShows, dd "_shows_numbers" sShowsNumbers, dd "_can_stand_last" sCanLast, dd "_is_in_time" sInTime, dd "_answer_time" sAnswerTime, dd "_times_asked" sTimesAsked, dd "_check_within" sCheckWithin, dd "_law_pot" sPot, dd "_law_take" sTake, dd "_law_of" sOf, dd "_law_some" sSome, dd "_law_cells" sCells, dd "_law_heard" sHeard, dd "_law_odd" sOdd, dd "_law_bent" sBent, dd "_law_is_int" sIsInt, dd "_law_loads_text" sLoadsText, dd "_law_loads_drawn" sLoadsDrawn, dd "_law_longest" sLongest, dd "_law_fits" sFits, dd "_law_sequences" sSequences, dd "_law_is_there" sIsThere, dd "_law_is_told" sIsTold, dd "_law_is_within" sLIsWithin, dd "_law_values" sValues, dd "_law_right" sRight, dd "law" sLaw, dIni "BadWithin", ⟨("Loads", some "__init__"), "__init__", "Loads.__init__", defArgs sLoads, defBody sLoads, defScope sLoads, [], []⟩]
def PlainT (K : PySem.W.Frag) (p : Addr) : Prop := ∃ o, K.lookup p = some o ∧ o.cls = .type "tuple" ∧ o.dict = none
def clB (K : PySem.W.Frag) (C f : Addr) : Bool :=
  (PySem.W.plainGet K C Str.empty && (PySem.W.hasDictIn K C && (PySem.W.plainOver K C && decide (PySem.W.findIn K (.ref C) "__setattr__" = some (some (.builtin "object.__setattr__")))))) &&
  ((decide (PySem.W.findIn K (.ref C) "text" = some none) && decide (PySem.W.findIn K (.ref C) "jobs" = some none)) &&
  (PySem.W.makesIn K C && (decide (PySem.W.findIn K (.ref C) "__init__" = some (some (.ref f))) && (PySem.W.isFn K (.ref f) && PySem.W.keepIn K (.ref C)))))
theorem clB_ok {K : PySem.W.Frag} {C f : Addr} (h : clB K C f = true) : LF K C ∧ Mk K C f := by
  unfold clB at h
  simp only [Bool.and_eq_true, decide_eq_true_eq] at h
  obtain ⟨⟨a1, a2, a3, a4⟩, ⟨b1, b2⟩, c1, c2, c3, c4⟩ := h
  exact ⟨⟨⟨a1, a2, a3, a4⟩, b1, b2⟩, ⟨c1, c2, c3, c4⟩⟩
theorem fnFalse {P : Program} {w : World} {K : PySem.W.Frag} {mg : Str → Option Value} {base : Heap} {k : Nat} {f : Addr} {fd : FuncData} {ps : List Str} : FnOk P w K mg base CX0 k f fd ps (fun _ _ _ _ => False) := ⟨fun _ _ _ _ h => h.elim, fun _ _ _ _ _ _ _ _ _ _ _ _ _ h => h.elim⟩
def fas : List He.Fa := [.glo "is_within", .glo "is_tuple_of", .glo "is_ascending", .glo "number_of", .glo "number_in", .glo "job_row", .glo "priorities", .glo "shows_priorities", .glo "_shows_numbers", .glo "_can_stand_last", .glo "_is_in_time", .glo "_answer_time", .glo "_times_asked", .glo "_check_within", .glo "_law_pot", .glo "_law_take", .glo "_law_of", .glo "_law_some", .glo "_law_cells", .glo "_law_heard", .glo "_law_odd", .glo "_law_bent", .glo "_law_is_int", .glo "_law_loads_text", .glo "_law_loads_drawn", .glo "_law_longest", .glo "_law_fits", .glo "_law_sequences", .glo "_law_is_there", .glo "_law_is_told", .glo "_law_is_within", .glo "_law_values", .glo "_law_right", .glo "law", .glo "CoreError", .glo "BadWithin", .glo "Loads", .int "MOST_JOBS" 6, .free "abs", .free "all", .free "any", .free "bool", .free "enumerate", .free "int", .free "isinstance", .free "len", .free "list", .free "max", .free "min", .free "range", .free "repr", .free "set", .free "sorted", .free "str", .free "sum", .free "tuple", .free "type", .free "zip"]
def rfd1 : He.Defn := ("_law_right", none)
def cds : List He.Defn := [rfd1]
/-- a tuple with no dict -/
def plB (K : PySem.W.Frag) (a : Addr) : Bool := match K.lookup a with
  | some o => decide (o.cls = .type "tuple") && o.dict.isNone
  | none => false
theorem plB_ok {K : PySem.W.Frag} {a : Addr} (h : plB K a = true) : PlainT K a := by
  unfold plB at h
  split at h
  · rename_i o ho
    simp only [Bool.and_eq_true, decide_eq_true_eq, Option.isNone_iff_eq_none] at h
    exact ⟨o, ho, h.1, h.2⟩
  · cases h
def kiB (K : PySem.W.Frag) (a b : Addr) (r : Bool) : Bool := decide (PySem.W.kitOne K (.ref a) (.ref b) = some r)
def er (K : PySem.W.Frag) (C : Str) : Bool := errB K (He.ga K C) (He.ma K (He.ga K C) "__init__") (He.ga K "CoreError") && isCB K (He.ga K C)
theorem er_ok {K : PySem.W.Frag} {C : Str} (h : er K C = true) : ErrC K (He.ga K C) (He.ma K (He.ga K C) "__init__") ∧ Err1 K (He.ga K "CoreError") (He.ga K C) := by
  unfold er at h
  obtain ⟨a, b⟩ := Bool.and_eq_true_iff.mp h
  obtain ⟨E, _, m⟩ := errB_ok a
  exact ⟨E, isCB_ok b, E.noV, m⟩
def tuB (K : PySem.W.Frag) (x : Str) (vs : List V) : Bool := ktB K (He.ga K x) vs && plB K (He.ga K x)
def exs (K : PySem.W.Frag) : Bool := er K "BadWithin" && (kiB K (He.ga K "BadWithin") (He.ga K "BadWithin") true && (clB K (He.ga K "Loads") (He.ma K (He.ga K "Loads") "__init__")))
def tabL (A0 : Addr) : List (Addr × Str) := [(A0, Str.ofString "_law_right.<locals>." ++ "<lambda>")]
def cTs (K : PySem.W.Frag) : List (Addr × Addr) := [He.cT K rfd1]
theorem all_in {P : Program} {w : World} {K : PySem.W.Frag} {h : Heap} {mg : Str → Option Value} (X : K.In h) (G : h.Ns mainGlobals mg) (c : He.SaysX fas fns [] cds exs w h K) :
    ∃ fd : FuncData, (∀ (s : Shared) (u : Value), BindsTo s fd ⟨[u], []⟩ [("script", u)]) ∧ mg "law" = some (.ref (He.ga K "law")) ∧
      ∀ base : Heap, K.In base → base.Ns mainGlobals mg → (∀ t ∈ cTs K, TabB base mg t.1 t.2) → FnG P w K mg base 12 (He.ga K "law") fd ["script"] (spLaw K (tabL (He.cT K rfd1).2)) := by
  have sd := c.t.d
  obtain ⟨fd0, D0⟩ := sd.def_ 0 (d := dd "is_within" sWithin) rfl
  have F0 : Fun K "is_within" "is_within" sWithin (He.ga K "is_within") fd0 := defFun D0
  have b0 : L2.Binds K fd0 ["value", "low", "high"] [] := F0.binds (ps := ["value", "low", "high"]) fun _ _ _ _ _ _ us hl => match us, hl with | [_, _, _], _ => rfl
  have g0 := He.glo_ok X G (sd.fact 0 (f := .glo "is_within") rfl)
  obtain ⟨fd1, D1⟩ := sd.def_ 1 (d := dd "is_tuple_of" sIsTupleOf) rfl
  have F1 : Fun K "is_tuple_of" "is_tuple_of" sIsTupleOf (He.ga K "is_tuple_of") fd1 := defFun D1
  have b1 : L2.Binds K fd1 ["value", "many"] [] := F1.binds (ps := ["value", "many"]) fun _ _ _ _ _ _ us hl => match us, hl with | [_, _], _ => rfl
  have g1 := He.glo_ok X G (sd.fact 1 (f := .glo "is_tuple_of") rfl)
  obtain ⟨fd2, D2⟩ := sd.def_ 2 (d := dd "is_ascending" sIsAscending) rfl
  have F2 : Fun K "is_ascending" "is_ascending" sIsAscending (He.ga K "is_ascending") fd2 := defFun D2
  have b2 : L2.Binds K fd2 ["values"] [] := F2.binds (ps := ["values"]) fun _ _ _ _ _ _ us hl => match us, hl with | [_], _ => rfl
  have g2 := He.glo_ok X G (sd.fact 2 (f := .glo "is_ascending") rfl)
  obtain ⟨fd3, D3⟩ := sd.def_ 3 (d := dd "number_of" sNumberOf) rfl
  have F3 : Fun K "number_of" "number_of" sNumberOf (He.ga K "number_of") fd3 := defFun D3
  have b3 : L2.Binds K fd3 ["text"] [] := F3.binds (ps := ["text"]) fun _ _ _ _ _ _ us hl => match us, hl with | [_], _ => rfl
  have g3 := He.glo_ok X G (sd.fact 3 (f := .glo "number_of") rfl)
  obtain ⟨fd4, D4⟩ := sd.def_ 4 (d := dd "number_in" sNumberIn) rfl
  have F4 : Fun K "number_in" "number_in" sNumberIn (He.ga K "number_in") fd4 := defFun D4
  have b4 : L2.Binds K fd4 ["text", "low", "high"] [] := F4.binds (ps := ["text", "low", "high"]) fun _ _ _ _ _ _ us hl => match us, hl with | [_, _, _], _ => rfl
  have g4 := He.glo_ok X G (sd.fact 4 (f := .glo "number_in") rfl)
  obtain ⟨fd5, D5⟩ := sd.def_ 5 (d := dd "job_row" sJobRow) rfl
  have F5 : Fun K "job_row" "job_row" sJobRow (He.ga K "job_row") fd5 := defFun D5
  have b5 : L2.Binds K fd5 ["line"] [] := F5.binds (ps := ["line"]) fun _ _ _ _ _ _ us hl => match us, hl with | [_], _ => rfl
  have g5 := He.glo_ok X G (sd.fact 5 (f := .glo "job_row") rfl)
  obtain ⟨fd6, D6⟩ := sd.def_ 6 (d := dd "priorities" sPriorities) rfl
  have F6 : Fun K "priorities" "priorities" sPriorities (He.ga K "priorities") fd6 := defFun D6
  have b6 : L2.Binds K fd6 ["loads", "within"] [] := F6.binds (ps := ["loads", "within"]) fun _ _ _ _ _ _ us hl => match us, hl with | [_, _], _ => rfl
  have g6 := He.glo_ok X G (sd.fact 6 (f := .glo "priorities") rfl)
  obtain ⟨fd7, D7⟩ := sd.def_ 7 (d := dd "shows_priorities" sShows) rfl
  have F7 : Fun K "shows_priorities" "shows_priorities" sShows (He.ga K "shows_priorities") fd7 := defFun D7
  have b7 : L2.Binds K fd7 ["loads", "within", "value"] [] := F7.binds (ps := ["loads", "within", "value"]) fun _ _ _ _ _ _ us hl => match us, hl with | [_, _, _], _ => rfl
  have g7 := He.glo_ok X G (sd.fact 7 (f := .glo "shows_priorities") rfl)
  obtain ⟨fd8, D8⟩ := sd.def_ 8 (d := dd "_shows_numbers" sShowsNumbers) rfl
  have F8 : Fun K "_shows_numbers" "_shows_numbers" sShowsNumbers (He.ga K "_shows_numbers") fd8 := defFun D8
  have b8 : L2.Binds K fd8 ["loads", "within", "numbers"] [] := F8.binds (ps := ["loads", "within", "numbers"]) fun _ _ _ _ _ _ us hl => match us, hl with | [_, _, _], _ => rfl
  have g8 := He.glo_ok X G (sd.fact 8 (f := .glo "_shows_numbers") rfl)
  obtain ⟨fd9, D9⟩ := sd.def_ 9 (d := dd "_can_stand_last" sCanLast) rfl
  have F9 : Fun K "_can_stand_last" "_can_stand_last" sCanLast (He.ga K "_can_stand_last") fd9 := defFun D9
  have b9 : L2.Binds K fd9 ["loads", "within", "lot"] [] := F9.binds (ps := ["loads", "within", "lot"]) fun _ _ _ _ _ _ us hl => match us, hl with | [_, _, _], _ => rfl
  have g9 := He.glo_ok X G (sd.fact 9 (f := .glo "_can_stand_last") rfl)
  obtain ⟨fd10, D10⟩ := sd.def_ 10 (d := dd "_is_in_time" sInTime) rfl
  have F10 : Fun K "_is_in_time" "_is_in_time" sInTime (He.ga K "_is_in_time") fd10 := defFun D10
  have b10 : L2.Binds K fd10 ["loads", "job", "others", "most"] [] := F10.binds (ps := ["loads", "job", "others", "most"]) fun _ _ _ _ _ _ us hl => match us, hl with | [_, _, _, _], _ => rfl
  have g10 := He.glo_ok X G (sd.fact 10 (f := .glo "_is_in_time") rfl)
  obtain ⟨fd11, D11⟩ := sd.def_ 11 (d := dd "_answer_time" sAnswerTime) rfl
  have F11 : Fun K "_answer_time" "_answer_time" sAnswerTime (He.ga K "_answer_time") fd11 := defFun D11
  have b11 : L2.Binds K fd11 ["loads", "job", "others"] [] := F11.binds (ps := ["loads", "job", "others"]) fun _ _ _ _ _ _ us hl => match us, hl with | [_, _, _], _ => rfl
  have g11 := He.glo_ok X G (sd.fact 11 (f := .glo "_answer_time") rfl)
  obtain ⟨fd12, D12⟩ := sd.def_ 12 (d := dd "_times_asked" sTimesAsked) rfl
  have F12 : Fun K "_times_asked" "_times_asked" sTimesAsked (He.ga K "_times_asked") fd12 := defFun D12
  have b12 : L2.Binds K fd12 ["loads", "job", "ticks"] [] := F12.binds (ps := ["loads", "job", "ticks"]) fun _ _ _ _ _ _ us hl => match us, hl with | [_, _, _], _ => rfl
  have g12 := He.glo_ok X G (sd.fact 12 (f := .glo "_times_asked") rfl)
  obtain ⟨fd13, D13⟩ := sd.def_ 13 (d := dd "_check_within" sCheckWithin) rfl
  have F13 : Fun K "_check_within" "_check_within" sCheckWithin (He.ga K "_check_within") fd13 := defFun D13
  have b13 : L2.Binds K fd13 ["loads", "within"] [] := F13.binds (ps := ["loads", "within"]) fun _ _ _ _ _ _ us hl => match us, hl with | [_, _], _ => rfl
  have g13 := He.glo_ok X G (sd.fact 13 (f := .glo "_check_within") rfl)
  obtain ⟨fd14, D14⟩ := sd.def_ 14 (d := dd "_law_pot" sPot) rfl
  have F14 : Fun K "_law_pot" "_law_pot" sPot (He.ga K "_law_pot") fd14 := defFun D14
  have b14 : L2.Binds K fd14 ["script", "place"] [] := F14.binds (ps := ["script", "place"]) fun _ _ _ _ _ _ us hl => match us, hl with | [_, _], _ => rfl
  have g14 := He.glo_ok X G (sd.fact 14 (f := .glo "_law_pot") rfl)
  obtain ⟨fd15, D15⟩ := sd.def_ 15 (d := dd "_law_take" sTake) rfl
  have F15 : Fun K "_law_take" "_law_take" sTake (He.ga K "_law_take") fd15 := defFun D15
  have b15 : L2.Binds K fd15 ["pot", "upto"] [] := F15.binds (ps := ["pot", "upto"]) fun _ _ _ _ _ _ us hl => match us, hl with | [_, _], _ => rfl
  have g15 := He.glo_ok X G (sd.fact 15 (f := .glo "_law_take") rfl)
  obtain ⟨fd16, D16⟩ := sd.def_ 16 (d := dd "_law_of" sOf) rfl
  have F16 : Fun K "_law_of" "_law_of" sOf (He.ga K "_law_of") fd16 := defFun D16
  have b16 : L2.Binds K fd16 ["pot", "some"] [] := F16.binds (ps := ["pot", "some"]) fun _ _ _ _ _ _ us hl => match us, hl with | [_, _], _ => rfl
  have g16 := He.glo_ok X G (sd.fact 16 (f := .glo "_law_of") rfl)
  obtain ⟨fd17, D17⟩ := sd.def_ 17 (d := dd "_law_some" sSome) rfl
  have F17 : Fun K "_law_some" "_law_some" sSome (He.ga K "_law_some") fd17 := defFun D17
  have b17 : L2.Binds K fd17 ["pot", "pool", "many"] [] := F17.binds (ps := ["pot", "pool", "many"]) fun _ _ _ _ _ _ us hl => match us, hl with | [_, _, _], _ => rfl
  have g17 := He.glo_ok X G (sd.fact 17 (f := .glo "_law_some") rfl)
  obtain ⟨fd18, D18⟩ := sd.def_ 18 (d := dd "_law_cells" sCells) rfl
  have F18 : Fun K "_law_cells" "_law_cells" sCells (He.ga K "_law_cells") fd18 := defFun D18
  have b18 : L2.Binds K fd18 ["script", "most"] [] := F18.binds (ps := ["script", "most"]) fun _ _ _ _ _ _ us hl => match us, hl with | [_, _], _ => rfl
  have g18 := He.glo_ok X G (sd.fact 18 (f := .glo "_law_cells") rfl)
  obtain ⟨fd19, D19⟩ := sd.def_ 19 (d := dd "_law_heard" sHeard) rfl
  have F19 : Fun K "_law_heard" "_law_heard" sHeard (He.ga K "_law_heard") fd19 := defFun D19
  have b19 : L2.Binds K fd19 ["call"] [] := F19.binds (ps := ["call"]) fun _ _ _ _ _ _ us hl => match us, hl with | [_], _ => rfl
  have g19 := He.glo_ok X G (sd.fact 19 (f := .glo "_law_heard") rfl)
  obtain ⟨fd20, D20⟩ := sd.def_ 20 (d := dd "_law_odd" sOdd) rfl
  have F20 : Fun K "_law_odd" "_law_odd" sOdd (He.ga K "_law_odd") fd20 := defFun D20
  have b20 : L2.Binds K fd20 ["pot"] [] := F20.binds (ps := ["pot"]) fun _ _ _ _ _ _ us hl => match us, hl with | [_], _ => rfl
  have g20 := He.glo_ok X G (sd.fact 20 (f := .glo "_law_odd") rfl)
  obtain ⟨fd21, D21⟩ := sd.def_ 21 (d := dd "_law_bent" sBent) rfl
  have F21 : Fun K "_law_bent" "_law_bent" sBent (He.ga K "_law_bent") fd21 := defFun D21
  have b21 : L2.Binds K fd21 ["pot", "value"] [] := F21.binds (ps := ["pot", "value"]) fun _ _ _ _ _ _ us hl => match us, hl with | [_, _], _ => rfl
  have g21 := He.glo_ok X G (sd.fact 21 (f := .glo "_law_bent") rfl)
  obtain ⟨fd22, D22⟩ := sd.def_ 22 (d := dd "_law_is_int" sIsInt) rfl
  have F22 : Fun K "_law_is_int" "_law_is_int" sIsInt (He.ga K "_law_is_int") fd22 := defFun D22
  have b22 : L2.Binds K fd22 ["value", "low", "high"] [] := F22.binds (ps := ["value", "low", "high"]) fun _ _ _ _ _ _ us hl => match us, hl with | [_, _, _], _ => rfl
  have g22 := He.glo_ok X G (sd.fact 22 (f := .glo "_law_is_int") rfl)
  obtain ⟨fd23, D23⟩ := sd.def_ 23 (d := dd "_law_loads_text" sLoadsText) rfl
  have F23 : Fun K "_law_loads_text" "_law_loads_text" sLoadsText (He.ga K "_law_loads_text") fd23 := defFun D23
  have b23 : L2.Binds K fd23 ["jobs"] [] := F23.binds (ps := ["jobs"]) fun _ _ _ _ _ _ us hl => match us, hl with | [_], _ => rfl
  have g23 := He.glo_ok X G (sd.fact 23 (f := .glo "_law_loads_text") rfl)
  obtain ⟨fd24, D24⟩ := sd.def_ 24 (d := dd "_law_loads_drawn" sLoadsDrawn) rfl
  have F24 : Fun K "_law_loads_drawn" "_law_loads_drawn" sLoadsDrawn (He.ga K "_law_loads_drawn") fd24 := defFun D24
  have b24 : L2.Binds K fd24 ["pot", "most"] [] := F24.binds (ps := ["pot", "most"]) fun _ _ _ _ _ _ us hl => match us, hl with | [_, _], _ => rfl
  have g24 := He.glo_ok X G (sd.fact 24 (f := .glo "_law_loads_drawn") rfl)
  obtain ⟨fd25, D25⟩ := sd.def_ 25 (d := dd "_law_longest" sLongest) rfl
  have F25 : Fun K "_law_longest" "_law_longest" sLongest (He.ga K "_law_longest") fd25 := defFun D25
  have b25 : L2.Binds K fd25 ["jobs", "mine", "others"] [] := F25.binds (ps := ["jobs", "mine", "others"]) fun _ _ _ _ _ _ us hl => match us, hl with | [_, _, _], _ => rfl
  have g25 := He.glo_ok X G (sd.fact 25 (f := .glo "_law_longest") rfl)
  obtain ⟨fd26, D26⟩ := sd.def_ 26 (d := dd "_law_fits" sFits) rfl
  have F26 : Fun K "_law_fits" "_law_fits" sFits (He.ga K "_law_fits") fd26 := defFun D26
  have b26 : L2.Binds K fd26 ["jobs", "within", "mine", "others"] [] := F26.binds (ps := ["jobs", "within", "mine", "others"]) fun _ _ _ _ _ _ us hl => match us, hl with | [_, _, _, _], _ => rfl
  have g26 := He.glo_ok X G (sd.fact 26 (f := .glo "_law_fits") rfl)
  obtain ⟨fd27, D27⟩ := sd.def_ 27 (d := dd "_law_sequences" sSequences) rfl
  have F27 : Fun K "_law_sequences" "_law_sequences" sSequences (He.ga K "_law_sequences") fd27 := defFun D27
  have b27 : L2.Binds K fd27 ["many"] [] := F27.binds (ps := ["many"]) fun _ _ _ _ _ _ us hl => match us, hl with | [_], _ => rfl
  have g27 := He.glo_ok X G (sd.fact 27 (f := .glo "_law_sequences") rfl)
  obtain ⟨fd28, D28⟩ := sd.def_ 28 (d := dd "_law_is_there" sIsThere) rfl
  have F28 : Fun K "_law_is_there" "_law_is_there" sIsThere (He.ga K "_law_is_there") fd28 := defFun D28
  have b28 : L2.Binds K fd28 ["jobs", "within"] [] := F28.binds (ps := ["jobs", "within"]) fun _ _ _ _ _ _ us hl => match us, hl with | [_, _], _ => rfl
  have g28 := He.glo_ok X G (sd.fact 28 (f := .glo "_law_is_there") rfl)
  obtain ⟨fd29, D29⟩ := sd.def_ 29 (d := dd "_law_is_told" sIsTold) rfl
  have F29 : Fun K "_law_is_told" "_law_is_told" sIsTold (He.ga K "_law_is_told") fd29 := defFun D29
  have b29 : L2.Binds K fd29 ["jobs", "within", "value"] [] := F29.binds (ps := ["jobs", "within", "value"]) fun _ _ _ _ _ _ us hl => match us, hl with | [_, _, _], _ => rfl
  have g29 := He.glo_ok X G (sd.fact 29 (f := .glo "_law_is_told") rfl)
  obtain ⟨fd30, D30⟩ := sd.def_ 30 (d := dd "_law_is_within" sLIsWithin) rfl
  have F30 : Fun K "_law_is_within" "_law_is_within" sLIsWithin (He.ga K "_law_is_within") fd30 := defFun D30
  have b30 : L2.Binds K fd30 ["jobs", "value"] [] := F30.binds (ps := ["jobs", "value"]) fun _ _ _ _ _ _ us hl => match us, hl with | [_, _], _ => rfl
  have g30 := He.glo_ok X G (sd.fact 30 (f := .glo "_law_is_within") rfl)
  obtain ⟨fd31, D31⟩ := sd.def_ 31 (d := dd "_law_values" sValues) rfl
  have F31 : Fun K "_law_values" "_law_values" sValues (He.ga K "_law_values") fd31 := defFun D31
  have b31 : L2.Binds K fd31 ["pot", "jobs", "told"] [] := F31.binds (ps := ["pot", "jobs", "told"]) fun _ _ _ _ _ _ us hl => match us, hl with | [_, _, _], _ => rfl
  have g31 := He.glo_ok X G (sd.fact 31 (f := .glo "_law_values") rfl)
  obtain ⟨fd32, D32⟩ := sd.def_ 32 (d := dd "_law_right" sRight) rfl
  have F32 : Fun K "_law_right" "_law_right" sRight (He.ga K "_law_right") fd32 := defFun D32
  have b32 : L2.Binds K fd32 ["pot"] [] := F32.binds (ps := ["pot"]) fun _ _ _ _ _ _ us hl => match us, hl with | [_], _ => rfl
  have g32 := He.glo_ok X G (sd.fact 32 (f := .glo "_law_right") rfl)
  obtain ⟨fd33, D33⟩ := sd.def_ 33 (d := dd "law" sLaw) rfl
  have F33 : Fun K "law" "law" sLaw (He.ga K "law") fd33 := defFun D33
  have b33 : L2.Binds K fd33 ["script"] [] := F33.binds (ps := ["script"]) fun _ _ _ _ _ _ us hl => match us, hl with | [_], _ => rfl
  have g33 := He.glo_ok X G (sd.fact 33 (f := .glo "law") rfl)
  obtain ⟨fd34, D34⟩ := sd.def_ 34 (d := dIni "BadWithin") rfl
  have F34 : Fun K "__init__" "CoreError.__init__" sInit (He.ma K (He.ga K "BadWithin") "__init__") fd34 := defFun D34
  have b34 : L2.Binds K fd34 ["self", "value"] [] := F34.binds (ps := ["self", "value"]) fun _ _ _ _ _ _ us hl => match us, hl with | [_, _], _ => rfl
  obtain ⟨fd35, D35⟩ := sd.def_ 35 (d := ⟨("Loads", some "__init__"), "__init__", "Loads.__init__", defArgs sLoads, defBody sLoads, defScope sLoads, [], []⟩) rfl
  have F35 : Fun K "__init__" "Loads.__init__" sLoads (He.ma K (He.ga K "Loads") "__init__") fd35 := defFun D35
  have b35 : L2.Binds K fd35 ["self", "text"] [] := F35.binds (ps := ["self", "text"]) fun _ _ _ _ _ _ us hl => match us, hl with | [_, _], _ => rfl
  have gCoreError := He.glo_ok X G (sd.fact 34 (f := .glo "CoreError") rfl)
  have gBadWithin := He.glo_ok X G (sd.fact 35 (f := .glo "BadWithin") rfl)
  have gLoads := He.glo_ok X G (sd.fact 36 (f := .glo "Loads") rfl)
  obtain ⟨tNMOST_JOBS, gMOST_JOBS⟩ := He.int_ok X G (sd.fact 37 (f := .int "MOST_JOBS" 6) rfl)
  have fabs := He.free_ok X G (sd.fact 38 (f := .free "abs") rfl)
  have fall := He.free_ok X G (sd.fact 39 (f := .free "all") rfl)
  have fany := He.free_ok X G (sd.fact 40 (f := .free "any") rfl)
  have fbool := He.free_ok X G (sd.fact 41 (f := .free "bool") rfl)
  have fenumerate := He.free_ok X G (sd.fact 42 (f := .free "enumerate") rfl)
  have fint := He.free_ok X G (sd.fact 43 (f := .free "int") rfl)
  have fisinstance := He.free_ok X G (sd.fact 44 (f := .free "isinstance") rfl)
  have flen := He.free_ok X G (sd.fact 45 (f := .free "len") rfl)
  have flist := He.free_ok X G (sd.fact 46 (f := .free "list") rfl)
  have fmax := He.free_ok X G (sd.fact 47 (f := .free "max") rfl)
  have fmin := He.free_ok X G (sd.fact 48 (f := .free "min") rfl)
  have frange := He.free_ok X G (sd.fact 49 (f := .free "range") rfl)
  have frepr := He.free_ok X G (sd.fact 50 (f := .free "repr") rfl)
  have fset := He.free_ok X G (sd.fact 51 (f := .free "set") rfl)
  have fsorted := He.free_ok X G (sd.fact 52 (f := .free "sorted") rfl)
  have fstr := He.free_ok X G (sd.fact 53 (f := .free "str") rfl)
  have fsum := He.free_ok X G (sd.fact 54 (f := .free "sum") rfl)
  have ftuple := He.free_ok X G (sd.fact 55 (f := .free "tuple") rfl)
  have ftype := He.free_ok X G (sd.fact 56 (f := .free "type") rfl)
  have fzip := He.free_ok X G (sd.fact 57 (f := .free "zip") rfl)
  obtain ⟨xe2, xk0, xc0⟩ : er K "BadWithin" = true ∧ (kiB K (He.ga K "BadWithin") (He.ga K "BadWithin") true = true ∧ (clB K (He.ga K "Loads") (He.ma K (He.ga K "Loads") "__init__") = true)) := by
    have m := c.more
    unfold exs at m
    simpa only [Bool.and_eq_true, decide_eq_true_eq] using m
  obtain ⟨E2, X2⟩ := er_ok xe2
  have kt2 : PySem.W.kitOne K (.ref (He.ga K "BadWithin")) (.ref (He.ga K "BadWithin")) = some true := of_decide_eq_true xk0
  obtain ⟨TCf, MCf⟩ := clB_ok xc0
  have hcc1 : fd32.code = .ref (He.cT K rfd1).1 := by
    obtain ⟨oc, od, kV, doc, pm, an, cdv, ct, osl, e0, lk, hcd⟩ := F32.ex
    obtain ⟨cc, rfl⟩ := He.codeIn_ref hcd
    have e1 : fd32.code = .ref cc := by rw [e0]
    have e2 : He.codeOf K rfd1 = cc := He.codeOf_eq (p := rfd1) lk e1
    rw [e1, ← e2]
    rfl
  refine ⟨fd33, fun s u => .of_eq (by obtain ⟨oc, od, kV, doc, pm, an, cdv, ct, osl, e0, lk, hcd⟩ := F33.ex; rw [e0]; rfl), g33, fun base KB GB TBs => ?_⟩
  have TB1 := TBs _ List.mem_cons_self
  have wwithin : FnOk P w K mg base CX0 1 _ fd0 _ (spWithin K) := ok_within (k := 0) F0 ftype fint
  have wpot : FnOk P w K mg base CX0 1 _ fd14 _ (spPot K) := ok_pot (k := 0) F14 flen fsum fint fabs
  have wtake : FnOk P w K mg base CX0 1 _ fd15 _ spTake := ok_take (k := 0) F15 fint
  have wof : FnOk P w K mg base CX0 2 _ fd16 _ (spOf K) := ok_of (k := 0) F16 wtake F15.kp b15 g15 flen
  have wsome : FnOk P w K mg base CX0 2 _ fd17 _ (spSome K) := ok_some (k := 0) F17 wtake F15.kp b15 g15 flist frange flen
  have wcells : FnOk P w K mg base CX0 1 _ fd18 _ (spCells K) := ok_cells (k := 0) F18 flist frange fmax fmin flen
  have wodd : FnOk P w K mg base CX0 3 _ fd20 _ (spOdd K) := ok_odd (k := 0) F20 wof F16.kp b16 g16
  have wisInt : FnOk P w K mg base CX0 1 _ fd22 _ (spWithin K) := ok_isInt (k := 0) F22 fisinstance fint fbool
  have wbent0 : FnOk P w K mg base CX0 5 _ fd21 _ (spBent K 0) := ok_Bent (k := 0) (n := 0) F21 (gTa := ⟨_, _, (wtake.mono (by omega)), F15.kp, b15, g15⟩) (gOf := ⟨_, _, (wof.mono (by omega)), F16.kp, b16, g16⟩) (gSo := ⟨_, _, (wsome.mono (by omega)), F17.kp, b17, g17⟩) (gOd := ⟨_, _, (wodd.mono (by omega)), F20.kp, b20, g20⟩) (gBe := ⟨_, _, fnFalse, F21.kp, b21, g21⟩) (hR := (fun j e => by cases e)) (fbool := fbool) (fint := fint) (fisinstance := fisinstance) (flen := flen) (flist := flist) (fstr := fstr) (ftuple := ftuple)
  have wbent1 : FnOk P w K mg base CX0 6 _ fd21 _ (spBent K 1) := ok_Bent (k := 1) (n := 1) F21 (gTa := ⟨_, _, (wtake.mono (by omega)), F15.kp, b15, g15⟩) (gOf := ⟨_, _, (wof.mono (by omega)), F16.kp, b16, g16⟩) (gSo := ⟨_, _, (wsome.mono (by omega)), F17.kp, b17, g17⟩) (gOd := ⟨_, _, (wodd.mono (by omega)), F20.kp, b20, g20⟩) (gBe := ⟨_, _, wbent0, F21.kp, b21, g21⟩) (hR := (fun j e vs H Q E h => by cases e; exact h)) (fbool := fbool) (fint := fint) (fisinstance := fisinstance) (flen := flen) (flist := flist) (fstr := fstr) (ftuple := ftuple)
  have wbent2 : FnOk P w K mg base CX0 7 _ fd21 _ (spBent K 2) := ok_Bent (k := 2) (n := 2) F21 (gTa := ⟨_, _, (wtake.mono (by omega)), F15.kp, b15, g15⟩) (gOf := ⟨_, _, (wof.mono (by omega)), F16.kp, b16, g16⟩) (gSo := ⟨_, _, (wsome.mono (by omega)), F17.kp, b17, g17⟩) (gOd := ⟨_, _, (wodd.mono (by omega)), F20.kp, b20, g20⟩) (gBe := ⟨_, _, wbent1, F21.kp, b21, g21⟩) (hR := (fun j e vs H Q E h => by cases e; exact h)) (fbool := fbool) (fint := fint) (fisinstance := fisinstance) (flen := flen) (flist := flist) (fstr := fstr) (ftuple := ftuple)
  have wIsTupleOf : FnOk P w K mg base CX0 1 _ fd1 _ (spTup K) := ok_IsTupleOf (k := 0) F1 (flen := flen) (ftuple := ftuple) (ftype := ftype)
  have wIsAscending : FnOk P w K mg base CX0 1 _ fd2 _ (spAsc K) := ok_IsAscending (k := 0) F2 (fall := fall) (flen := flen) (frange := frange)
  have wNumberOf : FnOk P w K mg base CX0 1 _ fd3 _ (spNumberOf) := ok_NumberOf (k := 0) F3 (fall := fall) (fint := fint)
  have wNumberIn : FnOk P w K mg base CX0 2 _ fd4 _ (spNumberIn) := ok_NumberIn (k := 0) F4 (gNo := ⟨_, _, wNumberOf, F3.kp, b3, g3⟩)
  have wJobRow : FnOk P w K mg base CX0 3 _ fd5 _ (spJobRow K) := ok_JobRow (k := 0) F5 (gNi := ⟨_, _, wNumberIn, F4.kp, b4, g4⟩) (flen := flen)
  have wLoads : FnOk P w K mg base CX0 4 _ fd35 _ (spLoads K (He.ga K "Loads")) := ok_Loads (k := 0) F35 (gJr := ⟨_, _, wJobRow, F5.kp, b5, g5⟩) (gMOST_JOBS := gMOST_JOBS) (T := TCf) (fenumerate := fenumerate) (flen := flen) (fstr := fstr) (ftuple := ftuple) (ftype := ftype)
  have wTimesAsked : FnOk P w K mg base CX0 1 _ fd12 _ (spTimes K (He.ga K "Loads")) := ok_TimesAsked (k := 0) F12 (T := TCf)
  have wAnswerTime : FnOk P w K mg base CX0 2 _ fd11 _ (spAnswer K (He.ga K "Loads")) := ok_AnswerTime (k := 0) F11 (gTm := ⟨_, _, wTimesAsked, F12.kp, b12, g12⟩) (T := TCf) (fsum := fsum)
  have wInTime : FnOk P w K mg base CX0 3 _ fd10 _ (spInTime K (He.ga K "Loads")) := ok_InTime (k := 0) F10 (gAt := ⟨_, _, wAnswerTime, F11.kp, b11, g11⟩)
  have wCanLastL : FnOk P w K mg base CX0 4 _ fd9 _ (spCanL K (He.ga K "Loads")) := ok_CanLastL (k := 0) F9 (gIt := ⟨_, _, wInTime, F10.kp, b10, g10⟩)
  have wCanLastT : FnOk P w K mg base CX0 4 _ fd9 _ (spCanT K (He.ga K "Loads")) := ok_CanLastT (k := 0) F9 (gIt := ⟨_, _, wInTime, F10.kp, b10, g10⟩)
  have wCheckWithin : FnOk P w K mg base (L2.CX P w) 4 _ fd13 _ (spCheck K (He.ga K "Loads") (He.ga K "BadWithin")) := ok_CheckWithin (k := 0) F13 (gTo := ⟨_, _, wIsTupleOf.mono (by omega), F1.kp, b1, g1⟩) (gWi := ⟨_, _, wwithin.mono (by omega), F0.kp, b0, g0⟩) (E2 := E2) (I2 := F34) (bI2 := b34) (gBadWithin := gBadWithin) (T := TCf) (fall := fall) (fenumerate := fenumerate) (flen := flen)
  have wPriorities : FnOk P w K mg base (L2.CX P w) 5 _ fd6 _ (spPrio K (He.ga K "Loads") (He.ga K "BadWithin")) := ok_Priorities (k := 0) F6 (gCw := ⟨_, _, wCheckWithin, F13.kp, b13, g13⟩) (gCl := ⟨_, _, wCanLastL, F9.kp, b9, g9⟩) (T := TCf) (flen := flen) (flist := flist) (frange := frange) (ftuple := ftuple)
  have wShowsNumbers : FnOk P w K mg base CX0 4 _ fd8 _ (spShowsNumbers K (He.ga K "Loads")) := ok_ShowsNumbers (k := 0) F8 (gWi := ⟨_, _, wwithin.mono (by omega), F0.kp, b0, g0⟩) (gIt := ⟨_, _, wInTime, F10.kp, b10, g10⟩) (T := TCf) (fall := fall) (flen := flen) (frange := frange) (fset := fset)
  have wShows : FnOk P w K mg base (L2.CX P w) 5 _ fd7 _ (spShows K (He.ga K "Loads") (He.ga K "BadWithin")) := ok_Shows (k := 0) F7 (gCw := ⟨_, _, wCheckWithin, F13.kp, b13, g13⟩) (gTo := ⟨_, _, wIsTupleOf.mono (by omega), F1.kp, b1, g1⟩) (gSn := ⟨_, _, wShowsNumbers, F8.kp, b8, g8⟩) (gWi := ⟨_, _, wwithin.mono (by omega), F0.kp, b0, g0⟩) (gAs := ⟨_, _, wIsAscending.mono (by omega), F2.kp, b2, g2⟩) (gCl := ⟨_, _, wCanLastT, F9.kp, b9, g9⟩) (T := TCf) (fall := fall) (flen := flen) (ftuple := ftuple) (ftype := ftype)
  have wLoadsText : FnOk P w K mg base CX0 1 _ fd23 _ (spLoadsText K) := ok_LoadsText (k := 0) F23 (fint := fint) (fstr := fstr)
  have wLoadsDrawn : FnOk P w K mg base CX0 4 _ fd24 _ (spLoadsDrawn K) := ok_LoadsDrawn (k := 0) F24 (gTa := ⟨_, _, wtake.mono (by omega), F15.kp, b15, g15⟩) (gOf := ⟨_, _, wof.mono (by omega), F16.kp, b16, g16⟩) (gSo := ⟨_, _, wsome.mono (by omega), F17.kp, b17, g17⟩) (flist := flist) (fmax := fmax) (frange := frange)
  have wLongestL : FnOk P w K mg base CX0 1 _ fd25 _ (spLongL K) := ok_LongestL (k := 0) F25 (fint := fint)
  have wLongestT : FnOk P w K mg base CX0 1 _ fd25 _ (spLongT K) := ok_LongestT (k := 0) F25 (fint := fint)
  have wFitsL : FnOk P w K mg base CX0 2 _ fd26 _ (spFitsL K) := ok_FitsL (k := 0) F26 (gLg := ⟨_, _, wLongestL, F25.kp, b25, g25⟩)
  have wFitsT : FnOk P w K mg base CX0 2 _ fd26 _ (spFitsT K) := ok_FitsT (k := 0) F26 (gLg := ⟨_, _, wLongestT, F25.kp, b25, g25⟩)
  have wSequences : FnOk P w K mg base CX0 1 _ fd27 _ (spSeqs K) := ok_Sequences (k := 0) F27 (frange := frange)
  have wIsThere : FnOk P w K mg base CX0 3 _ fd28 _ (spThere K) := ok_IsThere (k := 0) F28 (gSq := ⟨_, _, wSequences.mono (by omega), F27.kp, b27, g27⟩) (gFi := ⟨_, _, wFitsT, F26.kp, b26, g26⟩) (fall := fall) (fenumerate := fenumerate) (flen := flen)
  have wLIsWithin : FnOk P w K mg base CX0 2 _ fd30 _ (spLWithin K) := ok_LIsWithin (k := 0) F30 (gIi := ⟨_, _, wisInt, F22.kp, b22, g22⟩) (fall := fall) (fisinstance := fisinstance) (flen := flen) (ftuple := ftuple) (fzip := fzip)
  have wIsTold : FnOk P w K mg base CX0 3 _ fd29 _ (spTold K) := ok_IsTold (k := 0) F29 (gIi := ⟨_, _, wisInt.mono (by omega), F22.kp, b22, g22⟩) (gFi := ⟨_, _, wFitsL, F26.kp, b26, g26⟩) (fall := fall) (fany := fany) (fisinstance := fisinstance) (flen := flen) (flist := flist) (frange := frange) (fset := fset) (fsorted := fsorted) (fstr := fstr) (ftuple := ftuple)
  have wValues : FnOk P w K mg base CX0 9 _ fd31 _ (spValues K) := ok_Values (k := 0) F31 (gSo := ⟨_, _, wsome.mono (by omega), F17.kp, b17, g17⟩) (gTa := ⟨_, _, wtake.mono (by omega), F15.kp, b15, g15⟩) (gOd := ⟨_, _, wodd.mono (by omega), F20.kp, b20, g20⟩) (gBe := ⟨_, _, wbent2.mono (by omega), F21.kp, b21, g21⟩) (flen := flen) (flist := flist) (frange := frange) (fsorted := fsorted) (ftuple := ftuple)
  have wRight : FnG P w K mg base 11 _ fd32 _ (spRight K (tabL (He.cT K rfd1).2)) := ok_Right (k := 0) F32 hcc1 TB1 List.mem_cons_self (fun p hp ep => by
    rcases List.mem_singleton.mp hp with rfl
    rfl) F19 b19 g19 gCoreError (gLd := ⟨_, _, wLoadsDrawn.mono (by omega), F24.kp, b24, g24⟩) (gLt := ⟨_, _, wLoadsText.mono (by omega), F23.kp, b23, g23⟩) (gOf := ⟨_, _, wof.mono (by omega), F16.kp, b16, g16⟩) (gTa := ⟨_, _, wtake.mono (by omega), F15.kp, b15, g15⟩) (gPrD := ⟨_, _, wPriorities.mono (by omega), F6.kp, b6, g6⟩) (gTl := ⟨_, _, wIsTold.mono (by omega), F29.kp, b29, g29⟩) (gTh := ⟨_, _, wIsThere.mono (by omega), F28.kp, b28, g28⟩) (gVa := ⟨_, _, wValues.mono (by omega), F31.kp, b31, g31⟩) (gSpD := ⟨_, _, wShows.mono (by omega), F7.kp, b7, g7⟩) (gBe := ⟨_, _, wbent1.mono (by omega), F21.kp, b21, g21⟩) (gOd := ⟨_, _, wodd.mono (by omega), F20.kp, b20, g20⟩) (gLw := ⟨_, _, wLIsWithin.mono (by omega), F30.kp, b30, g30⟩) (gPrL := ⟨_, _, wPriorities.mono (by omega), F6.kp, b6, g6⟩) (gSpL := ⟨_, _, wShows.mono (by omega), F7.kp, b7, g7⟩) (MLo := MCf) (GLo := (wLoads.mono (by omega))) (bLo := b35) (gLo := gLoads) (T2 := TCf) (gBadWithin := gBadWithin) (X2 := X2) (kt2 := kt2) (fall := fall) (fisinstance := fisinstance) (flist := flist) (fmin := fmin) (frepr := frepr) (ftuple := ftuple)
  have wLaw : FnG P w K mg base 12 _ fd33 _ (spLaw K (tabL (He.cT K rfd1).2)) := ok_Law (k := 0) F33 (gRt := ⟨_, _, wRight, F32.kp, b32, g32⟩) (gPo := ⟨_, _, wpot.mono (by omega), F14.kp, b14, g14⟩) (gCe := ⟨_, _, wcells.mono (by omega), F18.kp, b18, g18⟩) (fall := fall)
  exact wLaw
end K33

set_option maxRecDepth 100000
set_option maxHeartbeats 0
/-! k33: the top's run, and the law. -/
namespace K33
open PySem PySem.Spec PyProof.Rows L2 LamX VG
abbrev hook5 : PySem.W.Hook := He.hookX 5 fas fns [] cds exs
def seen5 (s : PySem.W.SharedT) : He.AlX := He.obsX 5 fas fns [] cds exs (HandSHeadRun.getT s)
theorem seen5_eq (s : PySem.W.SharedT) : seen5 s = hook5.obs s.abs := He.obsX_eq (HandSHeadRun.getT_eq s)
def bound1 : List Str := ["is_within", "is_tuple_of", "is_ascending", "number_of", "number_in", "job_row", "priorities", "shows_priorities", "_shows_numbers", "_can_stand_last", "_is_in_time", "_answer_time"]
def bound2 : List Str := ["_times_asked", "_check_within", "_law_pot", "_law_take", "_law_of", "_law_some", "_law_cells", "_law_heard", "_law_odd", "_law_bent", "_law_is_int", "_law_loads_text"]
def bound3 : List Str := ["_law_loads_drawn", "_law_longest", "_law_fits", "_law_sequences", "_law_is_there", "_law_is_told", "_law_is_within", "_law_values", "_law_right", "law", "CoreError", "BadWithin"]
def bound4 : List Str := ["Loads", "MOST_JOBS", "BadLoads"]
def bound : List Str := bound1 ++ (bound2 ++ (bound3 ++ (bound4)))
abbrev RunAt (w : World) : Prop := HandSHeadRun.RunEq (PySem.W.OpenLaw.row PySem.Challenge.rw_clankernel_k33_whole_priorities_for_answ) (PySem.W.view (PySem.W.OpenLaw.row PySem.Challenge.rw_clankernel_k33_whole_priorities_for_answ).prog [42]) hook5 seen5 4000 bound w
theorem run_f (w : World) : RunAt (w.withFollow "special-get-raises" false) := by
  intro os
  kernel_rfl
theorem run_t (w : World) : RunAt (w.withFollow "special-get-raises" true) := by
  intro os
  kernel_rfl
theorem top_run (w : World) : RunAt w := PySem.W.byRow2 "special-get-raises" run_f run_t w
end K33

set_option maxRecDepth 100000
set_option maxHeartbeats 8000000
namespace K33
open PySem PySem.Spec PyProof.Rows L2 LamX VG
theorem walk_top : PySem.W.WalkO (PySem.W.view (PySem.W.OpenLaw.row PySem.Challenge.rw_clankernel_k33_whole_priorities_for_answ).prog [42]) bound (PySem.W.XL (PySem.W.view (PySem.W.OpenLaw.row PySem.Challenge.rw_clankernel_k33_whole_priorities_for_answ).prog [42]) []) hook5.says
    PySem.Challenge.rw_clankernel_k33_whole_priorities_for_answ.row.toRowW (HandSHeadRun.topDef (PySem.W.OpenLaw.row PySem.Challenge.rw_clankernel_k33_whole_priorities_for_answ).prog 42) [] (fun f vs => PySem.call f vs) := by
  refine Att.attach_callB (l := PySem.Challenge.rw_clankernel_k33_whole_priorities_for_answ) (n := 63) rfl (by kernel_rfl) fun w s₀ s₁ mg mb fa o pm cd doc a vs ns G Y ho hd hcd hmg hobj hints hlen _ hg => ?_
  obtain ⟨K, KX, c⟩ := Y
  obtain ⟨fd, hb, g, F⟩ := all_in (P := PySem.Challenge.rw_clankernel_k33_whole_priorities_for_answ.prog) KX G.T.g c
  have e : (HandSHeadRun.topDef (PySem.W.OpenLaw.row PySem.Challenge.rw_clankernel_k33_whole_priorities_for_answ).prog 42).name = ("law" : Str) := by kernel_rfl
  rw [e, g] at hmg
  obtain rfl := Value.ref.inj (Option.some.inj hmg)
  have mem : ∀ t ∈ cTs K, ∃ r, r ∈ cds ∧ t = He.cT K r := fun t ht => by
    unfold cTs at ht
    simp only [List.mem_cons, List.not_mem_nil, or_false] at ht
    subst ht
    · exact ⟨rfd1, List.mem_cons_self, rfl⟩
  refine call_tops (Ts := cTs K) KX G.T.g G.T.b G.T.builtins G.T.nolimit hg (fun t ht => by obtain ⟨r, hr, rfl⟩ := mem t ht; exact c.empty _ hr) (fun t ht => by obtain ⟨r, hr, rfl⟩ := mem t ht; exact c.out _ hr) (fun t ht => by obtain ⟨r, hr, rfl⟩ := mem t ht; exact PySem.W.codeHd_of_K KX (c.hd _ hr)) G.T.bmain hobj hints (Nat.le_trans hlen (by decide)) ⟨rfl, by decide, by decide⟩ F hb fun H hT hS => ?_
  refine ⟨a, ns, rfl, hS, hlen, fun p hp => ?_, fun _ => rfl⟩
  have hp2 : H p.1 = some (.tbl #[]) := by
    unfold tabL at hp
    simp only [List.mem_cons, List.not_mem_nil, or_false] at hp
    subst hp
    · exact hT (He.cT K rfd1) List.mem_cons_self
  exact ⟨#[], hp2, trivial, fun pos cv hc => by cases hc⟩
end K33
open PySem PySem.W PySem.Calls PyProof.Rows
set_option maxRecDepth 100000 in
set_option maxHeartbeats 0 in
theorem PySem.Challenge.cw_clankernel_k33_whole_priorities_for_answ_holds : PySem.Challenge.rw_clankernel_k33_whole_priorities_for_answ.Holds := by
  w_on; o_law
  refine HandSHeadRun.head_any (r := OpenLaw.row PySem.Challenge.rw_clankernel_k33_whole_priorities_for_answ) (q := view (OpenLaw.row PySem.Challenge.rw_clankernel_k33_whole_priorities_for_answ).prog [42]) (H := K33.hook5) (ob := K33.seen5) (M := 4000) (loose := K33.bound) (d := HandSHeadRun.topDef (OpenLaw.row PySem.Challenge.rw_clankernel_k33_whole_priorities_for_answ).prog 42) (kwd := []) K33.seen5_eq
    (by kernel_rfl) (fun s => by kernel_rfl) K33.top_run (by kernel_rfl) (by kernel_rfl) (by kernel_rfl) (by rfl) (by first | assumption | decide +kernel) (by decide +kernel) ⟨rfl, rfl, rfl, rfl, rfl, by decide +kernel⟩ ?hw ?hc
  case hw => w_witness2
  case hc => exact K33.walk_top
