import PyProof.Rows.All
import Wide.All
import OpenK.AllK
import Wide.FinOn
import HandS.Base
import HandS.ForMost
import HandS.ForExc
import HandS.IsInst
import HandS.Zip
import HandS.Star
import HandS.Flow
import HandS.FStr
import HandS.TupAny
import HandS.Wide
import HandS.Conv
import HandS.ExcInit
import HandS.Steps
import HandS.Style
import HandS.ExcField
import HandS.ExcIs
import HandS.ExcValue
import HandS.Lambda
import PyProof.ReprRoads
import PyProof.ReprLen
import HandS.Strs
import HandS.SetFor
import HandS.SetKeys
import HandS.TupSets
import PyProof.SeqIndex
import PyProof.ListStr
import HandS.Defaults
import HandS.Head2
import HandS.HeadHook4
import HandS.HeadWalk
import KE.KStateDown
import HandS.TupMul
import KE.GoesMore
import KE.GoesEnum
import PyProof.Draws
import HandS.MakeKwOnly
import KE.GoesEnumKw
import PyProof.Rows.CallKwBuiltin
import HandS.DictComp
import HandS.ReplaceLit
import KE.IntTextLaws
import HandS.Replace
import HandS.More
import HandS.ListItems
import PySem.Challenge.RW_clankernel_k36_texts_of_no_clans
set_option Elab.async false
set_option linter.all false
set_option maxRecDepth 100000
set_option maxHeartbeats 8000000
/-! What serves every law: data on the heap, the pot, kept errors and lambdas, repr, the end. -/
namespace VG
open PySem PySem.Spec PyProof.Rows L2 LamX
/-- a value of any kind: as Dp tells, or one of the dicts that are drawn -/
inductive Dk (K : PySem.W.Frag) (H : Hp) : V → PyData → Prop
  | dp {v : V} {d : PyData} : Dp K H v d → Dk K H v d
  | d0 {a : Addr} : H a = some (.dK []) → Dk K H (.ref a) (.dict [])
  | d1 {a : Addr} : H a = some (.dK [(.inr "a", .int 1)]) → Dk K H (.ref a) (.dict [(.str "a", .int 1)])
def tyName : PyData → String
  | .none => "NoneType"
  | .bool _ => "bool"
  | .int _ => "int"
  | .str _ => "str"
  | .list _ => "list"
  | .tuple _ => "tuple"
  | .dict _ => "dict"
theorem Dk.ty {K : PySem.W.Frag} {H : Hp} {v : V} {d : PyData} (h : Dk K H v d) : TyB K H v (tyName d) := by
  cases h with
  | dp h =>
    cases h with
    | non => exact .non
    | bl b => exact .bl b
    | int i => exact .int i
    | str x => exact .str x
    | lst hs _ => exact .lst hs
    | tup hs _ => exact .tup hs
  | d0 h => exact .dK h
  | d1 h => exact .dK h
theorem Same.seqT {K : PySem.W.Frag} {H H' : Hp} {a : Addr} {xs : List V} (e : Same H H') (h : SqT K H a xs) : SqT K H' a xs := by
  rcases h with (h | ⟨o, h⟩) | h
  · exact .inl (.inl (e _ _ h))
  · exact .inl (.inr ⟨o, e _ _ h⟩)
  · exact .inr h
mutual
theorem dp_same {K : PySem.W.Frag} {H H' : Hp} (e : Same H H') : ∀ (d : PyData) (v : V), Dp K H v d → Dp K H' v d
  | .none, _, h => by cases h; exact .non
  | .bool b, _, h => by cases h; exact .bl b
  | .int i, _, h => by cases h; exact .int i
  | .str x, _, h => by cases h; exact .str x
  | .list ds, _, h => by
    cases h with
    | lst hs ha => exact .lst (e.seq hs) (dpAll_same e ds _ ha)
  | .tuple ds, _, h => by
    cases h with
    | tup hs ha => exact .tup (Same.seqT e hs) (dpAll_same e ds _ ha)
  | .dict _, _, h => by cases h
theorem dpAll_same {K : PySem.W.Frag} {H H' : Hp} (e : Same H H') : ∀ (ds : List PyData) (vs : List V), DpAll K H vs ds → DpAll K H' vs ds
  | [], _, h => by cases h; exact .nil
  | d :: ds, _, h => by
    cases h with
    | cons h1 h2 => exact .cons (dp_same e d _ h1) (dpAll_same e ds _ h2)
end
theorem Dk.same {K : PySem.W.Frag} {H H' : Hp} (e : Same H H') {d : PyData} {v : V} (h : Dk K H v d) : Dk K H' v d := by
  cases h with
  | dp h => exact .dp (dp_same e _ _ h)
  | d0 h => exact .d0 (e _ _ h)
  | d1 h => exact .d1 (e _ _ h)
theorem same_upd {H : Hp} {p : Addr} {o : HO} (h : H p = none) : Same H (upd H p o) := fun b x e => by
  rw [upd_ne (ne_of_none e h)]
  exact e
def isW : PyData → Int → Int → Bool
  | .int i, lo, hi => decide (lo ≤ i) && decide (i ≤ hi)
  | _, _, _ => false
/-- a name of the module that holds an object -/
theorem pgr {X : Cx} {x : Str} {a : Addr} {pos : Pos} (hg : Gl X x) (hm : X.mg x = some (.ref a)) (hd : (x == ("__debug__" : Str)) = false := by decide) : PE X (.Name x pos) (tC (.ref a)) := pe_glob hg hm rfl hd
section
variable {P : Program} {w : World} {K : PySem.W.Frag} {mg : Str → Option Value} {base : Heap}
/-- a tuple of the written part -/
def KT (K : PySem.W.Frag) (a : Addr) (xs : List V) : Prop := ∃ (o : Obj) (its : Array Value) (n : Nat), K.lookup a = some o ∧ o.cls = .type "tuple" ∧ o.data = .seq its n ∧ its.size ≤ sizeLine ∧ Vals xs its.toList
theorem KT.sq {a : Addr} {xs : List V} (h : KT K a xs) {H : Hp} : SqT K H a xs := .inr h
def optS : Option Str → V
  | none => .non
  | some x => .str x
end
theorem cut_take (xs : List V) (j : Nat) : cutV xs none (some (j : Int)) = xs.take j := by
  unfold cutV
  rw [HT.sIx_none, HT.sIx_nat, List.drop_zero, Nat.sub_zero]
  by_cases h : j ≤ xs.length
  · rw [Nat.min_eq_left h]
  · rw [Nat.min_eq_right (by omega), List.take_of_length_le (Nat.le_refl _), List.take_of_length_le (by omega)]
/-- t[:j] of a written tuple -/
theorem slice_to {K : PySem.W.Frag} {H : Hp} {a : Addr} {xs : List V} {j : Nat} {Q : VK} (h : SqT K H a xs) (q : ∀ p H', SqT K H' p (xs.take j) → Same H H' → Q (.ref p) H') : rSlA K (.ref a) none (some (j : Int)) H Q := by
  refine ⟨a, xs, rfl, h, fun hw => q a H ?_ (Same.refl H), fun _ p hp => q p _ ?_ (same_upd hp)⟩
  · have e : xs.length ≤ j := by
      have := hw.2
      rw [HT.sIx_nat] at this
      omega
    rw [List.take_of_length_le e]
    exact h
  · rw [cut_take]
    exact SqT.of upd_same
theorem isW_int {d : PyData} {lo hi : Int} (h : isW d lo hi = true) : ∃ i, d = .int i ∧ lo ≤ i ∧ i ≤ hi := by
  cases d with
  | int i =>
    simp [isW] at h
    exact ⟨i, rfl, h.1, h.2⟩
  | none => cases h
  | bool _ => cases h
  | str _ => cases h
  | list _ => cases h
  | tuple _ => cases h
  | dict _ => cases h
section
variable {P : Program} {w : World} {K : PySem.W.Frag} {mg : Str → Option Value} {base : Heap}
theorem dk_int {H : Hp} {v : V} {i : Int} (h : Dk K H v (.int i)) : v = .int i := by
  cases h with
  | dp h => cases h; rfl
theorem sqT_upd {H : Hp} {a p : Addr} {xs ys : List V} {o : HO} (h : SqT K H a xs) (hp : H p = some (.lst ys)) : SqT K (upd H p o) a xs := by
  rcases h with (h | ⟨u, h⟩) | h
  · exact .inl (.inl (by rw [upd_ne (ne_of h hp (by intro z; cases z))]; exact h))
  · exact .inl (.inr ⟨u, by rw [upd_ne (ne_of h hp (by intro z; cases z))]; exact h⟩)
  · exact .inr h
theorem Same.updNew {H H' : Hp} {p : Addr} {o : HO} (s : Same H H') (h : H p = none) : Same H (upd H' p o) := fun b x e => by
  rw [upd_ne (ne_of_none e h)]
  exact s b x e
end
/-- a comprehension over anything that yields n things -/
theorem lc_any {J : It} {n : Nat} {g : TG} {tt : TT} {te : TE} {vs : List Nat} {σ : L2.St} {H1 : Hp} {D : Addr} {Qd : Hp → Prop} (Pv : Nat → Hp → Prop) (h0 : Pv 0 (upd H1 D (.lst []))) (hgo : ∀ i H, i < n → Pv i H → J.go i H) (hst : ∀ H, Pv n H → J.stop n H)
    (hs : ∀ i x H H', i < n → Pv i H → J.yld i H x H' → g x (wipe σ vs) H' fun σ2 H2 => wipe σ2 vs = wipe σ vs ∧ tt σ2 H2 fun b H3 =>
      if b = true then te σ2 H3 fun y H4 => ∃ acc, H4 D = some (.lst acc) ∧ acc.length < sizeLine ∧ Pv (i + 1) (upd H4 D (.lst (acc ++ [y]))) else Pv (i + 1) H3) (hd : ∀ H, Pv n H → Qd H) :
    ∃ W : Nat → Nat → Hp → Prop, (∃ m, W 0 m (upd H1 D (.lst []))) ∧ ∀ i m H, W i m H →
      (J.stop i H ∧ Qd H) ∨ (J.go i H ∧ ∃ Nx : Hp → Prop, (∀ H', Nx H' → ∃ m', m' < m ∧ W (i + 1) m' H') ∧ ∀ x H', J.yld i H x H' → g x (wipe σ vs) H' fun σ2 H2 => wipe σ2 vs = wipe σ vs ∧ tt σ2 H2 fun b H3 =>
        if b = true then te σ2 H3 fun y H4 => ∃ acc, H4 D = some (.lst acc) ∧ acc.length < sizeLine ∧ Nx (upd H4 D (.lst (acc ++ [y]))) else Nx H3) := by
  refine ⟨fun i m H => i + m = n ∧ Pv i H, ⟨n, Nat.zero_add n, h0⟩, ?_⟩
  rintro i m H ⟨e, p⟩
  by_cases c : i < n
  · exact .inr ⟨hgo i H c p, Pv (i + 1), fun H' q => ⟨m - 1, by omega, by omega, q⟩, fun x H' y => hs i x H H' c p y⟩
  · obtain rfl : i = n := by omega
    exact .inl ⟨hst H p, hd H p⟩
/-- a loop over anything that yields n things -/
theorem for_any {J : It} {n : Nat} {g : TG} {tb : TS} {D : Ends} {σ : L2.St} {H : Hp} (Pv : Nat → L2.St → Hp → Prop) (h0 : Pv 0 σ H) (hgo : ∀ i σ H, i < n → Pv i σ H → J.go i H) (hst : ∀ σ H, Pv n σ H → J.stop n H)
    (hs : ∀ i x σ H H', i < n → Pv i σ H → J.yld i H x H' → g x σ H' fun σ2 H2 => tb { D with nx := Pv (i + 1), ct := Pv (i + 1), bk := D.nx } σ2 H2) (hd : ∀ σ H, Pv n σ H → D.nx σ H) :
    ∃ W : Nat → Nat → L2.St → Hp → Prop, (∃ m, W 0 m σ H) ∧ ∀ i m σ H, W i m σ H →
      (J.stop i H ∧ D.nx σ H) ∨ (J.go i H ∧ ∃ N : L2.St → Hp → Prop, (∀ σ' H', N σ' H' → ∃ m', m' < m ∧ W (i + 1) m' σ' H') ∧ ∀ x H', J.yld i H x H' → g x σ H' fun σ2 H2 => tb { D with nx := N, ct := N, bk := D.nx } σ2 H2) := by
  refine ⟨fun i m σ H => i + m = n ∧ Pv i σ H, ⟨n, Nat.zero_add n, h0⟩, ?_⟩
  rintro i m σ H ⟨e, p⟩
  by_cases c : i < n
  · exact .inr ⟨hgo i σ H c p, Pv (i + 1), fun σ' H' q => ⟨m - 1, by omega, by omega, q⟩, fun x H' y => hs i x σ H H' c p y⟩
  · obtain rfl : i = n := by omega
    exact .inl ⟨hst σ H p, hd σ H p⟩
theorem cut_drop (xs : List V) (j : Nat) : cutV xs (some (j : Int)) none = xs.drop j := by
  unfold cutV
  rw [HT.sIx_none, HT.sIx_nat]
  by_cases h : j ≤ xs.length
  · rw [Nat.min_eq_left h, List.take_of_length_le (by rw [List.length_drop]; omega)]
  · rw [Nat.min_eq_right (by omega), Nat.sub_self, List.take_zero, List.drop_eq_nil_of_le (by omega)]
/-- t[j:] -/
theorem slice_from {K : PySem.W.Frag} {H : Hp} {a : Addr} {xs : List V} {j : Nat} {Q : VK} (h : SqT K H a xs) (q : ∀ p H', SqT K H' p (xs.drop j) → Same H H' → (p = a ∨ H p = none) → Q (.ref p) H') : rSlA K (.ref a) (some (j : Int)) none H Q := by
  refine ⟨a, xs, rfl, h, fun hw => q a H ?_ (Same.refl H) (.inl rfl), fun _ p hp => q p _ ?_ (same_upd hp) (.inr hp)⟩
  · have e := hw.1
    rw [HT.sIx_nat] at e
    by_cases c : xs.length = 0
    · have : xs = [] := List.length_eq_zero_iff.mp c
      subst this
      rw [List.drop_nil]
      exact h
    · obtain rfl : j = 0 := by omega
      exact h
  · rw [cut_drop]
    exact SqT.of upd_same
/-- the heap without a -/
def wo (H : Hp) (a : Addr) : Hp := fun b => if b = a then none else H b
theorem wo_ne {H : Hp} {a b : Addr} (h : b ≠ a) : wo H a b = H b := if_neg h
theorem wo_same {H : Hp} {a : Addr} : wo H a a = none := if_pos rfl
theorem wo_le {H : Hp} {a : Addr} : Same (wo H a) H := fun b o e => by
  by_cases h : b = a
  · rw [h, wo_same] at e
    cases e
  · rw [wo_ne h] at e
    exact e
theorem wo_same_of {H H' : Hp} {a : Addr} (s : Same H H') : Same (wo H a) (wo H' a) := fun b o e => by
  by_cases h : b = a
  · rw [h, wo_same] at e
    cases e
  · rw [wo_ne h] at e ⊢
    exact s b o e
theorem wo_upd {H : Hp} {a : Addr} {o : HO} : wo (upd H a o) a = wo H a := by
  funext b
  by_cases h : b = a
  · rw [h, wo_same, wo_same]
  · rw [wo_ne h, wo_ne h, upd_ne h]
theorem wo_at {H : Hp} {a b : Addr} {o : HO} (h : H b = some o) (n : b ≠ a) : wo H a b = some o := by rw [wo_ne n]; exact h
/-- the law's pot: three numbers, the last one below a bound that grows -/
def Pot (H : Hp) (p : Addr) (n : Nat) : Prop := ∃ a b c : Int, H p = some (.lst [.int a, .int b, .int c]) ∧ 0 ≤ b ∧ b < 2305843009213693951 ∧ 0 ≤ c ∧ c ≤ n
theorem Pot.same {H H' : Hp} {p : Addr} {n : Nat} (h : Pot H p n) (s : Same H H') : Pot H' p n := by
  obtain ⟨a, b, c, e, r⟩ := h
  exact ⟨a, b, c, s _ _ e, r⟩
theorem Pot.mono {H : Hp} {p : Addr} {n m : Nat} (h : Pot H p n) (l : n ≤ m) : Pot H p m := by
  obtain ⟨a, b, c, e, r1, r2, r3, r4⟩ := h
  exact ⟨a, b, c, e, r1, r2, r3, by omega⟩
theorem op_powB {X : Cx} : OpR X (binaryOp .Pow) (rI (fun i j => 0 ≤ j ∧ (Builtin.Int.intBits i : Int) * j ≤ 2 ^ 27) fun i j => .int (i ^ j.toNat)) := opI fun i j t u Q s _ hc q => pow_int hc.1 hc.2 q
theorem Pot.ne {H : Hp} {p c : Addr} {n : Nat} (h : Pot H p n) (nc : H c = none) : c ≠ p := fun z => by
  obtain ⟨a, b, d, e, _⟩ := h
  rw [z, e] at nc
  cases nc
theorem Pot.upd {H : Hp} {p c : Addr} {n : Nat} {o : HO} (h : Pot H p n) (ne : c ≠ p) : Pot (upd H c o) p n := by
  obtain ⟨a, b, d, e, r⟩ := h
  exact ⟨a, b, d, by rw [upd_ne ne.symm]; exact e, r⟩
theorem Dk.tyx {K : PySem.W.Frag} {H : Hp} {v : V} {d : PyData} (h : Dk K H v d) : TyX K H v (.type (tyName d)) := by
  cases h with
  | dp h =>
    cases h with
    | non => exact .base .non
    | bl b => exact .base (.bl b)
    | int i => exact .base (.int i)
    | str x => exact .base (.str x)
    | lst hs _ =>
      rcases hs with (e | ⟨o, e⟩) | ⟨o, its, n, e, c, _⟩
      · exact .base (.lst e)
      · exact .base (.frz e)
      · exact .kList e c
    | tup hs _ =>
      rcases hs with (e | ⟨o, e⟩) | ⟨o, its, n, e, c, _⟩
      · exact .base (.tup e)
      · exact .fTuple e
      · exact .kTuple e c
  | d0 h => exact .base (.dK h)
  | d1 h => exact .base (.dK h)
theorem inV_strs (x : Str) : ∀ l : List Str, inV (.str x) (l.map V.str) = decide (x ∈ l)
  | [] => rfl
  | y :: l => by
    have ih := inV_strs x l
    unfold inV at ih ⊢
    rw [List.map_cons, List.any_cons, ih]
    show ((y == x) || _) = _
    by_cases h : y = x
    · subst h
      simp
    · have h' : ¬ x = y := fun z => h z.symm
      simp [h, h']
theorem flat_strs (l : List Str) : (l.map V.str).all flatV = true := by
  induction l with
  | nil => rfl
  | cons a l ih =>
    rw [List.map_cons, List.all_cons, ih]
    rfl
/-- list.index of a text -/
theorem index_read {K : PySem.W.Frag} {H : Hp} {a : Addr} {l : List Str} {x : Str} {Q : VK} (h : SqL K H a (l.map V.str)) (hx : x ∈ l) (q : Q (.int (l.idxOf x : Nat)) H) : rIndex K (.ref a) [.str x] H Q := by
  have hlt : l.idxOf x < l.length := List.idxOf_lt_length_of_mem hx
  refine ⟨a, l.map V.str, .str x, l.idxOf x, .str x, rfl, rfl, h, rfl, flat_strs l, ?_, by simp [eqV], fun m z hm hz => ?_, q⟩
  · rw [List.getElem?_map, List.getElem?_eq_getElem hlt, List.getElem_idxOf hlt]
    rfl
  · rw [List.getElem?_map] at hz
    cases e : l[m]? with
    | none => rw [e] at hz; cases hz
    | some y =>
      rw [e] at hz
      have hz : V.str y = z := Option.some.inj hz
      subst hz
      show (y == x) = false
      have hne : y ≠ x := fun c => by
        subst c
        have hml : m < l.length := (List.getElem?_eq_some_iff.mp e).1
        have := List.not_of_lt_findIdx (xs := l) (p := (· == y)) (show m < l.findIdx (· == y) from hm)
        have e2 := (List.getElem?_eq_some_iff.mp e).2
        rw [e2] at this
        simp at this
      exact beq_eq_false_iff_ne.mpr hne
theorem wo_updNew {H H' : Hp} {p q : Addr} {o : HO} (s : Same (wo H p) (wo H' p)) (h : H q = none) : Same (wo H p) (wo (upd H' q o) p) := fun b x e => by
  have hb : b ≠ p := fun z => by rw [z, wo_same] at e; cases e
  have hq : b ≠ q := fun z => by rw [wo_ne hb, z, h] at e; cases e
  have := s b x e
  rw [wo_ne hb] at this ⊢
  rw [upd_ne hq]
  exact this
/-- what stands in the written part of an error's class -/
structure ErrC (K : PySem.W.Frag) (C fI : Addr) : Prop where
  oex : OexC K C
  iC : PySem.W.findIn K (.ref C) "__init__" = some (some (.ref fI))
  tI : PySem.W.typeIn K (.ref fI) = some (.type "function")
  noV : PySem.W.findIn K (.ref C) "value" = some none
section
variable {P : Program} {w : World} {K : PySem.W.Frag} {mg : Str → Option Value} {base : Heap}
def spInit (K : PySem.W.Frag) : Sp := fun vs H Q _ => ∃ (a C : Addr) (v : V), vs = [.ref a, v] ∧ H a = some (exo a C none) ∧ OexC K C ∧ PySem.W.findIn K (.ref C) "value" = some none ∧
  ∀ dx, H dx = none → dx ≠ a → Q .non (upd (upd H dx (exd dx [("value", v)])) a (exo a C (some dx)))
/-- the heap behind a made error: its own dict is new, nothing else -/
theorem err_heap {H : Hp} {a d C : Addr} {v : V} (ha : H a = none) (hne : d ≠ a) :
    upd (del (upd (upd (upd H a (exo a C none)) d (exd d [("value", v)])) a (exo a C (some d))) a) d (.xd [("value", v)]) = upd H d (.xd [("value", v)]) := by
  funext b
  by_cases hb : b = d
  · rw [hb, upd_same, upd_same]
  · rw [upd_ne hb, upd_ne hb]
    by_cases hc : b = a
    · rw [hc, del_same, ha]
    · rw [del_ne hc, upd_ne hc, upd_ne hb, upd_ne hc]
/-- what the making of C(v) asks -/
def Need (K : PySem.W.Frag) (C : Addr) (v : V) (H1 : Hp) (Q : XK) : Prop := [v].length ≤ 1000 ∧ ∀ a, H1 a = none → spInit K (.ref a :: ([v] ++ [])) (upd H1 a (exo a C none))
  (fun u H2 => u = .non ∧ ∃ (d : Addr) (fs : List (Str × V)), H2 a = some (exo a C (some d)) ∧ H2 d = some (exd d fs) ∧ H1 d = none ∧ Q (.ref C) (some d) (upd (del H2 a) d (.xd fs))) (fun _ _ _ => False)
theorem need_ok {C fI : Addr} {v : V} {H1 : Hp} {Q : XK} (T : ErrC K C fI) (h : ∀ d, H1 d = none → Q (.ref C) (some d) (upd H1 d (.xd [("value", v)]))) : Need K C v H1 Q := by
  refine ⟨by simp, fun a ha => ⟨a, C, v, rfl, upd_same, T.oex, T.noV, fun dx n ne => ⟨rfl, dx, [("value", v)], upd_same, ?_, ?_, ?_⟩⟩⟩
  · rw [upd_ne ne, upd_same]
  · rw [upd_ne ne] at n
    exact n
  · rw [upd_ne ne] at n
    rw [err_heap ha ne]
    exact h dx n
/-- raise C(e) -/
def tErr (K : PySem.W.Frag) (C : Addr) (W : WX) (te : TE) : TS := fun _ σ H => te σ H fun v H1 => Need K C v H1 fun cls d H' => W cls d σ H'
end
/-- the exception at a: of the class C, its fields in the dict at d -/
def ErrO (C d a : Addr) : HO := .ext fun h => ∃ (oe : Obj) (fv : Array Value), h.get? a = some oe ∧ Zc (.ref C) (some d) oe ∧ oe.data = .fields fv
theorem errO_ok {P : Program} {w : World} {H : Hp} {h : Heap} {a C d : Addr} {oe : Obj} {fv : Array Value} (e : h.get? a = some oe) (z : Zc (.ref C) (some d) oe) (f : oe.data = .fields fv) : ObjOk P w H h a (ErrO C d a) :=
  ⟨⟨oe, fv, e, z, f⟩, ⟨oe, e⟩, fun _ _ ⟨o1, f1, e1, r1⟩ k => ⟨o1, f1, k _ e1, r1⟩⟩
section
variable {X : Cx} {pins : List (Addr × Obj)} {σ : L2.St} {H : Hp} {s : Shared}
theorem err_get {a C d : Addr} (I : Inv X pins σ H s) (ha : H a = some (ErrO C d a)) : ∃ (oe : Obj) (fv : Array Value), s.heap.get? a = some oe ∧ Zc (.ref C) (some d) oe ∧ oe.data = .fields fv := (I.hok a _ ha).1
/-- from now on a is known -/
theorem track {a : Addr} {o : HO} (I : Inv X pins σ H s) (na : H a = none) (new : ∀ b ob, X.s_0.heap.get? b = some ob → X.H_0 b = none → b ∉ X.ex → b ≠ a) (nl : X.env.locals ≠ a) (nc : ∀ x c, X.env.cells.lookup x = some c → c ≠ a)
    (np : ∀ p ∈ X.pn ++ pins, p.1 ≠ a) (ok : ObjOk X.prog X.w (upd H a o) s.heap a o) : Inv X pins σ (upd H a o) s where
  ok := I.ok
  os := I.os
  bare := I.bare
  base := ⟨I.base.keep, I.base.slot, fun b ob e n hx => by rw [upd_ne (new b ob e n hx)]; exact I.base.free b ob e n hx, I.base.there, fun b xs e => by rw [upd_ne (ne_of_none (I.base.tups b xs e) na)]; exact I.base.tups b xs e,
    fun b ob u e => by rw [upd_ne (ne_of_none (I.base.frzs b ob u e) na)]; exact I.base.frzs b ob u e, fun b ps e => by
      obtain ⟨more, q⟩ := I.base.tbls b ps e
      exact ⟨more, by rw [upd_ne (ne_of_none q na)]; exact q⟩⟩
  loc := I.loc
  cell := I.cell
  free := by rw [upd_ne nl]; exact I.free
  freeC := fun x c e => by rw [upd_ne (nc x c e)]; exact I.freeC x c e
  pin := fun p hp => by
    obtain ⟨e1, e2, e3⟩ := I.pin p hp
    exact ⟨e1, by rw [upd_ne (np p hp)]; exact e2, e3⟩
  hok := I.hok.laidN (fun _ _ e => e) na ok
  len := I.len
/-- what 'except x as n: suite' makes of an exception of its own class: the caught one is known behind it -/
def wHeard (K : PySem.W.Frag) (c : Value) (i : Nat) (ts : Addr → Value → Option Addr → TS) (D : Ends) : WX := fun cls d σ H =>
  PySem.W.exmOne K cls c = some true ∧ ∃ (C dd : Addr), cls = .ref C ∧ d = some dd ∧ ∀ a, H a = none → ts a cls d { nx := fun σ' H' => H' a = none → D.nx (σ'.set i none) (upd H' a (ErrO C dd a)), rt := fun _ _ => False } (σ.set i (some (.ref a))) H
variable {x n : Str} {c : Value} {i : Nat} {body suite : List Stmt} {b₀ : Stmt} {np pos pos' : Pos} {tb : WX → TS} {ts : Addr → Value → Option Addr → TS}
theorem ps_heard (hs : X.stack = X.env :: X.outer) (hf : X.env.frame = some X.env.locals) (hN : X.N.Nodup) (hi : X.N[i]? = some n) (hln : X.env.kindOf n = some .local) (hc : Names X x c)
    (hb : ∀ (Wn : WX) (qn : List (Addr × Obj)) (xe : Value → Shared → Prop), Takes (X.tr qn xe) Wn → PassesOwn (model X.prog X.w) X.A X.env xe → PSs (X.tr qn xe) body (tb Wn))
    (hsu : ∀ (a : Addr) (oe : Obj) (cls : Value) (d : Option Addr) (qn : List (Addr × Obj)), Zc cls d oe → (∃ vs, oe.data = .fields vs) → PSs (X.suite a ((a, oe) :: qn)) (b₀ :: suite) (ts a cls d)) :
    PS X (.Try body [.ExceptHandler (some (.Name x np)) (some n) (b₀ :: suite) pos'] [] [] pos) (fun Dn σ H => tb (wHeard X.K c i ts Dn) Dn σ H) := by
  refine ⟨fun pins s σ H Dn I h => wpAny_Try_except ?_⟩
  have ok := I.ok
  have frames : X.A.frames = some (X.env :: X.outer) := by rw [ok.frames, hs]
  refine wpAny_mono ((hb (wHeard X.K c i ts Dn) (X.pn ++ pins) (fun e s₁ => wpAny (model X.prog X.w) X.A (noteFrame e X.env) (fun _ s₂ => wpAny (model X.prog X.w) X.A (setFlight e none) (fun _ s₃ =>
    wpAny (model X.prog X.w) X.A (handleBy e X.env [.ExceptHandler (some (.Name x np)) (some n) (b₀ :: suite) pos']) (SP X pins Dn) X.xe s₃) X.xe s₂) X.xe s₁) (fun u s' xx => ?_) PassesOwn.looking).run [] s σ H Dn (I.toTry _) h) (fun f s1 res => ?_) (fun e s1 he => he)
  · obtain ⟨a, B, s0E, pins', σ', H', cls, d, rfl, J', keeps_, grow, air, naa, osE, bareE, yes, C, dd, rfl, rfl, wish⟩ := xx
    have I0E : Inv X pins σ' H' s0E := J'.ofTry ok
    rw [show (X.tr (X.pn ++ pins) _).stack = X.env :: X.outer from hs] at air
    show wpAny (model X.prog X.w) X.A (noteFrame (.ref a) X.env) _ _ _
    refine Sky.land Zc.steady frames hf air fun hA fly3 more3 => ?_
    have Ba : B.get? a = none := fly3.2.1
    have IA : Inv X pins σ' H' { s' with heap := hA } := I0E.landed keeps_ fly3.1 (grow.trans more3) osE bareE
    obtain ⟨ob3, fv3, at3, zc3, dt3⟩ := fly3.there
    have ne0 : a ∉ frs (X.env :: X.outer) := fun hm => by
      obtain ⟨_, o', e', hnf⟩ := fly3.2.2.1.mem hm
      rw [at3] at e'; cases e'; exact hnf _ dt3
    have ne1 : a ≠ X.env.locals := fun z => ne0 (List.mem_filterMap.mpr ⟨X.env, List.mem_cons_self, by rw [hf, z]⟩)
    have ne2 : a ∉ X.fs := fun hm => by
      obtain ⟨e, he, q⟩ := List.mem_filterMap.mp hm
      exact ne0 (List.mem_filterMap.mpr ⟨e, List.mem_cons_of_mem _ he, q⟩)
    have noA : s0E.heap.get? a = none := by
      cases q : s0E.heap.get? a with
      | none => rfl
      | some o => exact absurd ((keeps_ a o q (by rw [hs]; exact ne0)).symm.trans Ba) (fun z => nomatch z)
    have newA : ∀ b ob, X.s_0.heap.get? b = some ob → X.H_0 b = none → b ∉ X.ex → b ≠ a := fun b ob e _ hx z => by
      obtain ⟨o', q⟩ := I0E.base.there b ob e hx
      rw [z, noA] at q; cases q
    have npA : ∀ p ∈ X.pn ++ pins, p.1 ≠ a := fun p hp z => by
      have q := (I0E.pin p hp).1
      rw [z, noA] at q; cases q
    have SA := IA.suite at3 dt3 naa ne1 ne2
    refine wpAny_handleBy_cons (codeAny_handlers_test ?_) (by intro q; cases q)
    have looks : PySem.W.Looks (model X.prog X.w) hA (typeOf (.ref a)) (.ref C) := fun A Q E s k q => wpAny_typeOf_ref (k _ _ at3) (by rw [zc3.1]; exact q)
    have meets_ := PySem.W.exm_one (M := model X.prog X.w) (IA.kIn) looks yes
    have tst : ∀ {Q : Value → Shared → Prop} {E : Value → Shared → Prop}, Q c { s' with heap := hA } → wpAny (model X.prog X.w) (X.A.mark (some (.ref a))) (eval (.Name x np) X.env) Q E { s' with heap := hA } := fun {Q E} q => by
      obtain ⟨g1, g2, g3 | ⟨g3, g4, g5⟩⟩ := hc
      · exact ld_glob (X := X.suite a ((a, ob3) :: (X.pn ++ pins))) SA g1 g3 q g2
      · exact ld_blt (X := X.suite a ((a, ob3) :: (X.pn ++ pins))) SA g1 g3 g4 q g5 g2
    refine tst (meets_.here (codeAny_handlers_suite_as (HandSPX.lands_againZ fly3 fun hB_ fly4 more4 => ?_)))
    have IB : Inv X pins σ' H' { s' with heap := hB_ } := I0E.landed keeps_ fly4.1 ((grow.trans more3).trans more4) osE bareE
    obtain ⟨ob4, fv4, at4, zc4, dt4⟩ := fly4.there
    refine store_ok (X := X.suite a ((a, ob4) :: (X.pn ++ pins))) (v := .ref a) (IB.suite at4 dt4 naa ne1 ne2) hN hi (.inl hln) rfl (fun sB SB => ?_) (.inr hln)
    refine wpAny_mono ((hsu a ob4 (.ref C) (some dd) (X.pn ++ pins) zc4 ⟨_, dt4⟩).run [] sB _ H' _ SB (wish a naa)) (fun f sC res => ?_) (fun _ _ z => False.elim z)
    cases f with
    | next =>
      obtain ⟨σ6, HC, SC, qC⟩ := res
      obtain ⟨p1, p2, p3, p4, p5⟩ := SC.pin (a, ob4) (List.mem_append_left _ List.mem_cons_self)
      have IC : Inv X pins σ6 HC sC := SC.unsuite ok
      have ID : Inv X pins σ6 (upd HC a (ErrO C dd a)) sC := track IC p2 newA ne1.symm (fun y c' e z => by
        obtain ⟨v, o, ho, hd⟩ := IC.cell y c' e
        rw [z, p1] at ho; cases ho; exact p5 _ hd) npA (errO_ok p1 zc4 dt4)
      exact gone_ok ID hN hi hln fun sE IE => ⟨_, _, IE, qC p2⟩
    | brk =>
      obtain ⟨_, _, _, qC⟩ := res
      exact qC.elim
    | cont =>
      obtain ⟨_, _, _, qC⟩ := res
      exact qC.elim
    | ret u =>
      obtain ⟨_, _, _, _, _, qC⟩ := res
      exact qC.elim
  · cases f with
    | next =>
      obtain ⟨σ', H', J', q⟩ := res
      exact wpAny_execs_nil ⟨σ', H', J'.ofTry ok, q⟩
    | brk => obtain ⟨σ', H', J', q⟩ := res; exact ⟨σ', H', J'.ofTry ok, q⟩
    | cont => obtain ⟨σ', H', J', q⟩ := res; exact ⟨σ', H', J'.ofTry ok, q⟩
    | ret u => obtain ⟨v, σ', H', J', r, q⟩ := res; exact ⟨v, σ', H', J'.ofTry ok, r, q⟩
/-- isinstance(e, C), e of the very class C -/
def rIsErr : List V → Hp → VK → Prop := fun xs H Q => ∃ (a C d : Addr), xs = [.ref a, .ref C] ∧ H a = some (ErrO C d a) ∧ Q (.bl true) H
theorem err_ans {a C : Addr} : Answers (fun s => ∃ oe, s.heap.get? a = some oe ∧ oe.cls = .ref C) (.ref a) (.ref C) true := by
  intro dep tk prog w A R s hs
  obtain ⟨⟨oe, he, hcl⟩, hq⟩ := hs
  unfold Builtin.«isinstance.nested»
  refine wpAny_bind (wpAny_typeOf_ref he ?_)
  rw [hcl, if_pos (beq_self_eq_true (Value.ref C))]
  first
    | exact wpAny_bind (wpAny_rule (wpAny_pure (hq _)))
    | exact wpAny_bind (wpAny_rule (hq _))
theorem call_isErr : CallR X (.builtin "isinstance") rIsErr := by
  intro pp s σ H xs vus Q I r h
  obtain ⟨a, C, d, rfl, ha, q⟩ := h
  obtain ⟨oe, fv, he, hz, hf⟩ := err_get I ha
  obtain ⟨u1, u2, rfl, r1, r2⟩ : ∃ u1 u2, vus = [u1, u2] ∧ RelV (.ref a) u1 ∧ RelV (.ref C) u2 := by
    cases r with
    | cons r rr => cases rr with | cons r' rr => cases rr; exact ⟨_, _, rfl, r, r'⟩
  cases r1; cases r2
  exact call_isinstance (S := fun _ R s => (∃ oe, s.heap.get? a = some oe ∧ oe.cls = .ref C) ∧ ∀ tk, R (.ok (.ret (.bool true))) { s with toks := tk })
    (fun prog w A R s hs => isinstance_outer (err_ans 0 _ prog w A R s hs) (fun z => nomatch z)) ⟨⟨oe, he, hz.1⟩, fun tk => ⟨.bl true, H, I.kept (t' := tk) fun _ _ z => z, rfl, q⟩⟩
/-- e.f, e a caught exception of an own class -/
def tErrF (K : PySem.W.Frag) (f : Str) (te : TE) : TE := fun σ H Q => te σ H fun x H1 => ∃ (a C d : Addr) (fs : List (Str × V)) (v : V), x = .ref a ∧ H1 a = some (ErrO C d a) ∧ XfC K C ∧ PySem.W.findIn K (.ref C) f = some none ∧ H1 d = some (.xd fs) ∧ fs.lookup f = some v ∧ Q v H1
theorem pe_errF {e : Expr} {te : TE} {pos : Pos} {f : Str} (he : PE X e te) (hb : attributeBase e f X.env (eval e X.env) = eval e X.env := by rfl) : PE X (.Attribute e f pos) (tErrF X.K f te) := by
  refine ⟨fun pp s σ H Q I h => attr_of hb (thn (he.run pp s σ H _ I h) fun u s1 hh => ?_)⟩
  obtain ⟨y, H1, I1, rxu, a, C, d, fs, v, rfl, ha, T, hno, hd, l, q⟩ := hh
  obtain rfl : u = Value.ref a := rxu
  obtain ⟨oe, fv, h1, hz, hfv⟩ := err_get I1 ha
  obtain ⟨mA, nsd, hr⟩ := (show ObjOk X.prog X.w H1 s1.heap d (.xd fs) from I1.hok d _ hd)
  obtain ⟨odd_, look_, lkd⟩ := lookIn_ns nsd
  obtain ⟨u2, atu, rvu⟩ := RelO.some_of (v := v) (o := mA f) (by rw [← l]; exact hr f)
  have J : PySem.W.InstAt s1.heap a oe C (some odd_) := ⟨h1, hz.1, by unfold PySem.W.notCls; rw [hfv] <;> rfl, by rw [hz.2]; exact look_⟩
  exact HandSPX.exc_get I1.kIn J T.ga T.gg T.exC (PySem.W.findObj_own T.hdC hno rfl (by rw [lkd, atu])) (handed_of rvu) ⟨v, H1, I1.tok _, rvu, q⟩
end
/-- a lambda's text -/
structure LamD where
  params : Arguments
  body : Expr
  scope : Scope
/-- the lambda at f: made in X -/
def LamO (X : Cx) (D : LamD) (f c' : Addr) : HO := .ext fun h => ∃ pm ctv : Value, h.get? f = some (PySem.W.kla_obj "<lambda>" (X.env.qual ++ "<lambda>") D.params D.body D.scope (cloFrom X.env.cells D.scope.names []) pm c' ctv)
/-- a known lambda and its code -/
def IsLam (X : Cx) (D : LamD) (f : Addr) (H : Hp) : Prop := ∃ c', H f = some (LamO X D f c') ∧ H c' = some (CodeO c' (X.env.qual ++ "<lambda>"))
theorem IsLam.ext {X : Cx} {D : LamD} {f : Addr} {H H' : Hp} (h : IsLam X D f H) (e : ExtN H H') : IsLam X D f H' := by
  obtain ⟨c', h1, h2⟩ := h
  exact ⟨c', e _ _ h1 (fun ps z => by unfold LamO at z; cases z), e _ _ h2 codeO_ne⟩
section
variable {X : Cx} {pins : List (Addr × Obj)} {σ : L2.St} {H : Hp} {s : Shared}
theorem lamO_ok {P : Program} {w : World} {H : Hp} {h : Heap} {D : LamD} {f c' : Addr} {pm ctv : Value} (e : h.get? f = some (PySem.W.kla_obj "<lambda>" (X.env.qual ++ "<lambda>") D.params D.body D.scope (cloFrom X.env.cells D.scope.names []) pm c' ctv)) : ObjOk P w H h f (LamO X D f c') :=
  ⟨⟨pm, ctv, e⟩, ⟨_, e⟩, fun _ _ ⟨a, b, e1⟩ k => ⟨a, b, k _ e1⟩⟩
/-- what the making asks: the maker's code object and table, the tables at hand -/
structure LamM (X : Cx) (T : List (Addr × Str)) (c P : Addr) : Prop where
  tb : TabB X.base X.mg c P
  code : X.env.code = .ref c
  mem : (P, X.env.qual ++ "<lambda>") ∈ T
  one : ∀ p ∈ T, p.1 = P → p.2 = X.env.qual ++ "<lambda>"
def tLamE (X : Cx) (T : List (Addr × Str)) (D : LamD) : TE := fun σ H Q => Tabs T H ∧ ∀ f H1, ExtN H H1 → Tabs T H1 → IsLam X D f H1 → H f = none → Q (.ref f) H1
theorem pe_lam {T : List (Addr × Str)} {c P : Addr} {params : Arguments} {body : Expr} {scope : Scope} {pos : Pos} (M : LamM X T c P) (L : LamS X.env.scope scope) (hdef : defaultsOf params X.env = ([], [])) : PE X (.Lambda params body scope pos) (tLamE X T ⟨params, body, scope⟩) := by
  refine ⟨fun pins s σ H Q I ⟨hT, q⟩ => ?_⟩
  obtain ⟨tbl, tblP, tri, all⟩ := hT _ M.mem
  have hP' : s.heap.get? P = some { cls := .none, data := .fields tbl } := I.hok P _ tblP
  have hcl := closure_ok (L.has I.ok)
  refine PySem.W.kla_eval hdef ?_
  cases hca : codeAmong pos tbl.toList with
  | some cv =>
    obtain ⟨c', rfl, hco⟩ := all pos cv hca
    refine PySem.W.kla_makeFunctionHit (mg := X.mg) (c := c) (P := P) (ps := tbl) hcl I.ok.glob (I.mod.glob.keeps I.bk) M.code (M.tb.code.keeps I.bk) hP' tri hca (M.tb.bm.keeps I.bk) fun ctv h' tk kept_ szle => ?_
    have I1 : Inv X pins σ H { s with heap := h', toks := tk } := I.kept kept_
    have nf : H h'.objs.size = none := I.hok.fresh szle
    have I2 := I1.laid (t' := tk) (o := LamO X ⟨params, body, scope⟩ h'.objs.size c') (h' := h'.push (PySem.W.kla_obj "<lambda>" (X.env.qual ++ "<lambda>") params body scope (cloFrom X.env.cells scope.names []) ((X.mg "__name__").getD .none) c' ctv)) (fun b o e => Heap.get?_push_of_some _ e) (Nat.le_refl _) (lamO_ok (D := ⟨params, body, scope⟩) (Heap.get?_push_size _ rfl))
    have e : ExtN H (upd H h'.objs.size (LamO X ⟨params, body, scope⟩ h'.objs.size c')) := fun b o z _ => by rw [upd_ne (ne_of_none z nf)]; exact z
    exact ⟨.ref h'.objs.size, _, I2, rfl, q _ _ e (hT.ext fun b o z => by rw [upd_ne (ne_of_none z nf)]; exact z) ⟨c', upd_same, e _ _ hco codeO_ne⟩ nf⟩
  | none =>
    refine PySem.W.kla_makeFunction (mg := X.mg) (c := c) (P := P) (ps := tbl) hcl I.ok.glob (I.mod.glob.keeps I.bk) M.code (M.tb.code.keeps I.bk) hP' tri hca M.tb.gP (M.tb.bm.keeps I.bk) fun c' ctv h' tk kept_ gec ltc rec_ htb => ?_
    obtain ⟨c2, oco, flds, t, ecode, hoc, dat, nmq⟩ := rec_
    cases ecode
    have szle : s.heap.objs.size ≤ h'.objs.size := Nat.le_trans gec (Nat.le_of_lt ltc)
    have nn : H c' = none := I.hok.fresh gec
    have I1 := inv_table (t' := tk) (more := #[rawInt pos.line, rawInt pos.col, .ref c']) (h' := h') I tblP (fun b o hb e => kept_ b o hb e) htb gec ⟨oco, flds, t, hoc, dat, nmq⟩
    have nP : h'.objs.size ≠ P := Nat.ne_of_gt (Nat.lt_of_lt_of_le (Heap.lt_size hP') szle)
    have nf0 : H h'.objs.size = none := I.hok.fresh szle
    have nf : upd (upd H P (.tbl (tbl ++ #[rawInt pos.line, rawInt pos.col, .ref c']))) c' (CodeO c' (X.env.qual ++ "<lambda>")) h'.objs.size = none := by rw [upd_ne (Nat.ne_of_gt ltc), upd_ne nP]; exact nf0
    have I2 := I1.laid (t' := tk) (o := LamO X ⟨params, body, scope⟩ h'.objs.size c') (h' := h'.push (PySem.W.kla_obj "<lambda>" (X.env.qual ++ "<lambda>") params body scope (cloFrom X.env.cells scope.names []) ((X.mg "__name__").getD .none) c' ctv)) (fun b o e => Heap.get?_push_of_some _ e) (Nat.le_refl _) (lamO_ok (D := ⟨params, body, scope⟩) (Heap.get?_push_size _ rfl))
    have e1 : ExtN H (upd (upd H P (.tbl (tbl ++ #[rawInt pos.line, rawInt pos.col, .ref c']))) c' (CodeO c' (X.env.qual ++ "<lambda>"))) := fun b o e n => by
      rw [upd_ne (ne_of_none e nn), upd_ne (fun z => n tbl (Option.some.inj (e.symm.trans (by rw [z]; exact tblP))))]
      exact e
    have T1 : Tabs T (upd (upd H P (.tbl (tbl ++ #[rawInt pos.line, rawInt pos.col, .ref c']))) c' (CodeO c' (X.env.qual ++ "<lambda>"))) := fun p hp => by
      have lst_ : (tbl ++ #[rawInt pos.line, rawInt pos.col, .ref c']).toList = tbl.toList ++ [rawInt pos.line, rawInt pos.col, .ref c'] := by simp
      by_cases hb : p.1 = P
      · rw [M.one p hp hb, hb]
        refine ⟨_, by rw [upd_ne (ne_of_none tblP nn), upd_same], by rw [lst_]; exact PySem.TriplesOk_snoc _ _ _ _ tri, fun p' cv hcv => ?_⟩
        rcases among_app _ tri (lst_ ▸ hcv) with z | z
        · obtain ⟨c0, a1, a2⟩ := all p' cv z
          exact ⟨c0, a1, e1 _ _ a2 codeO_ne⟩
        · exact ⟨c', z, upd_same⟩
      · obtain ⟨ps', a1, a2, a3⟩ := hT p hp
        refine ⟨ps', by rw [upd_ne (ne_of_none a1 nn), upd_ne hb]; exact a1, a2, fun p' cv hcv => ?_⟩
        obtain ⟨c0, b1, b2⟩ := a3 p' cv hcv
        exact ⟨c0, b1, e1 _ _ b2 codeO_ne⟩
    have keep : ∀ b o, upd (upd H P (.tbl (tbl ++ #[rawInt pos.line, rawInt pos.col, .ref c']))) c' (CodeO c' (X.env.qual ++ "<lambda>")) b = some o → upd (upd (upd H P (.tbl (tbl ++ #[rawInt pos.line, rawInt pos.col, .ref c']))) c' (CodeO c' (X.env.qual ++ "<lambda>"))) h'.objs.size (LamO X ⟨params, body, scope⟩ h'.objs.size c') b = some o := fun b o z => by
      rw [upd_ne (ne_of_none z nf)]; exact z
    exact ⟨.ref h'.objs.size, _, I2, rfl, q _ _ (e1.trans (ExtN.of keep)) (T1.ext keep) ⟨c', upd_same, keep _ _ upd_same⟩ nf0⟩
variable {HZ : Hp} {s1 : Shared}
/-- x(), in the def that got a known lambda: entered at s, X as it stood -/
theorem pe_actT {Ng : List Str} {qg : Str} {sg : Scope} {g f : Addr} {cdg : Value} {D : LamD} {CXg : CXT} {Eg : XK} {k i : Nat} {a : Str} {pn : List (Addr × Obj)} {xe : Value → Shared → Prop} {W : WX} {tb : XK → TE} {pp1 pp2 : Pos}
    (I : Inv X pins σ H s) (L : LamS X.env.scope D.scope) (hbind : ∀ (pm cv ctv : Value), bindArgs (PySem.W.kla_fn "<lambda>" (X.env.qual ++ "<lambda>") D.params D.body D.scope (cloFrom X.env.cells D.scope.names []) pm cv ctv) ⟨[], []⟩ = pure [])
    (tk : Takes ((cxOf CXg X.prog X.w X.K X.mg X.base Ng qg sg g cdg X.A X.stack s H Eg).tr pn xe) W) (hr : Room (k + 1) (X.A.deeper (envOfC qg sg s.heap.objs.size g cdg)))
    (hbody : ∀ (A : Around) (outer : List Env) (s : Shared) (H : Hp) (E : XK) (c' : Addr), Room k (A.deeper (lamEnv X D.scope s.heap.objs.size f c')) → PE (lamCx X A outer s H E D.scope f c') D.body (tb E))
    (hNg : Ng[i]? = some a) (hvis : Vis sg a) (dbg : (a == ("__debug__" : Str)) = false := by decide) (cdc : (a == ("__classdict__" : Str)) = false := by decide) :
    PE ((cxOf CXg X.prog X.w X.K X.mg X.base Ng qg sg g cdg X.A X.stack s H Eg).tr pn xe) (.Call (.Name a pp1) [] [] pp2)
      (fun σZ HZ Q => σZ[i]? = some (some (.ref f)) ∧ IsLam X D f HZ ∧ tb (fun cls d H' => W cls d σZ H') σ HZ Q) := by
  refine ⟨fun pinsZ sZ σZ HZ Q IZe ⟨slot, ⟨c', lamf, cod⟩, tbq⟩ => ?_⟩
  refine wpAny_Call_Name_kw (thn ((pe_var (pos := pp1) (i := i) hNg hvis dbg cdc).run pinsZ sZ σZ HZ (fun v H1 => v = .ref f ∧ H1 = HZ) IZe ⟨.ref f, slot, rfl, rfl⟩) fun u s1 ⟨v, H1, IA, rA, ev, eH⟩ => ?_)
  subst ev
  rw [eH] at IA
  obtain rfl : u = Value.ref f := rA
  obtain ⟨⟨pm, ctv, atf⟩, _, _⟩ := IA.hok f _ lamf
  obtain ⟨⟨oco, flds, t, atc, datc, nmc⟩, _, _⟩ := IA.hok c' _ cod
  refine PySem.W.callWith_F0 ⟨_, _, _, _, atf⟩ ?_
  have base_ : Un (frs X.stack) [] H HZ s.heap s1.heap := IA.base
  have run_ : codeAny (model X.prog X.w) (X.A.deeper (envOfC qg sg s.heap.objs.size g cdg)) (.call (.ref f) ⟨[], []⟩) (CR (L2.CX X.prog X.w) (envOfC qg sg s.heap.objs.size g cdg :: X.stack) X.prog X.w HZ s1 Q (fun cls d H' => W cls d σZ H')) s1 := by
    refine PySem.W.kla_callFunE hr.depth atf rfl L.co L.gen rfl ⟨c', oco, flds, t, rfl, atc, datc, nmc⟩ ?_
    rw [hbind]
    refine wpAny_pure (wpAny_newFunctionEnv (fun y hy => (L.own y hy).2) (fun y hy => absurd hy (by simp)) (fun h₁ nsn sbt => ⟨IA.nolimit.fresh _ sbt, ?_⟩) L.kind)
    show codeAny _ _ (.expr D.body (lamEnv X D.scope s1.heap.objs.size f c')) _ _
    have J : Inv (lamCx X (X.A.deeper (envOfC qg sg s.heap.objs.size g cdg)) (envOfC qg sg s.heap.objs.size g cdg :: X.stack) s1 HZ (fun cls d H' => W cls d σZ H') D.scope f c') [] σ HZ { s1 with heap := h₁, toks := s1.toks + ([] : List (Str × Value)).length } :=
      lam_start2 I L IA.env0 hr.hd base_ nsn fun b o e => sbt.extBut b o (Nat.ne_of_lt (Heap.lt_size e)) (Heap.get?_push_of_some _ e)
    refine PySem.W.kla_codeExpr (wpAny_mono ((hbody _ _ s1 HZ _ c' (hr.deeper _)).run [] _ _ HZ Q J tbq) (fun v s' ⟨w', H', J', rv, q⟩ => ⟨w', H', J'.os, J'.bare, J'.base, J'.hok, rv, q⟩) fun e s' hq => hq)
  refine wpAny_call (codeAny_mono run_ fun r s' hq => ?_)
  cases r with
  | error e => exact tk e s' (XE.of_call IA (fun cls d H' h => h) hq)
  | ok fl => cases fl with
    | ret u => exact IA.after hq
    | next => exact False.elim hq
    | brk => exact False.elim hq
    | cont => exact False.elim hq
/-- what the hearing makes of an error of the package, and of none -/
def HErr (K : PySem.W.Frag) (CS : Addr) (Q : VK) : XK := fun cls d H' => PySem.W.exmOne K cls (.ref CS) = some true ∧ ∃ (C dd : Addr), cls = .ref C ∧ d = some dd ∧
  ∀ a p, H' a = none → upd H' a (ErrO C dd a) p = none → Q (.ref p) (upd (upd H' a (ErrO C dd a)) p (.tup [.ref a, .non]))
def HBack (Q : VK) : VK := fun v H' => ∀ p, H' p = none → Q (.ref p) (upd H' p (.tup [.non, v]))
def TH (K : PySem.W.Frag) (CS : Addr) (tb : XK → TE) : TE := fun σ H Q => ∀ (E : XK) (Q' : VK), (∀ cls d H', HErr K CS Q cls d H' → E cls d H') → (∀ v H', HBack Q v H' → Q' v H') → tb E σ H Q'
def tHeard (X : Cx) {ι : Type} (CS : Addr) (D : ι → LamD) (tb : ι → XK → TE) (te : TE) : TE := fun σ H Q => te σ H fun v H1 => ∃ (j : ι) (f : Addr), v = .ref f ∧ IsLam X (D j) f H1 ∧ ∀ H2, Same H1 H2 → TH X.K CS (tb j) σ H2 Q
end
def isDict : PyData → Bool
  | .dict _ => true
  | _ => false
/-- data of a kind that can be shown, and compared -/
def okData (d : PyData) : Bool := d.leavesShort 13 && (decide (d.weight ≤ 2 ^ 20) && (d.showable && (decide (d.depth ≤ 8) && (d.canLay0 || isDict d))))
theorem okData.parts {d : PyData} (h : okData d = true) : d.leavesShort 13 = true ∧ d.weight ≤ 2 ^ 20 ∧ d.showable = true ∧ d.depth ≤ 8 ∧ (d.canLay0 = true ∨ isDict d = true) := by
  unfold okData at h
  simp only [Bool.and_eq_true, Bool.or_eq_true, decide_eq_true_eq] at h
  exact h
theorem okData.fits {d : PyData} (h : okData d = true) : d.shown.length ≤ sizeLine := PyData.shown_fits (B := 13) (by decide) (by decide) (okData.parts h).1 (okData.parts h).2.1
theorem okData.shaped {d : PyData} (h : okData d = true) : ∀ ds, d = .tuple ds → SeqAt.shaped d = true := fun ds e => by
  obtain ⟨_, _, _, h4, h5⟩ := okData.parts h
  subst e
  unfold SeqAt.shaped
  rw [Bool.and_eq_true, decide_eq_true_eq]
  exact ⟨h5.elim id (fun z => nomatch z), by omega⟩
mutual
theorem lay_noDict : ∀ d : PyData, d.canLay0 = true → d.hasDict = false
  | .none, _ => rfl
  | .bool _, _ => rfl
  | .int _, _ => rfl
  | .str _, _ => rfl
  | .list xs, h => by
    simp only [PyData.canLay0] at h
    simp only [PyData.hasDict]
    exact lay_noDictAll xs h
  | .tuple xs, h => by
    simp only [PyData.canLay0] at h
    simp only [PyData.hasDict]
    exact lay_noDictAll xs h
  | .dict _, h => by simp [PyData.canLay0] at h
theorem lay_noDictAll : ∀ ds : List PyData, PyData.canLayAll0 ds = true → PyData.hasDictAll ds = false
  | [], _ => rfl
  | d :: ds, h => by
    simp only [PyData.canLayAll0, Bool.and_eq_true] at h
    simp only [PyData.hasDictAll, lay_noDict d h.1, lay_noDictAll ds h.2, Bool.or_false]
end
section
variable {X : Cx} {pins : List (Addr × Obj)} {σ : L2.St} {H : Hp} {s : Shared}
theorem dk_reads (I : Inv X pins σ H s) {d : PyData} {v : V} {u : Value} (h : Dk X.K H v d) (r : RelV v u) : ∃ as, Reads s.heap u d as ∧ (d.hasDict = true → isDict d = true → sysModules ∉ as) := by
  cases h with
  | dp h =>
    obtain ⟨as, hr⟩ := Dp.reads I d v u h r
    refine ⟨as, hr, fun _ z => ?_⟩
    cases h <;> cases z
  | @d0 a h =>
    cases r
    obtain ⟨_, hsys, ws, rel, od, des, dep, ho, hex, hdat, _, hp, _⟩ := dk_of I.hok h
    cases rel
    have e : des = #[] := by
      cases des with | mk l => cases hp; rfl
    subst e
    refine ⟨_, Reads.dict (kvs := []) ho hex.1 hdat .nil .nil, fun _ _ hm => ?_⟩
    rcases List.mem_append.mp hm with hm | hm
    · rcases List.mem_cons.mp hm with rfl | hm
      · rw [beq_self_eq_true] at hsys; cases hsys
      · cases hm
    · cases hm
  | @d1 a h =>
    cases r
    obtain ⟨_, hsys, ws, rel, od, des, dep, ho, hex, hdat, _, hp, _⟩ := dk_of I.hok h
    cases rel with
    | @cons _ q _ _ h1 h2 =>
      cases h2
      obtain ⟨k, u⟩ := q
      obtain ⟨e1, e2⟩ := h1
      cases e1
      obtain ⟨t, rfl⟩ := e2
      cases des with
      | mk l =>
        cases hp with
        | @cons e _ es _ p1 p2 p3 =>
          cases p3
          obtain ⟨tk, ek⟩ := Value.isStrOf_shape (x := Str.ofString "a") (v := e.key) p1
          refine ⟨_, Reads.dict (kvs := [(.str "a", .int 1)]) ho hex.1 hdat (.cons (show Reads s.heap e.key (PyData.str "a") [] from by rw [ek]; exact .str _ _) .nil) (.cons (show Reads s.heap e.val (PyData.int 1) [] from by rw [p2]; exact .int _ _) .nil), fun _ _ hm => ?_⟩
          rcases List.mem_append.mp hm with hm | hm
          · rcases List.mem_cons.mp hm with rfl | hm
            · rw [beq_self_eq_true] at hsys; cases hsys
            · cases hm
          · cases hm
/-- repr(x), x data; nothing under way -/
def rRepr (K : PySem.W.Frag) : List V → Hp → VK → Prop := fun xs H Q => ∃ (v : V) (d : PyData), xs = [v] ∧ Dk K H v d ∧ okData d = true ∧ Q (.str d.shown) H
theorem call_repr (hg : X.A.guards = some []) (hu : X.A.units + 64 < cLine) : CallR X (.builtin "repr") (rRepr X.K) := by
  intro pins s σ H xs us Q I r h
  obtain ⟨v, d, rfl, hd, ho, q⟩ := h
  obtain ⟨u, rfl, rv⟩ := vals1 r
  obtain ⟨h1, h2, h3, h4, h5⟩ := okData.parts ho
  have fits := okData.fits ho
  obtain ⟨as, hr, hsys⟩ := dk_reads I hd rv
  have at_ref : ∀ a : Addr, u = .ref a → wpAny (model X.prog X.w) X.A (call (.builtin "repr") [u]) (EP X pins σ Q) X.xe s := fun a e => by
    subst e
    refine repr_of_reads' hr h3 (fun z => hsys z ?_) hg (by omega) (fun _ _ e => e) (fun h' w tk hk => ⟨.str d.shown, H, I.kept (t' := tk) hk, ⟨w, rfl⟩, q⟩) fits
    rcases h5 with c | c
    · rw [lay_noDict d c] at z; cases z
    · exact c
  cases hd with
  | d0 h => exact at_ref _ rv
  | d1 h => exact at_ref _ rv
  | dp hd =>
    cases hd with
    | lst _ _ => exact at_ref _ rv
    | tup _ _ => exact at_ref _ rv
    | non => cases rv; exact PySem.P.repr_of_none ⟨.str "None", H, I.tok _, ⟨_, rfl⟩, q⟩
    | bl b => cases rv; exact PySem.P.repr_of_bool ⟨.str (if b then "True" else "False"), H, I.tok _, ⟨_, by cases b <;> rfl⟩, by cases b <;> exact q⟩
    | int i =>
      obtain ⟨t, rfl⟩ := rv
      exact PySem.P.repr_of_int (by simpa [PyData.showable] using h3) ⟨.str (toString i), H, I.tok _, ⟨_, rfl⟩, q⟩
    | str x =>
      obtain ⟨t, rfl⟩ := rv
      exact PySem.P.repr_of_str ⟨.str (reprText x), H, I.tok _, ⟨_, rfl⟩, q⟩ fits
end
/-- as FnOk, of the rooms in which nothing guarded is under way -/
structure FnG (P : Program) (w : World) (K : PySem.W.Frag) (mg : Str → Option Value) (base : Heap) (k : Nat) (f : Addr) (fd : FuncData) (ps : List Str) (sp : Sp) : Prop where
  len : ∀ vs H Q E, sp vs H Q E → vs.length = ps.length
  run : ∀ (A : Around) (outer : List Env) (s : Shared) (H : Hp) (args : Args) (us : List Value) (vs : List V) (Q : VK), Room k A → A.guards = some [] → Env0 P w K mg base A outer s H → BindsTo s fd args (ps.zip us) → Vals vs us → sp vs H Q E0 →
    codeAny (model P w) A (.call (.ref f) args) (CR CX0 outer P w H s Q E0) s
section
variable {P : Program} {w : World} {K : PySem.W.Frag} {mg : Str → Option Value} {base : Heap}
theorem fnG_of {x qual : Str} {st : Stmt} {f : Addr} {fd : FuncData} {N ps : List Str} {k : Nat} {sp : Sp} (F : Fun K x qual st f fd) (S : FnScope N ps (defScope st)) (len : ∀ vs H Q E, sp vs H Q E → vs.length = ps.length)
    (hbody : ∀ (cdv : Value) (A : Around) (outer : List Env) (s : Shared) (H : Hp) (vs : List V) (Q : VK), Room k (A.deeper (envOfC qual (defScope st) s.heap.objs.size f cdv)) → (A.deeper (envOfC qual (defScope st) s.heap.objs.size f cdv)).guards = some [] → sp vs H Q E0 →
      ∃ t, PSs (cxOf CX0 P w K mg base N qual (defScope st) f cdv A outer s H E0).nox (defBody st) t ∧ t { nx := fun _ H' => Q .non H', rt := Q } (L2.start N vs) H) : FnG P w K mg base (k + 1) f fd ps sp := by
  obtain ⟨oc, od, kV, doc, pm, an, cdv, ct, osl, rfl, lk, hcd⟩ := F.ex
  refine ⟨len, fun A outer s H args us vs Q hr hg e0 hb r hsp => ?_⟩
  exact run_ofS lk hcd S hr e0 hb r (len _ _ _ _ hsp) fun hr' => by
    obtain ⟨t, h, q⟩ := hbody cdv A outer s H vs Q hr' hg hsp
    exact ⟨t, h.nox, q⟩
theorem FnG.ofOk {k : Nat} {f : Addr} {fd : FuncData} {ps : List Str} {sp : Sp} (F : FnOk P w K mg base CX0 k f fd ps sp) : FnG P w K mg base k f fd ps sp := ⟨F.len, fun A outer s H args us vs Q hr _ e0 hb r h => F.run A outer s H args us vs Q E0 hr e0 hb r h⟩
end
section
variable {X : Cx} {k : Nat} {f : Addr} {fd : FuncData} {ps : List Str} {sp : Sp} {x : Str} {p pos : Pos} {e : Expr} {es : List Expr} {t : TA}
theorem pe_callG (F : FnG X.prog X.w X.K X.mg X.base k f fd ps sp) (hr : Room k X.A) (gd : X.A.guards = some []) (hg : Gl X x) (hm : X.mg x = some (.ref f)) (hk : PySem.W.keepIn X.K (.ref f) = true) (hb : L2.Binds X.K fd ps [])
    (ha : PA X (e :: es) t) (hdb : (x == ("__debug__" : Str)) = false := by decide) (he : starEach (e :: es) X.env = (false, eval e X.env) :: starEach es X.env := by rfl) (hpl : (backTo pos (starEach es X.env)).any (·.1) = false := by rfl) :
    PE X (.Call (.Name x p) (e :: es) [] pos) (tCall sp [] E0 t) := by
  refine ⟨fun pins s σ H Q I h => wpAny_Call_Name_kw (ld_glob I hg hm ?_ hdb)⟩
  refine PySem.W.callWith_K (h₀ := X.base) I.ok.mod.kin hk (thn (ha.run pos pins s σ H _ I h) fun us s1 ⟨vs, H1, I1, r, q⟩ => ⟨I1.kIn, ?_⟩) he hpl
  have q' : sp vs H1 Q E0 := by
    have q0 : sp (vs ++ []) H1 Q E0 := q
    rw [List.append_nil] at q0
    exact q0
  have hl : us.length = ps.length := by rw [← r.length]; exact F.len _ _ _ _ q'
  have bt : BindsTo s1 fd ⟨us, []⟩ (ps.zip us) := by
    have z := hb s1 us I1.kIn (by rw [List.append_nil]; exact hl)
    rw [List.append_nil] at z
    exact z
  refine wpAny_call (codeAny_mono (F.run X.A X.stack s1 H1 ⟨us, []⟩ us vs Q hr gd I1.env0 bt r q') fun r s' hq => ?_)
  cases r with
  | error e => exact (show False from hq).elim
  | ok fl => cases fl with
    | ret u => exact I1.after hq
    | next => exact False.elim hq
    | brk => exact False.elim hq
    | cont => exact False.elim hq
end
/-- what stands in H', without what was a list in H -/
def nl (H H' : Hp) : Hp := fun b => match H b with
  | some (.lst _) => none
  | _ => H' b
theorem nl_not {H H' : Hp} {c : Addr} (h : ∀ xs, H c ≠ some (.lst xs)) : nl H H' c = H' c := by
  unfold nl
  split
  · exact absurd ‹_› (h _)
  · rfl
theorem nl_new {H H' : Hp} {c : Addr} (h : H c = none) : nl H H' c = H' c := nl_not fun xs z => by rw [h] at z; cases z
theorem nl_lst {H H' : Hp} {c : Addr} {xs : List V} (h : H c = some (.lst xs)) : nl H H' c = none := by
  unfold nl
  rw [h]
/-- what is found there was no list -/
theorem nl_out {H H' : Hp} {c : Addr} {o : HO} (h : nl H H' c = some o) : (∀ xs, H c ≠ some (.lst xs)) ∧ H' c = some o := by
  have a : ∀ xs, H c ≠ some (.lst xs) := fun xs z => by rw [nl_lst z] at h; cases h
  exact ⟨a, by rw [nl_not a] at h; exact h⟩
theorem nl_at {H H' : Hp} {p c : Addr} {o : HO} (g : Same (wo H p) (wo H' p)) (h : wo H' p c = some o) (no : ∀ xs, o ≠ .lst xs) : nl H H' c = some o := by
  have ne : c ≠ p := fun z => by rw [z, wo_same] at h; cases h
  rw [nl_not fun xs z => ?_]
  · exact wo_le _ _ h
  · have e := g _ _ (wo_at z ne)
    rw [h] at e
    exact no xs (Option.some.inj e)
theorem nl_wo {H H' : Hp} {p : Addr} (hp : ∃ xs, H p = some (.lst xs)) : Same (nl H H') (wo H' p) := fun b o e => by
  obtain ⟨xs, hp⟩ := hp
  obtain ⟨a, e⟩ := nl_out e
  exact wo_at e fun z => a xs (z ▸ hp)
theorem nl_fresh {H H' : Hp} {p c : Addr} (g : Same (wo H p) (wo H' p)) (h : H' c = none) (ne : c ≠ p) : H c = none := by
  cases e : H c with
  | none => rfl
  | some o =>
    have z := wo_le _ _ (g _ _ (wo_at e ne))
    rw [h] at z
    cases z
theorem nl_mono {H H1 H2 H3 : Hp} {p : Addr} (g : Same (wo H p) (wo H1 p)) (hp : ∃ xs, H1 p = some (.lst xs)) (s : Same H2 H3) : Same (nl H1 H2) (nl H H3) := fun b o e => by
  obtain ⟨ys, hp⟩ := hp
  obtain ⟨a, e⟩ := nl_out e
  have ne : b ≠ p := fun z => a ys (z ▸ hp)
  rw [nl_not fun xs z => a xs (wo_le _ _ (g _ _ (wo_at z ne)))]
  exact s _ _ e
theorem sqT_nl {K : PySem.W.Frag} {H H' : Hp} {p c : Addr} {xs : List V} (g : Same (wo H p) (wo H' p)) (h : SqT K (wo H' p) c xs) : SqT K (nl H H') c xs := by
  rcases h with (h | ⟨o, h⟩) | h
  · exact .inl (.inl (nl_at g h fun _ z => nomatch z))
  · exact .inl (.inr ⟨o, nl_at g h fun _ z => nomatch z⟩)
  · exact .inr h
theorem none_of {H H' : Hp} {c : Addr} (s : Same H H') (h : H' c = none) : H c = none := by
  cases e : H c with
  | none => rfl
  | some o =>
    have z := s _ _ e
    rw [h] at z
    cases z
theorem pot_lst {H : Hp} {p : Addr} {n : Nat} (h : Pot H p n) : ∃ xs, H p = some (.lst xs) := by
  obtain ⟨a, b, c, e, _⟩ := h
  exact ⟨_, e⟩
section
variable {P : Program} {w : World} {K : PySem.W.Frag} {mg : Str → Option Value} {base : Heap}
/-- all but the tables and the pot stay -/
def ExtP (p : Addr) (H H' : Hp) : Prop := ∀ b o, H b = some o → b ≠ p → (∀ ps, o ≠ .tbl ps) → H' b = some o
def CalG (P : Program) (w : World) (K : PySem.W.Frag) (mg : Str → Option Value) (base : Heap) (k : Nat) (x : Str) (ps : List Str) (sp : Sp) : Prop :=
  ∃ (f : Addr) (fd : FuncData), FnG P w K mg base k f fd ps sp ∧ PySem.W.keepIn K (.ref f) = true ∧ L2.Binds K fd ps [] ∧ mg x = some (.ref f)
theorem tabs_wo {T : List (Addr × Str)} {H H' : Hp} {p : Addr} (t : Tabs T H) (hp : ∃ xs, H p = some (.lst xs)) (s : Same (wo H p) (wo H' p)) : Tabs T H' := fun x hx => by
  obtain ⟨ps, h1, h2, h3⟩ := t x hx
  obtain ⟨xs, hl⟩ := hp
  refine ⟨ps, wo_le _ _ (s _ _ (wo_at h1 fun z => by rw [z, hl] at h1; cases h1)), h2, fun pos cv hc => ?_⟩
  obtain ⟨c, e1, e2⟩ := h3 pos cv hc
  exact ⟨c, e1, wo_le _ _ (s _ _ (wo_at e2 fun z => by rw [z, hl] at e2; unfold CodeO at e2; cases e2))⟩
end
/-- a def that may be called by its name -/
def Cal (P : Program) (w : World) (K : PySem.W.Frag) (mg : Str → Option Value) (base : Heap) (CX : CXT) (k : Nat) (x : Str) (ps : List Str) (sp : Sp) : Prop :=
  ∃ (f : Addr) (fd : FuncData), FnOk P w K mg base CX k f fd ps sp ∧ PySem.W.keepIn K (.ref f) = true ∧ L2.Binds K fd ps [] ∧ mg x = some (.ref f)
/-- what never raises passes -/
theorem passX {X : Cx} : Passes (L2.CX X.prog X.w) X E0 := fun _ _ _ _ _ _ _ ⟨_, _, _, _, _, _, _, _, _, _, _, _, h⟩ => h.elim
theorem same_ne {x : V} {Pr : Prop} (e : (!decide (x = x)) = true) : Pr := by simp at e
theorem eq_ne {x y : V} {Pr : Prop} (h : x = y) (e : (!decide (x = y)) = true) : Pr := by
  subst h
  exact same_ne e
/-- data without dicts, of nesting at most k and weight at most m -/
def okN (k m : Nat) (d : PyData) : Prop := d.leavesShort 13 = true ∧ d.weight ≤ m ∧ d.showable = true ∧ d.depth ≤ k ∧ d.canLay0 = true
theorem okN.mono {k m k' m' : Nat} {d : PyData} (h : okN k m d) (hk : k ≤ k') (hm : m ≤ m') : okN k' m' d := ⟨h.1, Nat.le_trans h.2.1 hm, h.2.2.1, Nat.le_trans h.2.2.2.1 hk, h.2.2.2.2⟩
theorem okN.ok {k m : Nat} {d : PyData} (h : okN k m d) (hk : k ≤ 8) (hm : m ≤ 2 ^ 20) : okData d = true := by
  unfold okData
  simp only [Bool.and_eq_true, Bool.or_eq_true, decide_eq_true_eq]
  exact ⟨h.1, Nat.le_trans h.2.1 hm, h.2.2.1, Nat.le_trans h.2.2.2.1 hk, .inl h.2.2.2.2⟩
theorem okN.all {k m : Nat} : ∀ {ds : List PyData}, (∀ d ∈ ds, okN k m d) → PyData.leavesShortAll 13 ds = true ∧ PyData.weightAll ds ≤ (m + 1) * ds.length ∧ PyData.showableAll ds = true ∧ PyData.depthAll ds ≤ k ∧ PyData.canLayAll0 ds = true
  | [], _ => ⟨rfl, Nat.le_refl _, rfl, Nat.zero_le _, rfl⟩
  | d :: ds, h => by
    obtain ⟨i1, i2, i3, i4, i5⟩ := okN.all fun y hy => h y (List.mem_cons_of_mem _ hy)
    obtain ⟨j1, j2, j3, j4, j5⟩ := h d List.mem_cons_self
    refine ⟨?_, ?_, ?_, ?_, ?_⟩
    · simp only [PyData.leavesShortAll, j1, i1, Bool.and_self]
    · simp only [PyData.weightAll, List.length_cons, Nat.mul_add, Nat.mul_one]
      omega
    · simp only [PyData.showableAll, j3, i3, Bool.and_self]
    · simp only [PyData.depthAll]
      omega
    · simp only [PyData.canLayAll0, j5, i5, Bool.and_self]
theorem okN.tup {k m : Nat} {ds : List PyData} (h : ∀ d ∈ ds, okN k m d) (hl : ds.length ≤ 8) : okN (k + 1) (8 * (m + 1)) (.tuple ds) := by
  obtain ⟨i1, i2, i3, i4, i5⟩ := okN.all h
  have : (m + 1) * ds.length ≤ (m + 1) * 8 := Nat.mul_le_mul_left _ hl
  refine ⟨by simpa [PyData.leavesShort] using i1, by simp only [PyData.weight]; omega, by simpa [PyData.showable] using i3, by simp only [PyData.depth]; omega, by simpa [PyData.canLay0] using i5⟩
theorem okN.lst {k m : Nat} {ds : List PyData} (h : ∀ d ∈ ds, okN k m d) (hl : ds.length ≤ 8) : okN (k + 1) (8 * (m + 1)) (.list ds) := by
  obtain ⟨i1, i2, i3, i4, i5⟩ := okN.all h
  have : (m + 1) * ds.length ≤ (m + 1) * 8 := Nat.mul_le_mul_left _ hl
  refine ⟨by simpa [PyData.leavesShort] using i1, by simp only [PyData.weight]; omega, by simpa [PyData.showable] using i3, by simp only [PyData.depth]; omega, by simpa [PyData.canLay0] using i5⟩
theorem okN.int {i : Int} (h0 : -100000 ≤ i) (h1 : i ≤ 1000000) : okN 0 50 (.int i) := by
  have ht : (Str.ofString (toString i)).length ≤ 13 := by
    by_cases c : 0 ≤ i
    · exact Nat.le_trans (toString_length_le (k := 7) c (by decide) (by omega)) (by decide)
    · obtain ⟨n, rfl⟩ : ∃ n : Nat, i = Int.negSucc n := by
        cases i with
        | ofNat n => exact absurd (Int.natCast_nonneg n) c
        | negSucc n => exact ⟨n, rfl⟩
      have hn : (n + 1 : Int) < 10 ^ 6 := by omega
      have e : toString (Int.negSucc n) = "-" ++ toString (n + 1) := rfl
      have t := toString_length_le (v := ((n + 1 : Nat) : Int)) (k := 6) (by omega) (by decide) (by exact_mod_cast hn)
      have len : ∀ a b : String, (Str.ofString (a ++ b)).length = (Str.ofString a).length + (Str.ofString b).length := fun a b => by
        show (Str.ofString (a ++ b)).cps.size = (Str.ofString a).cps.size + (Str.ofString b).cps.size
        rw [Str.ofString_eq_toList, Str.ofString_eq_toList, Str.ofString_eq_toList]
        simp [String.toList_append]
      rw [e, len]
      have h1' : (Str.ofString "-").length = 1 := by decide
      have t' : (Str.ofString (toString (n + 1))).length ≤ 6 := t
      omega
  have hl : i.natAbs.log2 ≤ 20 := by
    by_cases z : i.natAbs = 0
    · rw [z]; decide
    · exact Nat.le_of_lt_succ ((Nat.log2_lt z).mpr (by omega))
  refine ⟨by simp only [PyData.leavesShort, decide_eq_true_eq]; exact ht, ?_, ?_, Nat.le_refl 0, rfl⟩
  · simp only [PyData.weight]
    split <;> omega
  · simp only [PyData.showable, decide_eq_true_eq]
    omega
/-- texts that can be shown -/
def okS (n : Nat) (x : Str) : Prop := x.length ≤ n ∧ ∀ c ∈ x.cps.toList, c < 0x110000
theorem okS.ok {n : Nat} {x : Str} (h : okS n x) (hn : n ≤ 50) : okN 0 50 (.str x) := by
  refine ⟨?_, Nat.le_trans h.1 hn, rfl, Nat.le_refl 0, ?_⟩
  · simp only [PyData.leavesShort, List.all_eq_true, decide_eq_true_eq]
    exact fun c hc => Nat.lt_of_lt_of_le (h.2 c hc) (by decide)
  · simp only [PyData.canLay0, PyData.strOk]
    rw [← Array.all_toList, List.all_eq_true]
    exact fun c hc => decide_eq_true (h.2 c hc)
theorem str_chars (z : String) : ∀ c ∈ (Str.ofString z).cps.toList, c < 0x110000 := fun c hc => by
  rw [Str.ofString_eq_toList] at hc
  simp only [List.toList_toArray, List.mem_map] at hc
  obtain ⟨ch, _, rfl⟩ := hc
  rcases ch.valid with h | ⟨_, h⟩
  · exact Nat.lt_of_lt_of_le h (by decide)
  · exact h
theorem okS.cut {n : Nat} {x : Str} (h : okS n x) (lo hi : Option Int) : okS n (cutS x lo hi) := by
  refine ⟨Nat.le_trans (cutS_length x lo hi) h.1, fun c hc => h.2 c ?_⟩
  have hc : c ∈ ((x.cps.toList.drop (HT.sIx x.length 0 lo)).take (HT.sIx x.length x.length hi - HT.sIx x.length 0 lo)).toArray.toList := hc
  rw [List.toList_toArray] at hc
  exact List.mem_of_mem_drop (List.mem_of_mem_take hc)
theorem okS.cat {n m : Nat} {x y : Str} (h : okS n x) (g : okS m y) : okS (n + m) (x ++ y) := by
  have e : (x ++ y).cps = x.cps ++ y.cps := rfl
  refine ⟨?_, fun c hc => ?_⟩
  · show (x ++ y).cps.size ≤ _
    rw [e, Array.size_append]
    exact Nat.add_le_add h.1 g.1
  · rw [e, Array.toList_append] at hc
    exact (List.mem_append.mp hc).elim (h.2 c) (g.2 c)
theorem sqT_wo {K : PySem.W.Frag} {H : Hp} {c p : Addr} {xs ys : List V} (h : SqT K H c xs) (hp : H p = some (.lst ys)) : SqT K (wo H p) c xs := by
  rcases h with (h | ⟨o, h⟩) | h
  · exact .inl (.inl (wo_at h fun z => by rw [z, hp] at h; cases h))
  · exact .inl (.inr ⟨o, wo_at h fun z => by rw [z, hp] at h; cases h⟩)
  · exact .inr h
theorem catA_one {K : PySem.W.Frag} {H : Hp} {a b : Addr} {xs ys : List V} {Q : VK} (ha : SqT K H a xs) (hb : SqT K H b ys) (hl : xs.length + ys.length ≤ sizeLine) (q : ∀ c H', SqT K H' c (xs ++ ys) → Same H H' → Q (.ref c) H') : rCatA K (.ref a) (.ref b) H Q := by
  refine ⟨a, b, xs, ys, rfl, rfl, ha, hb, hl, fun e => ?_, fun _ e => ?_, fun _ _ p np => q p _ (SqT.of upd_same) (same_upd np)⟩
  · subst e
    exact q b H hb (Same.refl H)
  · subst e
    refine q a H ?_ (Same.refl H)
    rw [List.append_nil]
    exact ha
theorem slice_any {K : PySem.W.Frag} {H : Hp} {a : Addr} {xs : List V} {lo hi : Option Int} {Q : VK} (h : SqT K H a xs) (q : ∀ c H' ys, SqT K H' c ys → (∀ y ∈ ys, y ∈ xs) → ys.length ≤ xs.length → Same H H' → Q (.ref c) H') : rSlA K (.ref a) lo hi H Q :=
  ⟨a, xs, rfl, h, fun _ => q a H xs h (fun y hy => hy) (Nat.le_refl _) (Same.refl H), fun _ p np => q p _ _ (SqT.of upd_same) (fun y hy => List.mem_of_mem_drop (List.mem_of_mem_take hy)) (cutV_length xs lo hi) (same_upd np)⟩
theorem dpAll_app {K : PySem.W.Frag} {H : Hp} : ∀ {xs ys : List V} {ds es : List PyData}, DpAll K H xs ds → DpAll K H ys es → DpAll K H (xs ++ ys) (ds ++ es)
  | [], _, [], _, _, g => g
  | _ :: _, _, _ :: _, _, .cons h1 h2, g => .cons h1 (dpAll_app h2 g)
section
variable {P : Program} {w : World} {K : PySem.W.Frag} {mg : Str → Option Value} {base : Heap}
theorem sqL_extN {H H' : Hp} {c : Addr} {xs : List V} (h : SqL K H c xs) (e : ExtN H H') : SqL K H' c xs := by
  rcases h with (h | ⟨o, h⟩) | h
  · exact .inl (.inl (e _ _ h (fun ps z => by cases z)))
  · exact .inl (.inr ⟨o, e _ _ h (fun ps z => by cases z)⟩)
  · exact .inr h
theorem tabs_upd {T : List (Addr × Str)} {H : Hp} {D : Addr} {xs : List V} {o : HO} (t : Tabs T H) (hD : H D = some (.lst xs)) : Tabs T (upd H D o) := fun x hx => by
  obtain ⟨ps, h1, h2, h3⟩ := t x hx
  refine ⟨ps, by rw [upd_ne (fun z => by rw [z, hD] at h1; cases h1)]; exact h1, h2, fun pos cv hc => ?_⟩
  obtain ⟨c, e1, e2⟩ := h3 pos cv hc
  exact ⟨c, e1, by rw [upd_ne (fun z => by rw [z, hD] at e2; unfold CodeO at e2; cases e2)]; exact e2⟩
end
def lamsE : Expr → List LamD
  | .Lambda p b s _ => [⟨p, b, s⟩]
  | .Subscript o _ _ => lamsE o
  | .Call _ [e] _ _ => lamsE e
  | .List [e] _ => lamsE e
  | _ => []
def lamsS : Stmt → List LamD
  | .Assign _ v _ => lamsE v
  | .Expr v _ => lamsE v
  | _ => []
def bodyOf : Stmt → List Stmt
  | .For _ _ b _ _ => b
  | _ => []
/-- a callee's exception leaves the lambda -/
theorem passL {X : Cx} {A : Around} {outer : List Env} {s : Shared} {H : Hp} {E : XK} {scope : Scope} {f c' : Addr} : Passes (L2.CX X.prog X.w) (lamCx X A outer s H E scope f c') E :=
  passes_call (takes_of rfl rfl rfl rfl) fun _ _ _ _ h => h
section
variable {P : Program} {w : World} {K : PySem.W.Frag} {mg : Str → Option Value} {base : Heap}
theorem sqT_extN {H H' : Hp} {c : Addr} {xs : List V} (h : SqT K H c xs) (e : ExtN H H') : SqT K H' c xs := by
  rcases h with (h | ⟨o, h⟩) | h
  · exact .inl (.inl (e _ _ h (fun ps z => by cases z)))
  · exact .inl (.inr ⟨o, e _ _ h (fun ps z => by cases z)⟩)
  · exact .inr h
mutual
theorem dp_extN {H H' : Hp} (e : ExtN H H') : ∀ (d : PyData) (v : V), Dp K H v d → Dp K H' v d
  | .none, _, h => by cases h; exact .non
  | .bool _, _, h => by cases h; exact .bl _
  | .int _, _, h => by cases h; exact .int _
  | .str _, _, h => by cases h; exact .str _
  | .list ds, _, h => by
    cases h with
    | lst hs ha => exact .lst (sqL_extN hs e) (dpAll_extN e ds _ ha)
  | .tuple ds, _, h => by
    cases h with
    | tup hs ha => exact .tup (sqT_extN hs e) (dpAll_extN e ds _ ha)
  | .dict _, _, h => by cases h
theorem dpAll_extN {H H' : Hp} (e : ExtN H H') : ∀ (ds : List PyData) (vs : List V), DpAll K H vs ds → DpAll K H' vs ds
  | [], _, h => by cases h; exact .nil
  | d :: ds, _, h => by
    cases h with
    | cons h1 h2 => exact .cons (dp_extN e d _ h1) (dpAll_extN e ds _ h2)
end
theorem dk_extN {H H' : Hp} {v : V} {d : PyData} (h : Dk K H v d) (e : ExtN H H') : Dk K H' v d := by
  cases h with
  | dp h => exact .dp (dp_extN e _ _ h)
  | d0 h => exact .d0 (e _ _ h (fun ps z => by cases z))
  | d1 h => exact .d1 (e _ _ h (fun ps z => by cases z))
theorem nl_le {H H' : Hp} : Same (nl H H') H' := fun b o e => (nl_out e).2
theorem none_ext {H H' : Hp} {c : Addr} (e : ExtN H H') (h : H' c = none) : ∀ o, H c = some o → ∃ ps, o = .tbl ps := fun o z => by
  cases o with
  | tbl ps => exact ⟨ps, rfl⟩
  | _ => exact absurd ((e _ _ z (fun ps y => by cases y)).symm.trans h) (fun y => nomatch y)
/-- what stood stays over a new list -/
theorem extN_upd {H H' : Hp} {c : Addr} {o : HO} (e : ExtN H H') (h : ∀ o, H c = some o → ∃ ps, o = .tbl ps) : ExtN H (upd H' c o) := fun b x z nt => by
  rw [upd_ne fun y => ?_]
  · exact e b x z nt
  · obtain ⟨ps, q⟩ := h x (y ▸ z)
    exact nt ps q
theorem extN_comp {H1 H2 H3 : Hp} (e : ExtN H1 H2) (g : ExtN H2 H3) : ExtN H1 H3 := e.trans g
theorem IsLam.updL {X : Cx} {D : LamD} {f c : Addr} {H : Hp} {o : HO} {xs : List V} (h : IsLam X D f H) (hc : H c = some (.lst xs)) : IsLam X D f (upd H c o) := by
  obtain ⟨c', h1, h2⟩ := h
  refine ⟨c', ?_, ?_⟩
  · rw [upd_ne fun z => by rw [z, hc] at h1; unfold LamO at h1; cases h1]
    exact h1
  · rw [upd_ne fun z => by rw [z, hc] at h2; unfold CodeO at h2; cases h2]
    exact h2
theorem bent_old {HM HX H' : Hp} {D p : Addr} {o : HO} (hp : ∃ ys, HM p = some (.lst ys)) (nD : D ≠ p) (s : Same (wo HX p) (wo H' p)) : Same (nl (upd HM D (.lst [])) HX) (nl (upd HM D (.lst [])) (upd H' D o)) := fun b x e => by
  obtain ⟨x1, e⟩ := nl_out e
  have n1 : b ≠ D := fun z => x1 [] (by rw [z, upd_same])
  have n2 : b ≠ p := fun z => by
    obtain ⟨ys, hy⟩ := hp
    exact x1 ys (by rw [z, upd_ne (Ne.symm nD)]; exact hy)
  rw [nl_not x1, upd_ne n1]
  exact wo_le _ _ (s _ _ (wo_at e n2))
theorem bent_new {HM HX H' : Hp} {D p : Addr} {o : HO} {bs : List V} (hD : HX D = some (.lst bs)) (hp : ∃ ys, HX p = some (.lst ys)) (s : Same (wo HM p) (wo HX p)) : Same (nl HX H') (nl (upd HM D (.lst [])) (upd H' D o)) := fun b x e => by
  obtain ⟨x1, e⟩ := nl_out e
  have n1 : b ≠ D := fun z => x1 bs (by rw [z]; exact hD)
  have n2 : b ≠ p := fun z => by
    obtain ⟨ys, hy⟩ := hp
    exact x1 ys (by rw [z]; exact hy)
  rw [nl_not fun ys z => ?_, upd_ne n1]
  · exact e
  · rw [upd_ne n1] at z
    exact x1 ys (wo_le _ _ (s _ _ (wo_at z n2)))
/-- a small value -/
def Atom (x : V) : Prop := (∃ i : Int, x = .int i ∧ -100000 ≤ i ∧ i ≤ 1000000) ∨ (∃ z : Str, x = .str z ∧ okS 20 z) ∨ ∃ b, x = .bl b
theorem Atom.data {H : Hp} {x : V} (h : Atom x) : ∃ d, Dp K H x d ∧ okN 0 50 d := by
  rcases h with ⟨i, rfl, h0, h1⟩ | ⟨z, rfl, hz⟩ | ⟨b, rfl⟩
  · exact ⟨_, .int i, okN.int h0 h1⟩
  · exact ⟨_, .str z, hz.ok (by omega)⟩
  · exact ⟨_, .bl b, rfl, by simp [PyData.weight], rfl, Nat.le_refl 0, rfl⟩
theorem atoms_data {H : Hp} : ∀ {xs : List V}, (∀ x ∈ xs, Atom x) → ∃ ds, DpAll K H xs ds ∧ (∀ d ∈ ds, okN 0 50 d) ∧ ds.length = xs.length
  | [], _ => ⟨[], .nil, fun d hd => (List.not_mem_nil hd).elim, rfl⟩
  | x :: xs, h => by
    obtain ⟨ds, h1, h2, h3⟩ := atoms_data (H := H) fun y hy => h y (List.mem_cons_of_mem _ hy)
    obtain ⟨d, g1, g2⟩ := (h x List.mem_cons_self).data (K := K) (H := H)
    exact ⟨d :: ds, .cons g1 h1, fun e he => (List.mem_cons.mp he).elim (fun z => z ▸ g2) (h2 e), by rw [List.length_cons, List.length_cons, h3]⟩
/-- data that may be shown -/
def Fit (K : PySem.W.Frag) (H : Hp) (x : V) : Prop := ∃ d, Dk K H x d ∧ okData d = true
theorem Fit.same {H H' : Hp} {x : V} (h : Fit K H x) (s : Same H H') : Fit K H' x := by
  obtain ⟨d, h1, h2⟩ := h
  exact ⟨d, Dk.same s h1, h2⟩
theorem Fit.tup {H : Hp} {c : Addr} {xs : List V} (h : SqT K H c xs) (ha : ∀ x ∈ xs, Atom x) (hl : xs.length ≤ 8) : Fit K H (.ref c) := by
  obtain ⟨ds, h1, h2, h3⟩ := atoms_data (K := K) (H := H) ha
  exact ⟨.tuple ds, .dp (.tup h h1), (okN.tup h2 (by omega)).ok (by omega) (by decide)⟩
theorem Fit.lst {H : Hp} {c : Addr} {xs : List V} (h : SqL K H c xs) (ha : ∀ x ∈ xs, Atom x) (hl : xs.length ≤ 8) : Fit K H (.ref c) := by
  obtain ⟨ds, h1, h2, h3⟩ := atoms_data (K := K) (H := H) ha
  exact ⟨.list ds, .dp (.lst h h1), (okN.lst h2 (by omega)).ok (by omega) (by decide)⟩
theorem same_wo_new {H : Hp} {c : Addr} {o : HO} (h : H c = none) : Same H (wo (upd H c o) c) := fun b x e => by
  have ne : b ≠ c := ne_of_none e h
  rw [wo_ne ne, upd_ne ne]
  exact e
/-- a def whose code object is known -/
theorem fnG_code {x qual : Str} {st : Stmt} {f cc : Addr} {fd : FuncData} {N ps : List Str} {k : Nat} {sp : Sp} (F : Fun K x qual st f fd) (hcc : fd.code = .ref cc) (S : FnScope N ps (defScope st)) (len : ∀ vs H Q E, sp vs H Q E → vs.length = ps.length)
    (hbody : ∀ (A : Around) (outer : List Env) (s : Shared) (H : Hp) (vs : List V) (Q : VK), Room k (A.deeper (envOfC qual (defScope st) s.heap.objs.size f (.ref cc))) → (A.deeper (envOfC qual (defScope st) s.heap.objs.size f (.ref cc))).guards = some [] → sp vs H Q E0 →
      ∃ t, PSs (cxOf CX0 P w K mg base N qual (defScope st) f (.ref cc) A outer s H E0).nox (defBody st) t ∧ t { nx := fun _ H' => Q .non H', rt := Q } (L2.start N vs) H) : FnG P w K mg base (k + 1) f fd ps sp := by
  obtain ⟨oc, od, kV, doc, pm, an, cdv, ct, osl, rfl, lk, hcd⟩ := F.ex
  have e : cdv = .ref cc := hcc
  subst e
  refine ⟨len, fun A outer s H args us vs Q hr hg e0 hb r hsp => ?_⟩
  exact run_ofS lk hcd S hr e0 hb r (len _ _ _ _ hsp) fun hr' => by
    obtain ⟨t, h, q⟩ := hbody A outer s H vs Q hr' hg hsp
    exact ⟨t, h.nox, q⟩
end
theorem defFun {K : PySem.W.Frag} {x qual : Str} {st : Stmt} {f : Addr} {fd : FuncData} (F : FunD K x qual (defArgs st) (defBody st) (defScope st) [] [] f fd) : Fun K x qual st f fd := by
  obtain ⟨oc, od, dV, kV, doc, pm, an, cdv, ct, osl, h1, h2, h3, h4, _⟩ := F.ex
  rcases h4 with ⟨_, rfl⟩ | ⟨z, _⟩
  · exact ⟨⟨oc, od, kV, doc, pm, an, cdv, ct, osl, h1, h2, h3⟩, F.kp⟩
  · exact absurd rfl z
/-- a tuple that the top has laid -/
def ktB (K : PySem.W.Frag) (a : Addr) (vs : List V) : Bool := match K.lookup a with
  | some ⟨.type c, _, .seq its _, _⟩ => decide (c = "tuple") && (decide (its.size ≤ 1000) && He.relAll vs its.toList)
  | _ => false
theorem ktB_ok {K : PySem.W.Frag} {a : Addr} {vs : List V} (h : ktB K a vs = true) : KT K a vs := by
  unfold ktB at h
  split at h
  · rename_i c od its n sl ho
    simp only [Bool.and_eq_true, decide_eq_true_eq] at h
    obtain ⟨rfl, h2, h3⟩ := h
    exact ⟨_, its, n, ho, rfl, rfl, Nat.le_trans h2 (by decide), He.relAll_ok h3⟩
  · cases h
/-- an error's class -/
def oexB (K : PySem.W.Frag) (C : Addr) : Bool := match K.lookup C with
  | some ⟨.type c, _, .cls cd, sl⟩ => decide (c = "type") && (match cd.mro, sl.toList with
    | .ref D :: bm, [_, _, _, _, some (.builtin n), _] => decide (D = C) && (decide (n = "ValueError.__new__") && (!cd.hasDel && (cd.hasDict && PySem.HandSPX.refsVE bm)))
    | _, _ => false)
  | _ => false
theorem oexB_ok {K : PySem.W.Frag} {C : Addr} (h : oexB K C = true) : ∃ nm q N bs bm sn sub ab col dd k0 k1 k2 k3 k5, K.lookup C = some (excClassObj nm q C N bs bm true sn sub ab col dd k0 k1 k2 k3 k5 "ValueError.__new__") ∧ PySem.HandSPX.refsVE bm = true := by
  unfold oexB at h
  split at h
  · rename_i c dd cd sl ho
    simp only [Bool.and_eq_true, decide_eq_true_eq] at h
    obtain ⟨rfl, h⟩ := h
    split at h
    · rename_i D bm k0 k1 k2 k3 n k5 hm hs
      simp only [Bool.and_eq_true, decide_eq_true_eq, Bool.not_eq_true'] at h
      obtain ⟨rfl, rfl, h3, h4, h5⟩ := h
      obtain ⟨nm, bs, mro, ns, qn, hd, sn, sub, ab, col, del⟩ := cd
      dsimp only at hm h3 h4
      subst hm h3 h4
      obtain ⟨l⟩ := sl
      dsimp only at hs
      subst hs
      exact ⟨nm, qn, ns, bs, bm, sn, sub, ab, col, dd, k0, k1, k2, k3, k5, ho, h5⟩
    · cases h
  · cases h
/-- all that is asked of an error's class -/
def errB (K : PySem.W.Frag) (C fI CS : Addr) : Bool := oexB K C && (decide (PySem.W.findIn K (.ref C) "__setattr__" = some (some (.builtin "object.__setattr__"))) && (decide (PySem.W.typeIn K (.ref C) = some (.type "type")) && (PySem.W.keepIn K (.ref C) &&
  (decide (PySem.W.findIn K (.ref C) "__init__" = some (some (.ref fI))) && (decide (PySem.W.typeIn K (.ref fI) = some (.type "function")) && (decide (PySem.W.findIn K (.ref C) "value" = some none) && (xfB K C && decide (PySem.W.exmOne K (.ref C) (.ref CS) = some true))))))))
theorem errB_ok {K : PySem.W.Frag} {C fI CS : Addr} (h : errB K C fI CS = true) : ErrC K C fI ∧ XfC K C ∧ PySem.W.exmOne K (.ref C) (.ref CS) = some true := by
  unfold errB at h
  simp only [Bool.and_eq_true, decide_eq_true_eq] at h
  obtain ⟨h1, h2, h3, h4, h5, h6, h7, h8, h9⟩ := h
  have X := xfB_ok h8
  exact ⟨⟨⟨oexB_ok h1, h2, X.exC, h3, h4⟩, h5, h6, h7⟩, X, h9⟩
theorem keys_none {P : Params} {z : Str} : ∀ {l : List DictEntry} {ks : List Str}, l.map He.keyOf = He.keysIn P ks → z ∉ ks → (l.find? (·.key.isStr z) = none) ∧ l.any (·.refKey) = false
  | [], _, _, _ => ⟨rfl, rfl⟩
  | e :: r, [], h, _ => by cases h
  | e :: r, k :: ks, h, nz => by
    have h1 : He.keyOf e :: r.map He.keyOf = some (k, PyData.keyHash P k) :: He.keysIn P ks := h
    injection h1 with h2 h3
    obtain ⟨i1, i2⟩ := keys_none h3 fun y => nz (List.mem_cons_of_mem _ y)
    unfold He.keyOf at h2
    split at h2
    · rename_i x t hk
      obtain ⟨rfl, _⟩ := Prod.mk.inj (Option.some.inj h2)
      have ne : x ≠ z := fun y => nz (y ▸ List.mem_cons_self)
      have e1 : e.key.isStr z = false := by rw [hk]; simpa [Value.isStr] using ne
      have e2 : e.refKey = false := by unfold DictEntry.refKey; rw [hk]
      exact ⟨by rw [List.find?_cons, e1]; exact i1, by rw [List.any_cons, e2, i2]; rfl⟩
    · cases h2
theorem dicW_none {K : PySem.W.Frag} {P : Params} {a : Addr} {ks : List Str} {z : Str} (h : He.dicW K a = some (He.keysIn P ks)) (nz : z ∉ ks) : PySem.W.nsIn K a z = some none := by
  unfold He.dicW at h
  split at h
  · rename_i c es n sl ho
    split at h
    · obtain ⟨e1, e2⟩ := keys_none (Option.some.inj h) nz
      unfold PySem.W.nsIn
      rw [ho]
      show (match es.toList.find? (·.key.isStr z) with | some e => some (some e.val) | none => if es.toList.any (·.refKey) then none else some none) = some none
      rw [e1]
      show (if es.toList.any (·.refKey) = true then none else some none) = some none
      rw [e2]
      rfl
    · cases h
  · cases h
/-- the one table, and the script where the written part has it not -/
def start0 (K : PySem.W.Frag) (Pt a : Addr) (o : Obj) (xs : List V) : Hp := fun b =>
  if b = Pt then some (.tbl #[]) else if b = a then (match K.lookup a with
    | none => some (.frz o (.lst xs))
    | some _ => none) else none
theorem start0_cases {K : PySem.W.Frag} {Pt a b : Addr} {o : Obj} {xs : List V} {u : HO} (h : start0 K Pt a o xs b = some u) : (b = Pt ∧ u = .tbl #[]) ∨ (b = a ∧ K.lookup a = none ∧ u = .frz o (.lst xs)) := by
  unfold start0 at h
  by_cases c : b = Pt
  · rw [if_pos c] at h
    exact .inl ⟨c, (Option.some.inj h).symm⟩
  · rw [if_neg c] at h
    by_cases c2 : b = a
    · rw [if_pos c2] at h
      cases hk : K.lookup a with
      | some x =>
        rw [hk] at h
        cases h
      | none =>
        rw [hk] at h
        exact .inr ⟨c2, rfl, (Option.some.inj h).symm⟩
    · rw [if_neg c2] at h
      cases h
theorem call_top {P : Program} {w : World} {K : PySem.W.Frag} {mg mb : Str → Option Value} {k : Nat} {fa a c Pt : Addr} {fd : FuncData} {x : Str} {sp : Sp} {s : Shared} {us : List Value} {ns : List Int}
    (kin : K.In s.heap) (gl : s.heap.Ns mainGlobals mg) (bl : s.heap.Ns builtinsNs mb) (blb : ∀ y : Str, y ≠ "__name__" → mb y = bootBuiltins y) (nol : s.heap.NoLimit) (gens : s.gens = #[])
    (tab : s.heap.get? Pt = some { cls := .none, data := .fields #[] }) (tabK : K.lookup Pt = none) (cod : PySem.W.CodeHd s.heap c Pt)
    (bmain : ∃ (bm : Addr) (ob : Obj), mg "__builtins__" = some (.ref bm) ∧ bm ≠ builtinsNs ∧ s.heap.get? bm = some ob ∧ ob.cls = .type "module" ∧ ob.dict = some builtinsNs ∧ ob.data = .plain)
    (scr : s.heap.get? a = some { cls := .type "list", data := .seq us.toArray }) (areI : IntsAre us ns) (short : ns.length ≤ sizeLine) (room : Room k callerA)
    (F : ∀ base : Heap, K.In base → base.Ns mainGlobals mg → TabB base mg c Pt → FnG P w K mg base k fa fd [x] sp) (bind : ∀ (s : Shared) (u : Value), BindsTo s fd ⟨[u], []⟩ [(x, u)])
    (keep : ∀ H : Hp, H Pt = some (.tbl #[]) → SqL K H a (ns.map V.int) → sp [.ref a] H (fun v _ => v = .bl true) E0) :
    codeAny (model P w) callerA (.call (.ref fa) ⟨[.ref a], []⟩) (fun r s' => r = .ok (.ret (.bool true)) ∧ OldK s.heap s'.heap ∧ s'.os = s.os ∧ AllBare s'.gens) s := by
  have vals := vals_ints areI
  have same_len := areI.length
  generalize hH : start0 K Pt a { cls := .type "list", data := .seq us.toArray } (ns.map V.int) = H
  have look : ∀ {b : Addr} {u : HO}, H b = some u → (b = Pt ∧ u = .tbl #[]) ∨ (b = a ∧ K.lookup a = none ∧ u = .frz { cls := .type "list", data := .seq us.toArray } (.lst (ns.map V.int))) := fun {b u} e => start0_cases (hH ▸ e)
  have apart : a ≠ Pt := fun z => by
    rw [z, tab] at scr
    exact absurd (congrArg Obj.data (Option.some.inj scr)) (fun y => nomatch y)
  have hPt : H Pt = some (.tbl #[]) := by rw [← hH]; exact if_pos rfl
  have hseq : SqL K H a (ns.map V.int) := by
    cases hk : K.lookup a with
    | some o =>
      have e := (kin a o hk).symm.trans scr
      exact .inr ⟨_, us.toArray, _, by rw [hk, Option.some.inj e], rfl, rfl, rfl, by rw [List.size_toArray, same_len]; exact short, by simpa using vals⟩
    | none =>
      refine .inl (.inr ⟨{ cls := .type "list", data := .seq us.toArray }, ?_⟩)
      rw [← hH]
      unfold start0
      rw [if_neg apart, if_pos rfl, hk]
  have sound : HOk P w H s.heap := fun b u e => by
    rcases look e with ⟨rfl, rfl⟩ | ⟨rfl, _, rfl⟩
    · exact tab
    · exact ⟨scr, by rw [List.length_map]; exact short, us, _, vals, scr⟩
  -- what is no list and no empty record is not tracked
  have out : ∀ {b : Addr} {o : Obj}, s.heap.get? b = some o → (∀ is n, o.data ≠ .seq is n) → o.data ≠ .fields #[] → H b = none := fun {b o} e n1 n2 => by
    cases q : H b with
    | none => rfl
    | some u =>
      rcases look q with ⟨rfl, _⟩ | ⟨rfl, _⟩
      · exact absurd (congrArg Obj.data (Option.some.inj (tab.symm.trans e))).symm n2
      · exact absurd (congrArg Obj.data (Option.some.inj (scr.symm.trans e))).symm (n1 _ _)
  have outD : ∀ {b : Addr} {o : Obj} {es : Array DictEntry} {n : Nat}, s.heap.get? b = some o → o.data = .dict es n → H b = none := fun {b o es n} e d => out e (fun _ _ z => by rw [d] at z; cases z) fun z => by rw [d] at z; cases z
  have dictK : ∀ {b : Addr} {m : Str → Option Value}, s.heap.Ns b m → (hidT s.heap H).Ns b m := fun {b m} hn => by
    obtain ⟨o, es, n, e, d, r⟩ := hn
    exact ⟨o, es, n, hidT_get e (outD e d), d, r⟩
  have kinB : K.In (hidT s.heap H) := fun b o e => hidT_get (kin b o e) (by
    cases q : H b with
    | none => rfl
    | some u =>
      rcases look q with ⟨rfl, _⟩ | ⟨rfl, z, _⟩
      · exact absurd (tabK.symm.trans e) fun y => nomatch y
      · exact absurd (z.symm.trans e) fun y => nomatch y)
  have module : L2.Mod K mg (hidT s.heap H) := by
    obtain ⟨ml, e1, e2⟩ := nol
    exact ⟨kinB, dictK gl, ⟨mb, dictK bl, blb⟩, ml, dictK e1, e2⟩
  have table : TabB (hidT s.heap H) mg c Pt := by
    refine ⟨?_, ?_, fun z => ?_⟩
    · obtain ⟨o, vs, file, tf, flags, tg, inF, text, tt, e1, e2, e3, e4, rest⟩ := cod
      refine ⟨o, vs, file, tf, flags, tg, inF, text, tt, hidT_get e1 (out e1 (fun _ _ y => by rw [e3] at y; cases y) fun y => ?_), e2, e3, e4, rest⟩
      rw [e3] at y
      have y' : vs = #[] := Data.fields.inj y
      rw [y'] at e4
      cases e4
    · obtain ⟨bm, ob, m1, m2, m3, m4, m5, m6⟩ := bmain
      refine ⟨bm, ob, m1, m2, fun y => ?_, fun y => ?_, hidT_get m3 (out m3 (fun _ _ y => by rw [m6] at y; cases y) fun y => by rw [m6] at y; cases y), m4, m5, m6⟩
      · obtain ⟨o, es, n, e, d, _⟩ := gl
        rw [← y, m3] at e
        rw [← Option.some.inj e, m6] at d
        cases d
      · have e := m3.symm.trans (y ▸ tab)
        have d := m6
        rw [Option.some.inj e] at d
        cases d
    · obtain ⟨o, es, n, e, d, _⟩ := gl
      have e' := e.symm.trans (z ▸ tab)
      rw [Option.some.inj e'] at d
      cases d
  have env : Env0 P w K mg (hidT s.heap H) callerA [] s H := ⟨rfl, module, fun b o e => of_hidT e, Nat.le_of_eq (hidT_size _ _), trivial, fun b hb => (List.not_mem_nil hb).elim, sound, .of_eq gens⟩
  refine codeAny_mono ((F _ kinB (dictK gl) table).run callerA [] s H ⟨[.ref a], []⟩ [.ref a] [.ref a] _ room rfl env (bind s (.ref a)) (.cons rfl .nil) (keep H hPt hseq)) fun r s' res => ?_
  match r, res with
  | .ok (.ret u), res =>
    obtain ⟨v, H', same_os, bare, un, sound', rv, ev⟩ := res
    have ev' : v = .bl true := ev
    subst ev'
    obtain rfl : u = Value.bool true := rv
    obtain ⟨more, hm⟩ := un.tbls Pt #[] hPt
    have after : s'.heap.get? Pt = some { cls := .none, data := .fields (#[] ++ more) } := sound' Pt _ hm
    have stays : ∀ b o, b ≠ Pt → s.heap.get? b = some o → s'.heap.get? b = some o := fun b o nb e => by
      cases q : H b with
      | none => exact un.keep b o e q (fun z => (List.not_mem_nil z).elim) (by simp)
      | some u =>
        rcases look q with ⟨z, _⟩ | ⟨rfl, _, rfl⟩
        · exact absurd z nb
        · have g := (sound' b _ (un.frzs b _ _ q)).1
          rw [← Option.some.inj (scr.symm.trans e)]
          exact g
    refine ⟨rfl, ⟨fun b o e => ?_, fun b o e => ?_⟩, same_os, bare⟩
    · by_cases hb : b = Pt
      · subst hb
        obtain rfl := Option.some.inj (tab.symm.trans e)
        refine .inr (.inl ⟨(cod.tab tab).isCodeTable, rfl, #[], more, rfl, ?_⟩)
        rw [after]
      · exact .inl (stays b o hb e)
    · by_cases hb : b = Pt
      · exact ⟨_, by rw [hb]; exact after⟩
      · exact ⟨o, stays b o hb e⟩
  | .ok .next, res => exact False.elim res
  | .ok .brk, res => exact False.elim res
  | .ok .cont, res => exact False.elim res
  | .error e, res => exact False.elim res
theorem FnG.lift {P : Program} {w : World} {K : PySem.W.Frag} {mg : Str → Option Value} {base : Heap} {j k : Nat} {f : Addr} {fd : FuncData} {ps : List Str} {sp : Sp} (F : FnG P w K mg base j f fd ps sp) (h : j ≤ k) : FnG P w K mg base k f fd ps sp :=
  ⟨F.len, fun A outer s H args us vs Q hr => F.run A outer s H args us vs Q (hr.mono h)⟩
end VG

set_option maxRecDepth 100000
set_option maxHeartbeats 8000000
/-! Rules of our own: enumerate of a tuple, keywords alone, count and index of texts, isinstance of a kept error. -/
namespace VG
open PySem PySem.Spec PyProof.Rows L2 LamX
/-! ### enumerate(t) -/
theorem meets_enumB {v : Value} {ob : Obj} {Hh : Heap → Prop} (B : PySem.Begins v ob Hh) :
    Meets (Builtin.«enumerate.__new__» ⟨[.type "enumerate", v], []⟩) (fun _ R s => Hh s.heap ∧
      R (.ok (.ret (.ref (s.heap.push ob).objs.size))) { s with heap := (s.heap.push ob).push { cls := .type "enumerate", data := .fields #[.none, .bool false, .ref s.heap.objs.size, rawInt 0, .none, .none] } }) :=
  .of_wp fun prog w A R s all => by
    obtain ⟨hp, g, d, tk, os⟩ := s; obtain ⟨h1, fin⟩ := all
    have hsub := sub_enumerate
    have walk : ∀ {A' : Around} {E' : Value → Shared → Prop} {Q' : Value → Shared → Prop}, Q' (.ref hp.objs.size) ⟨hp.push ob, g, d, tk, os⟩ → wpAny (model prog w) A' (pyIter v) Q' E' ⟨hp, g, d, tk, os⟩ :=
      fun q => B.iter prog w _ _ ⟨hp, g, d, tk, os⟩ _ h1 q
    wp_walk using walk
    refine wpAny_stack_any fun stk => wpAny_pure ?_
    split
    · rename_i cc _ _ _ _ _
      cases (cc == Value.type "enumerate")
      · wp_walk using walk
        exact ⟨_, rfl, fin⟩
      · wp_walk using walk
        exact ⟨_, rfl, fin⟩
    · wp_walk using walk
      exact ⟨_, rfl, fin⟩
theorem call_enumB {P : Program} {w : World} {A : Around} {E : Value → Shared → Prop} {s : Shared} {v : Value} {ob : Obj} {Hh : Heap → Prop} {Q : Value → Shared → Prop} (B : PySem.Begins v ob Hh) (h1 : Hh s.heap)
    (q : ∀ h', IsEnum h' (s.heap.objs.size + 1) s.heap.objs.size 0 .none → h'.get? s.heap.objs.size = some ob → h'.objs.size = s.heap.objs.size + 2 → (∀ b o, s.heap.get? b = some o → h'.get? b = some o) → Q (.ref (s.heap.objs.size + 1)) { s with heap := h' }) :
    wpAny (model P w) A (call (.type "enumerate") [v]) Q E s := by
  refine callType_new F.called_enumerate (by decide) (F.typeCall_enumerate_1 _) (F.newCall_enumerate_1 _) (fun obj => F.args_object_init_2 obj _) F.entry_enumerate_new (meets_enumB B) ⟨h1, ?_⟩
  have two : (s.heap.push ob).objs.size = s.heap.objs.size + 1 := Heap.size_push ..
  show _ ∧ _
  rw [two]
  have made := Heap.get?_push_size (s.heap.push ob) (o := { cls := .type "enumerate", data := .fields #[.none, .bool false, .ref s.heap.objs.size, rawInt 0, .none, .none] }) rfl
  rw [two] at made
  exact ⟨⟨_, made, rfl⟩, q _ made (Heap.get?_push_of_some _ (Heap.get?_push_size _ B.free)) (by rw [Heap.size_push, two]) fun b o e => Heap.get?_push_of_some _ (Heap.get?_push_of_some _ e)⟩
/-- the tuple at a as it stands at each turn, each item in a new pair -/
def IteT (K : PySem.W.Frag) (a : Addr) : It :=
  ⟨fun i H => ∃ (xs : List V) (x : V), SqT K H a xs ∧ xs[i]? = some x, fun i H v H' => ∃ T x, v = .ref T ∧ H T = none ∧ H' = upd H T (.tup [.int (i : Nat), x]) ∧ ∀ xs, SqT K H a xs → xs[i]? = some x, fun i H => ∃ xs : List V, SqT K H a xs ∧ xs.length ≤ i⟩
theorem enum_not_tup {h : Heap} {e it a : Addr} {c : Int} {old : Value} {its : Array Value} (he : IsEnum h e it c old) (ht : h.IsTuple a its) : e ≠ a := fun z => by
  obtain ⟨o, ho, hc, _⟩ := ht
  rw [← z] at ho
  have e2 := Option.some.inj (he.symm.trans ho)
  rw [← e2] at hc
  have hc' : ("enumerate" : String) = "tuple" := Value.type.inj hc
  exact absurd hc' (by decide)
theorem turn_enumT {P : Program} {w : World} {K : PySem.W.Frag} {elts : List Expr} {kk : Nat} {tpos : Pos} (a e it : Addr) (hai : a ≠ it) :
    Turn P w K (.Tuple elts kk tpos) (IteT K a) [e, it] e (fun i h => (∃ old, IsEnum h e it ((i : Nat) : Int) old) ∧ h.IsTupleIter it a i ∧ e ≠ it) where
  mem := by simp
  obj := fun i h st b hb => by
    obtain ⟨⟨old, he⟩, ⟨o, ho, hc, hd⟩, _⟩ := st
    rcases (show b = e ∨ b = it by simpa using hb) with rfl | rfl
    · exact ⟨_, he, fun v q => nomatch q⟩
    · exact ⟨o, ho, fun v q => by rw [hd] at q; cases q⟩
  keep := fun i h h' st k => ⟨⟨st.1.choose, k e (by simp) _ st.1.choose_spec⟩, st.2.1.at fun o q => k it (by simp) o q, st.2.2⟩
  item := by
    intro X hP hw hK hc i pins s σ H E I hf st hg
    subst hP hw hK
    obtain ⟨⟨old, he⟩, hit, hne⟩ := st
    obtain ⟨xs, x, hq, hx⟩ := hg
    obtain ⟨its, rv, p, hz⟩ := I.tuple hq
    have p' : s.heap.IsTuple a its.toArray := p
    obtain ⟨u, hu, ru⟩ := rv.get hx
    have hea := enum_not_tup he p'
    have hel : e < s.heap.objs.size := Heap.lt_size he
    have hil : it < s.heap.objs.size := by obtain ⟨_, q, _⟩ := hit; exact Heap.lt_size q
    have hlt : i < its.toArray.size := by
      have := (List.getElem?_eq_some_iff.mp hu).1
      simpa using this
    refine wpAny_pyNext_enum_itemD (PySem.Draws.tuple (prog := X.prog) (w := X.w) (A := X.A.in1) (show X.A.in1.handled = none from I.ok.hd hc) it a hai its.toArray) he ⟨hit, p'⟩ hlt hne (by simp [hne, hea]) fun y h' tk hy ho st' hT hsz hk => ?_
    obtain rfl : u = y := by
      have hy' : its.toArray[i]? = some y := hy
      rw [List.getElem?_toArray, hu] at hy'
      exact Option.some.inj hy'
    refine ⟨_, rfl, wpAny_letOwnedTupleGo_enum (s := { s with heap := h', toks := tk + 1 }) ho fun h'' he' sb => ?_⟩
    have hT2 : h''.get? s.heap.objs.size = some { cls := .type "tuple", data := .seq #[.int i tk, u] } := (sb.2 _ (Nat.ne_of_gt hel)).trans hT
    have fresh_ : ObjOk X.prog X.w (upd H s.heap.objs.size (.tup [.int (i : Nat), x])) h'' s.heap.objs.size (.tup [.int (i : Nat), x]) :=
      ⟨by show 2 ≤ sizeLine; decide, [.int i tk, u], .cons ⟨_, rfl⟩ (.cons ru .nil), ⟨_, hT2, rfl, _, rfl⟩⟩
    have I1 : Inv X pins σ (upd H s.heap.objs.size (.tup [.int (i : Nat), x])) { s with heap := h'', toks := tk + 1 } :=
      I.turnedNew (ch := [e, it]) (fun b o hb q => (sb.2 b (fun z => hb (by simp [z]))).trans (hk b o (fun z => hb (by simp [z])) (fun z => hb (by simp [z])) q)) hf (Nat.le_refl _) fresh_
    refine ⟨.ref s.heap.objs.size, _, I1, rfl, ⟨_, x, rfl, I.hok.fresh (Nat.le_refl _), rfl, fun ys hy => by rw [I.tuple_inj hy hq]; exact hx⟩, ⟨⟨u, ?_⟩, st'.1.at fun o q => (sb.2 it (Ne.symm hne)).trans q, hne⟩, fun b hb => ?_⟩
    · rw [show ((i + 1 : Nat) : Int) = (i : Int) + 1 by omega]
      exact he'
    · have hb' : b < s.heap.objs.size := by
        rcases (show b = e ∨ b = it by simpa using hb) with rfl | rfl
        · exact hel
        · exact hil
      rw [upd_ne (Nat.ne_of_lt hb')]
      exact (hf b hb).1
  done := by
    intro X hP hw hK hc i pins s σ H E I hf st hg
    subst hP hw hK
    obtain ⟨⟨old, he⟩, hit, hne⟩ := st
    obtain ⟨xs, hq, hx⟩ := hg
    obtain ⟨its, rv, p, hz⟩ := I.tuple hq
    have p' : s.heap.IsTuple a its.toArray := p
    obtain ⟨f0, f1, f2, f3, f4, f5⟩ := hf it (by simp)
    have hl := rv.length
    have hnone : its.toArray[i]? = none := by simp; omega
    have hT : s.TypeIs (.ref e) "enumerate" := ⟨_, he, rfl⟩
    unfold pyNext
    refine wpAny_bind (wpAny_attempt (wpAny_callSpecial?_slot (name := Str.ofString "__next__") hT F.slot_enumerate_next (wpAny_call_entry F.slot_enumerate_next hT F.entry_enumerate_next ?_ (F.args_enumerate_next_1 _))))
    show wpAny _ _ (field (.ref e) 2 >>= _) _ _ _
    refine wpAny_bind (wpAny_field he rfl (x := .ref it) rfl ?_)
    refine wpAny_bind (PySem.wpAny_nextOf_tuple_end (I.ok.hd hc) hit p' hnone fun h' x eb hx' => ?_)
    obtain ⟨o, ho, hcl⟩ := hx'
    refine wpAny_bind (wpAny_isInstance (T := "StopIteration") (b := true) ⟨o, ho, hcl⟩ isSubtype_stop ?_)
    exact wpAny_pure ⟨rfl, I.turned (t' := s.toks) (fun b o hb q => eb b o hb q) f0 f1 f3 f4 f5⟩
  self := fun A i s Q E st h => wpAny_pyIter_enum st.1.choose_spec h
def iEnumT (K : PySem.W.Frag) (ta : TA) : TI := fun σ H R => ta σ H fun vs H1 => ∃ a xs, vs = [.ref a] ∧ SqT K H1 a xs ∧ R (IteT K a) H1
theorem pi_enumT {X : Cx} {e : Expr} {ta : TA} {p pos tpos : Pos} {elts : List Expr} {kk : Nat} (hg : Gl X "enumerate") (hm : X.mg "enumerate" = none) (ha : PA X [e] ta) (hs : starEach [e] X.env = [(false, eval e X.env)] := by rfl) :
    PI X (.Tuple elts kk tpos) (.Call (.Name "enumerate" p) [e] [] pos) (iEnumT X.K ta) := by
  refine ⟨fun pins s σ H R I h => Call_ (ld_blt I hg hm boot_enumerate (PyProof.Rows.callWith_type1 (thn (ha.run pos pins s σ H _ I h) fun us s1 ⟨vs, H1, I1, r1, a, xs, ex, hq, q⟩ => ?_) hs rfl))⟩
  subst ex
  cases r1 with
  | cons r rr =>
    cases rr
    cases r
    obtain ⟨its, rv, pt, hz⟩ := I1.tuple hq
    have hla : a < s1.heap.objs.size := by obtain ⟨_, z, _⟩ := id pt; exact Heap.lt_size z
    refine call_enumB (PySem.begins_tuple a its.toArray) pt fun h' he hit hsz hk => wpAny_pyIter_enum he ?_
    have I2 : Inv X pins σ H1 { s1 with heap := h' } := I1.kept (t' := s1.toks) hk
    refine ⟨s1.heap.objs.size + 1, [s1.heap.objs.size + 1, s1.heap.objs.size], _, _, H1, rfl, I2, turn_enumT a (s1.heap.objs.size + 1) s1.heap.objs.size (Nat.ne_of_lt hla), ⟨⟨.none, he⟩, ⟨_, hit, rfl, rfl⟩, Nat.succ_ne_self _⟩, fun b hb => ?_, q⟩
    have hle : s1.heap.objs.size ≤ b := by
      rcases (show b = s1.heap.objs.size + 1 ∨ b = s1.heap.objs.size by simpa using hb) with rfl | rfl
      · exact Nat.le_add_right _ _
      · exact Nat.le_refl _
    exact I1.fpOk hle (I1.hok.fresh hle)
/-! ### f(k = v, ..), keywords alone -/
theorem pe_callK0 {X : Cx} {CX : CXT} {k : Nat} {f : Addr} {fd : FuncData} {ps ks : List Str} {sp : Sp} {E : XK} {x : Str} {p pos : Pos} {kws : List Keyword} {tk : TA} {g : List Value → List Value → List Value} {gV : List V → List V → List V}
    (F : FnOk X.prog X.w X.K X.mg X.base CX k f fd ps sp) (hr : Room k X.A) (hg : Gl X x) (hm : X.mg x = some (.ref f)) (hk : PySem.W.keepIn X.K (.ref f) = true) (hb : KBinds X.K fd ps ks g gV) (hx : Passes CX X E) (hkw : PK X kws tk)
    (hall : (backToKw pos (keywordEach kws X.env)).all (·.1.isSome) = true := by rfl) (hks : (backToKw pos (keywordEach kws X.env)).filterMap (·.1) = ks := by rfl) (hdb : (x == ("__debug__" : Str)) = false := by decide)
    (hpl : ((backTo pos (starEach [] X.env)).any (·.1) || (backToKw pos (keywordEach kws X.env)).any (·.1.isNone)) = false := by rfl) :
    PE X (.Call (.Name x p) [] kws pos) (tCallK sp gV E tNil tk) := by
  refine ⟨fun pins s σ H Q I h => wpAny_Call_Name_kw (ld_glob I hg hm ?_ hdb)⟩
  refine PySem.W.callWith_KW0 (h₀ := X.base) I.ok.mod.kin hk hall (thn (hkw.run pos pins s σ H _ I h) fun ws s2 ⟨zs, H2, I2, rz, q2⟩ => ⟨I2.kIn, ?_⟩) hpl
  rw [hks]
  exact run_fnk (us := []) (vs := []) F hr hb hx I2 .nil rz q2
/-! ### xs.count(z), texts -/
theorem eqU_count {z : Str} {t : Tok} : ∀ {us : List Value} {ys : List Str}, Vals (ys.map V.str) us → us.countP (eqU (.str z)) = ys.count z
  | [], [], _ => rfl
  | u :: us, y :: ys, h => by
    cases h with
    | cons r rr =>
      have ih := eqU_count (z := z) (t := t) rr
      obtain ⟨t', rfl⟩ := r
      rw [List.countP_cons, List.count_cons, ih]
      rfl
  | [], _ :: _, h => by cases h
  | _ :: _, [], h => by cases h
def rCntS (K : PySem.W.Frag) : V → List V → Hp → VK → Prop := fun x xs H Q => ∃ (p : Addr) (ys : List Str) (z : Str), x = .ref p ∧ xs = [.str z] ∧ SqL K H p (ys.map V.str) ∧ Q (.int (ys.count z : Nat)) H
theorem mt_countS {X : Cx} : MtR X "list.count" (rCntS X.K) := by
  intro pins s σ H x xs v us Q I rx rxs h
  obtain ⟨p, ys, z, rfl, rfl, hs, q⟩ := h
  cases rx
  obtain ⟨u, rfl, t, rfl⟩ := vals1 rxs
  obtain ⟨its, rv, ⟨⟨cls, dd, data, sl⟩, n, ho, hc, hdn, hd⟩, hlen⟩ := I.list hs
  simp only at hc hd
  subst hc hd
  refine call_meets PySem.F.slot_list_count ⟨_, ho, rfl⟩ PySem.F.entry_list_count (PySem.F.args_list_count_2 _ _) (SeqAt.list_countAt p its.toArray n dd sl (.str z t) (eqU (.str z)))
    ⟨ho, fun w hw => mem_eqAt (x := .str z) ⟨t, rfl⟩ rfl rv (L2.flat_strs ys) w (by simpa using hw), .int (ys.count z : Nat), H, I.tok _, ⟨s.toks, ?_⟩, q⟩
  show Value.int ((its.toArray.toList.countP (eqU (.str z)) : Nat) : Int) s.toks = Value.int ((ys.count z : Nat) : Int) s.toks
  rw [show its.toArray.toList.countP (eqU (.str z)) = ys.count z from eqU_count (t := t) rv]
end VG

set_option maxRecDepth 100000
set_option maxHeartbeats 8000000
/-! isinstance(e, C), e a caught and kept error of an own class, C that class or another one; t.index of flat things. -/
namespace VG
open PySem PySem.Spec PySem.Calls PyProof.Rows L2 LamX
/-- what an error's class tells, so that its instances answer isinstance -/
structure IsC (K : PySem.W.Frag) (D : Addr) : Prop where
  f : XfC K D
  a : PySem.W.findIn K (.ref D) "__class__" = some (some (.builtin "object.__class__"))
  g : PySem.W.specialIn K (.builtin "object.__class__") "__get__" = some (some (.builtin "getset_descriptor.__get__"))
  t : PySem.W.takesIn K (.builtin "object.__class__") = some true
  m : PySem.W.mroIn K D (.type "object") = some true
def isCB (K : PySem.W.Frag) (D : Addr) : Bool := xfB K D && (decide (PySem.W.findIn K (.ref D) "__class__" = some (some (.builtin "object.__class__"))) && (decide (PySem.W.specialIn K (.builtin "object.__class__") "__get__" = some (some (.builtin "getset_descriptor.__get__"))) &&
  (decide (PySem.W.takesIn K (.builtin "object.__class__") = some true) && decide (PySem.W.mroIn K D (.type "object") = some true))))
theorem isCB_ok {K : PySem.W.Frag} {D : Addr} (h : isCB K D = true) : IsC K D := by
  unfold isCB at h
  simp only [Bool.and_eq_true, decide_eq_true_eq] at h
  exact ⟨xfB_ok h.1, h.2.1, h.2.2.1, h.2.2.2.1, h.2.2.2.2⟩
section
variable {K : PySem.W.Frag} {D x : Addr} {ob : Obj} {od : Option Obj}
theorem IsC.cls (C : IsC K D) : ∃ cd, PySem.W.clsIn K D = some cd := by
  obtain ⟨cd, e, _⟩ := PySem.W.any_some C.f.hdC
  exact ⟨cd, e⟩
theorem IsC.bound (C : IsC K D) : PySem.W.findObj K D od "__class__" = some (.bind (.builtin "getset_descriptor.__get__") (.builtin "object.__class__")) := by
  obtain ⟨cd, e⟩ := C.cls
  unfold PySem.W.findObj
  simp only [e, C.a, C.g, C.t, Option.bind_some]
/-- e.__class__ -/
theorem IsC.ask {prog : Program} {w : World} {A : Around} {E : Value → Shared → Prop} {s : Shared} {Q : Option Value → Shared → Prop} (C : IsC K D) (kin : K.In s.heap) (J : PySem.W.InstAt s.heap x ob D od) (q : Q (some (.ref D)) { s with toks := s.toks + 1 }) :
    wpAny (model prog w) A (getAttr? (.ref x) "__class__") Q E s := by
  obtain ⟨hp, gs, dr, tk, os⟩ := s
  have ty := J.type (M := model prog w)
  have below : PySem.W.Looks (model prog w) hp (isInstance (.ref x) (.type "BaseException")) true := ty.andThen (PySem.W.looks_subIn kin C.f.exC)
  have far : (Value.builtin "BaseException.__getattribute__" == Value.builtin "object.__getattribute__") = false := by decide +kernel
  have far2 : (onTheHeap (Value.ref D) && Value.builtin "BaseException.__getattribute__" == Value.builtin "object.__getattribute__") = false := by rw [far]; rfl
  unfold getAttr? getAttrBy? getAttrBy
  refine wpAny_bind (wpAny_mkText (wpAny_bind (wpAny_attempt (wpAny_holding (wpAny_bind (ty.at (wpAny_bind ((PySem.W.looks_findIn (M := model prog w) kin C.f.ga).at ?_))))))))
  show wpAny _ _ (if (onTheHeap (Value.ref D) && Value.builtin "BaseException.__getattribute__" == Value.builtin "object.__getattribute__") = true then _ else _) _ _ _
  rw [far2, if_neg Bool.false_ne_true]
  unfold getAttrByItsOwn hookBefore
  refine wpAny_bind ?_
  rw [if_pos (show onTheHeap (Value.ref D) = true from rfl)]
  refine (PySem.W.looks_findIn (M := model prog w) kin C.f.gg).at (wpAny_bind (wpAny_attempt (wpAny_holding ?_)))
  unfold callGetattribute
  rw [show (false && onTheHeap (Value.builtin "BaseException.__getattribute__")) = false from rfl, if_neg Bool.false_ne_true]
  unfold boundAndCalled
  rw [PySem.F.excAttr_ValueError.ga.bind (.ref x)]
  refine wpAny_bind (wpAny_pure ?_)
  show wpAny _ _ (call (.builtin "BaseException.__getattribute__") [.ref x, .str "__class__" tk]) _ _ _
  refine wpAny_call (codeAny_call_builtin PySem.F.excAttr_ValueError.ga.plain PySem.F.entry_bexc_ga (@PySem.W.check_slot (model prog w) _ _ ⟨hp, gs, dr, tk + 1, os⟩ "BaseException.__getattribute__" "BaseException" "__getattribute__" (.ref x) [.str "__class__" tk] [] _ (by decide +kernel) (by decide +kernel) below (PySem.F.args_bexc_ga (.ref x) (.str "__class__" tk)) ?_))
  unfold Builtin.«object.__getattribute__»
  refine wpAny_bind (wpAny_of_eq (a := ((Value.ref x : Value), [Value.str "__class__" tk])) (by first | rfl | (simp only [slotArgs]; rfl)) (wpAny_bind (wpAny_pure (wpAny_bind (ty.at (wpAny_bind ((PySem.W.looks_find (M := model prog w) kin J C.bound).at ?_)))))))
  show wpAny _ _ (holding [Value.builtin "object.__class__"] (call (.builtin "getset_descriptor.__get__") [.builtin "object.__class__", .ref x, .ref D]) >>= ret) _ _ _
  refine wpAny_bind (wpAny_holding (wpAny_call (PySem.W.class_get (s := ⟨hp, gs, dr, tk + 1, os⟩) (ox := ob) (od := od) kin J C.m (wpAny_pure ?_))))
  show wpAny _ _ (handedOut (.ref D)) _ _ _
  rw [PySem.W.handedOut_of (v := .ref D) rfl]
  first
    | exact wpAny_pure (wpAny_pure q)
    | exact wpAny_pure q
    | exact wpAny_pure (wpAny_bind (wpAny_pure (wpAny_pure q)))
theorem IsC.kit (C : IsC K D) : PySem.W.KitX K (.ref x) (.ref D) (fun h => PySem.W.InstAt h x ob D od) where
  ty := fun _ _ _ J => J.type
  it := fun _ h kin _ => by
    obtain ⟨cd, e⟩ := C.cls
    unfold PySem.W.clsIn at e
    split at e
    · rename_i c1 d1 cd1 sl1 ho
      intro A' Q' E' s' k q
      unfold isType loadHead
      exact wpAny_bind (wpAny_loadPart (k _ _ (kin _ _ ho)) (wpAny_pure q))
    · cases e
  ne := fun h tp dd its n sl kin htp => by
    obtain ⟨cd, e⟩ := C.cls
    refine Bool.eq_false_iff.mpr fun z => ?_
    obtain rfl := Value.ref.inj (beq_iff_eq.mp z)
    unfold PySem.W.clsIn at e
    split at e
    · rename_i c1 d1 cd1 sl1 ho
      have y := (kin _ _ ho).symm.trans htp
      cases y
    · cases e
  ca := fun kin J k => C.ask kin J k
end
/-- isinstance(e, C) -/
def rIsErrB (K : PySem.W.Frag) : List V → Hp → VK → Prop := fun xs H Q => ∃ (a D C d : Addr) (fs : List (Str × V)) (b : Bool), xs = [.ref a, .ref C] ∧ H a = some (ErrO D d a) ∧ H d = some (.xd fs) ∧ IsC K D ∧ PySem.W.kitOne K (.ref D) (.ref C) = some b ∧ Q (.bl b) H
theorem call_isErrB {X : Cx} : CallR X (.builtin "isinstance") (rIsErrB X.K) := by
  intro pp s σ H xs vus Q I r h
  obtain ⟨a, D, C, d, fs, b, rfl, ha, hd, T, e, q⟩ := h
  obtain ⟨u1, u2, rfl, r1, r2⟩ := vals2 r
  cases r1; cases r2
  obtain ⟨oe, fv, h1, hz, hfv⟩ := err_get I ha
  obtain ⟨mA, nsd, hr⟩ := (show ObjOk X.prog X.w H s.heap d (.xd fs) from I.hok d _ hd)
  obtain ⟨odd_, look_, lkd⟩ := lookIn_ns nsd
  have J : PySem.W.InstAt s.heap a oe D (some odd_) := ⟨h1, hz.1, by unfold PySem.W.notCls; rw [hfv] <;> rfl, by rw [hz.2]; exact look_⟩
  exact PySem.W.kia_one T.kit I.kIn J e (fun z => nomatch z) fun tk => ⟨.bl b, H, I.kept (t' := tk) fun _ _ z => z, rfl, q⟩
/-- t.index(y), flat things -/
def rTupIx (K : PySem.W.Frag) : V → List V → Hp → VK → Prop := fun x xs H Q => ∃ (p : Addr) (ys : List V) (y z : V) (j : Nat), x = .ref p ∧ xs = [y] ∧ SqT K H p ys ∧ flatV y = true ∧ ys.all flatV = true ∧ ys[j]? = some z ∧ eqV z y = true ∧ (∀ m z', m < j → ys[m]? = some z' → eqV z' y = false) ∧ Q (.int (j : Nat)) H
theorem mt_tup_indexF {X : Cx} : MtR X "tuple.index" (rTupIx X.K) := by
  intro pins s σ H x xs v us Q I rx rs h
  obtain ⟨p, ys, y, z, j, rfl, rfl, hq, fy, fys, hj, ej, no, q⟩ := h
  cases rx
  obtain ⟨u, rfl, ru⟩ := vals1 rs
  obtain ⟨its, r, ⟨⟨cls, dd, dt, sl⟩, ho, hc, n, hd⟩, hz⟩ := I.tuple hq
  simp only at hc hd
  subst hc hd
  have len := r.length
  have item : ∀ (m : Nat) (hm : m < its.toArray.size) (w : V), ys[m]? = some w → eqU y its.toArray[m] = eqV w y := fun m hm w hw => by
    obtain ⟨u', hu', ru'⟩ := r.get hw
    have e : its.toArray[m] = u' := by
      have := (List.getElem?_eq_some_iff.mp hu').2
      simpa using this
    rw [e, eqU_of ru' (List.all_eq_true.mp fys w (List.mem_of_getElem? hw))]
  have jlt : j < its.toArray.size := by
    have := (List.getElem?_eq_some_iff.mp hj).1
    rw [List.size_toArray]
    omega
  refine call_meets PySem.F.slot_tuple_index ⟨_, ho, rfl⟩ PySem.F.entry_tuple_index (PySem.F.args_tuple_index_2 _ _) (TI.tuple_indexAt p its.toArray n dd sl u (eqU y) j jlt ?_ ?_)
    ⟨ho, fun w hw => mem_eqAt ru fy r fys w (by simpa using hw), ⟨.int (j : Nat), H, I.tok _, ⟨_, rfl⟩, q⟩⟩
  · rw [item j jlt z hj]
    exact ej
  · intro m hm hmj
    have hm' : m < ys.length := by rw [List.size_toArray] at hm; omega
    rw [item m hm ys[m] (List.getElem?_eq_getElem hm')]
    exact no m _ hmj (List.getElem?_eq_getElem hm')
/-- xs.extend(t), t a tuple -/
theorem meets_extT (l : Addr) (its : Array Value) (n : Nat) (b : Addr) (more : Array Value) (n2 : Nat) (dd : Option Addr) (slo : Array (Option Value)) (h0 : ¬(!its.isEmpty && Builtin.List.listTooLong (its.size + more.size)) = true) (h1 : its.size ≤ sizeLine) (h2 : its.size + more.size ≤ sizeLine + 1) :
    Meets (Builtin.«list.extend» ⟨[.ref l, .ref b], []⟩) (fun _ R s => s.heap.get? l = some { cls := .type "list", dict := none, data := .seq its n, slots := #[] } ∧ s.heap.get? b = some { cls := .type "tuple", dict := dd, data := .seq more n2, slots := slo } ∧
      R (.ok (.ret Value.none)) { s with heap := s.heap.update l (Obj.mapSeq fun x => x ++ more), toks := s.toks }) :=
  .of_wp fun prog w A R s all => by
    obtain ⟨hp, gs, dr, tk, os⟩ := s
    obtain ⟨hl, hb, fin⟩ := all
    have k1 := AutoSeq1.idx_int; have k2 := AutoSeq1.sub_tuple_tuple; have k3 := AutoSeq1.sub_list_list; have k4 := AutoSeq1.sub_tuple_list; have k5 := AutoSeq1.sub_list_tuple
    have hz : (its ++ more).size ≤ sizeLine + 1 := by rw [Array.size_append]; exact h2
    wp_walk using (wpAny_updateSeq hl rfl (hz := h1) (_hz' := hz)), AutoSeq1.wpAny_loadPart' hl, AutoSeq1.wpAny_loadPart' hb
    exact ⟨_, rfl, fin⟩
def rExtT (K : PySem.W.Frag) : V → List V → Hp → VK → Prop := fun x vs H Q => ∃ l b xs zs, x = .ref l ∧ vs = [.ref b] ∧ H l = some (.lst xs) ∧ SqT K H b zs ∧ xs.length + zs.length ≤ sizeLine ∧ Q .non (upd H l (.lst (xs ++ zs)))
theorem mt_extT {X : Cx} : MtM X "list.extend" (rExtT X.K) := by
  intro pins s σ H x vs v us Q I rx rv h
  obtain ⟨l, b, xs, zs, rfl, rfl, hH, hB, hz, q⟩ := h
  cases rx
  obtain ⟨u, rfl, ru⟩ := rv.one
  cases ru
  obtain ⟨z, its, n, r, hl, e⟩ := I.lstM hH
  obtain ⟨more, r2, ⟨⟨cls, dd, dt, slo⟩, ho, hc, n2, hd⟩, _⟩ := I.tuple hB
  simp only at hc hd
  subst hc hd
  have l1 := r.length
  have l2 := r2.length
  have room : its.toArray.size + more.toArray.size ≤ sizeLine := by rw [List.size_toArray, List.size_toArray]; omega
  have short : ¬ (!its.toArray.isEmpty && Builtin.List.listTooLong (its.toArray.size + more.toArray.size)) = true := by
    rw [notLongL room, Bool.and_false]
    exact Bool.false_ne_true
  refine call_meets PySem.F.slot_list_extend ⟨_, e, rfl⟩ PySem.F.entry_list_extend (PySem.F.args_list_extend_2 _ _) (meets_extT l its.toArray n b more.toArray n2 dd slo short (by rw [List.size_toArray]; omega) (by omega)) ⟨e, ho, ?_⟩
  refine ⟨.non, _, I.lset (its' := its ++ more) hH e (by simp) (r.append r2) ?_, rfl, q⟩
  rw [List.length_append]
  omega
end VG

set_option maxRecDepth 100000
set_option maxHeartbeats 8000000
/-! Rules of our own: enumerate of a text; d.update(e). -/
namespace VG
open PySem PySem.Spec PyProof.Rows L2 LamX
/-- the text's signs, each in a new pair -/
def IteS (x : Str) : It :=
  ⟨fun i _ => i < x.cps.size, fun i H v H' => ∃ T c, x.cps[i]? = some c ∧ v = .ref T ∧ H T = none ∧ H' = upd H T (.tup [.int (i : Nat), .str ⟨#[c]⟩]), fun i _ => x.cps.size ≤ i⟩
theorem turn_enumS {P : Program} {w : World} {K : PySem.W.Frag} {elts : List Expr} {kk : Nat} {tpos : Pos} (x : Str) (t : Tok) (e it : Addr) :
    Turn P w K (.Tuple elts kk tpos) (IteS x) [e, it] e (fun i h => (∃ old, IsEnum h e it ((i : Nat) : Int) old) ∧ h.IsStrIter it (strIterType x) x t i ∧ e ≠ it) where
  mem := by simp
  obj := fun i h st b hb => by
    obtain ⟨⟨old, he⟩, ⟨o, ho, hc, hd⟩, _⟩ := st
    rcases (show b = e ∨ b = it by simpa using hb) with rfl | rfl
    · exact ⟨_, he, fun v q => nomatch q⟩
    · exact ⟨o, ho, fun v q => by rw [hd] at q; cases q⟩
  keep := fun i h h' st k => ⟨⟨st.1.choose, k e (by simp) _ st.1.choose_spec⟩, (let ⟨o, ho, r⟩ := st.2.1; ⟨o, k it (by simp) o ho, r⟩), st.2.2⟩
  item := by
    intro X hP hw hK hc i pins s σ H E I hf st hg
    subst hP hw hK
    obtain ⟨⟨old, he⟩, hit, hne⟩ := st
    have hel : e < s.heap.objs.size := Heap.lt_size he
    have hil : it < s.heap.objs.size := by obtain ⟨_, q, _⟩ := id hit; exact Heap.lt_size q
    refine wpAny_pyNext_enum_itemD (PySem.Draws.text (prog := X.prog) (w := X.w) (A := X.A.in1) (show X.A.in1.handled = none from I.ok.hd hc) it x t) he hit hg hne (by simp [hne]) fun y h' tk hy ho st' hT hsz hk => ?_
    obtain ⟨c, u, hcx, rfl⟩ := hy
    refine ⟨_, rfl, wpAny_letOwnedTupleGo_enum (s := { s with heap := h', toks := tk + 1 }) ho fun h'' he' sb => ?_⟩
    have hT2 : h''.get? s.heap.objs.size = some { cls := .type "tuple", data := .seq #[.int i tk, .str ⟨#[c]⟩ u] } := (sb.2 _ (Nat.ne_of_gt hel)).trans hT
    have fresh_ : ObjOk X.prog X.w (upd H s.heap.objs.size (.tup [.int (i : Nat), .str ⟨#[c]⟩])) h'' s.heap.objs.size (.tup [.int (i : Nat), .str ⟨#[c]⟩]) :=
      ⟨by show 2 ≤ sizeLine; decide, [.int i tk, .str ⟨#[c]⟩ u], .cons ⟨_, rfl⟩ (.cons ⟨_, rfl⟩ .nil), ⟨_, hT2, rfl, _, rfl⟩⟩
    have I1 : Inv X pins σ (upd H s.heap.objs.size (.tup [.int (i : Nat), .str ⟨#[c]⟩])) { s with heap := h'', toks := tk + 1 } :=
      I.turnedNew (ch := [e, it]) (fun b o hb q => (sb.2 b (fun z => hb (by simp [z]))).trans (hk b o (fun z => hb (by simp [z])) (fun z => hb (by simp [z])) q)) hf (Nat.le_refl _) fresh_
    refine ⟨.ref s.heap.objs.size, _, I1, rfl, ⟨_, c, hcx, rfl, I.hok.fresh (Nat.le_refl _), rfl⟩, ⟨⟨.str ⟨#[c]⟩ u, ?_⟩, (let ⟨o, ho, r⟩ := st'; ⟨o, (sb.2 it (Ne.symm hne)).trans ho, r⟩), hne⟩, fun b hb => ?_⟩
    · rw [show ((i + 1 : Nat) : Int) = (i : Int) + 1 by omega]
      exact he'
    · have hb' : b < s.heap.objs.size := by
        rcases (show b = e ∨ b = it by simpa using hb) with rfl | rfl
        · exact hel
        · exact hil
      rw [upd_ne (Nat.ne_of_lt hb')]
      exact (hf b hb).1
  done := by
    intro X hP hw hK hc i pins s σ H E I hf st hg
    subst hP hw hK
    obtain ⟨⟨old, he⟩, hit, hne⟩ := st
    obtain ⟨f0, f1, f2, f3, f4, f5⟩ := hf it (by simp)
    have hnone : x.cps[i]? = none := Array.getElem?_eq_none hg
    have hT : s.TypeIs (.ref e) "enumerate" := ⟨_, he, rfl⟩
    unfold pyNext
    refine wpAny_bind (wpAny_attempt (wpAny_callSpecial?_slot (name := Str.ofString "__next__") hT F.slot_enumerate_next (wpAny_call_entry F.slot_enumerate_next hT F.entry_enumerate_next ?_ (F.args_enumerate_next_1 _))))
    show wpAny _ _ (field (.ref e) 2 >>= _) _ _ _
    refine wpAny_bind (wpAny_field he rfl (x := .ref it) rfl ?_)
    cases ha : x.cps.all (· < 128)
    · have hit : s.heap.IsStrIter it "str_iterator" x t i := by unfold strIterType at hit; rw [ha] at hit; exact hit
      refine wpAny_bind (wpAny_nextOf_wide_end (I.ok.hd hc) hit hnone fun h' x eb hx' => ?_)
      obtain ⟨o, ho, hcl⟩ := hx'
      refine wpAny_bind (wpAny_isInstance (T := "StopIteration") (b := true) ⟨o, ho, hcl⟩ isSubtype_stop ?_)
      exact wpAny_pure ⟨rfl, I.turned (t' := s.toks) (fun b o hb q => eb b o hb q) f0 f1 f3 f4 f5⟩
    · have hit : s.heap.IsStrIter it "str_ascii_iterator" x t i := by unfold strIterType at hit; rw [ha] at hit; exact hit
      refine wpAny_bind (wpAny_nextOf_ascii_end (I.ok.hd hc) hit hnone fun h' x eb hx' => ?_)
      obtain ⟨o, ho, hcl⟩ := hx'
      refine wpAny_bind (wpAny_isInstance (T := "StopIteration") (b := true) ⟨o, ho, hcl⟩ isSubtype_stop ?_)
      exact wpAny_pure ⟨rfl, I.turned (t' := s.toks) (fun b o hb q => eb b o hb q) f0 f1 f3 f4 f5⟩
  self := fun A i s Q E st h => wpAny_pyIter_enum st.1.choose_spec h
def iEnumS (ta : TA) : TI := fun σ H R => ta σ H fun vs H1 => ∃ x : Str, vs = [.str x] ∧ R (IteS x) H1
theorem pi_enumS {X : Cx} {e : Expr} {ta : TA} {p pos tpos : Pos} {elts : List Expr} {kk : Nat} (hg : Gl X "enumerate") (hm : X.mg "enumerate" = none) (ha : PA X [e] ta) (hs : starEach [e] X.env = [(false, eval e X.env)] := by rfl) :
    PI X (.Tuple elts kk tpos) (.Call (.Name "enumerate" p) [e] [] pos) (iEnumS ta) := by
  refine ⟨fun pins s σ H R I h => Call_ (ld_blt I hg hm boot_enumerate (PyProof.Rows.callWith_type1 (thn (ha.run pos pins s σ H _ I h) fun us s1 ⟨vs, H1, I1, r1, x, ex, q⟩ => ?_) hs rfl))⟩
  subst ex
  cases r1 with
  | cons r rr =>
    cases rr
    obtain ⟨t, rfl⟩ := r
    refine call_enumB (PySem.begins_text x t) trivial fun h' he hit hsz hk => wpAny_pyIter_enum he ?_
    have I2 : Inv X pins σ H1 { s1 with heap := h' } := I1.kept (t' := s1.toks) hk
    refine ⟨s1.heap.objs.size + 1, [s1.heap.objs.size + 1, s1.heap.objs.size], _, _, H1, rfl, I2, turn_enumS x t (s1.heap.objs.size + 1) s1.heap.objs.size, ⟨⟨.none, he⟩, ⟨_, hit, rfl, rfl⟩, Nat.succ_ne_self _⟩, fun b hb => ?_, q⟩
    have hle : s1.heap.objs.size ≤ b := by
      rcases (show b = s1.heap.objs.size + 1 ∨ b = s1.heap.objs.size by simpa using hb) with rfl | rfl
      · exact Nat.le_add_right _ _
      · exact Nat.le_refl _
    exact I1.fpOk hle (I1.hok.fresh hle)
section
variable {X : Cx}
def rUpdate : V → List V → Hp → VK → Prop := fun x vs H Q => ∃ (a b : Addr) (kvs more : List (Key × V)), x = .ref a ∧ vs = [.ref b] ∧ a ≠ b ∧ H a = some (.dK kvs) ∧ H b = some (.dK more) ∧ kvs.length + more.length ≤ sizeLine ∧ Q .non (upd H a (.dK (mergeK kvs more)))
theorem mt_update : MtM X "dict.update" rUpdate := by
  intro pins s σ H x vs v us Q I rx rv h
  obtain ⟨a, b, kvs, more, rfl, rfl, hne, ha, hb, hz, q⟩ := h
  cases rx
  cases rv with
  | cons r1 r2 =>
    cases r2
    cases r1
    obtain ⟨z, hd, ws, rel, dd⟩ := dk_of I.hok ha
    obtain ⟨z2, hd2, ws2, rel2, dd2⟩ := dk_of I.hok hb
    have hz' : ws.length + ws2.length ≤ sizeLine := by rw [← rel.length, ← rel2.length]; exact hz
    refine call_meetsIn PySem.F.slot_dict_update dd.typeIs PySem.F.entry_dict_update (PySem.F.args_dict_update_2 _ _) (meets_dict_update (mixKind X.prog X.w) a b hne hd2) ⟨ws, ws2, dd, dd2, hz', fun h' dd' _ sb => ?_⟩
    have he : ∃ q, h'.get? a = some q := let ⟨q, _, _, hq, _⟩ := dd'; ⟨q, hq⟩
    refine ⟨.non, _, d_write (t' := s.toks) I (by rw [ha]; exact True.intro) sb he (dk_new ?_ hd (KV.merge rel2 rel) dd'), rfl, q⟩
    exact Nat.le_trans (length_mergeK more kvs) hz
end
end VG

set_option maxRecDepth 100000
set_option maxHeartbeats 4000000
/-! enumerate(xs, start=k), walked. -/
namespace VG
open PySem PySem.Spec PyProof.Rows L2 LamX
section
variable {M : Model} {A : Around} {E : Value → Shared → Prop} {s : Shared} {env : Env}
theorem evalArgs_kwT {f : Value} {x : Sem Value} {rest : List (Bool × Sem Value)} {keywords : List (Option Str × Sem Value)} {Q : Args → Shared → Prop} (hall : keywords.all (·.1.isSome) = true)
    (h : wpAny M A (spliced ((false, x) :: rest)) (fun vs s₁ => wpAny M A (evalAll (keywords.map (·.2))) (fun kvs s₂ => Q ⟨vs, (keywords.filterMap (·.1)).zip kvs⟩ s₂) E s₁) E s) :
    wpAny M A (evalArgs f true ((false, x) :: rest) keywords) Q E s := evalArgs_kwB hall h
theorem callWith_typeK {pos : Pos} {T : String} {e : Expr} {rest : List Expr} {kws : List Keyword} {Q : Value → Shared → Prop}
    (h : wpAny M A (spliced (backTo pos (starEach (e :: rest) env))) (fun vs s₁ => wpAny M A (evalAll ((backToKw pos (keywordEach kws env)).map (·.2)))
      (fun kvs s₂ => wpAny M A (call (.type T) vs (((backToKw pos (keywordEach kws env)).filterMap (·.1)).zip kvs)) Q E s₂) E s₁) E s)
    (he : backTo pos (starEach (e :: rest) env) = (false, eval e env) :: backTo pos (starEach rest env))
    (hplain : ((backTo pos (starEach (e :: rest) env)).any (·.1) || (backToKw pos (keywordEach kws env)).any (·.1.isNone)) = false)
    (hall : (backToKw pos (keywordEach kws env)).all (·.1.isSome) = true) :
    wpAny M A (callWith pos (.type T) [] (backTo pos (starEach (e :: rest) env)) (backToKw pos (keywordEach kws env))) Q E s := by
  unfold callWith
  have h2 : wpAny M A (evalArgs (.type T) true (backTo pos (starEach (e :: rest) env)) (backToKw pos (keywordEach kws env))) (fun a s₁ => wpAny M A (call (.type T) ([] ++ a.pos) a.kw) Q E s₁) E s := by
    rw [he] at h ⊢
    exact evalArgs_kwT hall h
  refine wpAny_bind (wpAny_holding (wpAny_mono h2 (fun a s₁ h₁ => wpAny_bind (wpAny_standAt ?_)) fun _ _ x => x))
  simp only [hplain]
  refine wpAny_bind (wpAny_pure ?_)
  exact wpAny_bind (wpAny_mono h₁ (fun r s₂ hr => wpAny_bind (wpAny_holding (wpAny_point (wpAny_pure hr)))) fun _ _ x => x)
end
/-- the list at a as it stands at each turn, counted from k₀ on -/
def IteK (K : PySem.W.Frag) (a : Addr) (k₀ : Int) : It :=
  ⟨fun i H => ∃ (xs : List V) (x : V), SqL K H a xs ∧ xs[i]? = some x, fun i H v H' => ∃ T x, v = .ref T ∧ H T = none ∧ H' = upd H T (.tup [.int (k₀ + (i : Nat)), x]) ∧ ∀ xs, SqL K H a xs → xs[i]? = some x, fun i H => ∃ xs : List V, SqL K H a xs ∧ xs.length ≤ i⟩
theorem enum_not_list {h : Heap} {e it a : Addr} {c : Int} {old : Value} {its : Array Value} (he : IsEnum h e it c old) (ht : h.IsList a its) : e ≠ a := fun z => by
  obtain ⟨o, ho, hc, _⟩ := ht
  rw [← z] at ho
  have e2 := Option.some.inj (he.symm.trans ho)
  rw [← e2] at hc
  have hc' : ("enumerate" : String) = "list" := Value.type.inj hc
  exact absurd hc' (by decide)
theorem turn_enumK {P : Program} {w : World} {K : PySem.W.Frag} {elts : List Expr} {kk : Nat} {tpos : Pos} (a e it : Addr) (k₀ : Int) (hai : a ≠ it) :
    Turn P w K (.Tuple elts kk tpos) (IteK K a k₀) [e, it] e (fun i h => (∃ old, IsEnum h e it (k₀ + (i : Nat)) old) ∧ h.IsListIter it a i ∧ e ≠ it) where
  mem := by simp
  obj := fun i h st b hb => by
    obtain ⟨⟨old, he⟩, ⟨o, ho, hc, hd⟩, _⟩ := st
    rcases (show b = e ∨ b = it by simpa using hb) with rfl | rfl
    · exact ⟨_, he, fun v q => nomatch q⟩
    · exact ⟨o, ho, fun v q => by rw [hd] at q; cases q⟩
  keep := fun i h h' st k => let ⟨⟨old, he⟩, hi, hne⟩ := st; ⟨⟨old, k e (by simp) _ he⟩, hi.at fun o q => k it (by simp) o q, hne⟩
  item := by
    intro X hP hw hK hc i pins s σ H E I hf st hg
    subst hP hw hK
    obtain ⟨⟨old, he⟩, hit, hne⟩ := st
    obtain ⟨xs, x, hq, hx⟩ := hg
    obtain ⟨its, rv, p, hz⟩ := I.list hq
    obtain ⟨u, hu, ru⟩ := rv.get hx
    have hel : e < s.heap.objs.size := Heap.lt_size he
    have hil : it < s.heap.objs.size := by obtain ⟨_, q, _⟩ := hit; exact Heap.lt_size q
    have hea := enum_not_list he p.isList
    have hlt : i < its.toArray.size := by
      have := (List.getElem?_eq_some_iff.mp hu).1
      simpa using this
    refine wpAny_pyNext_enum_itemC (PySem.Draws.list (prog := X.prog) (w := X.w) (A := X.A.in1) (show X.A.in1.handled = none from I.ok.hd hc) it a hai its.toArray) he ⟨hit, p.isList⟩ hlt hne (by simp [hne, hea]) fun y h' tk hy ho st' hT hsz hk => ?_
    obtain rfl : u = y := by
      have hy' : its.toArray[i]? = some y := hy
      rw [List.getElem?_toArray, hu] at hy'
      exact Option.some.inj hy'
    refine ⟨_, rfl, wpAny_letOwnedTupleGo_enum (s := { s with heap := h', toks := tk + 1 }) ho fun h'' he' sb => ?_⟩
    have hT2 : h''.get? s.heap.objs.size = some { cls := .type "tuple", data := .seq #[.int (k₀ + (i : Nat)) tk, u] } := (sb.2 _ (Nat.ne_of_gt hel)).trans hT
    have fresh_ : ObjOk X.prog X.w (upd H s.heap.objs.size (.tup [.int (k₀ + (i : Nat)), x])) h'' s.heap.objs.size (.tup [.int (k₀ + (i : Nat)), x]) :=
      ⟨by show 2 ≤ sizeLine; decide, [.int (k₀ + (i : Nat)) tk, u], .cons ⟨_, rfl⟩ (.cons ru .nil), ⟨_, hT2, rfl, _, rfl⟩⟩
    have I1 : Inv X pins σ (upd H s.heap.objs.size (.tup [.int (k₀ + (i : Nat)), x])) { s with heap := h'', toks := tk + 1 } :=
      I.turnedNew (ch := [e, it]) (fun b o hb q => (sb.2 b (fun z => hb (by simp [z]))).trans (hk b o (fun z => hb (by simp [z])) (fun z => hb (by simp [z])) q)) hf (Nat.le_refl _) fresh_
    refine ⟨.ref s.heap.objs.size, _, I1, rfl, ⟨_, x, rfl, I.hok.fresh (Nat.le_refl _), rfl, fun ys hy => by rw [I.list_inj hy hq]; exact hx⟩, ⟨⟨u, ?_⟩, st'.1.at fun o q => (sb.2 it (Ne.symm hne)).trans q, hne⟩, fun b hb => ?_⟩
    · rw [show k₀ + ((i + 1 : Nat) : Int) = k₀ + (i : Nat) + 1 by omega]
      exact he'
    · have hb' : b < s.heap.objs.size := by
        rcases (show b = e ∨ b = it by simpa using hb) with rfl | rfl
        · exact hel
        · exact hil
      rw [upd_ne (Nat.ne_of_lt hb')]
      exact (hf b hb).1
  done := by
    intro X hP hw hK hc i pins s σ H E I hf st hg
    subst hP hw hK
    obtain ⟨⟨old, he⟩, hit, hne⟩ := st
    obtain ⟨xs, hq, hx⟩ := hg
    obtain ⟨its, rv, p, hz⟩ := I.list hq
    obtain ⟨f0, f1, f2, f3, f4, f5⟩ := hf it (by simp)
    have hl := rv.length
    have hnone : its.toArray[i]? = none := by simp; omega
    have hT : s.TypeIs (.ref e) "enumerate" := ⟨_, he, rfl⟩
    unfold pyNext
    refine wpAny_bind (wpAny_attempt (wpAny_callSpecial?_slot (name := Str.ofString "__next__") hT F.slot_enumerate_next (wpAny_call_entry F.slot_enumerate_next hT F.entry_enumerate_next ?_ (F.args_enumerate_next_1 _))))
    show wpAny _ _ (field (.ref e) 2 >>= _) _ _ _
    refine wpAny_bind (wpAny_field he rfl (x := .ref it) rfl ?_)
    refine wpAny_bind (PySem.wpAny_nextOf_list_end (I.ok.hd hc) hit p.isList hnone fun h' x eb hx' => ?_)
    obtain ⟨o, ho, hcl⟩ := hx'
    refine wpAny_bind (wpAny_isInstance (T := "StopIteration") (b := true) ⟨o, ho, hcl⟩ isSubtype_stop ?_)
    exact wpAny_pure ⟨rfl, I.turned (t' := s.toks) (fun b o hb q => eb b o hb q) f0 f1 f3 f4 f5⟩
  self := fun A i s Q E st h => let ⟨⟨_, he⟩, _⟩ := st; wpAny_pyIter_enum he h
def iEnumK (K : PySem.W.Frag) (ta tk : TA) : TI := fun σ H R => ta σ H fun vs H1 => ∃ a, vs = [.ref a] ∧ tk σ H1 fun zs H2 => ∃ k xs, zs = [.int k] ∧ SqL K H2 a xs ∧ -1000 ≤ k ∧ k ≤ 1000 ∧ R (IteK K a k) H2
theorem pi_enumK {X : Cx} {e : Expr} {ta tk : TA} {kws : List Keyword} {p pos tpos : Pos} {elts : List Expr} {kk : Nat} (hg : Gl X "enumerate") (hm : X.mg "enumerate" = none) (ha : PA X [e] ta) (hkw : PK X kws tk)
    (hs : backTo pos (starEach [e] X.env) = (false, eval e X.env) :: backTo pos (starEach [] X.env) := by rfl)
    (hpl : ((backTo pos (starEach [e] X.env)).any (·.1) || (backToKw pos (keywordEach kws X.env)).any (·.1.isNone)) = false := by rfl)
    (hall : (backToKw pos (keywordEach kws X.env)).all (·.1.isSome) = true := by rfl) (hks : (backToKw pos (keywordEach kws X.env)).filterMap (·.1) = [Str.ofString "start"] := by rfl) :
    PI X (.Tuple elts kk tpos) (.Call (.Name "enumerate" p) [e] kws pos) (iEnumK X.K ta tk) := by
  refine ⟨fun pins s σ H R I h => wpAny_Call_Name_kw (ld_blt I hg hm boot_enumerate (callWith_typeK (thn (ha.run pos pins s σ H _ I h) fun us s1 ⟨vs, H1, I1, r1, a, ex, q1⟩ => ?_) hs hpl hall))⟩
  subst ex
  cases r1 with
  | cons r rr =>
    cases rr
    cases r
    refine thn (hkw.run pos pins s1 σ H1 _ I1 q1) fun ws s2 ⟨zs, H2, I2, rz, k, xs, ez, hq, k0, k1, q⟩ => ?_
    subst ez
    rw [hks]
    cases rz with
    | cons rk rr =>
      cases rr
      obtain ⟨t, rfl⟩ := rk
      obtain ⟨its, rv, p', hz⟩ := I2.list hq
      have hla : a < s2.heap.objs.size := by obtain ⟨_, z, _⟩ := id p'.isList; exact Heap.lt_size z
      refine enum_begins_start (PySem.begins_list a its.toArray) p'.isList (by omega) (by omega) fun h' he hit hsz hk => wpAny_pyIter_enum he ?_
      have I3 : Inv X pins σ H2 { s2 with heap := h' } := I2.kept (t' := s2.toks) hk
      refine ⟨s2.heap.objs.size + 1, [s2.heap.objs.size + 1, s2.heap.objs.size], _, _, H2, rfl, I3, turn_enumK a (s2.heap.objs.size + 1) s2.heap.objs.size k (Nat.ne_of_lt hla), ⟨⟨.none, by rw [show k + ((0 : Nat) : Int) = k by omega]; exact he⟩, ⟨_, hit, rfl, rfl⟩, Nat.succ_ne_self _⟩, fun b hb => ?_, q⟩
      have hle : s2.heap.objs.size ≤ b := by
        rcases (show b = s2.heap.objs.size + 1 ∨ b = s2.heap.objs.size by simpa using hb) with rfl | rfl
        · exact Nat.le_add_right _ _
        · exact Nat.le_refl _
      exact I2.fpOk hle (I2.hok.fresh hle)
end VG

set_option maxRecDepth 100000
set_option maxHeartbeats 4000000
/-! A dict made by a comprehension over anything that yields n things. -/
namespace VG
open PySem PySem.Spec PyProof.Rows L2 LamX
theorem dc_any {J : It} {n : Nat} {g : TG} {tt : TT} {tk tv : TE} {vs : List Nat} {σ : L2.St} {H1 : Hp} {D : Addr} {Qd : Hp → Prop} (Pv : Nat → Hp → Prop) (h0 : Pv 0 (upd H1 D (.dK []))) (hgo : ∀ i H, i < n → Pv i H → J.go i H) (hst : ∀ H, Pv n H → J.stop n H)
    (hs : ∀ i x H H', i < n → Pv i H → J.yld i H x H' → g x (wipe σ vs) H' fun σ2 H2 => wipe σ2 vs = wipe σ vs ∧ tt σ2 H2 fun b H3 =>
      if b = true then tk σ2 H3 fun y H4 => tv σ2 H4 fun z H5 => ∃ kvs k, y = kV k ∧ H5 D = some (.dK kvs) ∧ kvs.length < sizeLine ∧ Pv (i + 1) (upd H5 D (.dK (putK kvs k z))) else Pv (i + 1) H3) (hd : ∀ H, Pv n H → Qd H) :
    ∃ W : Nat → Nat → Hp → Prop, (∃ m, W 0 m (upd H1 D (.dK []))) ∧ ∀ i m H, W i m H →
      (J.stop i H ∧ Qd H) ∨ (J.go i H ∧ ∃ Nx : Hp → Prop, (∀ H', Nx H' → ∃ m', m' < m ∧ W (i + 1) m' H') ∧ ∀ x H', J.yld i H x H' → g x (wipe σ vs) H' fun σ2 H2 => wipe σ2 vs = wipe σ vs ∧ tt σ2 H2 fun b H3 =>
        if b = true then tk σ2 H3 fun y H4 => tv σ2 H4 fun z H5 => ∃ kvs k, y = kV k ∧ H5 D = some (.dK kvs) ∧ kvs.length < sizeLine ∧ Nx (upd H5 D (.dK (putK kvs k z))) else Nx H3) := by
  refine ⟨fun i m H => i + m = n ∧ Pv i H, ⟨n, Nat.zero_add n, h0⟩, ?_⟩
  rintro i m H ⟨e, p⟩
  by_cases c : i < n
  · exact .inr ⟨hgo i H c p, Pv (i + 1), fun H' q => ⟨m - 1, by omega, by omega, q⟩, fun x H' y => hs i x H H' c p y⟩
  · obtain rfl : i = n := by omega
    exact .inl ⟨hst H p, hd H p⟩
/-! ### a value whose making leaves a token: what stands behind it may ask for one -/
section
variable {X : Cx} {a e o : Expr} {es : List Expr} {ta te to : TE} {tas : TA} {rest : List Stmt} {u : TS}
def PEG (X : Cx) (e : Expr) (te : TE) : Prop := ∀ (pins : List (Addr × Obj)) (s : Shared) (σ : L2.St) (H : Hp) (Q : VK), Inv X pins σ H s → te σ H Q →
  wpAny (model X.prog X.w) X.A (eval e X.env) (fun v s' => 1 ≤ s'.toks ∧ EP X pins σ Q v s') X.xe s
/-- a op 'text' -/
theorem peg_opC {op : Operator} {r : R2} {y : Str} {j : Nat} {p pos : Pos} (ho : OpR X (binaryOp op) r) (ha : PE X a ta) : PEG X (.BinOp a op (.Constant (.str y) j p) pos) (tOp r ta (tC (.str y))) := by
  intro pins s σ H Q I h
  refine wpAny_BinOp (thn (ha.run pins s σ H _ I h) fun v s1 ⟨x, H1, I1, r1, q1⟩ => Calls.Constant_str ?_)
  refine wpAny_mono (PySem.wpAny_toks (ho pins { s1 with toks := s1.toks + 1 } σ H1 x (.str y) v (.str y s1.toks) Q (I1.tok _) r1 ⟨_, rfl⟩ q1)) (fun v2 s2 q => ⟨?_, q.2⟩) fun _ _ z => z.2
  have hk : s1.toks + 1 ≤ s2.toks := q.1
  omega
theorem pag_cons (ha : PEG X e te) (hr : PAT X es tas) (hs : starEach (e :: es) X.env = (false, eval e X.env) :: starEach es X.env := by rfl) : PA X (e :: es) (tCons te tas) := by
  refine ⟨fun pos pins s σ H Q I h => ?_⟩
  rw [hs]
  show wpAny _ _ (spliced ((false, eval e X.env) :: backTo pos (starEach es X.env))) _ _ s
  refine Calls.spliced_cons (wpAny_mono (ha pins s σ H _ I h) (fun v s1 q => ?_) fun _ _ z => z)
  obtain ⟨hk, x, H1, I1, r1, q1⟩ := q
  exact thn (hr pos pins s1 σ H1 _ hk I1 q1) fun us s2 ⟨xs, H2, I2, r2, q2⟩ => ⟨x :: xs, H2, I2, .cons r1 r2, q2⟩
theorem patg_cons (ha : PE X e te) (hr : PAT X es tas) (hs : starEach (e :: es) X.env = (false, eval e X.env) :: starEach es X.env := by rfl) : PAT X (e :: es) (tCons te tas) := pat_cons (fun pins s σ H Q _ I q => ha.run pins s σ H Q I q) hr hs
/-- 'text'.m(e) -/
theorem peg_m1 {id : String} {name z : Str} {j : Nat} {p apos pos : Pos} {r : V → List V → Hp → VK → Prop} (slot : Slot "str" name id) (ty : typeOf (.builtin id) = pure (.type "method_descriptor")) (rule : MtR X id r) (he : PE X e te)
    (hs : starEach [e] X.env = [(false, eval e X.env)] := by rfl) (hbase : attributeBase (.Constant (.str z) j p) name X.env (eval (.Constant (.str z) j p) X.env) = eval (.Constant (.str z) j p) X.env := by rfl) (hline : (apos.endLine == pos.line) = true := by rfl) :
    PEG X (.Call (.Attribute (.Constant (.str z) j p) name apos) [e] [] pos) (tM1 r (tC (.str z)) te) := by
  intro pins s σ H Q I h
  obtain ⟨_, h⟩ := h
  refine PySem.Call_method1 hbase hs hline (Calls.Constant_str ?_)
  refine ⟨"str", _, F.plainAttrs_str, slot, ty, typeIs_str _ _ _, (fun _ e => nomatch e), Calls.callWith_builtin rfl (Calls.evalArgs_plain (Calls.spliced_cons ?_))⟩
  refine wpAny_mono (PySem.wpAny_toks (he.run pins { s with toks := s.toks + 1 } σ H _ (I.tok _) h)) (fun u s2 q => ?_) fun _ _ z => z.2
  obtain ⟨hk, y, H2, I2, r2, q2⟩ := q
  refine Calls.spliced_nil (wpAny_mono (PySem.wpAny_toks (rule pins s2 σ H2 (.str z) [y] (.str z s.toks) [u] Q I2 ⟨_, rfl⟩ (.cons r2 .nil) q2)) (fun v3 s3 q => ⟨?_, q.2⟩) fun _ _ z => z.2)
  have h1 : s.toks + 1 ≤ s2.toks := hk
  have h2 := q.1
  omega
theorem pssg_set {i : Nat} {x : Str} {pos' pos : Pos} (hN : X.N.Nodup) (hi : X.N[i]? = some x) (hx : Loc X.env.scope x) (he : PEG X e te) (h2 : PSsT X rest u)
    (hs : swapsWith e (some (.Name x pos')) pos.line X.env = pure false := by rfl) (hf : X.fn x = true ∨ X.env.scope.names.lookup x = some .local := by first | exact .inl rfl | exact .inr rfl | assumption) :
    PSs X (.Assign [.Name x pos'] e pos :: rest) (tSeq (tAsg te (gName i)) u) := by
  refine ⟨fun pins s σ H D I h => ?_⟩
  refine wpAny_execs_cons (wpAny_Assign_Name (wpAny_mono (he pins s σ H _ I h) (fun v s1 q => ?_) fun _ _ z => z) hs)
  obtain ⟨hk, y, H1, I1, r1, q1⟩ := q
  refine wpAny_mono (PySem.wpAny_toks (store_ok (v := y) (u := v) (Q := fun _ s2 => Inv X pins (σ.set i (some y)) H1 s2) I1 hN hi hx r1 (fun _ I2 => I2) hf)) (fun _ s2 q => ?_) fun _ _ z => z.2
  exact h2 pins s2 _ H1 D (Nat.le_trans hk q.1) q.2 q1
end
section
variable {X : Cx}
theorem vals_at : ∀ {xs : List V} {us : List Value}, xs.length = us.length → (∀ (j : Nat) (v : Value), us[j]? = some v → ∃ x, xs[j]? = some x ∧ RelV x v) → Vals xs us
  | [], [], _, _ => .nil
  | x :: xs, u :: us, hl, h => by
    obtain ⟨y, e, r⟩ := h 0 u rfl
    obtain rfl : x = y := Option.some.inj e
    exact .cons r (vals_at (by simpa using hl) fun j v e => h (j + 1) v (by simpa using e))
  | [], _ :: _, hl, _ => by simp at hl
  | _ :: _, [], hl, _ => by simp at hl
/-- list(text): its signs, one by one -/
def signs (x : Str) : List Str := x.cps.toList.map fun c => ⟨#[c]⟩
def rListS : List V → Hp → VK → Prop := fun xs H Q => ∃ x : Str, xs = [.str x] ∧ x.length ≤ sizeLine ∧ ∀ p, H p = none → Q (.ref p) (upd H p (.lst ((signs x).map V.str)))
theorem call_listS {X : Cx} (hc : X.calm = true) : CallR X (.type "list") rListS := by
  intro pins s σ H xs us Q I r h
  obtain ⟨x, rfl, hz, q⟩ := h
  obtain ⟨u, rfl, rv⟩ := vals1 r
  obtain ⟨t, rfl⟩ := rv
  refine PySem.call_list_str (I.ok.hd hc) x t (fun h' tk acc' c' k ho hi => ?_) hz
  have lenE : acc'.toList.length = x.cps.toList.length := by rw [Array.length_toList, Array.length_toList, hi.1]
  have new : ObjOk X.prog X.w (upd H s.heap.objs.size (.lst ((signs x).map V.str))) h' s.heap.objs.size (.lst ((signs x).map V.str)) := by
    refine ⟨by rw [List.length_map, signs, List.length_map]; exact hz, acc'.toList, c', vals_at ?_ (fun j v e => ?_), by rw [Array.toArray_toList]; exact ho⟩
    · rw [List.length_map, signs, List.length_map, lenE]
    · obtain ⟨c, u, e1, rfl⟩ := hi.2 j v (by rw [← Array.getElem?_toList]; exact e)
      refine ⟨.str ⟨#[c]⟩, ?_, ⟨u, rfl⟩⟩
      rw [signs, List.getElem?_map, List.getElem?_map, Array.getElem?_toList, e1]
      rfl
  exact ⟨.ref _, _, I.laid (t' := tk) k (Nat.le_refl _) new, rfl, q _ (I.hok.fresh (Nat.le_refl _))⟩
end
end VG

set_option maxRecDepth 100000
set_option maxHeartbeats 4000000
/-! k36: numbers in texts, by the program's and by the law's own look. -/
namespace K36
open PySem PySem.Spec PyProof.Rows L2 LamX VG TL
def isDig (c : Nat) : Bool := decide (c ∈ (Str.ofString "0123456789").cps.toList)
def digS (z : Str) : Bool := z.cps.toList.all isDig
theorem isDig_iff {c : Nat} : isDig c = true ↔ 48 ≤ c ∧ c ≤ 57 := by
  unfold isDig
  rw [decide_eq_true_eq, show (Str.ofString "0123456789").cps.toList = [48, 49, 50, 51, 52, 53, 54, 55, 56, 57] by decide]
  simp only [List.mem_cons, List.not_mem_nil, or_false]
  omega
theorem digS_all {z : Str} (h : digS z = true) : NumText.AllDigits z.cps.toList := fun c hc => isDig_iff.mp (List.all_eq_true.mp h c hc)
/-- the number that digits tell -/
def valS (z : Str) : Int := ((NumText.digitsVal z.cps.toList : Nat) : Int)
/-- the first sign is a nought, and another one stands behind -/
def led (z : Str) : Bool := match z.cps.toList with
  | 48 :: _ :: _ => true
  | _ => false
/-- the integer that is written so -/
def numOf (z : Str) : Option Int := if z.cps.toList = [] ∨ digS z = false ∨ led z = true then none else some (valS z)
def numIn (z : Str) (lo hi : Int) : Option Int := match numOf z with
  | some n => if lo ≤ n ∧ n ≤ hi then some n else none
  | none => none
theorem snoc_ind {P : List Nat → Prop} (h0 : P []) (hs : ∀ l c, P l → P (l ++ [c])) : ∀ l, P l := fun l => by
  have : ∀ n, ∀ l : List Nat, l.length = n → P l := by
    intro n
    induction n with
    | zero => intro l h; rw [List.length_eq_zero_iff.mp h]; exact h0
    | succ n ih =>
      intro l h
      have hne : l ≠ [] := by intro e; rw [e] at h; cases h
      rw [← List.dropLast_concat_getLast hne]
      exact hs _ _ (ih _ (by rw [List.length_dropLast]; omega))
  exact this _ l rfl
theorem digitsVal_snoc (l : List Nat) (c : Nat) : NumText.digitsVal (l ++ [c]) = NumText.digitsVal l * 10 + (c - 48) := by
  unfold NumText.digitsVal
  rw [List.foldl_append]
  rfl
def ledL : List Nat → Bool
  | 48 :: _ :: _ => true
  | _ => false
theorem ledL_snoc {l : List Nat} {c : Nat} (h : ledL (l ++ [c]) = false) (hne : l ≠ []) : ∃ d r, l = d :: r ∧ d ≠ 48 := by
  match l, hne with
  | d :: r, _ =>
    refine ⟨d, r, rfl, fun e => ?_⟩
    subst e
    cases r <;> cases h
theorem val_pos : ∀ {l : List Nat}, NumText.AllDigits l → (∃ d r, l = d :: r ∧ d ≠ 48) → 1 ≤ NumText.digitsVal l := by
  intro l
  refine snoc_ind (P := fun l => NumText.AllDigits l → (∃ d r, l = d :: r ∧ d ≠ 48) → 1 ≤ NumText.digitsVal l) ?_ ?_ l
  · rintro _ ⟨d, r, e, _⟩; cases e
  · intro l c ih
    rintro hd ⟨d, r, e, hn⟩
    rw [digitsVal_snoc]
    by_cases hl : l = []
    · subst hl
      cases e
      have h1 := hd c (by simp)
      have : NumText.digitsVal [] = 0 := rfl
      omega
    · match l, hl with
      | x :: xs, _ =>
        cases e
        have := ih (fun y hy => hd y (List.mem_append_left _ hy)) ⟨d, xs, rfl, hn⟩
        omega
theorem num_back : ∀ {l : List Nat}, NumText.AllDigits l → l ≠ [] → ledL l = false → numL (NumText.digitsVal l) = l := by
  intro l
  refine snoc_ind (P := fun l => NumText.AllDigits l → l ≠ [] → ledL l = false → numL (NumText.digitsVal l) = l) ?_ ?_ l
  · intro _ h _; exact absurd rfl h
  · intro l c ih
    intro hd _ hled
    have hc := hd c (by simp)
    rw [digitsVal_snoc]
    by_cases hl : l = []
    · subst hl
      have : NumText.digitsVal [] = 0 := rfl
      rw [this, Nat.zero_mul, Nat.zero_add, numL_lt (by omega)]
      show [48 + (c - 48)] = [c]
      rw [show 48 + (c - 48) = c by omega]
    · have hd' : NumText.AllDigits l := fun y hy => hd y (List.mem_append_left _ hy)
      obtain ⟨d, r, e, hn⟩ := ledL_snoc hled hl
      have hpos := val_pos hd' ⟨d, r, e, hn⟩
      have hled' : ledL l = false := by
        rw [e]
        unfold ledL
        split
        · rename_i e2; cases e2; exact absurd rfl hn
        · rfl
      have hv : (NumText.digitsVal l * 10 + (c - 48)) / 10 = NumText.digitsVal l := by omega
      have hm : (NumText.digitsVal l * 10 + (c - 48)) % 10 = c - 48 := by omega
      rw [numL_step (by omega), hv, hm, ih hd' hl hled', show 48 + (c - 48) = c by omega]
theorem num_head : ∀ n : Nat, ledL (numL n) = false := by
  intro n
  induction n using Nat.strongRecOn with
  | _ n ih =>
    by_cases h : n < 10
    · rw [numL_lt h]
      unfold ledL
      split
      · rename_i e; exact absurd (congrArg List.length e) (by simp)
      · rfl
    · have ih2 := ih (n / 10) (by omega)
      rw [numL_step (by omega)]
      cases e : numL (n / 10) with
      | nil => exact absurd e (numL_ne _)
      | cons d r =>
        by_cases hd : d = 48
        · subst hd
          rw [e] at ih2
          cases r with
          | cons _ _ => cases ih2
          | nil =>
            have v := numL_val (n / 10)
            rw [e] at v
            have : NumText.digitsVal [48] = 0 := rfl
            omega
        · show ledL (d :: (r ++ [48 + n % 10])) = false
          unfold ledL
          split
          · rename_i e2; exact absurd (List.cons.inj e2).1 hd
          · rfl
/-- the text of a number -/
def strN (n : Int) : Str := Str.ofString (toString n)
theorem strN_list (n : Nat) : (strN (n : Int)).cps.toList = numL n := tl_num n
theorem led_eq (z : Str) : led z = ledL z.cps.toList := by
  unfold led ledL
  rfl
theorem str_ext {a b : Str} (h : a.cps.toList = b.cps.toList) : a = b := by
  cases a; cases b
  simp only at h
  rw [Str.mk.injEq]
  exact Array.toList_inj.mp h
theorem strN_val {z : Str} (hd : digS z = true) (hne : z.cps.toList ≠ []) : decide (strN (valS z) = z) = !led z := by
  rw [led_eq]
  cases h : ledL z.cps.toList with
  | false =>
    refine decide_eq_true (str_ext ?_)
    unfold valS
    rw [strN_list]
    exact num_back (digS_all hd) hne h
  | true =>
    refine decide_eq_false fun e => ?_
    have := num_head (NumText.digitsVal z.cps.toList)
    rw [← strN_list] at this
    have e' : strN ((NumText.digitsVal z.cps.toList : Nat) : Int) = z := e
    rw [e'] at this
    rw [this] at h
    cases h
/-- the law's own reading of a number -/
def lawNum (z : Str) (lo hi : Int) : Option Int := if z.cps.toList = [] ∨ z.length > 9 ∨ digS z = false then none else if strN (valS z) = z ∧ lo ≤ valS z ∧ valS z ≤ hi then some (valS z) else none
theorem law_num {z : Str} {lo hi : Int} (h : hi < 1000000000) : lawNum z lo hi = numIn z lo hi := by
  unfold lawNum numIn numOf
  by_cases he : z.cps.toList = []
  · rw [if_pos (.inl he), if_pos (.inl he)]
  · by_cases hd : digS z = true
    · have sv := strN_val hd he
      by_cases hl : z.length > 9
      · rw [if_pos (.inr (.inl hl))]
        by_cases hled : led z = true
        · rw [if_pos (.inr (.inr hled))]
        · have hb := num_back (digS_all hd) he (by rw [← led_eq]; simpa using hled)
          rw [if_neg (by rintro (h | h | h); exact he h; rw [hd] at h; cases h; exact hled h)]
          simp only
          rw [if_neg]
          rintro ⟨_, h2⟩
          have hn : NumText.digitsVal z.cps.toList < 10 ^ 9 := by unfold valS at h2; omega
          have := numL_len (k := 9) (by decide) hn
          rw [hb] at this
          have hz : z.length = z.cps.toList.length := by show z.cps.size = _; rw [Array.length_toList]
          omega
      · rw [if_neg (by rintro (h | h | h); exact he h; exact hl h; rw [hd] at h; cases h)]
        by_cases hled : led z = true
        · rw [if_pos (show z.cps.toList = [] ∨ digS z = false ∨ led z = true from .inr (.inr hled)), if_neg]
          rintro ⟨h1, _⟩
          rw [decide_eq_true h1, hled] at sv
          cases sv
        · have hled' : led z = false := by simpa using hled
          rw [if_neg (show ¬ (z.cps.toList = [] ∨ digS z = false ∨ led z = true) by rintro (h | h | h); exact he h; rw [hd] at h; cases h; exact hled h)]
          simp only
          have h1 : strN (valS z) = z := by
            rw [hled'] at sv
            exact of_decide_eq_true sv
          by_cases hr : lo ≤ valS z ∧ valS z ≤ hi
          · rw [if_pos ⟨h1, hr⟩, if_pos hr]
          · rw [if_neg fun y => hr y.2, if_neg hr]
    · have hd' : digS z = false := by simpa using hd
      rw [if_pos (.inr (.inr hd')), if_pos (.inr (.inl hd'))]
theorem numIn_str {n : Nat} {lo hi : Int} (h1 : lo ≤ n) (h2 : (n : Int) ≤ hi) : numIn (strN (n : Int)) lo hi = some (n : Int) := by
  have hl := strN_list n
  have hd : digS (strN (n : Int)) = true := by
    unfold digS
    rw [hl, List.all_eq_true]
    exact fun c hc => isDig_iff.mpr (numL_digits n c hc)
  have hv : valS (strN (n : Int)) = n := by unfold valS; rw [hl, numL_val]
  unfold numIn numOf
  rw [if_neg, hv]
  · exact if_pos ⟨h1, h2⟩
  · rintro (h | h | h)
    · rw [hl] at h; exact numL_ne n h
    · rw [hd] at h; cases h
    · rw [led_eq, hl, num_head] at h; cases h
theorem split_sum (x y : Str) : ((Txt.split x y).map (·.length)).sum + ((Txt.split x y).length - 1) * y.length = x.length := by
  unfold Txt.split
  have key := congrArg (·.length) (StrLaws.glued_between_self x y (x.length + 1))
  simp only [size_glued] at key
  split
  · simp
  · split
    · simp
    · exact key
theorem split_ne (x y : Str) : Txt.split x y ≠ [] := by
  unfold Txt.split
  split
  · simp
  · split
    · simp
    · intro h
      have := congrArg List.length h
      rw [length_partsBetween] at this
      cases this
theorem mem_sum {l : List Nat} {n : Nat} (h : n ∈ l) : n ≤ l.sum := by
  induction l with
  | nil => cases h
  | cons a r ih =>
    rw [List.sum_cons]
    rcases List.mem_cons.mp h with rfl | h
    · omega
    · have := ih h; omega
theorem split_le {x y z : Str} (h : z ∈ Txt.split x y) : z.length ≤ x.length := by
  have := split_sum x y
  have := mem_sum (List.mem_map_of_mem (f := fun s : Str => s.length) h)
  omega
theorem split_many (x y : Str) (h : y.length = 1) : (Txt.split x y).length ≤ x.length + 1 := by
  have := split_sum x y
  rw [h] at this
  omega
theorem join_len (y : Str) (l : List Str) : (Txt.join y l).length = (l.map (·.length)).sum + (l.length - 1) * y.length := size_glued y l
theorem digitsVal_lt {l : List Nat} : NumText.AllDigits l → NumText.digitsVal l < 10 ^ l.length := by
  refine snoc_ind (P := fun l => NumText.AllDigits l → NumText.digitsVal l < 10 ^ l.length) ?_ ?_ l
  · intro _; decide
  · intro l c ih h
    have h1 := ih (fun y hy => h y (List.mem_append_left _ hy))
    have h2 := h c (by simp)
    rw [digitsVal_snoc, List.length_append]
    show _ < 10 ^ (l.length + 1)
    rw [Nat.pow_succ]
    omega
theorem valS_small {z : Str} (h : digS z = true) (h9 : z.length ≤ 9) : (valS z).natAbs < 10 ^ 9 := by
  have h1 := digitsVal_lt (digS_all h)
  have hz : z.length = z.cps.toList.length := by show z.cps.size = _; rw [Array.length_toList]
  have h2 : 10 ^ z.cps.toList.length ≤ 10 ^ 9 := Nat.pow_le_pow_right (by decide) (by omega)
  show NumText.digitsVal z.cps.toList < _
  omega
theorem log2_small {n : Nat} (h : n < 10 ^ 9) : n.log2 < 1920 := by
  by_cases h0 : n = 0
  · subst h0; decide
  · exact (Nat.log2_lt h0).mpr (Nat.lt_of_lt_of_le h (Nat.le_trans (by decide) (Nat.pow_le_pow_right (by decide : 0 < 2) (show 30 ≤ 1920 by decide))))
end K36

set_option maxRecDepth 100000
set_option maxHeartbeats 8000000
/-! K36: the text by places; what laws share. -/
namespace K36
open PySem PySem.Spec PyProof.Rows L2 LamX VG
def topS (i : Nat) : Stmt := PySem.Challenge.pw_clankernel_k36_texts_of_no_clans.main.body.getD i (.Pass ⟨0, 0, 0, 0⟩)
abbrev sNumberOf : Stmt := topS 2
abbrev sNumberIn : Stmt := topS 3
abbrev sNumberTold : Stmt := topS 4
abbrev sCoreError : Stmt := topS 6
abbrev sTaskRow : Stmt := topS 13
abbrev sStands : Stmt := topS 14
abbrev sPot : Stmt := topS 16
abbrev sTake : Stmt := topS 17
abbrev sOf : Stmt := topS 18
abbrev sSome : Stmt := topS 19
abbrev sCells : Stmt := topS 20
abbrev sHeard : Stmt := topS 21
abbrev sOdd : Stmt := topS 22
abbrev sBent : Stmt := topS 23
abbrev sHouseText : Stmt := topS 24
abbrev sHouseMade : Stmt := topS 25
abbrev sHouseDrawn : Stmt := topS 26
abbrev sLNumber : Stmt := topS 27
abbrev sWrongLine : Stmt := topS 28
abbrev sOtherLine : Stmt := topS 29
abbrev sNear : Stmt := topS 30
abbrev sRight : Stmt := topS 31
abbrev sLaw : Stmt := topS 32
abbrev sInit : Stmt := inClass (topS 6) 0
theorem scInit : FnScope ["self", "value"] ["self", "value"] (defScope sInit) := ⟨rfl, rfl, rfl, by decide +kernel, rfl, by decide +kernel, by decide +kernel⟩
section
variable {P : Program} {w : World} {K : PySem.W.Frag} {mg : Str → Option Value} {base : Heap}
theorem ok_init {f : Addr} {fd : FuncData} {k : Nat} (F : Fun K "__init__" "CoreError.__init__" sInit f fd) : FnOk P w K mg base CX0 (k + 1) f fd ["self", "value"] (spInit K) := by
  refine F.ok scInit (fun vs H Q E h => ?_) (fun cdv A outer s H vs Q E hr h => ?_)
  · obtain ⟨a, C, v, rfl, _⟩ := h
    rfl
  · obtain ⟨a, C, v, rfl, ha, T, hn, q⟩ := h
    refine ⟨_, pss_one (ps_ost (pv 0) (pv 1)), ?_⟩
    exact ⟨v, rfl, .ref a, rfl, a, C, rfl, T, hn, .inl ⟨ha, fun dx n ne => q dx n ne⟩⟩
end
section
variable {X : Cx}
theorem ps_err {W : WX} {x : Str} {C fI : Addr} {fd : FuncData} {k : Nat} {e : Expr} {te : TE} {p pos pos2 : Pos} (hc : X.calm = true) (T : ErrC X.K C fI) (F : Fun X.K "__init__" "CoreError.__init__" sInit fI fd) (b : Binds X.K fd ["self", "value"] []) (hr : Room (k + 2) X.A) (tk : Takes X W)
    (hg : Gl X x) (hm : X.mg x = some (.ref C)) (he : PE X e te) (hdb : (x == ("__debug__" : Str)) = false := by decide) (hs : starEach (e :: []) X.env = (false, eval e X.env) :: starEach [] X.env := by rfl) :
    PS X (.Raise (some (.Call (.Name x p) [e] [] pos)) none pos2) (tErr X.K C W te) := by
  have G : FnOk X.prog X.w X.K X.mg X.base CX0 (k + 1) fI fd ["self", "value"] (spInit X.K) := ok_init F
  have R := ps_raise (pos := pos2) hc tk (pmk_oex (p := p) (pos := pos) (sp := spInit X.K) T.oex T.iC T.tI G hr b .nil pass0 hg hm (pa_cons he pa_nil hs) hdb hs)
  exact ⟨fun pins s σ H D I h => R.run pins s σ H D I h⟩
end
theorem scTake : FnScope ["pot", "upto", "digit", "prime", "blend"] ["pot", "upto"] (defScope sTake) := ⟨rfl, rfl, rfl, by decide +kernel, rfl, by decide +kernel, by decide +kernel⟩
theorem scPot : FnScope ["script", "place", "cell", "own", "small"] ["script", "place"] (defScope sPot) := ⟨rfl, rfl, rfl, by decide +kernel, rfl, by decide +kernel, by decide +kernel⟩
theorem scOf : FnScope ["pot", "some"] ["pot", "some"] (defScope sOf) := ⟨rfl, rfl, rfl, by decide +kernel, rfl, by decide +kernel, by decide +kernel⟩
theorem scCells : FnScope ["script", "most"] ["script", "most"] (defScope sCells) := ⟨rfl, rfl, rfl, by decide +kernel, rfl, by decide +kernel, by decide +kernel⟩
section
variable {P : Program} {w : World} {K : PySem.W.Frag} {mg : Str → Option Value} {base : Heap}
def spTake : Sp := fun vs H Q _ => ∃ (p : Addr) (u : Int) (n : Nat), vs = [.ref p, .int u] ∧ 0 < u ∧ u < 1000000 ∧ Pot H p n ∧ n < 1000000 ∧ ∀ d H', 0 ≤ d → d < u → Pot H' p (n + 1) → Same (wo H p) (wo H' p) → Q (.int d) H'
theorem ok_take {f : Addr} {fd : FuncData} {k : Nat} (F : Fun K "_law_take" "_law_take" sTake f fd) (mi : mg "int" = none) : FnOk P w K mg base CX0 (k + 1) f fd ["pot", "upto"] spTake := by
  refine F.ok scTake (fun vs H Q E h => ?_) (fun cdv A outer s H vs Q E hr h => ?_)
  · obtain ⟨p, u, n, rfl, _⟩ := h
    rfl
  · obtain ⟨p, u, n, rfl, hu0, hu1, ⟨a, b, c, hp, hb0, hb1, hc0, hc1⟩, hn, q⟩ := h
    refine ⟨_, pss_cons (ps_if (pt_cmpR op_gt (pe_ix ix_list (pv 0) pe_int (fun _ _ => rfl)) pe_int (nomark _))
        (pss_cons (ps_set (i := 2) scTake.nd rfl (.inl rfl) (pe_op op_mod (pe_callTy call_int1 (by rfl) mi (by decide +kernel) (pa_cons (pe_ix ix_list (pv 0) pe_int (fun _ _ => rfl)) pa_nil)) (pv 1)))
        (pss_cons (ps_asg (pe_op op_fdiv (pe_ix ix_list (pv 0) pe_int (fun _ _ => rfl)) (pv 1)) (pg_sub (pv 0) pe_int set_list))
        (pss_one (ps_ret (pv 2))))) pss_nil)
      (pss_cons (ps_asg (pe_op op_add (pe_ix ix_list (pv 0) pe_int (fun _ _ => rfl)) pe_int) (pg_sub (pv 0) pe_int set_list))
      (pss_cons (ps_set (i := 3) scTake.nd rfl (.inl rfl) (pe_ix ix_list (pe_lst (pa_cons pe_int (pa_cons pe_int (pa_cons pe_int (pa_cons pe_int (pa_cons pe_int pa_nil)))))) (pe_op op_mod (pe_callTy call_int1 (by rfl) mi (by decide +kernel) (pa_cons (pe_ix ix_list (pv 0) pe_int (fun _ _ => rfl)) pa_nil)) pe_int) (fun _ _ => rfl)))
      (pss_cons (ps_set (i := 4) scTake.nd rfl (.inl rfl) (pe_op op_mod (pe_callTy call_int1 (by rfl) mi (by decide +kernel) (pa_cons (pe_op op_pow (pe_callTy call_int1 (by rfl) mi (by decide +kernel) (pa_cons
          (pe_op op_add (pe_op op_add (pe_ix ix_list (pv 0) pe_int (fun _ _ => rfl)) (pe_op op_mul (pe_op op_mul pe_int (pe_ix ix_list (pv 0) pe_int (fun _ _ => rfl))) (pe_ix ix_list (pv 0) pe_int (fun _ _ => rfl)))) pe_int) pa_nil)) pe_int) pa_nil)) (pv 3)))
      (pss_cons (ps_set (i := 4) scTake.nd rfl (.inl rfl) (pe_op op_mod (pe_callTy call_int1 (by rfl) mi (by decide +kernel) (pa_cons (pe_op op_mul (pv 4)
          (pe_op op_add (pe_op op_mod (pe_callTy call_int1 (by rfl) mi (by decide +kernel) (pa_cons (pv 4) pa_nil)) pe_int) (pe_op op_mul pe_int (pe_ix ix_list (pv 0) pe_int (fun _ _ => rfl))))) pa_nil)) pe_int))
      (pss_one (ps_ret (pe_op op_mod (pe_callTy call_int1 (by rfl) mi (by decide +kernel) (pa_cons (pe_op op_fdiv (pv 4) pe_int) pa_nil)) (pv 1)))))))), ?_⟩
    have i0 : ∀ {x y z : Int}, atI [V.int x, V.int y, V.int z] 0 = some (.int x) := at_of (j := 0) rfl rfl
    have i1 : ∀ {x y z : Int}, atI [V.int x, V.int y, V.int z] 1 = some (.int y) := at_of (j := 1) rfl rfl
    have i2 : ∀ {x y z : Int}, atI [V.int x, V.int y, V.int z] 2 = some (.int z) := at_of (j := 2) rfl rfl
    refine ⟨.ref p, rfl, p, _, 0, _, rfl, rfl, SqL.of hp, i0, a, 0, rfl, rfl, _, rfl, ite2 (fun e => ?_) (fun e => ?_)⟩
    · have ha : 0 < a := of_decide_eq_true e
      refine ⟨.ref p, rfl, p, _, 0, _, rfl, rfl, SqL.of hp, i0, .inl ⟨a, rfl, _, rfl, a, u, rfl, rfl, hu0, ?_⟩⟩
      refine ⟨.ref p, rfl, p, _, 0, _, rfl, rfl, SqL.of hp, i0, _, rfl, a, u, rfl, rfl, ⟨hu0, by omega⟩, ?_⟩
      refine ⟨.ref p, rfl, p, _, 0, 0, rfl, rfl, hp, rfl, _, rfl, ?_⟩
      refine q (a % u) _ (Int.emod_nonneg _ (by omega)) (Int.emod_lt_of_pos _ hu0) ⟨a / u, b, c, upd_same, hb0, hb1, hc0, by omega⟩ ?_
      rw [wo_upd]
      exact Same.refl _
    · refine ⟨.ref p, rfl, p, _, 2, _, rfl, rfl, SqL.of hp, i2, c, 1, rfl, rfl, ?_⟩
      refine ⟨.ref p, rfl, p, _, 2, 2, rfl, rfl, hp, rfl, ?_⟩
      have hp2 : upd H p (.lst ([V.int a, .int b, .int c].set 2 (.int (c + 1)))) p = some (.lst [.int a, .int b, .int (c + 1)]) := upd_same
      refine ⟨by show 5 ≤ sizeLine; decide, fun l nl => ?_⟩
      have hpl : p ≠ l := ne_of_none hp2 nl
      have hp3 : upd (upd H p (.lst ([V.int a, .int b, .int c].set 2 (.int (c + 1))))) l (.lst [.int 2147483647, .int 2147483629, .int 2147483587, .int 2147483579, .int 2147483563]) p = some (.lst [.int a, .int b, .int (c + 1)]) := by rw [upd_ne hpl]; exact hp2
      have hprime : ∃ pr : Int, atI [V.int 2147483647, .int 2147483629, .int 2147483587, .int 2147483579, .int 2147483563] ((c + 1) % 5) = some (.int pr) ∧ 0 < pr ∧ pr < 2147483648 := by
        have h5 : (c + 1) % 5 = 0 ∨ (c + 1) % 5 = 1 ∨ (c + 1) % 5 = 2 ∨ (c + 1) % 5 = 3 ∨ (c + 1) % 5 = 4 := by omega
        rcases h5 with h | h | h | h | h <;> rw [h]
        · exact ⟨_, at_of (j := 0) rfl rfl, by decide, by decide⟩
        · exact ⟨_, at_of (j := 1) rfl rfl, by decide, by decide⟩
        · exact ⟨_, at_of (j := 2) rfl rfl, by decide, by decide⟩
        · exact ⟨_, at_of (j := 3) rfl rfl, by decide, by decide⟩
        · exact ⟨_, at_of (j := 4) rfl rfl, by decide, by decide⟩
      obtain ⟨pr, hpr, pr0, pr1⟩ := hprime
      refine ⟨.ref p, rfl, p, _, 2, _, rfl, rfl, SqL.of hp3, i2, .inl ⟨c + 1, rfl, c + 1, 5, rfl, rfl, (by show (0 : Int) < 5; decide), ?_⟩⟩
      refine ⟨l, _, (c + 1) % 5, .int pr, rfl, rfl, SqL.of upd_same, hpr, ?_⟩
      -- blend
      refine ⟨.ref p, rfl, p, _, 1, _, rfl, rfl, SqL.of hp3, i1, .ref p, rfl, p, _, 2, _, rfl, rfl, SqL.of hp3, i2, 112517, c + 1, rfl, rfl, .inl ⟨by decide, by decide⟩, ?_⟩
      have hcc : 0 ≤ 112517 * (c + 1) ∧ 112517 * (c + 1) ≤ 112517 * 1000000 := by omega
      refine ⟨.ref p, rfl, p, _, 2, _, rfl, rfl, SqL.of hp3, i2, 112517 * (c + 1), c + 1, rfl, rfl, .inl ⟨by omega, by omega⟩, ?_⟩
      have hsq : 0 ≤ 112517 * (c + 1) * (c + 1) ∧ 112517 * (c + 1) * (c + 1) ≤ 112517 * 1000000 * 1000000 := ⟨Int.mul_nonneg hcc.1 (by omega), Int.mul_le_mul hcc.2 (by omega) (by omega) (by omega)⟩
      refine ⟨b, 112517 * (c + 1) * (c + 1), rfl, rfl, b + 112517 * (c + 1) * (c + 1), 2408, rfl, rfl, .inl ⟨_, rfl, ?_⟩⟩
      refine ⟨_, 3, rfl, rfl, ⟨by decide, by decide, by omega⟩, .inl ⟨_, rfl, _, rfl, _, pr, rfl, rfl, pr0, ?_⟩⟩
      generalize hz : (b + 112517 * (c + 1) * (c + 1) + 2408) ^ (3 : Int).toNat = z
      have hm1 : 0 ≤ z % pr := Int.emod_nonneg _ (by omega)
      have hm2 : z % pr < pr := Int.emod_lt_of_pos _ pr0
      refine ⟨_, rfl, _, rfl, .inl ⟨_, rfl, _, 13499, rfl, rfl, (by show (0 : Int) < 13499; decide), ?_⟩⟩
      refine ⟨.ref p, rfl, p, _, 2, _, rfl, rfl, SqL.of hp3, i2, 558, c + 1, rfl, rfl, .inl ⟨by decide, by decide⟩, _, _, rfl, rfl, ?_⟩
      refine ⟨z % pr, _, rfl, rfl, .inl ⟨by omega, by omega⟩, .inl ⟨_, rfl, _, 2305843009213693907, rfl, rfl, (by show (0 : Int) < 2305843009213693907; decide), ?_⟩⟩
      refine ⟨_, rfl, _, 167, rfl, rfl, ⟨by decide, by decide⟩, .inl ⟨_, rfl, _, rfl, _, u, rfl, rfl, hu0, ?_⟩⟩
      refine q _ _ (Int.emod_nonneg _ (by omega)) (Int.emod_lt_of_pos _ hu0) ⟨a, b, c + 1, hp3, hb0, hb1, by omega, by omega⟩ fun x o e => ?_
      have hx : x ≠ p := fun z => by
        rw [z, wo_same] at e
        cases e
      rw [wo_ne hx] at e ⊢
      have nl2 := nl
      rw [upd_ne hpl.symm] at nl2
      rw [upd_ne (fun z => by rw [z, nl2] at e; cases e), upd_ne hx]
      exact e
/-- some[..]: any item of it -/
def spOf (K : PySem.W.Frag) : Sp := fun vs H Q _ => ∃ (p l : Addr) (xs : List V) (n : Nat), vs = [.ref p, .ref l] ∧ SqL K (wo H p) l xs ∧ xs ≠ [] ∧ xs.length ≤ 1000 ∧ Pot H p n ∧ n < 1000000 ∧ ∀ x ∈ xs, ∀ H', Pot H' p (n + 1) → Same (wo H p) (wo H' p) → Q x H'
theorem ok_of {f f1 : Addr} {fd fd1 : FuncData} {k : Nat} (F : Fun K "_law_of" "_law_of" sOf f fd) (G1 : FnOk P w K mg base CX0 (k + 1) f1 fd1 ["pot", "upto"] spTake) (k1 : PySem.W.keepIn K (.ref f1) = true) (b1 : Binds K fd1 ["pot", "upto"] []) (g1 : mg "_law_take" = some (.ref f1)) (ml : mg "len" = none) :
    FnOk P w K mg base CX0 (k + 2) f fd ["pot", "some"] (spOf K) := by
  refine F.ok scOf (fun vs H Q E h => ?_) (fun cdv A outer s H vs Q E hr h => ?_)
  · obtain ⟨p, l, xs, n, rfl, _⟩ := h
    rfl
  · obtain ⟨p, l, xs, n, rfl, hl, hne, hlen, hp, hn, q⟩ := h
    refine ⟨_, pss_one (ps_ret (pe_ix ix_list (pv 1) (pe_call G1 hr (by rfl) g1 k1 b1 .nil pass0 (pa_cons (pv 0) (pa_cons (pe_callB call_len_seq (by rfl) ml PySem.boot_len (pa_cons (pv 1) pa_nil)) pa_nil))) (fun _ _ => rfl))), ?_⟩
    have h0 : 0 < xs.length := List.length_pos_iff.mpr hne
    refine ⟨.ref l, rfl, .ref p, rfl, .ref l, rfl, l, xs, rfl, .inl (wo_le.seq hl), ?_⟩
    refine ⟨p, (xs.length : Nat), n, rfl, by omega, by omega, hp, hn, fun d H' d0 d1 hp' s' => ?_⟩
    have ed : d = ((d.toNat : Nat) : Int) := by omega
    have hd : d.toNat < xs.length := by omega
    exact ⟨l, xs, d, xs[d.toNat], rfl, rfl, wo_le.seq (s'.seq hl), at_of ed (List.getElem?_eq_getElem hd), q _ (List.getElem_mem hd) H' hp' s'⟩
end
section
variable {P : Program} {w : World} {K : PySem.W.Frag} {mg : Str → Option Value} {base : Heap}
/-- the cells: [0], or [0, 1] -/
def spCells (K : PySem.W.Frag) : Sp := fun vs H Q _ => ∃ (a : Addr) (ns : List Int), vs = [.ref a, .int 1] ∧ SqL K H a (ns.map V.int) ∧ ns.length ≤ 63 ∧ ∀ (q : Addr) (m : Nat), m ≤ 1 → H q = none → Q (.ref q) (upd H q (.lst ((List.range m).map fun i => V.int (i : Nat))))
theorem ok_cells {f : Addr} {fd : FuncData} {k : Nat} (F : Fun K "_law_cells" "_law_cells" sCells f fd) (ml : mg "list" = none) (mr : mg "range" = none) (mx : mg "max" = none) (mn : mg "min" = none) (me : mg "len" = none) : FnOk P w K mg base CX0 (k + 1) f fd ["script", "most"] (spCells K) := by
  refine F.ok scCells (fun vs H Q E h => ?_) (fun cdv A outer s H vs Q E hr h => ?_)
  · obtain ⟨a, ns, rfl, _⟩ := h
    rfl
  · obtain ⟨a, ns, rfl, hs, hn, q⟩ := h
    refine ⟨_, pss_one (ps_ret (pe_listRg rfl (by rfl) ml (prg_1 (by rfl) mr (pe_callB (call_max2 rfl) (by rfl) mx (by decide +kernel) (pa_cons pe_int (pa_cons (pe_callB (call_min2 rfl) (by rfl) mn (by decide +kernel) (pa_cons (pv 1) (pa_cons (pe_callB call_len_seq (by rfl) me PySem.boot_len (pa_cons (pv 0) pa_nil)) pa_nil))) pa_nil)))))), ?_⟩
    refine ⟨_, rfl, .ref a, rfl, a, _, rfl, .inl hs, 1, _, rfl, 1, _, rfl, _, rfl, ?_⟩
    have key : ∀ x : Int, 0 ≤ x → x ≤ 1 → RgOk 0 x ∧ ∀ q_1, H q_1 = none → Q (.ref q_1) (upd H q_1 (.lst (rgV 0 x))) := fun x h0 h2 => by
      refine ⟨RgOk.of_le (by omega) (by omega) (by omega) (by omega), fun p hp => ?_⟩
      have e : rgV 0 x = (List.range x.toNat).map fun i => V.int (i : Nat) := by
        unfold rgV
        rw [Int.sub_zero]
        simp
      rw [e]
      exact q p x.toNat (by omega) hp
    have l63 : ((((ns.map V.int).length : Nat)) : Int) ≥ 0 := Int.natCast_nonneg _
    refine key _ ?_ ?_ <;> split <;> (try split) <;> omega
/-- a new pot of a cell -/
def spPot (K : PySem.W.Frag) : Sp := fun vs H Q _ => ∃ (a : Addr) (ns : List Int) (i : Nat), vs = [.ref a, .int (i : Nat)] ∧ SqL K H a (ns.map V.int) ∧ ns.length ≤ 63 ∧ i ≤ 2 ∧ ∀ (q : Addr) (H' : Hp), H q = none → Same H H' → Pot H' q 0 → Q (.ref q) H'
theorem ok_pot {f : Addr} {fd : FuncData} {k : Nat} (F : Fun K "_law_pot" "_law_pot" sPot f fd) (ml : mg "len" = none) (ms : mg "sum" = none) (mi : mg "int" = none) (ma : mg "abs" = none) : FnOk P w K mg base CX0 (k + 1) f fd ["script", "place"] (spPot K) := by
  refine F.ok scPot (fun vs H Q E h => ?_) (fun cdv A outer s H vs Q E hr h => ?_)
  · obtain ⟨a, ns, i, rfl, _⟩ := h
    rfl
  · obtain ⟨a, ns, i, rfl, hs, hn, hi, q⟩ := h
    refine ⟨_, pss_cons (ps_set (i := 2) scPot.nd rfl (.inl rfl) (pe_ifExp (pt_cmpR op_lt (pv 1) (pe_callB call_len_seq (by rfl) ml PySem.boot_len (pa_cons (pv 0) pa_nil)) (nomark _)) (pe_ix ix_list (pv 0) (pv 1) (fun _ _ => rfl))
        (pe_op op_add (pe_op op_add (pe_op op_mod (pe_callB (cr_sum rfl) (by rfl) ms (by decide +kernel) (pa_cons (pe_slice sl_list (pv 0) po_none (po_some pe_int)) pa_nil)) pe_int) (pe_op op_mul pe_int (pv 1))) pe_int)))
      (pss_cons (ps_set (i := 3) scPot.nd rfl (.inl rfl) (pe_op op_mul (pe_op op_mod (pe_callTy call_int1 (by rfl) mi (by decide +kernel) (pa_cons (pe_callB call_abs (by rfl) ma (by decide +kernel) (pa_cons (pv 2) pa_nil)) pa_nil)) (pe_op op_powB (pe_op op_pow pe_int pe_int) pe_int))
        (pe_callTy call_int1 (by rfl) mi (by decide +kernel) (pa_cons (pe_cmpR op_ge (pe_callB call_abs (by rfl) ma (by decide +kernel) (pa_cons (pv 2) pa_nil)) (pe_op op_pow pe_int pe_int) (nomark _)) pa_nil))))
      (pss_cons (ps_set (i := 4) scPot.nd rfl (.inl rfl) (pe_op op_mod (pe_callTy call_int1 (by rfl) mi (by decide +kernel) (pa_cons (pv 2) pa_nil)) pe_int))
      (pss_one (ps_ret (pe_lst (pa_cons (pv 3) (pa_cons (pe_op op_mod (pe_callTy call_int1 (by rfl) mi (by decide +kernel) (pa_cons (pe_op op_add (pe_op op_add (pe_op op_mul (pv 4) pe_int) (pe_op op_mul (pe_op op_mul pe_int (pv 1)) (pv 1))) pe_int) pa_nil)) pe_int) (pa_cons pe_int pa_nil)))))))), ?_⟩
    refine st_seq (st_setH (PV := fun v H' => ∃ c : Int, v = .int c ∧ Same H H') (fun Q1 q1 => ?_) ?_)
    · refine ⟨_, rfl, .ref a, rfl, a, _, rfl, .inl hs, (i : Nat), ((ns.map V.int).length : Nat), rfl, rfl, _, rfl, ite2 (fun e => ?_) (fun e => ?_)⟩
      · have hlt : i < (ns.map V.int).length := by
          have := of_decide_eq_true e
          omega
        have hlt2 : i < ns.length := by rw [List.length_map] at hlt; exact hlt
        refine ⟨.ref a, rfl, _, rfl, a, _, (i : Nat), .int ns[i], rfl, rfl, hs, at_of rfl (by rw [List.getElem?_map, List.getElem?_eq_getElem hlt2]; rfl), ?_⟩
        exact q1 _ _ ⟨_, rfl, Same.refl H⟩
      · refine ⟨.ref a, rfl, ?_⟩
        unfold tNoPart
        refine ⟨((1 : Nat) : Int), rfl, a, _, rfl, hs, fun l nl => ?_⟩
        have e1 : cutV (ns.map V.int) none (some ((1 : Nat) : Int)) = (ns.take 1).map V.int := by rw [cut_take, List.map_take]
        refine ⟨l, ns.take 1, rfl, SqL.of (by rw [upd_same, ← e1]), ?_⟩
        refine ⟨_, 1000003, rfl, rfl, (by show (0 : Int) < 1000003; decide), _, rfl, 2479, (i : Nat), rfl, rfl, .inl ⟨by decide, by decide⟩, _, _, rfl, rfl, _, 1013, rfl, rfl, ?_⟩
        exact q1 _ _ ⟨_, rfl, same_upd nl⟩
    rintro v H1 ⟨c, rfl, s1⟩
    refine ⟨_, rfl, c, rfl, .inl ⟨_, rfl, 10, 60, rfl, rfl, ⟨by decide, by decide, by decide⟩, _, 5, rfl, rfl, ⟨by decide, by decide +kernel⟩, _, _, rfl, rfl, (by show (0 : Int) < _; decide +kernel), ?_⟩⟩
    refine ⟨_, rfl, c, rfl, 10, 18, rfl, rfl, ⟨by decide, by decide, by decide⟩, _, _, rfl, rfl, .inr ⟨_, rfl, _, _, rfl, rfl, .inr ?_, ?_⟩⟩
    · exact (by decide : ∀ z : Bool, -(2 ^ 64) < (if z = true then (1 : Int) else 0) ∧ (if z = true then (1 : Int) else 0) < 2 ^ 64) _
    refine ⟨_, rfl, .inl ⟨c, rfl, c, 2305843009213693951, rfl, rfl, (by show (0 : Int) < 2305843009213693951; decide), ?_⟩⟩
    refine ⟨_, rfl, _, rfl, _, 92069, rfl, rfl, .inr ⟨by decide, by decide⟩, _, rfl, 14597, (i : Nat), rfl, rfl, .inl ⟨by decide, by decide⟩, _, rfl, _, (i : Nat), rfl, rfl, .inr ⟨by omega, by omega⟩, ?_⟩
    refine ⟨_, _, rfl, rfl, _, 1344, rfl, rfl, .inl ⟨_, rfl, _, 2305843009213693921, rfl, rfl, (by show (0 : Int) < 2305843009213693921; decide), ?_⟩⟩
    refine ⟨by show 3 ≤ sizeLine; decide, fun p hp => ?_⟩
    refine q p _ (s1.free hp) (s1.trans (same_upd hp)) ⟨_, _, 0, upd_same, Int.emod_nonneg _ (by decide), ?_, by decide, by decide⟩
    have := Int.emod_lt_of_pos (c % 2305843009213693951 * 92069 + 14597 * (i : Int) * (i : Int) + 1344) (show (0 : Int) < 2305843009213693921 by decide)
    omega
end
theorem scSome : FnScope ["pot", "pool", "many", "left", "found", "lap"] ["pot", "pool", "many"] (defScope sSome) := ⟨rfl, rfl, rfl, by decide +kernel, rfl, by decide +kernel, by decide +kernel⟩
section
variable {P : Program} {w : World} {K : PySem.W.Frag} {mg : Str → Option Value} {base : Heap}
/-- so many of a pool -/
def spSome (K : PySem.W.Frag) : Sp := fun vs H Q _ => ∃ (p l : Addr) (xs : List V) (m n : Nat), vs = [.ref p, .ref l, .int (m : Nat)] ∧ SqL K (wo H p) l xs ∧ m ≤ xs.length ∧ xs.length ≤ 1000 ∧ Pot H p n ∧ n + m < 1000000 ∧
  ∀ H' q ys, Pot H' p (n + m) → Same (wo H p) (wo H' p) → wo H' p q = some (.lst ys) → ys.length = m → (∀ y ∈ ys, y ∈ xs) → Q (.ref q) H'
theorem ok_some {f f1 : Addr} {fd fd1 : FuncData} {k : Nat} (F : Fun K "_law_some" "_law_some" sSome f fd) (G1 : FnOk P w K mg base CX0 (k + 1) f1 fd1 ["pot", "upto"] spTake) (k1 : PySem.W.keepIn K (.ref f1) = true) (b1 : Binds K fd1 ["pot", "upto"] []) (g1 : mg "_law_take" = some (.ref f1))
    (ml : mg "list" = none) (mr : mg "range" = none) (me : mg "len" = none) : FnOk P w K mg base CX0 (k + 2) f fd ["pot", "pool", "many"] (spSome K) := by
  refine F.ok scSome (fun vs H Q E h => ?_) (fun cdv A outer s H vs Q E hr h => ?_)
  · obtain ⟨p, l, xs, m, n, rfl, _⟩ := h
    rfl
  · obtain ⟨p, l, xs, m, n, rfl, hl, hm, hlen, hp, hn, q⟩ := h
    refine ⟨_, pss_cons (ps_par (i := 3) (j := 4) (by rfl) scSome.nd rfl rfl (by decide) rfl rfl (pa_cons (pe_callTy call_list_of (by rfl) ml (by decide +kernel) (pa_cons (pv 1) pa_nil)) (pa_cons (pe_lst pa_nil) pa_nil)) (by rfl))
      (pss_cons (ps_for PassesOwn.never rfl (pi_range1 (by rfl) mr (pa_cons (pv 2) pa_nil)) (pg_name (i := 5) scSome.nd rfl (.inl rfl))
        (pss_one (ps_expr (pe_bm PySem.F.plainAttrs_list PySem.F.slot_list_append PySem.F.type_list_append mt_append (pv 4) (pa_cons (pe_bm PySem.F.plainAttrs_list PySem.F.slot_list_pop PySem.F.type_list_pop mt_popAt (pv 3) (pa_cons
          (pe_call G1 hr (by rfl) g1 k1 b1 .nil pass0 (pa_cons (pv 0) (pa_cons (pe_callB call_len_seq (by rfl) me PySem.boot_len (pa_cons (pv 3) pa_nil)) pa_nil))) pa_nil)) pa_nil)))))
      (pss_one (ps_ret (pv 4)))), ?_⟩
    refine ⟨.ref l, rfl, l, xs, rfl, .inl (wo_le.seq hl), fun L nL => ?_⟩
    have s1 := same_upd (o := .lst xs) nL
    refine ⟨Nat.zero_le _, fun Fo nF => ⟨.ref L, .ref Fo, rfl, ?_⟩⟩
    have s2 := s1.trans (same_upd (o := .lst []) nF)
    have nF0 : H Fo = none := s1.free nF
    obtain ⟨pa, pb, pc, epp, _⟩ := id hp
    have pL : L ≠ p := (ne_of_none epp nL).symm
    have pF : Fo ≠ p := (ne_of_none epp nF0).symm
    have LF : L ≠ Fo := ne_of_none upd_same nF
    refine ⟨_, rfl, (m : Nat), rfl, by omega, by omega, for_range (n := m) (fun i σ H' => ∃ y5 ls fs, σ = [some (.ref p), some (.ref l), some (.int (m : Nat)), some (.ref L), some (.ref Fo), y5] ∧ Pot H' p (n + i) ∧ Same (wo H p) (wo H' p) ∧
      H' L = some (.lst ls) ∧ H' Fo = some (.lst fs) ∧ ls.length = xs.length - i ∧ fs.length = i ∧ (∀ y ∈ ls, y ∈ xs) ∧ ∀ y ∈ fs, y ∈ xs) ⟨none, xs, [], rfl, hp.same s2, wo_same_of s2, ?_, upd_same, by omega, rfl, fun y h => h, fun y h => by cases h⟩ (fun i σ H' hi hP => ?_) fun σ H' hP => ?_⟩
    · rw [upd_ne LF]
      exact upd_same
    · obtain ⟨y5, ls, fs, rfl, hp', sm, hL, hF, ll, lf, al, af⟩ := hP
      refine ⟨.ref Fo, rfl, .inl ⟨rfl, _, SqL.of hF⟩, .ref L, rfl, .inl ⟨rfl, _, SqL.of hL⟩, .ref p, rfl, .ref L, rfl, L, ls, rfl, .inl (SqL.of hL), ?_⟩
      refine ⟨p, (ls.length : Nat), n + i, rfl, by omega, by omega, hp', by omega, fun d H2 d0 d1 hp2 sd => ?_⟩
      have hL2 : H2 L = some (.lst ls) := wo_le _ _ (sd _ _ (wo_at hL pL))
      have hF2 : H2 Fo = some (.lst fs) := wo_le _ _ (sd _ _ (wo_at hF pF))
      have hd : d.toNat < ls.length := by omega
      have eix : ixN ls.length d = some d.toNat := by
        unfold ixN
        rw [if_pos d0, if_pos d1]
      refine ⟨L, ls, d, d.toNat, ls[d.toNat], rfl, rfl, hL2, by omega, by omega, (ixN_seq eix).1, List.getElem?_eq_getElem hd, ?_⟩
      refine ⟨Fo, _, _, rfl, rfl, (by rw [upd_ne LF.symm]; exact hF2), small1000 (by omega), ?_⟩
      refine ⟨_, ls.eraseIdx d.toNat, fs ++ [ls[d.toNat]], rfl, ?_, wo_updNew (wo_updNew (sm.trans sd) nL) nF0, ?_, upd_same, ?_, ?_, ?_, ?_⟩
      · obtain ⟨a1, b1', c1, e1, r1⟩ := hp2
        exact ⟨a1, b1', c1, (by rw [upd_ne pF.symm, upd_ne pL.symm]; exact e1), r1⟩
      · rw [upd_ne LF]
        exact upd_same
      · rw [List.length_eraseIdx, if_pos hd]
        omega
      · rw [List.length_append, lf]
        rfl
      · exact fun y hy => al y (List.mem_of_mem_eraseIdx hy)
      · intro y hy
        rcases List.mem_append.mp hy with h | h
        · exact af y h
        · rw [List.mem_singleton.mp h]
          exact al _ (List.getElem_mem hd)
    · obtain ⟨y5, ls, fs, rfl, hp', sm, hL, hF, ll, lf, al, af⟩ := hP
      exact ⟨_, rfl, q H' Fo fs hp' sm (wo_at hF pF) lf af⟩
end
section
variable {X : Cx} {pins : List (Addr × Obj)} {σ : L2.St} {H : Hp} {s : Shared}
theorem scHeard : FnScope ["call", "caught", "back", "error"] ["call"] (defScope sHeard) := ⟨rfl, rfl, rfl, by decide +kernel, rfl, by decide +kernel, by decide +kernel⟩
theorem pe_heard {ι : Type} {D : ι → LamD} {tb : ι → XK → TE} {te : TE} {g CS : Addr} {fd : FuncData} {e : Expr} {k : Nat} {p pos : Pos} (F : Fun X.K "_law_heard" "_law_heard" sHeard g fd) (b : L2.Binds X.K fd ["call"] []) (hg : Gl X "_law_heard") (hm : X.mg "_law_heard" = some (.ref g))
    (gS : X.mg "CoreError" = some (.ref CS)) (hr : Room (k + 2) X.A) (he : PE X e te) (L : ∀ j, LamS X.env.scope (D j).scope)
    (hbind : ∀ (j : ι) (pm cv ctv : Value), bindArgs (PySem.W.kla_fn "<lambda>" (X.env.qual ++ "<lambda>") (D j).params (D j).body (D j).scope (cloFrom X.env.cells (D j).scope.names []) pm cv ctv) ⟨[], []⟩ = pure [])
    (hbody : ∀ (j : ι) (A : Around) (outer : List Env) (s : Shared) (H : Hp) (E : XK) (f c' : Addr), Room k (A.deeper (lamEnv X (D j).scope s.heap.objs.size f c')) → PE (lamCx X A outer s H E (D j).scope f c') (D j).body (tb j E))
    (hs : starEach [e] X.env = (false, eval e X.env) :: starEach [] X.env := by rfl) (hpl : (backTo pos (starEach [] X.env)).any (·.1) = false := by rfl) :
    PE X (.Call (.Name "_law_heard" p) [e] [] pos) (tHeard X CS D tb te) := by
  obtain ⟨oc, od, kV, doc, pm, an, cdv, ct, osl, rfl, lk, hcd⟩ := F.ex
  refine ⟨fun pins s σ H Q I h => wpAny_Call_Name_kw (ld_glob I hg hm ?_ (by decide))⟩
  refine PySem.W.callWith_K (h₀ := X.base) I.ok.mod.kin F.kp ?_ hs hpl
  rw [hs] at *
  refine Calls.spliced_cons (thn (he.run pins s σ H _ I h) fun u s1 ⟨v, H1, I1, r1, j, f, ev, hl, th⟩ => Calls.spliced_nil ⟨I1.kIn, ?_⟩)
  subst ev
  obtain rfl : u = Value.ref f := r1
  have rc : codeAny (model X.prog X.w) X.A (.call (.ref g) ⟨[.ref f], []⟩) (CR CX0 X.stack X.prog X.w H1 s1 Q (fun _ _ _ => False)) s1 := by
    refine run_ofS (N := ["call", "caught", "back", "error"]) (ps := ["call"]) (us := [.ref f]) (vs := [.ref f]) lk hcd scHeard hr I1.env0 (b s1 [.ref f] I1.kIn rfl) (.cons rfl .nil) rfl fun hr' => ?_
    have hge : (defScope sHeard).names.lookup (Str.ofString "CoreError") = some NameKind.globalImplicit := by decide +kernel
    refine ⟨_, PSs.nox (pss_cons (ps_asg (pe_tup (pa_cons pe_non (pa_cons pe_non pa_nil))) (pg_tup (by rfl) (pgs_cons (pg_name (i := 1) scHeard.nd rfl (.inl rfl)) (pgs_cons (pg_name (i := 2) scHeard.nd rfl (.inl rfl)) pgs_nil))))
      (pss_cons (ps_heard (c := .ref CS) (i := 3) rfl rfl scHeard.nd rfl rfl ⟨hge, by decide, .inl gS⟩
        (fun W pn xe tk _ => pss_one (ps_set (i := 2) scHeard.nd rfl (.inl rfl) (pe_actT (CXg := CX0) (Eg := fun _ _ _ => False) (i := 0) I1 (L j) (hbind j) tk hr' (fun A outer s H E c' hr2 => hbody j A outer s H E f c' hr2) rfl (.inl rfl))))
        (fun a oe cls d pn _ _ => pss_one (ps_set (i := 1) scHeard.nd rfl (.inl rfl) (pv 3))))
      (pss_one (ps_ret (pe_tup (pa_cons (pv 1) (pa_cons (pv 2) pa_nil))))))), ?_⟩
    refine ⟨by show 2 ≤ sizeLine; decide, fun pn nn => ⟨pn, [.non, .non], rfl, SqT.of upd_same, rfl, .non, [.non], rfl, .non, [], rfl, rfl, rfl, hl.ext (ExtN.of (same_upd nn)), th _ (same_upd nn) _ _ (fun cls d H' hE => ?_) fun v H' hB => ?_⟩⟩
    · obtain ⟨h1, C, dd, h2, h3, h4⟩ := hE
      refine ⟨h1, C, dd, h2, h3, fun a na => ?_⟩
      exact ⟨_, rfl, fun na2 => ⟨_, rfl, _, rfl, by show 2 ≤ sizeLine; decide, fun p hp => h4 a p na hp⟩⟩
    · exact ⟨_, rfl, _, rfl, by show 2 ≤ sizeLine; decide, fun p hp => hB p hp⟩
  refine wpAny_call (codeAny_mono rc fun r s2 hq => ?_)
  cases r with
  | error e => exact (show False from hq).elim
  | ok fl => cases fl with
    | ret u => exact I1.after hq
    | next => exact False.elim hq
    | brk => exact False.elim hq
    | cont => exact False.elim hq
end
theorem scOdd : FnScope ["pot", "some"] ["pot"] (defScope sOdd) := ⟨rfl, rfl, rfl, by decide +kernel, rfl, by decide +kernel, by decide +kernel⟩
section
variable {P : Program} {w : World} {K : PySem.W.Frag} {mg : Str → Option Value} {base : Heap}
/-- any value may come: data, apart from the pot -/
def shortB : PyData → Bool
  | .str z => decide (z.length ≤ 640)
  | _ => true
def okOdd (d : PyData) : Bool := okData d && shortB d
def spOdd (K : PySem.W.Frag) : Sp := fun vs H Q _ => ∃ (p : Addr) (n : Nat), vs = [.ref p] ∧ Pot H p n ∧ n < 1000000 ∧ ∀ v d H', Pot H' p (n + 1) → Same (wo H p) (wo H' p) → Dk K (nl H H') v d → okOdd d = true → Q v H'
theorem ok_odd {f f1 : Addr} {fd fd1 : FuncData} {k : Nat} (F : Fun K "_law_odd" "_law_odd" sOdd f fd) (G1 : FnOk P w K mg base CX0 (k + 2) f1 fd1 ["pot", "some"] (spOf K)) (k1 : PySem.W.keepIn K (.ref f1) = true) (b1 : Binds K fd1 ["pot", "some"] []) (g1 : mg "_law_of" = some (.ref f1)) :
    FnOk P w K mg base CX0 (k + 3) f fd ["pot"] (spOdd K) := by
  refine F.ok scOdd (fun vs H Q E h => ?_) (fun cdv A outer s H vs Q E hr h => ?_)
  · obtain ⟨p, n, rfl, _⟩ := h
    rfl
  · obtain ⟨p, n, rfl, hp, hn, q⟩ := h
    refine ⟨_, pss_cons (ps_set (i := 1) scOdd.nd rfl (.inl rfl) (pe_lst (pa_cons pe_non (pa_cons pe_bl (pa_cons pe_bl (pa_cons pe_int (pa_cons pe_int (pa_cons (pe_un un_neg pe_int) (pa_cons pe_int (pa_cons (pe_op op_pow pe_int pe_int) (pa_cons pe_str (pa_cons pe_str (pa_cons pe_str (pa_cons pe_str (pa_cons pe_str (pa_cons pe_str
        (pa_cons (pe_tup pa_nil) (pa_cons (pe_lst pa_nil) (pa_cons pe_dnewK (pa_cons (pe_tup (pa_cons pe_int pa_nil)) (pa_cons (pe_tup (pa_cons pe_int (pa_cons pe_int pa_nil))) pa_nil)))))))))))))))))))))
      (pss_cons (ps_set (i := 1) scOdd.nd rfl (.inl rfl) (pe_op op_cat (pv 1) (pe_lst (pa_cons (pe_tup (pa_cons pe_int (pa_cons pe_int pa_nil))) (pa_cons (pe_tup (pa_cons (pe_tup pa_nil) pa_nil)) (pa_cons (pe_lst (pa_cons pe_int pa_nil)) (pa_cons (pe_tup (pa_cons pe_non pa_nil))
        (pa_cons (pe_disp (pps_cons pe_str pe_int pps_nil) (by rfl) (by rfl) (fun z => by cases z) (by decide)) (pa_cons (pe_tup (pa_cons pe_bl pa_nil)) (pa_cons pe_str (pa_cons pe_str (pa_cons (pe_tup (pa_cons pe_str pa_nil)) (pa_cons pe_int (pa_cons pe_int (pa_cons pe_int (pa_cons (pe_tup (pa_cons pe_int (pa_cons pe_int pa_nil))) pa_nil))))))))))))))))
      (pss_one (ps_ret (pe_call G1 hr (by rfl) g1 k1 b1 .nil pass0 (pa_cons (pv 0) (pa_cons (pv 1) pa_nil)))))), ?_⟩
    have hpp := hp
    obtain ⟨pa, pb, pc, hpe, _⟩ := hpp
    have p0 : Same H H := Same.refl H
    refine ⟨1, rfl, ?_⟩
    refine ⟨10, 8, rfl, rfl, (by unfold CPow; decide), ?_⟩
    refine ⟨by show 0 ≤ sizeLine; decide, fun c1 nc1 => ?_⟩
    have ec1 : c1 ≠ p := fun z => by have hz := p0 _ _ hpe; rw [← z] at hz; exact absurd (nc1.symm.trans hz) (fun y => nomatch y)
    have sc1 := same_upd (o := .tup []) nc1
    have pc1 := p0.trans sc1
    refine ⟨by show 0 ≤ sizeLine; decide, fun c2 nc2 => ?_⟩
    have ec2 : c2 ≠ p := fun z => by have hz := pc1 _ _ hpe; rw [← z] at hz; exact absurd (nc2.symm.trans hz) (fun y => nomatch y)
    have sc2 := same_upd (o := .lst []) nc2
    have pc2 := pc1.trans sc2
    refine fun c3 nc3 => ?_
    have ec3 : c3 ≠ p := fun z => by have hz := pc2 _ _ hpe; rw [← z] at hz; exact absurd (nc3.symm.trans hz) (fun y => nomatch y)
    have sc3 := same_upd (o := .dK []) nc3
    have pc3 := pc2.trans sc3
    refine ⟨by show 1 ≤ sizeLine; decide, fun c4 nc4 => ?_⟩
    have ec4 : c4 ≠ p := fun z => by have hz := pc3 _ _ hpe; rw [← z] at hz; exact absurd (nc4.symm.trans hz) (fun y => nomatch y)
    have sc4 := same_upd (o := .tup [V.int 0]) nc4
    have pc4 := pc3.trans sc4
    refine ⟨by show 2 ≤ sizeLine; decide, fun c5 nc5 => ?_⟩
    have ec5 : c5 ≠ p := fun z => by have hz := pc4 _ _ hpe; rw [← z] at hz; exact absurd (nc5.symm.trans hz) (fun y => nomatch y)
    have sc5 := same_upd (o := .tup [V.int 0, .int 1]) nc5
    have pc5 := pc4.trans sc5
    refine ⟨by show 19 ≤ sizeLine; decide, fun l1 nl1 => ?_⟩
    have el1 : l1 ≠ p := fun z => by have hz := pc5 _ _ hpe; rw [← z] at hz; exact absurd (nl1.symm.trans hz) (fun y => nomatch y)
    have sl1 := same_upd (o := .lst [V.non, .bl true, .bl false, .int 0, .int 1, .int (-1), .int 7, .int (10 ^ 8), .str "", .str "r", .str "rw", .str "wr", .str "x", .str "set r0 1", .ref c1, .ref c2, .ref c3, .ref c4, .ref c5]) nl1
    have pl1 := pc5.trans sl1
    refine ⟨_, rfl, ?_⟩
    refine ⟨by show 2 ≤ sizeLine; decide, fun d1 nd1 => ?_⟩
    have ed1 : d1 ≠ p := fun z => by have hz := pl1 _ _ hpe; rw [← z] at hz; exact absurd (nd1.symm.trans hz) (fun y => nomatch y)
    have sd1 := same_upd (o := .tup [V.int 1, .int 0]) nd1
    have pd1 := pl1.trans sd1
    refine ⟨by show 0 ≤ sizeLine; decide, fun d2 nd2 => ?_⟩
    have ed2 : d2 ≠ p := fun z => by have hz := pd1 _ _ hpe; rw [← z] at hz; exact absurd (nd2.symm.trans hz) (fun y => nomatch y)
    have sd2 := same_upd (o := .tup []) nd2
    have pd2 := pd1.trans sd2
    refine ⟨by show 1 ≤ sizeLine; decide, fun d3 nd3 => ?_⟩
    have ed3 : d3 ≠ p := fun z => by have hz := pd2 _ _ hpe; rw [← z] at hz; exact absurd (nd3.symm.trans hz) (fun y => nomatch y)
    have sd3 := same_upd (o := .tup [V.ref d2]) nd3
    have pd3 := pd2.trans sd3
    refine ⟨by show 1 ≤ sizeLine; decide, fun d4 nd4 => ?_⟩
    have ed4 : d4 ≠ p := fun z => by have hz := pd3 _ _ hpe; rw [← z] at hz; exact absurd (nd4.symm.trans hz) (fun y => nomatch y)
    have sd4 := same_upd (o := .lst [V.int 0]) nd4
    have pd4 := pd3.trans sd4
    refine ⟨by show 1 ≤ sizeLine; decide, fun d5 nd5 => ?_⟩
    have ed5 : d5 ≠ p := fun z => by have hz := pd4 _ _ hpe; rw [← z] at hz; exact absurd (nd5.symm.trans hz) (fun y => nomatch y)
    have sd5 := same_upd (o := .tup [V.non]) nd5
    have pd5 := pd4.trans sd5
    refine fun d6 nd6 => ⟨upd_same, [(.inr "a", .int 1)], rfl, by decide, ?_⟩
    have ed6 : d6 ≠ p := fun z => by have hz := pd5 _ _ hpe; rw [← z] at hz; exact absurd (nd6.symm.trans hz) (fun y => nomatch y)
    have sd6 := Same.updNew (o := .dK (mergeK [] [((.inr "a" : Key), V.int 1)])) (same_upd (o := .dK []) nd6) nd6
    have pd6 := pd5.trans sd6
    refine ⟨by show 1 ≤ sizeLine; decide, fun d7 nd7 => ?_⟩
    have ed7 : d7 ≠ p := fun z => by have hz := pd6 _ _ hpe; rw [← z] at hz; exact absurd (nd7.symm.trans hz) (fun y => nomatch y)
    have sd7 := same_upd (o := .tup [V.bl true]) nd7
    have pd7 := pd6.trans sd7
    refine ⟨by show 1 ≤ sizeLine; decide, fun d9 nd9 => ?_⟩
    have ed9 : d9 ≠ p := fun z => by have hz := pd7 _ _ hpe; rw [← z] at hz; exact absurd (nd9.symm.trans hz) (fun y => nomatch y)
    have sd9 := same_upd (o := .tup [V.str "r"]) nd9
    have pd9 := pd7.trans sd9
    refine ⟨by show 2 ≤ sizeLine; decide, fun d10 nd10 => ?_⟩
    have ed10 : d10 ≠ p := fun z => by have hz := pd9 _ _ hpe; rw [← z] at hz; exact absurd (nd10.symm.trans hz) (fun y => nomatch y)
    have sd10 := same_upd (o := .tup [V.int 0, .int 16]) nd10
    have pd10 := pd9.trans sd10
    refine ⟨by show 13 ≤ sizeLine; decide, fun l2 nl2 => ?_⟩
    have el2 : l2 ≠ p := fun z => by have hz := pd10 _ _ hpe; rw [← z] at hz; exact absurd (nl2.symm.trans hz) (fun y => nomatch y)
    have sl2 := same_upd (o := .lst [V.ref d1, .ref d3, .ref d4, .ref d5, .ref d6, .ref d7, .str "any", .str "reply", .ref d9, .int 65535, .int 65536, .int 256, .ref d10]) nl2
    have pl2 := pd10.trans sl2
    refine ⟨l1, l2, [V.non, .bl true, .bl false, .int 0, .int 1, .int (-1), .int 7, .int (10 ^ 8), .str "", .str "r", .str "rw", .str "wr", .str "x", .str "set r0 1", .ref c1, .ref c2, .ref c3, .ref c4, .ref c5], [V.ref d1, .ref d3, .ref d4, .ref d5, .ref d6, .ref d7, .str "any", .str "reply", .ref d9, .int 65535, .int 65536, .int 256, .ref d10], rfl, rfl, (((((((((sd1.trans sd2).trans sd3).trans sd4).trans sd5).trans sd6).trans sd7).trans sd9).trans sd10).trans sl2) _ _ upd_same, upd_same, (by show 32 ≤ sizeLine; decide), fun l3 nl3 => ?_⟩
    have el3 : l3 ≠ p := fun z => by have hz := pl2 _ _ hpe; rw [← z] at hz; exact absurd (nl3.symm.trans hz) (fun y => nomatch y)
    have sl3 := same_upd (o := .lst ([V.non, .bl true, .bl false, .int 0, .int 1, .int (-1), .int 7, .int (10 ^ 8), .str "", .str "r", .str "rw", .str "wr", .str "x", .str "set r0 1", .ref c1, .ref c2, .ref c3, .ref c4, .ref c5] ++ [V.ref d1, .ref d3, .ref d4, .ref d5, .ref d6, .ref d7, .str "any", .str "reply", .ref d9, .int 65535, .int 65536, .int 256, .ref d10])) nl3
    have pl3 := pl2.trans sl3
    have fc1 := wo_at ((((((((((((((((sc2.trans sc3).trans sc4).trans sc5).trans sl1).trans sd1).trans sd2).trans sd3).trans sd4).trans sd5).trans sd6).trans sd7).trans sd9).trans sd10).trans sl2).trans sl3) _ _ upd_same) ec1
    have fc2 := wo_at (((((((((((((((sc3.trans sc4).trans sc5).trans sl1).trans sd1).trans sd2).trans sd3).trans sd4).trans sd5).trans sd6).trans sd7).trans sd9).trans sd10).trans sl2).trans sl3) _ _ upd_same) ec2
    have fc3 := wo_at ((((((((((((((sc4.trans sc5).trans sl1).trans sd1).trans sd2).trans sd3).trans sd4).trans sd5).trans sd6).trans sd7).trans sd9).trans sd10).trans sl2).trans sl3) _ _ upd_same) ec3
    have fc4 := wo_at (((((((((((((sc5.trans sl1).trans sd1).trans sd2).trans sd3).trans sd4).trans sd5).trans sd6).trans sd7).trans sd9).trans sd10).trans sl2).trans sl3) _ _ upd_same) ec4
    have fc5 := wo_at ((((((((((((sl1.trans sd1).trans sd2).trans sd3).trans sd4).trans sd5).trans sd6).trans sd7).trans sd9).trans sd10).trans sl2).trans sl3) _ _ upd_same) ec5
    have fl1 := wo_at (((((((((((sd1.trans sd2).trans sd3).trans sd4).trans sd5).trans sd6).trans sd7).trans sd9).trans sd10).trans sl2).trans sl3) _ _ upd_same) el1
    have fd1 := wo_at ((((((((((sd2.trans sd3).trans sd4).trans sd5).trans sd6).trans sd7).trans sd9).trans sd10).trans sl2).trans sl3) _ _ upd_same) ed1
    have fd2 := wo_at (((((((((sd3.trans sd4).trans sd5).trans sd6).trans sd7).trans sd9).trans sd10).trans sl2).trans sl3) _ _ upd_same) ed2
    have fd3 := wo_at ((((((((sd4.trans sd5).trans sd6).trans sd7).trans sd9).trans sd10).trans sl2).trans sl3) _ _ upd_same) ed3
    have fd4 := wo_at (((((((sd5.trans sd6).trans sd7).trans sd9).trans sd10).trans sl2).trans sl3) _ _ upd_same) ed4
    have fd5 := wo_at ((((((sd6.trans sd7).trans sd9).trans sd10).trans sl2).trans sl3) _ _ upd_same) ed5
    have fd6 := wo_at (((((sd7.trans sd9).trans sd10).trans sl2).trans sl3) _ _ upd_same) ed6
    have fd7 := wo_at ((((sd9.trans sd10).trans sl2).trans sl3) _ _ upd_same) ed7
    have fd9 := wo_at (((sd10.trans sl2).trans sl3) _ _ upd_same) ed9
    have fd10 := wo_at ((sl2.trans sl3) _ _ upd_same) ed10
    have fl2 := wo_at (sl3 _ _ upd_same) el2
    have pot := hp.same pl3
    have woS : Same (wo H p) (wo _ p) := wo_same_of pl3
    refine ⟨_, rfl, _, rfl, p, l3, _, n, rfl, SqL.of (wo_at upd_same el3), by simp, by show 32 ≤ 1000; decide, pot, hn, fun x hx H' hp' s' => ?_⟩
    have qq := fun v d => q v d H' hp' (woS.trans s')
    have gg := woS.trans s'
    simp only [List.cons_append, List.nil_append, List.mem_cons, List.not_mem_nil, or_false] at hx
    rcases hx with rfl | rfl | rfl | rfl | rfl | rfl | rfl | rfl | rfl | rfl | rfl | rfl | rfl | rfl | rfl | rfl | rfl | rfl | rfl | rfl | rfl | rfl | rfl | rfl | rfl | rfl | rfl | rfl | rfl | rfl | rfl | rfl
    · exact qq _ (.none) (.dp .non) (by decide +kernel)
    · exact qq _ (.bool true) (.dp (.bl _)) (by decide +kernel)
    · exact qq _ (.bool false) (.dp (.bl _)) (by decide +kernel)
    · exact qq _ (.int 0) (.dp (.int _)) (by decide +kernel)
    · exact qq _ (.int 1) (.dp (.int _)) (by decide +kernel)
    · exact qq _ (.int (-1)) (.dp (.int _)) (by decide +kernel)
    · exact qq _ (.int 7) (.dp (.int _)) (by decide +kernel)
    · exact qq _ (.int (10 ^ 8)) (.dp (.int _)) (by decide +kernel)
    · exact qq _ (.str "") (.dp (.str _)) (by decide +kernel)
    · exact qq _ (.str "r") (.dp (.str _)) (by decide +kernel)
    · exact qq _ (.str "rw") (.dp (.str _)) (by decide +kernel)
    · exact qq _ (.str "wr") (.dp (.str _)) (by decide +kernel)
    · exact qq _ (.str "x") (.dp (.str _)) (by decide +kernel)
    · exact qq _ (.str "set r0 1") (.dp (.str _)) (by decide +kernel)
    · exact qq _ (.tuple []) (.dp (.tup (SqT.of (nl_at gg (s' _ _ fc1) fun _ z => nomatch z)) .nil)) (by decide +kernel)
    · exact qq _ (.list []) (.dp (.lst (SqL.of ((nl_new (none_of pc1 nc2)).trans (wo_le _ _ (s' _ _ fc2)))) .nil)) (by decide +kernel)
    · exact qq _ (.dict []) (.d0 (nl_at gg (s' _ _ fc3) fun _ z => nomatch z)) (by decide +kernel)
    · exact qq _ (.tuple [.int 0]) (.dp (.tup (SqT.of (nl_at gg (s' _ _ fc4) fun _ z => nomatch z)) (.cons (.int 0) .nil))) (by decide +kernel)
    · exact qq _ (.tuple [.int 0, .int 1]) (.dp (.tup (SqT.of (nl_at gg (s' _ _ fc5) fun _ z => nomatch z)) (.cons (.int 0) (.cons (.int 1) .nil)))) (by decide +kernel)
    · exact qq _ (.tuple [.int 1, .int 0]) (.dp (.tup (SqT.of (nl_at gg (s' _ _ fd1) fun _ z => nomatch z)) (.cons (.int 1) (.cons (.int 0) .nil)))) (by decide +kernel)
    · exact qq _ (.tuple [.tuple []]) (.dp (.tup (SqT.of (nl_at gg (s' _ _ fd3) fun _ z => nomatch z)) (.cons (.tup (SqT.of (nl_at gg (s' _ _ fd2) fun _ z => nomatch z)) .nil) .nil))) (by decide +kernel)
    · exact qq _ (.list [.int 0]) (.dp (.lst (SqL.of ((nl_new (none_of pd3 nd4)).trans (wo_le _ _ (s' _ _ fd4)))) (.cons (.int 0) .nil))) (by decide +kernel)
    · exact qq _ (.tuple [.none]) (.dp (.tup (SqT.of (nl_at gg (s' _ _ fd5) fun _ z => nomatch z)) (.cons .non .nil))) (by decide +kernel)
    · exact qq _ (.dict [(.str "a", .int 1)]) (.d1 (nl_at gg (s' _ _ fd6) fun _ z => nomatch z)) (by decide +kernel)
    · exact qq _ (.tuple [.bool true]) (.dp (.tup (SqT.of (nl_at gg (s' _ _ fd7) fun _ z => nomatch z)) (.cons (.bl true) .nil))) (by decide +kernel)
    · exact qq _ (.str "any") (.dp (.str _)) (by decide +kernel)
    · exact qq _ (.str "reply") (.dp (.str _)) (by decide +kernel)
    · exact qq _ (.tuple [.str "r"]) (.dp (.tup (SqT.of (nl_at gg (s' _ _ fd9) fun _ z => nomatch z)) (.cons (.str "r") .nil))) (by decide +kernel)
    · exact qq _ (.int 65535) (.dp (.int _)) (by decide +kernel)
    · exact qq _ (.int 65536) (.dp (.int _)) (by decide +kernel)
    · exact qq _ (.int 256) (.dp (.int _)) (by decide +kernel)
    · exact qq _ (.tuple [.int 0, .int 16]) (.dp (.tup (SqT.of (nl_at gg (s' _ _ fd10) fun _ z => nomatch z)) (.cons (.int 0) (.cons (.int 16) .nil)))) (by decide +kernel)
end
end K36

set_option maxRecDepth 100000
set_option maxHeartbeats 2000000
/-! k36: numbers in texts. -/
namespace K36
open PySem PySem.Spec PyProof.Rows L2 LamX VG TL
theorem scNumberOf : FnScope ["text", "sign"] ["text"] (defScope sNumberOf) := ⟨rfl, rfl, rfl, by decide +kernel, rfl, by decide +kernel, by decide +kernel⟩
theorem scNumberIn : FnScope ["text", "low", "high", "number"] ["text", "low", "high"] (defScope sNumberIn) := ⟨rfl, rfl, rfl, by decide +kernel, rfl, by decide +kernel, by decide +kernel⟩
theorem scNumberTold : FnScope ["lines", "at", "head", "bounds", "words"] ["lines", "at", "head", "bounds"] (defScope sNumberTold) := ⟨rfl, rfl, rfl, by decide +kernel, rfl, by decide +kernel, by decide +kernel⟩
theorem scLNumber : FnScope ["word", "low", "high", "sign", "number"] ["word", "low", "high"] (defScope sLNumber) := ⟨rfl, rfl, rfl, by decide +kernel, rfl, by decide +kernel, by decide +kernel⟩
theorem atN0 {c : Nat} {r : List Nat} : atI (c :: r) 0 = some c := by
  unfold atI ixN
  rw [if_pos (by decide), if_pos (by rw [List.length_cons]; omega)]
  rfl
theorem at0 {z : V} {zs : List V} : atI (z :: zs) 0 = some z := at_of (j := 0) rfl rfl
theorem at1 {y z : V} {zs : List V} : atI (y :: z :: zs) 1 = some z := at_of (j := 1) rfl rfl
theorem at2 {x y z : V} {zs : List V} : atI (x :: y :: z :: zs) 2 = some z := at_of (j := 2) rfl rfl
theorem at3 {w x y z : V} {zs : List V} : atI (w :: x :: y :: z :: zs) 3 = some z := at_of (j := 3) rfl rfl
theorem sl {m : Nat} (h : m ≤ 1000) : m ≤ sizeLine := Nat.le_of_lt (small1000 h)
theorem iteD {p A B : Prop} [Decidable p] (h : p) (a : A) : if decide p = true then A else B := by rw [if_pos (decide_eq_true h)]; exact a
theorem iteE {p A B : Prop} [Decidable p] (h : ¬ p) (b : B) : if decide p = true then A else B := by rw [if_neg (by rw [decide_eq_false h]; exact Bool.false_ne_true)]; exact b
theorem iteB {b : Bool} {A B : Prop} (h : b = true) (a : A) : if b = true then A else B := by rw [if_pos h]; exact a
theorem iteC {b : Bool} {A B : Prop} (h : b = false) (a : B) : if b = true then A else B := by rw [if_neg (by rw [h]; exact Bool.false_ne_true)]; exact a
theorem iteNE {p A B : Prop} [Decidable p] (h : ¬ p) (a : A) : if (!decide p) = true then A else B := by rw [if_pos (by rw [decide_eq_false h]; rfl)]; exact a
theorem iteEq {b c : Bool} {A B : Prop} (h : b = c) (x : if c = true then A else B) : if b = true then A else B := by rw [h]; exact x
theorem test_to {t : TT} {σ : L2.St} {H : Hp} {Q : Bool → Hp → Prop} (b : Bool) (h : ∀ R : Bool → Hp → Prop, R b H → t σ H R) (q : Q b H) : t σ H Q := h _ q
theorem four {l : List Str} (h : l.length = 4) : ∃ a b c d, l = [a, b, c, d] := by
  match l, h with
  | [a, b, c, d], _ => exact ⟨a, b, c, d, rfl⟩
theorem two {l : List Str} (h : l.length = 2) : ∃ a b, l = [a, b] := by
  match l, h with
  | [a, b], _ => exact ⟨a, b, rfl⟩
def optI : Option Int → V
  | none => .non
  | some n => .int n
theorem optI_non (o : Option Int) : decide (optI o = .non) = o.isNone := by cases o <;> rfl
theorem empty_iff {z : Str} : z = "" ↔ z.cps.toList = [] := by
  constructor
  · intro h; rw [h]; decide
  · intro h; exact str_ext (by rw [h]; decide)
theorem digS_all' (z : Str) : ((z.cps.toList.map isDig).all id) = digS z := by
  rw [List.all_map]
  rfl
theorem zero_iff {z : Str} : z = "0" ↔ z.cps.toList = [48] := by
  constructor
  · intro h; rw [h]; decide
  · intro h; exact str_ext (by rw [h]; decide)
theorem sign_zero {c : Nat} : (V.str ⟨#[c]⟩ = V.str "0") ↔ c = 48 := by
  constructor
  · intro h
    have h := V.str.inj h
    have := congrArg (fun s : Str => s.cps.toList) h
    rw [show ("0" : Str).cps.toList = [48] by decide] at this
    simpa using this
  · intro h; subst h; exact congrArg V.str (str_ext (by decide))
theorem len_list (z : Str) : z.length = z.cps.toList.length := by show z.cps.size = _; rw [Array.length_toList]
section
variable {P : Program} {w : World} {K : PySem.W.Frag} {mg : Str → Option Value} {base : Heap}
def spNumberOf : Sp := fun vs H Q _ => ∃ z : Str, vs = [.str z] ∧ z.length ≤ 640 ∧ ∀ H', Same H H' → Q (optI (numOf z)) H'
theorem ok_NumberOf {k : Nat} {f : Addr} {fd : FuncData}  (F : Fun K "number_of" "number_of" sNumberOf f fd)   (fall : mg "all" = none) (fint : mg "int" = none) : FnOk P w K mg base CX0 (k + 1) f fd ["text"] (spNumberOf) := by
  refine F.ok scNumberOf (fun vs H Q E h => ?_) (fun cdv A outer s H vs Q E hr h => ?_)
  · obtain ⟨z, rfl, _⟩ := h
    rfl
  · obtain ⟨z, rfl, hz, q⟩ := h
    refine ⟨_, (pss_cons (ps_if (PW.pt (pw_or (pt_cmpR op_eq (pv 0) pe_str (nomark _)) (pw_or1 (pt_not (pt_val (pe_callB (cr_all rfl) (by rfl) fall (by decide +kernel) (pa_cons (pe_lc (own := [("sign", 1)]) (g := (gName 1)) (tt := tYes) rfl scNumberOf.nd (pi_str (pv 0)) (blkOk_by (N := ["text", "sign"]) (sc := defScope sNumberOf) (by decide +kernel)) (fun _ _ _ _ _ => (pg_name (i := 1) scNumberOf.nd rfl (.inl rfl))) (fun _ _ _ _ _ => pts_nil) (fun _ _ _ _ _ => (pe_cmpR op_in_sign (pv 1) pe_str (by rfl)))) pa_nil))))))) (pss_one (ps_ret pe_non)) pss_nil) (pss_cons (ps_if (PW.pt (pw_and (pt_cmpR op_eq (pe_ix ix_str (pv 0) pe_int (fun _ _ => rfl)) pe_str (nomark _)) (pw_and1 (pt_cmpR op_ne (pv 0) pe_str (nomark _))))) (pss_one (ps_ret pe_non)) pss_nil) (pss_one (ps_ret (pe_callTy call_int_str (by rfl) fint (by decide +kernel) (pa_cons (pv 0) pa_nil)))))), ?_⟩
    refine ⟨.str z, rfl, rfl, _, rfl, ?_⟩
    by_cases he : z = ""
    · have q0 := q _ (Same.refl H)
      rw [show numOf z = none from if_pos (.inl (empty_iff.mp he))] at q0
      exact iteD (congrArg V.str he) q0
    · have he' : z.cps.toList ≠ [] := fun h => he (empty_iff.mpr h)
      refine iteE (fun e => he (V.str.inj e)) ⟨.str z, rfl, z, rfl, fun D nD => ?_⟩
      have s1 := same_upd (o := .lst []) nD
      have hlen := len_list z
      refine lc_any (n := z.cps.size) (fun i H' => Same H H' ∧ H' D = some (.lst (((z.cps.toList.take i).map isDig).map V.bl))) ⟨s1, upd_same⟩ (fun i H' hi _ => hi) (fun H' _ => Nat.le_refl _) (fun i x H' H'' hi hP hy => ?_) fun H' hP => ?_
      · obtain ⟨sm, hD⟩ := hP
        obtain ⟨rfl, c, hc, rfl⟩ := hy
        refine ⟨rfl, ?_⟩
        unfold tYes
        have hc' : z.cps.toList[i]? = some c := by rw [Array.getElem?_toList]; exact hc
        have hlt := (List.getElem?_eq_some_iff.mp hc').1
        refine iteT ⟨.str ⟨#[c]⟩, rfl, c, _, rfl, rfl, _, hD, small1000 (by rw [List.length_map, List.length_map, List.length_take]; omega), Same.updNew sm nD, ?_⟩
        rw [upd_same, List.take_add_one, hc', List.map_append, List.map_append]
        rfl
      · obtain ⟨sm, hD⟩ := hP
        rw [show z.cps.size = z.cps.toList.length from (Array.length_toList).symm, List.take_length] at hD
        refine ⟨D, _, rfl, SqL.of hD, _, rfl, ?_⟩
        rw [digS_all']
        have q1 := q _ sm
        cases hd : digS z with
        | false =>
          rw [show numOf z = none from if_pos (.inr (.inl hd))] at q1
          exact iteT q1
        | true =>
          refine iteF ?_
          cases hl : z.cps.toList with
          | nil => exact absurd hl he'
          | cons c r =>
            refine ⟨.str z, rfl, z, 0, c, rfl, rfl, sl (by omega), by rw [hl]; exact atN0, rfl, _, rfl, ?_⟩
            have e1 : decide (V.str ⟨#[c]⟩ = V.str "0") = decide (c = 48) := by rw [Bool.eq_iff_iff, decide_eq_true_eq, decide_eq_true_eq]; exact sign_zero
            rw [e1]
            have fin : led z = false → Q (optI (numOf z)) H' → Q (.int (valS z)) H' := fun h1 h2 => by
              rw [show numOf z = some (valS z) from if_neg (by rintro (h | h | h); exact he' h; rw [hd] at h; cases h; rw [h1] at h; cases h)] at h2
              exact h2
            have hint : intText? z = some (valS z) := intText_digits (digS_all hd) he' (by omega)
            have hle : led z = (decide (c = 48) && !decide (r = [])) := by
              rw [led_eq, hl]
              by_cases h48 : c = 48
              · subst h48
                cases r with
                | nil => rfl
                | cons x y => simp [ledL]
              · rw [decide_eq_false h48, Bool.false_and]
                unfold ledL
                split
                · rename_i e; exact absurd (List.cons.inj e).1 h48
                · rfl
            by_cases h48 : c = 48
            · refine iteD h48 ⟨.str z, rfl, rfl, _, rfl, ?_⟩
              by_cases h0 : z = "0"
              · refine iteC (by rw [h0]; decide) ⟨.str z, rfl, z, valS z, rfl, hint, hz, ?_⟩
                have hr : r = [] := by
                  have := zero_iff.mp h0
                  rw [hl, h48] at this
                  exact (List.cons.inj this).2
                exact fin (by rw [hle, decide_eq_true hr]; simp) q1
              · refine iteNE (fun e => h0 (V.str.inj e)) ?_
                have hr : r ≠ [] := fun e => h0 (zero_iff.mpr (by rw [hl, h48, e]))
                rw [show numOf z = none from if_pos (.inr (.inr (by rw [hle, decide_eq_true h48, decide_eq_false hr]; rfl)))] at q1
                exact q1
            · refine iteE h48 ⟨.str z, rfl, z, valS z, rfl, hint, hz, ?_⟩
              exact fin (by rw [hle, decide_eq_false h48, Bool.false_and]) q1
def spNumberIn : Sp := fun vs H Q _ => ∃ (z : Str) (lo hi : Int), vs = [.str z, .int lo, .int hi] ∧ z.length ≤ 640 ∧ ∀ H', Same H H' → Q (optI (numIn z lo hi)) H'
theorem ok_NumberIn {k : Nat} {f : Addr} {fd : FuncData}  (F : Fun K "number_in" "number_in" sNumberIn f fd) (gNo : Cal P w K mg base CX0 (k + 1) "number_of" ["text"] spNumberOf)   : FnOk P w K mg base CX0 (k + 2) f fd ["text", "low", "high"] (spNumberIn) := by
  obtain ⟨fNo, fdNo, GNo, kNo, bNo, mNo⟩ := gNo
  refine F.ok scNumberIn (fun vs H Q E h => ?_) (fun cdv A outer s H vs Q E hr h => ?_)
  · obtain ⟨z, lo, hi, rfl, _⟩ := h
    rfl
  · obtain ⟨z, lo, hi, rfl, hz, q⟩ := h
    refine ⟨_, (pss_cons (ps_set (i := 3) scNumberIn.nd rfl (.inl rfl) (pe_call GNo hr (by rfl) mNo kNo bNo .nil pass0 (pa_cons (pv 0) pa_nil))) (pss_cons (ps_if (PW.pt (pw_or (pt_cmpR op_isN (pv 3) pe_non (nomark _)) (pw_or1 (pt_not (pt_chain op_le op_le (pv 1) (pv 3) (pv 2)))))) (pss_one (ps_ret pe_non)) pss_nil) (pss_one (ps_ret (pv 3))))), ?_⟩
    refine ⟨.str z, rfl, z, rfl, hz, fun H1 s1 => ?_⟩
    have q1 := q _ s1
    unfold numIn at q1
    cases e : numOf z with
    | none =>
      rw [e] at q1
      exact ⟨.non, rfl, rfl, _, rfl, iteD rfl q1⟩
    | some n =>
      rw [e] at q1
      refine ⟨.int n, rfl, rfl, _, rfl, iteE (fun y => nomatch y) ⟨_, rfl, _, rfl, lo, n, rfl, rfl, _, rfl, ?_⟩⟩
      by_cases h1 : lo ≤ n
      · refine iteD h1 ⟨.int hi, rfl, n, hi, rfl, rfl, _, rfl, ?_⟩
        by_cases h2 : n ≤ hi
        · rw [decide_eq_true h2]
          simp only [if_pos (And.intro h1 h2)] at q1
          exact iteF ⟨_, rfl, q1⟩
        · rw [decide_eq_false h2]
          simp only [if_neg (fun y : lo ≤ n ∧ n ≤ hi => h2 y.2)] at q1
          exact iteT q1
      · refine iteE h1 ⟨_, rfl, ?_⟩
        simp only [if_neg (fun y : lo ≤ n ∧ n ≤ hi => h1 y.1)] at q1
        exact iteT q1
/-- the number that a line with this head tells -/
def toldN (ls : List Str) (i : Nat) (head : Str) (lo hi : Int) : Option Int := match ls[i]? with
  | some l => match Txt.split l " " with
    | [a, b] => if a = head then numIn b lo hi else none
    | _ => none
  | none => none
def spNumberTold (K : PySem.W.Frag) : Sp := fun vs H Q _ => ∃ (a b : Addr) (ls : List Str) (i : Nat) (head : Str) (lo hi : Int), vs = [.ref a, .int (i : Nat), .str head, .ref b] ∧ SqL K H a (ls.map V.str) ∧ SqT K H b [.int lo, .int hi] ∧ (∀ l ∈ ls, l.length ≤ 640) ∧ ∀ H', Same H H' → Q (optI (toldN ls i head lo hi)) H'
theorem ok_NumberTold {k : Nat} {f : Addr} {fd : FuncData}  (F : Fun K "number_told" "number_told" sNumberTold f fd) (gNi : Cal P w K mg base CX0 (k + 2) "number_in" ["text", "low", "high"] spNumberIn)  (flen : mg "len" = none) : FnOk P w K mg base CX0 (k + 3) f fd ["lines", "at", "head", "bounds"] (spNumberTold K) := by
  obtain ⟨fNi, fdNi, GNi, kNi, bNi, mNi⟩ := gNi
  refine F.ok scNumberTold (fun vs H Q E h => ?_) (fun cdv A outer s H vs Q E hr h => ?_)
  · obtain ⟨a, b, ls, i, head, lo, hi, rfl, _⟩ := h
    rfl
  · obtain ⟨a, b, ls, i, head, lo, hi, rfl, ha, hb, hl, q⟩ := h
    refine ⟨_, (pss_cons (ps_set (i := 4) scNumberTold.nd rfl (.inl rfl) (pe_ifExp (pt_cmpR op_lt (pv 1) (pe_callB call_len_seq (by rfl) flen PySem.boot_len (pa_cons (pv 0) pa_nil)) (nomark _)) (pe_split (pe_ix ix_list (pv 0) (pv 1) (fun _ _ => rfl)) pe_str) (pe_lst pa_nil))) (pss_cons (ps_if (PW.pt (pw_or (pt_cmpR op_ne (pe_callB call_len_seq (by rfl) flen PySem.boot_len (pa_cons (pv 4) pa_nil)) pe_int (nomark _)) (pw_or1 (pt_cmpR op_ne (pe_ix ix_list (pv 4) pe_int (fun _ _ => rfl)) (pv 2) (nomark _))))) (pss_one (ps_ret pe_non)) pss_nil) (pss_one (ps_ret (pe_call GNi hr (by rfl) mNi kNi bNi .nil pass0 (pa_cons (pe_ix ix_list (pv 4) pe_int (fun _ _ => rfl)) (pa_cons (pe_ix ix_tup (pv 3) pe_int (fun _ _ => rfl)) (pa_cons (pe_ix ix_tup (pv 3) pe_int (fun _ _ => rfl)) pa_nil)))))))), ?_⟩
    refine ⟨.int i, rfl, .ref a, rfl, a, _, rfl, .inl ha, _, _, rfl, rfl, _, rfl, ?_⟩
    by_cases hi2 : i < ls.length
    · have hlt : ((i : Nat) : Int) < ((ls.map V.str).length : Nat) := by rw [List.length_map]; omega
      have hget : ls[i]? = some ls[i] := List.getElem?_eq_getElem hi2
      have hle := hl _ (List.getElem_mem hi2)
      refine iteD hlt ⟨.ref a, rfl, .int i, rfl, a, _, i, .str ls[i], rfl, rfl, ha, atI_nat (by rw [List.getElem?_map, hget]; rfl), ⟨_, rfl⟩, ls[i], " ", rfl, rfl, by decide, sl (by omega), fun p np => ?_⟩
      have s1 := same_upd (o := .lst ((Txt.split ls[i] " ").map V.str)) np
      have eT : toldN ls i head lo hi = match Txt.split ls[i] " " with
          | [a, b] => if a = head then numIn b lo hi else none
          | _ => none := by
        unfold toldN
        rw [hget]
      refine ⟨.ref p, rfl, p, _, rfl, .inl (SqL.of upd_same), rfl, _, rfl, ?_⟩
      by_cases h2 : (Txt.split ls[i] " ").length = 2
      · obtain ⟨x, y, e⟩ := two h2
        have hy : y.length ≤ 640 := Nat.le_trans (split_le (x := ls[i]) (y := " ") (by rw [e]; simp)) hle
        rw [e] at eT s1 ⊢
        simp only at eT
        refine iteF ⟨.ref p, rfl, p, _, 0, .str x, rfl, rfl, SqL.of upd_same, at0, .str head, rfl, rfl, _, rfl, ?_⟩
        by_cases hx : x = head
        · rw [if_pos hx] at eT
          refine iteC (by rw [hx, decide_eq_true rfl]; rfl) ?_
          refine ⟨.ref p, rfl, p, _, 1, .str y, rfl, rfl, SqL.of upd_same, at1, .ref b, rfl, b, _, 0, .int lo, rfl, rfl, Same.seqT s1 hb, at0, .ref b, rfl, b, _, 1, .int hi, rfl, rfl, Same.seqT s1 hb, at1, y, lo, hi, rfl, hy, fun H' s2 => ?_⟩
          have q1 := q _ (s1.trans s2)
          rw [eT] at q1
          exact q1
        · rw [if_neg hx] at eT
          have q1 := q _ s1
          rw [eT] at q1
          exact iteNE (fun e => hx (V.str.inj e)) q1
      · refine iteNE (fun e => h2 ?_) ?_
        · have := V.int.inj e
          rw [List.length_map] at this
          omega
        · have q1 := q _ s1
          have e : toldN ls i head lo hi = none := by
            rw [eT]
            split
            · rename_i e; exact absurd (congrArg List.length e) (fun h => h2 h)
            · rfl
          rw [e] at q1
          exact q1
    · refine iteE (fun h => hi2 (by rw [List.length_map] at h; omega)) ⟨by show 0 ≤ sizeLine; decide, fun p np => ?_⟩
      have q1 := q _ (same_upd (o := .lst []) np)
      have e : toldN ls i head lo hi = none := by
        unfold toldN
        rw [List.getElem?_eq_none (by omega)]
      rw [e] at q1
      exact ⟨.ref p, rfl, p, _, rfl, .inl (SqL.of upd_same), rfl, _, rfl, iteT q1⟩
end
end K36

set_option maxRecDepth 100000
set_option maxHeartbeats 2000000
/-! k36: rows of tasks. -/
namespace K36
open PySem PySem.Spec PyProof.Rows L2 LamX VG TL
theorem scTaskRow : FnScope ["line", "fresh", "words", "task", "above"] ["line", "fresh"] (defScope sTaskRow) := ⟨rfl, rfl, rfl, by decide +kernel, rfl, by decide +kernel, by decide +kernel⟩
theorem scStands : FnScope ["row", "rows", "ahead"] ["row", "rows"] (defScope sStands) := ⟨rfl, rfl, rfl, by decide +kernel, rfl, by decide +kernel, by decide +kernel⟩
abbrev Row := Int × Option Int × Bool
def rowV (r : Row) : List V := [.int r.1, optI r.2.1, .bl r.2.2]
def endB (w : Str) : Bool := decide (w = "border") || decide (w = "none")
/-- what the four words of a line tell -/
def rowW (fresh : Int) : List Str → Option Row
  | [w0, w1, w2, w3] => if w0 = "task" ∧ endB w3 = true then
      (if w2 = "-" then (if numIn w1 0 (fresh - 1) = some 0 then some (0, none, decide (w3 = "border")) else none)
      else match numIn w1 0 (fresh - 1), numIn w2 0 (fresh - 1) with
        | some t, some a => some (t, some a, decide (w3 = "border"))
        | _, _ => none) else none
  | _ => none
def rowOf (l : Str) (fresh : Int) : Option Row := rowW fresh (Txt.split l " ")
def RowsAt (K : PySem.W.Frag) (H : Hp) (xs : List V) (rs : List Row) : Prop := xs.length = rs.length ∧ ∀ (i : Nat) (r : Row), rs[i]? = some r → ∃ p, xs[i]? = some (.ref p) ∧ SqT K H p (rowV r)
def inO (a : Option Int) (rs : List Row) : Bool := match a with
  | some n => decide (n ∈ rs.map (·.1))
  | none => false
def standsB (t : Int) (a : Option Int) (rs : List Row) : Bool := match rs.getLast? with
  | none => a.isNone
  | some r => decide (r.1 < t) && (decide (rs.length < 6) && inO a rs)
theorem four_of {l : List Str} (h : l.length = 4) : ∃ a b c d, l = [a, b, c, d] := four h
theorem inV_end (w : Str) : inV (.str w) [V.str "border", .str "none"] = endB w := by
  have := VG.inV_strs w ["border", "none"]
  rw [show [V.str "border", V.str "none"] = (["border", "none"] : List Str).map V.str from rfl]
  rw [this]
  unfold endB
  by_cases h1 : w = "border"
  · simp [h1]
  · by_cases h2 : w = "none"
    · simp [h2]
    · simp [h1, h2]
theorem inV_ints (x : Int) : ∀ l : List Int, inV (.int x) (l.map V.int) = decide (x ∈ l)
  | [] => rfl
  | y :: l => by
    have ih := inV_ints x l
    unfold inV at ih ⊢
    rw [List.map_cons, List.any_cons, ih]
    show ((y == x) || _) = _
    by_cases h : y = x
    · subst h
      simp
    · have h' : ¬ x = y := fun z => h z.symm
      simp [h, h']
theorem flat_ints (l : List Int) : (l.map V.int).all flatV = true := by
  induction l with
  | nil => rfl
  | cons a l ih =>
    rw [List.map_cons, List.all_cons, ih]
    rfl
theorem inV_non : ∀ l : List Int, inV .non (l.map V.int) = false
  | [] => rfl
  | y :: l => by
    have ih := inV_non l
    unfold inV at ih ⊢
    rw [List.map_cons, List.any_cons, ih]
    rfl
theorem inV_optI (a : Option Int) (rs : List Row) : inV (optI a) ((rs.map (·.1)).map V.int) = inO a rs := by
  cases a with
  | none => exact inV_non _
  | some n => exact inV_ints n _
theorem flat_optI : ∀ a, flatV (optI a) = true := fun a => by cases a <;> rfl
theorem strEq {a b : Str} : decide (V.str a = V.str b) = decide (a = b) := by by_cases h : a = b
                                                                              · rw [h, decide_eq_true rfl, decide_eq_true rfl]
                                                                              · rw [decide_eq_false h, decide_eq_false fun e => h (V.str.inj e)]
theorem rowW_len {fresh : Int} {l : List Str} (h : l.length ≠ 4) : rowW fresh l = none := by
  unfold rowW
  split
  · rename_i e; exact absurd rfl h
  · rfl
section
variable {P : Program} {w : World} {K : PySem.W.Frag} {mg : Str → Option Value} {base : Heap}
def spLNumber : Sp := fun vs H Q _ => ∃ (z : Str) (lo hi : Int), vs = [.str z, .int lo, .int hi] ∧ z.length ≤ 640 ∧ ∀ H', Same H H' → Q (optI (lawNum z lo hi)) H'
theorem ok_LNumber {k : Nat} {f : Addr} {fd : FuncData}  (F : Fun K "_law_number" "_law_number" sLNumber f fd)   (fall : mg "all" = none) (fint : mg "int" = none) (flen : mg "len" = none) (fstr : mg "str" = none) : FnOk P w K mg base CX0 (k + 1) f fd ["word", "low", "high"] (spLNumber) := by
  refine F.ok scLNumber (fun vs H Q E h => ?_) (fun cdv A outer s H vs Q E hr h => ?_)
  · obtain ⟨z, lo, hi, rfl, _⟩ := h
    rfl
  · obtain ⟨z, lo, hi, rfl, hz, q⟩ := h
    refine ⟨_, (pss_cons (ps_if (PW.pt (pw_or (pt_cmpR op_eq (pv 0) pe_str (nomark _)) (pw_or (pt_cmpR op_gt (pe_callB call_len_str (by rfl) flen PySem.boot_len (pa_cons (pv 0) pa_nil)) pe_int (nomark _)) (pw_or1 (pt_not (pt_val (pe_callB (cr_all rfl) (by rfl) fall (by decide +kernel) (pa_cons (pe_lc (own := [("sign", 3)]) (g := (gName 3)) (tt := tYes) rfl scLNumber.nd (pi_str (pv 0)) (blkOk_by (N := ["word", "low", "high", "sign", "number"]) (sc := defScope sLNumber) (by decide +kernel)) (fun _ _ _ _ _ => (pg_name (i := 3) scLNumber.nd rfl (.inl rfl))) (fun _ _ _ _ _ => pts_nil) (fun _ _ _ _ _ => (pe_cmpR op_in_sign (pv 3) pe_str (by rfl)))) pa_nil)))))))) (pss_one (ps_ret pe_non)) pss_nil) (pss_cons (ps_set (i := 4) scLNumber.nd rfl (.inl rfl) (pe_callTy call_int_str (by rfl) fint (by decide +kernel) (pa_cons (pv 0) pa_nil))) (pss_one (ps_ret (pe_ifExp (PW.pt (pw_and (pt_cmpR op_eq (pe_callTy call_str_int (by rfl) fstr (by decide +kernel) (pa_cons (pv 4) pa_nil)) (pv 0) (nomark _)) (pw_and1 (pt_chain op_le op_le (pv 1) (pv 4) (pv 2))))) (pv 4) pe_non))))), ?_⟩
    refine ⟨.str z, rfl, rfl, _, rfl, ?_⟩
    have hlen := len_list z
    by_cases he : z = ""
    · have q0 := q _ (Same.refl H)
      rw [show lawNum z lo hi = none from if_pos (.inl (empty_iff.mp he))] at q0
      exact iteD (congrArg V.str he) q0
    · have he' : z.cps.toList ≠ [] := fun h => he (empty_iff.mpr h)
      refine iteE (fun e => he (V.str.inj e)) ⟨.str z, rfl, z, rfl, sl (by omega), _, _, rfl, rfl, _, rfl, ?_⟩
      by_cases h9 : z.length > 9
      · have q0 := q _ (Same.refl H)
        rw [show lawNum z lo hi = none from if_pos (.inr (.inl h9))] at q0
        exact iteD (show ((9 : Int) < (z.length : Nat)) by omega) q0
      · refine iteE (show ¬ ((9 : Int) < (z.length : Nat)) by omega) ⟨.str z, rfl, z, rfl, fun D nD => ?_⟩
        have s1 := same_upd (o := .lst []) nD
        refine lc_any (n := z.cps.size) (fun i H' => Same H H' ∧ H' D = some (.lst (((z.cps.toList.take i).map isDig).map V.bl))) ⟨s1, upd_same⟩ (fun i H' hi _ => hi) (fun H' _ => Nat.le_refl _) (fun i x H' H'' hi hP hy => ?_) fun H' hP => ?_
        · obtain ⟨sm, hD⟩ := hP
          obtain ⟨rfl, c, hc, rfl⟩ := hy
          refine ⟨rfl, ?_⟩
          unfold tYes
          have hc' : z.cps.toList[i]? = some c := by rw [Array.getElem?_toList]; exact hc
          have hlt := (List.getElem?_eq_some_iff.mp hc').1
          refine iteT ⟨.str ⟨#[c]⟩, rfl, c, _, rfl, rfl, _, hD, small1000 (by rw [List.length_map, List.length_map, List.length_take]; omega), Same.updNew sm nD, ?_⟩
          rw [upd_same, List.take_add_one, hc', List.map_append, List.map_append]
          rfl
        · obtain ⟨sm, hD⟩ := hP
          rw [show z.cps.size = z.cps.toList.length from (Array.length_toList).symm, List.take_length] at hD
          refine ⟨D, _, rfl, SqL.of hD, _, rfl, ?_⟩
          rw [digS_all']
          have q1 := q _ sm
          cases hd : digS z with
          | false =>
            rw [show lawNum z lo hi = none from if_pos (.inr (.inr hd))] at q1
            exact iteT q1
          | true =>
            have hint : intText? z = some (valS z) := intText_digits (digS_all hd) he' (by omega)
            refine iteF ⟨.str z, rfl, z, valS z, rfl, hint, hz, .int (valS z), rfl, valS z, rfl, log2_small (valS_small hd (by omega)), .str z, rfl, rfl, _, rfl, ?_⟩
            have el : lawNum z lo hi = if strN (valS z) = z ∧ lo ≤ valS z ∧ valS z ≤ hi then some (valS z) else none := if_neg (by rintro (h | h | h); exact he' h; exact h9 h; rw [hd] at h; cases h)
            rw [el] at q1
            by_cases e1 : strN (valS z) = z
            · refine iteD (congrArg V.str e1) ⟨.int lo, rfl, .int (valS z), rfl, lo, valS z, rfl, rfl, _, rfl, ?_⟩
              by_cases h1 : lo ≤ valS z
              · refine iteD h1 ⟨.int hi, rfl, valS z, hi, rfl, rfl, _, rfl, ?_⟩
                by_cases h2 : valS z ≤ hi
                · rw [if_pos ⟨e1, h1, h2⟩] at q1
                  exact iteD h2 ⟨.int (valS z), rfl, q1⟩
                · rw [if_neg fun y => h2 y.2.2] at q1
                  exact iteE h2 q1
              · rw [if_neg fun y => h1 y.2.1] at q1
                exact iteE h1 ⟨_, rfl, iteF q1⟩
            · rw [if_neg fun y => e1 y.1] at q1
              exact iteE (fun y => e1 (V.str.inj y)) q1
def spTaskRow (K : PySem.W.Frag) : Sp := fun vs H Q _ => ∃ (l : Str) (fresh : Int), vs = [.str l, .int fresh] ∧ l.length ≤ 640 ∧ (rowOf l fresh = none → ∀ H', Same H H' → Q .non H') ∧ ∀ r, rowOf l fresh = some r → ∀ H' p, Same H H' → SqT K H' p (rowV r) → Q (.ref p) H'
theorem ok_TaskRow {k : Nat} {f : Addr} {fd : FuncData}  (F : Fun K "task_row" "task_row" sTaskRow f fd) (gNi : Cal P w K mg base CX0 (k + 2) "number_in" ["text", "low", "high"] spNumberIn)  (flen : mg "len" = none) : FnOk P w K mg base CX0 (k + 3) f fd ["line", "fresh"] (spTaskRow K) := by
  obtain ⟨fNi, fdNi, GNi, kNi, bNi, mNi⟩ := gNi
  refine F.ok scTaskRow (fun vs H Q E h => ?_) (fun cdv A outer s H vs Q E hr h => ?_)
  · obtain ⟨l, fresh, rfl, _⟩ := h
    rfl
  · obtain ⟨l, fresh, rfl, hl, q0, q1⟩ := h
    refine ⟨_, (pss_cons (ps_set (i := 2) scTaskRow.nd rfl (.inl rfl) (pe_split (pv 0) pe_str)) (pss_cons (ps_if (PW.pt (pw_or (pt_cmpR op_ne (pe_ix ix_list (pv 2) pe_int (fun _ _ => rfl)) pe_str (nomark _)) (pw_or (pt_cmpR op_ne (pe_callB call_len_seq (by rfl) flen PySem.boot_len (pa_cons (pv 2) pa_nil)) pe_int (nomark _)) (pw_or1 (pt_cmpR op_notIn_seq (pe_ix ix_list (pv 2) pe_int (fun _ _ => rfl)) (pe_tup (pa_cons pe_str (pa_cons pe_str pa_nil))) (by rfl)))))) (pss_one (ps_ret pe_non)) pss_nil) (pss_cons (ps_set (i := 3) scTaskRow.nd rfl (.inl rfl) (pe_call GNi hr (by rfl) mNi kNi bNi .nil pass0 (pa_cons (pe_ix ix_list (pv 2) pe_int (fun _ _ => rfl)) (pa_cons pe_int (pa_cons (pe_op op_sub (pv 1) pe_int) pa_nil))))) (pss_cons (ps_if (pt_cmpR op_eq (pe_ix ix_list (pv 2) pe_int (fun _ _ => rfl)) pe_str (nomark _)) (pss_one (ps_ret (pe_ifExp (pt_cmpR op_eq (pv 3) pe_int (nomark _)) (pe_tup (pa_cons pe_int (pa_cons pe_non (pa_cons (pe_cmpR op_eq (pe_ix ix_list (pv 2) pe_int (fun _ _ => rfl)) pe_str (nomark _)) pa_nil)))) pe_non))) pss_nil) (pss_cons (ps_set (i := 4) scTaskRow.nd rfl (.inl rfl) (pe_call GNi hr (by rfl) mNi kNi bNi .nil pass0 (pa_cons (pe_ix ix_list (pv 2) pe_int (fun _ _ => rfl)) (pa_cons pe_int (pa_cons (pe_op op_sub (pv 1) pe_int) pa_nil))))) (pss_one (ps_ret (pe_ifExp (PW.pt (pw_or (pt_cmpR op_isN (pv 3) pe_non (nomark _)) (pw_or1 (pt_cmpR op_isN (pv 4) pe_non (nomark _))))) pe_non (pe_tup (pa_cons (pv 3) (pa_cons (pv 4) (pa_cons (pe_cmpR op_eq (pe_ix ix_list (pv 2) pe_int (fun _ _ => rfl)) pe_str (nomark _)) pa_nil)))))))))))), ?_⟩
    refine ⟨.str l, rfl, ⟨_, rfl⟩, l, " ", rfl, rfl, by decide, sl (by omega), fun p np => ?_⟩
    have s1 := same_upd (o := .lst ((Txt.split l " ").map V.str)) np
    have hw : ∀ x ∈ Txt.split l " ", x.length ≤ 640 := fun x hx => Nat.le_trans (split_le hx) hl
    have hne := split_ne l " "
    unfold rowOf at q0 q1
    generalize Txt.split l " " = ws at s1 hw hne q0 q1 ⊢
    have tail : ∀ {A B : Prop}, rowW fresh ws = none → (Q .non (upd H p (.lst (ws.map V.str))) → A) → A := fun e h => h (q0 e _ s1)
    obtain ⟨w0, r, rfl⟩ : ∃ w0 r, ws = w0 :: r := by
      cases ws with
      | nil => exact absurd rfl hne
      | cons a b => exact ⟨a, b, rfl⟩
    refine ⟨.ref p, rfl, p, _, 0, .str w0, rfl, rfl, SqL.of upd_same, at0, rfl, _, rfl, ?_⟩
    by_cases h0 : w0 = "task"
    · subst h0
      refine iteF ⟨.ref p, rfl, p, _, rfl, .inl (SqL.of upd_same), rfl, _, rfl, ?_⟩
      by_cases h4 : (("task" : Str) :: r).length = 4
      · obtain ⟨a, b, c, d, e⟩ := four h4
        obtain ⟨rfl, rfl⟩ := List.cons.inj e
        have ha : b.length ≤ 640 := hw b (by simp)
        have hb : c.length ≤ 640 := hw c (by simp)
        refine iteF ⟨.ref p, rfl, p, _, 3, .str d, rfl, rfl, SqL.of upd_same, at3, by show 2 ≤ sizeLine; decide, fun t nt => ?_⟩
        have s2 := s1.trans (same_upd (o := .tup [V.str "border", .str "none"]) nt)
        have tp : p ≠ t := ne_of_none upd_same nt
        have hp2 : SqL K (upd (upd H p (.lst ([("task" : Str), b, c, d].map V.str))) t (.tup [V.str "border", .str "none"])) p ([("task" : Str), b, c, d].map V.str) := SqL.of (by rw [upd_ne tp]; exact upd_same)
        refine ⟨t, _, rfl, .inr (SqT.of upd_same), rfl, rfl, _, rfl, ?_⟩
        rw [inV_end]
        cases hd : endB d with
        | false =>
          refine iteT ?_
          exact q0 (if_neg fun y => by rw [hd] at y; cases y.2) _ s2
        | true =>
          have er : rowW fresh ["task", b, c, d] = (if c = "-" then (if numIn b 0 (fresh - 1) = some 0 then some (0, none, decide (d = "border")) else none)
              else match numIn b 0 (fresh - 1), numIn c 0 (fresh - 1) with
                | some t, some a => some (t, some a, decide (d = "border"))
                | _, _ => none) := if_pos ⟨rfl, hd⟩
          refine iteF ⟨.ref p, rfl, p, _, 1, .str b, rfl, rfl, hp2, at1, .int fresh, rfl, fresh, 1, rfl, rfl, b, 0, fresh - 1, rfl, ha, fun H3 s3 => ?_⟩
          have hp3 := s3.seq hp2
          refine ⟨.ref p, rfl, p, _, 2, .str c, rfl, rfl, hp3, at2, rfl, _, rfl, ?_⟩
          by_cases hc : c = "-"
          · rw [if_pos hc] at er
            refine iteD (congrArg V.str hc) ?_
            cases en : numIn b 0 (fresh - 1) with
            | none =>
              rw [en] at er
              exact ⟨.non, rfl, rfl, _, rfl, iteE (fun y => nomatch y) (q0 er _ (s2.trans s3))⟩
            | some n =>
              rw [en] at er
              refine ⟨.int n, rfl, rfl, _, rfl, ?_⟩
              by_cases hn : n = 0
              · subst hn
                rw [if_pos rfl] at er
                refine iteD rfl ⟨.ref p, rfl, p, _, 3, .str d, rfl, rfl, hp3, at3, rfl, by show 3 ≤ sizeLine; decide, fun t2 n2 => ?_⟩
                exact q1 _ er _ t2 ((s2.trans s3).trans (same_upd n2)) (by rw [show rowV (0, none, decide (d = "border")) = [.int 0, .non, .bl (decide (V.str d = V.str "border"))] by rw [strEq]; rfl]; exact SqT.of upd_same)
              · rw [if_neg fun y => hn (Option.some.inj y)] at er
                exact iteE (fun y => hn (V.int.inj y)) (q0 er _ (s2.trans s3))
          · rw [if_neg hc] at er
            refine iteE (fun e => hc (V.str.inj e)) ?_
            refine ⟨.ref p, rfl, p, _, 2, .str c, rfl, rfl, hp3, at2, .int fresh, rfl, fresh, 1, rfl, rfl, c, 0, fresh - 1, rfl, hb, fun H4 s4 => ?_⟩
            have hp4 := s4.seq hp3
            have s5 := (s2.trans s3).trans s4
            cases en : numIn b 0 (fresh - 1) with
            | none =>
              rw [en] at er
              exact ⟨.non, rfl, rfl, _, rfl, iteD rfl (q0 er _ s5)⟩
            | some n =>
              rw [en] at er
              refine ⟨.int n, rfl, rfl, _, rfl, iteE (fun y => nomatch y) ?_⟩
              cases em : numIn c 0 (fresh - 1) with
              | none =>
                rw [em] at er
                exact ⟨.non, rfl, rfl, _, rfl, iteD rfl (q0 er _ s5)⟩
              | some m =>
                rw [em] at er
                refine ⟨.int m, rfl, rfl, _, rfl, iteE (fun y => nomatch y) ⟨.int n, rfl, .int m, rfl, .ref p, rfl, p, _, 3, .str d, rfl, rfl, hp4, at3, rfl, by show 3 ≤ sizeLine; decide, fun t2 n2 => ?_⟩⟩
                exact q1 _ er _ t2 (s5.trans (same_upd n2)) (by rw [show rowV (n, some m, decide (d = "border")) = [.int n, .int m, .bl (decide (V.str d = V.str "border"))] by rw [strEq]; rfl]; exact SqT.of upd_same)
      · refine iteNE (fun e => h4 ?_) (q0 (rowW_len h4) _ s1)
        have := V.int.inj e
        rw [List.length_map] at this
        omega
    · refine iteNE (fun e => h0 (V.str.inj e)) (q0 ?_ _ s1)
      unfold rowW
      split
      · rename_i e; exact if_neg fun y => h0 ((List.cons.inj e).1.trans y.1)
      · rfl
def spStands (K : PySem.W.Frag) : Sp := fun vs H Q _ => ∃ (p R : Addr) (r : Row) (xs : List V) (rs : List Row), vs = [.ref p, .ref R] ∧ SqT K H p (rowV r) ∧ SqL K H R xs ∧ RowsAt K H xs rs ∧ rs.length ≤ 6 ∧ ∀ H', Same H H' → Q (.bl (standsB r.1 r.2.1 rs)) H'
theorem ok_Stands {k : Nat} {f : Addr} {fd : FuncData}  (F : Fun K "_stands_behind" "_stands_behind" sStands f fd)  {tM : Tok} (gMOST_TASKS : mg "MOST_TASKS" = some (.int 6 tM)) (flen : mg "len" = none) : FnOk P w K mg base CX0 (k + 1) f fd ["row", "rows"] (spStands K) := by
  refine F.ok scStands (fun vs H Q E h => ?_) (fun cdv A outer s H vs Q E hr h => ?_)
  · obtain ⟨p, R, r, xs, rs, rfl, _⟩ := h
    rfl
  · obtain ⟨p, R, r, xs, rs, rfl, hp, hR, hrs, h6, q⟩ := h
    refine ⟨_, (pss_cons (ps_if (pt_not (pt_truth (pv 1) (by intro _; rfl))) (pss_one (ps_ret (pe_cmpR op_isN (pe_ix ix_tup (pv 0) pe_int (fun _ _ => rfl)) pe_non (nomark _)))) pss_nil) (pss_one (ps_ret (pe_and (pe_cmpR op_gt (pe_ix ix_tup (pv 0) pe_int (fun _ _ => rfl)) (pe_ix ix_tup (pe_ix ix_list (pv 1) (pe_un un_neg pe_int) (fun _ _ => rfl)) pe_int (fun _ _ => rfl)) (nomark _)) (pe_and (pe_cmpR op_lt (pe_callB call_len_seq (by rfl) flen PySem.boot_len (pa_cons (pv 1) pa_nil)) (pe_glob (by rfl) gMOST_TASKS (show RelV (.int 6) (.int 6 tM) from ⟨_, rfl⟩)) (nomark _)) (pe_one (pe_cmpR op_in_seq (pe_ix ix_tup (pv 0) pe_int (fun _ _ => rfl)) (pe_lc (own := [("ahead", 2)]) (g := (gName 2)) (tt := tYes) rfl scStands.nd (pi_list (pv 1)) (blkOk_by (N := ["row", "rows", "ahead"]) (sc := defScope sStands) (by decide +kernel)) (fun _ _ _ _ _ => (pg_name (i := 2) scStands.nd rfl (.inl rfl))) (fun _ _ _ _ _ => pts_nil) (fun _ _ _ _ _ => (pe_ix (show IxR _ (rIxT K) from ix_tup) (pv 2) pe_int (fun _ _ => rfl)))) (by rfl)))))))), ?_⟩
    have hxl := hrs.1
    refine ⟨.ref R, rfl, !xs.isEmpty, .inl ⟨xs, hR, rfl⟩, ?_⟩
    cases hr2 : rs.getLast? with
    | none =>
      have e0 : rs = [] := List.getLast?_eq_none_iff.mp hr2
      have ex : xs = [] := List.length_eq_zero_iff.mp (by rw [hxl, e0]; rfl)
      subst e0 ex
      refine iteT ⟨.ref p, rfl, p, _, 1, optI r.2.1, rfl, rfl, hp, at1, rfl, ?_⟩
      rw [optI_non]
      exact q _ (Same.refl H)
    | some l =>
      have hne : rs ≠ [] := by rintro rfl; cases hr2
      have hpos : 0 < rs.length := List.length_pos_iff.mpr hne
      have hex : xs.isEmpty = false := by
        cases xs with
        | nil => rw [← hxl] at hpos; cases hpos
        | cons _ _ => rfl
      rw [hex]
      have hlast : rs[rs.length - 1]? = some l := by rw [← List.getLast?_eq_getElem?]; exact hr2
      obtain ⟨pl, hpl, hql⟩ := hrs.2 _ _ hlast
      have hat : atI xs (-1) = some (.ref pl) := by
        unfold atI ixN
        rw [if_neg (by decide), if_pos (by omega)]
        show xs[(-1 + (xs.length : Int)).toNat]? = _
        rw [show (-1 + (xs.length : Int)).toNat = rs.length - 1 by omega]
        exact hpl
      have eS : standsB r.1 r.2.1 rs = (decide (l.1 < r.1) && (decide (rs.length < 6) && inO r.2.1 rs)) := by
        unfold standsB
        rw [hr2]
      rw [eS] at q
      refine iteF ⟨.ref p, rfl, p, _, 0, .int r.1, rfl, rfl, hp, at0, .ref R, rfl, 1, rfl, R, xs, -1, .ref pl, rfl, rfl, hR, hat, pl, _, 0, .int l.1, rfl, rfl, hql, at0, _, _, rfl, rfl, _, rfl, ?_⟩
      by_cases h1 : l.1 < r.1
      · rw [decide_eq_true h1, Bool.true_and] at q
        refine iteD h1 ⟨.ref R, rfl, R, _, rfl, .inl hR, _, _, rfl, rfl, _, rfl, ?_⟩
        by_cases h2 : rs.length < 6
        · rw [decide_eq_true h2, Bool.true_and] at q
          refine iteD (show ((xs.length : Nat) : Int) < 6 by omega) ⟨.ref p, rfl, p, _, 1, optI r.2.1, rfl, rfl, hp, at1, _, rfl, R, rfl, ⟨_, hR⟩, fun D nD => ?_⟩
          have s1 := same_upd (o := .lst []) nD
          refine lc_list (xs := xs) (fun i H' => Same H H' ∧ H' D = some (.lst (((rs.take i).map (·.1)).map V.int))) ⟨s1, upd_same⟩ (fun i H' _ hP => Same.seq hP.1 hR) (fun i x H' hx hP => ?_) fun H' hP => ?_
          · obtain ⟨sm, hD⟩ := hP
            have hi := (List.getElem?_eq_some_iff.mp hx).1
            have hg : rs[i]? = some rs[i] := List.getElem?_eq_getElem (by omega)
            obtain ⟨pi, e1, e2⟩ := hrs.2 i _ hg
            cases Option.some.inj (hx.symm.trans e1)
            refine ⟨rfl, ?_⟩
            unfold tYes
            refine iteT ⟨.ref pi, rfl, pi, _, 0, .int (rs[i]).1, rfl, rfl, Same.seqT sm e2, at0, _, hD, small1000 (by rw [List.length_map, List.length_map, List.length_take]; omega), Same.updNew sm nD, ?_⟩
            rw [upd_same, List.take_add_one, hg, List.map_append, List.map_append]
            rfl
          · obtain ⟨sm, hD⟩ := hP
            rw [hxl, List.take_length] at hD
            refine ⟨D, _, rfl, .inl (SqL.of hD), flat_optI _, flat_ints _, ?_⟩
            rw [inV_optI]
            exact q _ sm
        · rw [decide_eq_false h2, Bool.false_and] at q
          exact iteE (show ¬ (((xs.length : Nat) : Int) < 6) by omega) (q _ (Same.refl H))
      · rw [decide_eq_false h1, Bool.false_and] at q
        exact iteE h1 (q _ (Same.refl H))
end
end K36

set_option maxRecDepth 100000
set_option maxHeartbeats 4000000
/-! k36: the clans that a text tells. -/
namespace K36
open PySem PySem.Spec PyProof.Rows L2 LamX VG TL
abbrev sClans : Stmt := inClass (topS 12) 0
theorem scClans : FnScope ["self", "text", "lines", "fresh", "rows", "number", "line", "row", "task", "above", "_", "border"] ["self", "text"] (defScope sClans) := ⟨rfl, rfl, rfl, by decide +kernel, rfl, by decide +kernel, by decide +kernel⟩
structure CF (K : PySem.W.Frag) (C : Addr) : Prop where
  cl : Cls K C
  nT : NoAttr K C "text"
  nF : NoAttr K C "fresh"
  nR : NoAttr K C "rows"
  nK : NoAttr K C "tasks"
  nC : NoAttr K C "chiefs"
  nB : NoAttr K C "borders"
/-- the first line that is wrong, the rows so far told -/
def wrongR (fresh : Int) : Nat → List Row → List Str → Option Nat
  | n, acc, [] => if acc = [] then some 2 else none
  | n, acc, l :: r => match rowOf l fresh with
    | none => some n
    | some row => if standsB row.1 row.2.1 acc = true then wrongR fresh (n + 1) (acc ++ [row]) r else some n
def wrongT (z : Str) : Option Nat := match toldN (Txt.split z "\n") 0 "clans" 1 999 with
  | none => some 1
  | some fresh => wrongR fresh 2 [] (Txt.split z "\n").tail
def wrongD : PyData → Option Nat
  | .str z => wrongT z
  | _ => some 0
section
variable {K : PySem.W.Frag}
theorem rowsAt_same {H H' : Hp} {xs : List V} {rs : List Row} (s : Same H H') (h : RowsAt K H xs rs) : RowsAt K H' xs rs := ⟨h.1, fun i r e => let ⟨p, e1, e2⟩ := h.2 i r e; ⟨p, e1, Same.seqT s e2⟩⟩
theorem rowsAt_list {H : Hp} {R : Addr} {xs ys : List V} {o : HO} {rs : List Row} (hR : H R = some (.lst ys)) (h : RowsAt K H xs rs) : RowsAt K (upd H R o) xs rs := ⟨h.1, fun i r e => let ⟨p, e1, e2⟩ := h.2 i r e; ⟨p, e1, sqT_upd e2 hR⟩⟩
theorem rowsAt_snoc {H : Hp} {xs : List V} {rs : List Row} {r : Row} {p : Addr} (h : RowsAt K H xs rs) (hr : SqT K H p (rowV r)) : RowsAt K H (xs ++ [.ref p]) (rs ++ [r]) := by
  refine ⟨by rw [List.length_append, List.length_append, h.1]; rfl, fun i q e => ?_⟩
  by_cases c : i < rs.length
  · rw [List.getElem?_append_left c] at e
    rw [List.getElem?_append_left (by rw [h.1]; exact c)]
    exact h.2 i q e
  · rw [List.getElem?_append_right (by omega)] at e
    have e0 : i - rs.length = 0 := by
      have := (List.getElem?_eq_some_iff.mp e).1
      rw [List.length_singleton] at this
      omega
    rw [e0] at e
    cases Option.some.inj e
    refine ⟨p, ?_, hr⟩
    rw [List.getElem?_append_right (by rw [h.1]; omega), h.1, e0]
    rfl
theorem sqT_ins {H : Hp} {a p C dx : Addr} {fs : List (Str × V)} {xs : List V} {o : HO} (h : SqT K H a xs) (hp : H p = some (.ins C dx fs)) : SqT K (upd H p o) a xs := by
  rcases h with h | h
  · have hne : a ≠ p := by
      rintro rfl
      rcases h with h | ⟨o, h⟩
      · rw [hp] at h; cases h
      · rw [hp] at h; cases h
    refine .inl ?_
    unfold Rd at h ⊢
    rw [upd_ne hne]
    exact h
  · exact .inr h
/-- the instance at p while its fields are set -/
def CS (K : PySem.W.Frag) (H0 H : Hp) (p R C dx : Addr) (z : Str) (xs : List V) (rs : List Row) (n : Nat) : Prop := ∃ fs, H p = some (.ins C dx fs) ∧ fs.length ≤ n ∧ fs.lookup ("text" : Str) = some (V.str z) ∧ (∀ b o, H0 b = some o → b ≠ p → H b = some o) ∧ H R = some (.lst xs) ∧ RowsAt K H xs rs
theorem CS.same {H0 H H' : Hp} {p R C dx : Addr} {z : Str} {xs : List V} {rs : List Row} {n : Nat} (h : CS K H0 H p R C dx z xs rs n) (s : Same H H') : CS K H0 H' p R C dx z xs rs n := by
  obtain ⟨fs, h1, h2, h3, h4, h5, h6⟩ := h
  exact ⟨fs, s _ _ h1, h2, h3, fun b o e ne => s _ _ (h4 b o e ne), s _ _ h5, rowsAt_same s h6⟩
theorem CS.put {H0 H : Hp} {p R C dx : Addr} {z : Str} {xs : List V} {rs : List Row} {n : Nat} {fs : List (Str × V)} {f : Str} {y : V} (h : CS K H0 H p R C dx z xs rs n) (hp : H p = some (.ins C dx fs)) (ne : ¬ ("text" : Str) = f) : CS K H0 (upd H p (.ins C dx (putF f y fs))) p R C dx z xs rs (n + 1) := by
  obtain ⟨fs', h1, h2, h3, h4, h5, h6⟩ := h
  obtain rfl : fs' = fs := by
    rw [hp] at h1
    cases h1
    rfl
  have hne : R ≠ p := by
    rintro rfl
    rw [h5] at hp; cases hp
  refine ⟨_, upd_same, Nat.le_trans (length_putF _ _ _) (by omega), by rw [lookup_putF, if_neg ne]; exact h3, fun b o e nb => by rw [upd_ne nb]; exact h4 b o e nb, by rw [upd_ne hne]; exact h5, h6.1, fun i r e => ?_⟩
  obtain ⟨pi, e1, e2⟩ := h6.2 i r e
  exact ⟨pi, e1, sqT_ins e2 hp⟩
theorem sqT_oth {H : Hp} {a p : Addr} {o0 : HO} {xs : List V} {o : HO} (h : SqT K H a xs) (hp : H p = some o0) (h1 : o0 ≠ .tup xs) (h2 : ∀ o, o0 ≠ .frz o (.tup xs)) : SqT K (upd H p o) a xs := by
  rcases h with h | h
  · have hne : a ≠ p := by
      rintro rfl
      rcases h with h | ⟨o, h⟩
      · rw [hp] at h; exact h1 (Option.some.inj h)
      · rw [hp] at h; exact h2 o (Option.some.inj h)
    refine .inl ?_
    unfold Rd at h ⊢
    rw [upd_ne hne]
    exact h
  · exact .inr h
/-- what is made for the comprehension is another object -/
theorem CS.upd {H0 H H8 : Hp} {p R C dx D : Addr} {z : Str} {xs : List V} {rs : List Row} {n : Nat} {o0 o : HO} (h : CS K H0 H p R C dx z xs rs n) (h8 : CS K H0 H8 p R C dx z xs rs n) (nD : H8 D = none) (hD : H D = some o0) (h1 : ∀ xs, o0 ≠ .tup xs) (h2 : ∀ o xs, o0 ≠ .frz o (.tup xs)) : CS K H0 (upd H D o) p R C dx z xs rs n := by
  obtain ⟨fs', a1, a2, a3, a4, a5, a6⟩ := h8
  obtain ⟨fs, b1, b2, b3, b4, b5, b6⟩ := h
  have np : p ≠ D := by rintro rfl; rw [a1] at nD; cases nD
  have nR : R ≠ D := by rintro rfl; rw [a5] at nD; cases nD
  refine ⟨fs, by rw [upd_ne np]; exact b1, b2, b3, fun b o e nb => ?_, by rw [upd_ne nR]; exact b5, b6.1, fun i r e => ?_⟩
  · have hb : b ≠ D := by rintro rfl; rw [a4 _ _ e nb] at nD; cases nD
    rw [upd_ne hb]
    exact b4 b o e nb
  · obtain ⟨pi, e1, e2⟩ := b6.2 i r e
    exact ⟨pi, e1, sqT_oth e2 hD (h1 _) (fun o => h2 o _)⟩
theorem wrongR_step {fresh : Int} {n : Nat} {acc : List Row} {ls : List Str} {i : Nat} {l : Str} (h : ls[i]? = some l) : wrongR fresh n acc (ls.drop i) = match rowOf l fresh with
    | none => some n
    | some row => if standsB row.1 row.2.1 acc = true then wrongR fresh (n + 1) (acc ++ [row]) (ls.drop (i + 1)) else some n := by
  obtain ⟨hi, e⟩ := List.getElem?_eq_some_iff.mp h
  rw [List.drop_eq_getElem_cons hi, e]
  rfl
theorem standsB_few {t : Int} {a : Option Int} {rs : List Row} (h : standsB t a rs = true) : rs.length < 6 := by
  unfold standsB at h
  cases e : rs.getLast? with
  | none => rw [List.getLast?_eq_none_iff.mp e]; decide
  | some r =>
    rw [e] at h
    simp only [Bool.and_eq_true, decide_eq_true_eq] at h
    exact h.2.1
end
section
variable {P : Program} {w : World} {K : PySem.W.Frag} {mg : Str → Option Value} {base : Heap}
def spClans (K : PySem.W.Frag) (C C1 : Addr) : Sp := fun vs H Q E => ∃ (p : Addr) (v : V) (d : PyData) (dx : Addr), vs = [.ref p, v] ∧ Dk K H v d ∧ H p = some (.ins C dx []) ∧ (∀ z, d = .str z → z.length ≤ 640) ∧
  (∀ n, wrongD d = some n → ∀ H' dd, Same H H' → H' dd = none → E (.ref C1) (some dd) (upd H' dd (.xd [("value", .int (n : Nat))]))) ∧
  ∀ z, d = .str z → wrongT z = none → ∀ H' fs, (∀ b o, H b = some o → b ≠ p → H' b = some o) → H' p = some (.ins C dx fs) → fs.lookup ("text" : Str) = some (V.str z) → Q .non H'
theorem ok_Clans {k : Nat} {f : Addr} {fd : FuncData} {C C1 J1:Addr} {fdI1:FuncData} (F : Fun K "__init__" "Clans.__init__" sClans f fd) (gNt : Cal P w K mg base CX0 (k + 4) "number_told" ["lines", "at", "head", "bounds"] (spNumberTold K)) (gTr : Cal P w K mg base CX0 (k + 4) "task_row" ["line", "fresh"] (spTaskRow K)) (gSb : Cal P w K mg base CX0 (k + 4) "_stands_behind" ["row", "rows"] (spStands K)) (E1 : ErrC K C1 J1) (I1 : Fun K "__init__" "CoreError.__init__" sInit J1 fdI1) (bI1 : L2.Binds K fdI1 ["self", "value"] []) (gBadClans : mg "BadClans" = some (.ref C1)) (T : CF K C) {tN : Tok} (gLAST_NUMBER : mg "LAST_NUMBER" = some (.int 999 tN)) (fenumerate : mg "enumerate" = none) (fstr : mg "str" = none) (ftuple : mg "tuple" = none) (ftype : mg "type" = none) : FnOk P w K mg base (L2.CX P w) (k + 5) f fd ["self", "text"] (spClans K C C1) := by
  obtain ⟨fNt, fdNt, GNt, kNt, bNt, mNt⟩ := gNt
  obtain ⟨fTr, fdTr, GTr, kTr, bTr, mTr⟩ := gTr
  obtain ⟨fSb, fdSb, GSb, kSb, bSb, mSb⟩ := gSb
  refine F.okX scClans (fun vs H Q E h => ?_) (fun cdv A outer s H vs Q E hr h => ?_)
  · obtain ⟨p, v, d, dx, rfl, _⟩ := h
    rfl
  · obtain ⟨p, v, d, dx, rfl, hd, hp, hz, qe, q⟩ := h
    refine ⟨_, (pss_cons (ps_if (pt_cmpR op_notTyB (pe_callTy call_type1 (by rfl) ftype (by decide +kernel) (pa_cons (pv 1) pa_nil)) (pe_bltn (v := .ty "str") (by rfl) fstr (by decide +kernel) rfl) (nomark _)) (pss_one (ps_err rfl E1 I1 bI1 (k := (k+2)) hr (takes_of rfl rfl rfl rfl) (by rfl) gBadClans pe_int)) pss_nil) (pss_cons (ps_set (i := 2) scClans.nd rfl (.inl rfl) (pe_split (pv 1) pe_str)) (pss_cons (ps_set (i := 3) scClans.nd rfl (.inl rfl) (pe_call GNt hr (by rfl) mNt kNt bNt .nil pass0 (pa_cons (pv 2) (pa_cons pe_int (pa_cons pe_str (pa_cons (pe_tup (pa_cons pe_int (pa_cons (pe_glob (by rfl) gLAST_NUMBER (show RelV (.int 999) (.int 999 tN) from ⟨_, rfl⟩)) pa_nil))) pa_nil)))))) (pss_cons (ps_if (pt_cmpR op_isN (pv 3) pe_non (nomark _)) (pss_one (ps_err rfl E1 I1 bI1 (k := (k+2)) hr (takes_of rfl rfl rfl rfl) (by rfl) gBadClans pe_int)) pss_nil) (pss_cons (ps_set (i := 4) scClans.nd rfl (.inl rfl) (pe_lst pa_nil)) (pss_cons (ps_for (passes_of rfl) rfl (pi_enumK (by rfl) fenumerate (pa_cons (pe_slice sl_list (pv 2) (po_some pe_int) po_none) pa_nil) (pk_cons pe_int pk_nil)) (pg_tup (by rfl) (pgs_cons (pg_name (i := 5) scClans.nd rfl (.inl rfl)) (pgs_cons (pg_name (i := 6) scClans.nd rfl (.inl rfl)) pgs_nil))) (pss_cons (ps_set (i := 7) scClans.nd rfl (.inl rfl) (pe_call GTr hr (by rfl) mTr kTr bTr .nil pass0 (pa_cons (pv 6) (pa_cons (pv 3) pa_nil)))) (pss_cons (ps_if (PW.pt (pw_or (pt_cmpR op_isN (pv 7) pe_non (nomark _)) (pw_or1 (pt_not (pt_val (pe_call GSb hr (by rfl) mSb kSb bSb .nil pass0 (pa_cons (pv 7) (pa_cons (pv 4) pa_nil)))))))) (pss_one (ps_err rfl E1 I1 bI1 (k := (k+2)) hr (takes_of rfl rfl rfl rfl) (by rfl) gBadClans (pv 5))) pss_nil) (pss_one (ps_expr (pe_bm PySem.F.plainAttrs_list PySem.F.slot_list_append PySem.F.type_list_append mt_append (pv 4) (pa_cons (pv 7) pa_nil))))))) (pss_cons (ps_if (pt_not (pt_truth (pv 4) (by intro _; rfl))) (pss_one (ps_err rfl E1 I1 bI1 (k := (k+2)) hr (takes_of rfl rfl rfl rfl) (by rfl) gBadClans pe_int)) pss_nil) (PSs.nox (pss_cons (ps_fld (pv 0) (pv 1) rfl) (pss_cons (ps_fld (pv 0) (pv 3) rfl) (pss_cons (ps_fld (pv 0) (pe_callTy call_tuple_of (by rfl) ftuple (by decide +kernel) (pa_cons (pv 4) pa_nil)) rfl) (pss_cons (ps_fld (pv 0) (pe_callTy call_tuple_of (by rfl) ftuple (by decide +kernel) (pa_cons (pe_lc (own := [("row", 7)]) (g := (gName 7)) (tt := tYes) rfl scClans.nd (pi_list (pv 4)) (blkOk_by (N := ["self", "text", "lines", "fresh", "rows", "number", "line", "row", "task", "above", "_", "border"]) (sc := defScope sClans) (by decide +kernel)) (fun _ _ _ _ _ => (pg_name (i := 7) scClans.nd rfl (.inl rfl))) (fun _ _ _ _ _ => pts_nil) (fun _ _ _ _ _ => (pe_ix (show IxR _ (rIxT K) from ix_tup) (pv 7) pe_int (fun _ _ => rfl)))) pa_nil)) rfl) (pss_cons (ps_fld (pv 0) (pe_dc (own := [("task", 8), ("above", 9), ("_", 10)]) (g := (gTup K 3 (gCons (gName 8) (gCons (gName 9) (gCons (gName 10) gNil))))) (tt := tYes) rfl scClans.nd (pi_list (pv 4)) (blkOk_by (N := ["self", "text", "lines", "fresh", "rows", "number", "line", "row", "task", "above", "_", "border"]) (sc := defScope sClans) (by decide +kernel)) (fun _ _ _ _ _ => (pg_tup (by rfl) (pgs_cons (pg_name (i := 8) scClans.nd rfl (.inl rfl)) (pgs_cons (pg_name (i := 9) scClans.nd rfl (.inl rfl)) (pgs_cons (pg_name (i := 10) scClans.nd rfl (.inl rfl)) pgs_nil))))) (fun _ _ _ _ _ => pts_nil) (fun _ _ _ _ _ => (pv 8)) (fun _ _ _ _ _ => (pv 9))) rfl) (pss_one (ps_fld (pv 0) (pe_dc (own := [("task", 8), ("_", 10), ("border", 11)]) (g := (gTup K 3 (gCons (gName 8) (gCons (gName 10) (gCons (gName 11) gNil))))) (tt := tYes) rfl scClans.nd (pi_list (pv 4)) (blkOk_by (N := ["self", "text", "lines", "fresh", "rows", "number", "line", "row", "task", "above", "_", "border"]) (sc := defScope sClans) (by decide +kernel)) (fun _ _ _ _ _ => (pg_tup (by rfl) (pgs_cons (pg_name (i := 8) scClans.nd rfl (.inl rfl)) (pgs_cons (pg_name (i := 10) scClans.nd rfl (.inl rfl)) (pgs_cons (pg_name (i := 11) scClans.nd rfl (.inl rfl)) pgs_nil))))) (fun _ _ _ _ _ => pts_nil) (fun _ _ _ _ _ => (pv 8)) (fun _ _ _ _ _ => (pv 11))) rfl))))))))))))))), ?_⟩
    refine ⟨v, rfl, v, tyName d, rfl, hd.ty, _, _, rfl, rfl, _, rfl, ?_⟩
    have fin : ∀ (n : Nat) H1, wrongD d = some n → Same H H1 → _ := fun n H1 e s1 => need_ok (v := .int (n : Nat)) (H1 := H1) (Q := fun cls d H' => E cls d H') E1 fun dd nd => qe n e H1 dd s1 nd
    cases hd with
    | d0 h => exact iteT (fin 0 H rfl (Same.refl H))
    | d1 h => exact iteT (fin 0 H rfl (Same.refl H))
    | dp hd =>
      cases hd with
      | non => exact iteT (fin 0 H rfl (Same.refl H))
      | bl b => exact iteT (fin 0 H rfl (Same.refl H))
      | int x => exact iteT (fin 0 H rfl (Same.refl H))
      | lst hs _ => exact iteT (fin 0 H rfl (Same.refl H))
      | tup hs _ => exact iteT (fin 0 H rfl (Same.refl H))
      | str z =>
        have hz := hz z rfl
        have q := q z rfl
        have hw : ∀ x ∈ Txt.split z "\n", x.length ≤ 640 := fun x hx => Nat.le_trans (split_le hx) hz
        have hmany := split_many z "\n" (by decide)
        have hlim : (Txt.split z "\n").length ≤ 641 := by omega
        clear hmany
        unfold wrongT at q
        have ew : wrongD (.str z) = match toldN (Txt.split z "\n") 0 "clans" 1 999 with
          | none => some 1
          | some fresh => wrongR fresh 2 [] (Txt.split z "\n").tail := rfl
        refine iteF ⟨.str z, rfl, ⟨_, rfl⟩, z, "\n", rfl, rfl, by decide, sl (by omega), fun L nL => ?_⟩
        have s1 := same_upd (o := .lst ((Txt.split z "\n").map V.str)) nL
        generalize Txt.split z "\n" = ls at s1 hw hlim q ew ⊢
        have hL : SqL K (upd H L (.lst (ls.map V.str))) L (ls.map V.str) := SqL.of upd_same
        generalize upd H L (.lst (ls.map V.str)) = H1 at s1 hL ⊢
        refine ⟨.ref L, rfl, by show 2 ≤ sizeLine; decide, fun t nt => ?_⟩
        have s2 := same_upd (o := .tup [V.int 1, .int 999]) nt
        refine ⟨L, t, ls, 0, "clans", 1, 999, rfl, s2.seq hL, SqT.of upd_same, hw, fun H2 s3 => ?_⟩
        have sm := s1.trans (s2.trans s3)
        have hL2 := s3.seq (s2.seq hL)
        clear s2 s3 hL s1
        cases ef : toldN ls 0 "clans" 1 999 with
        | none =>
          rw [ef] at ew
          exact ⟨.non, rfl, rfl, _, rfl, iteD rfl (fin 1 H2 ew sm)⟩
        | some fresh =>
          rw [ef] at ew q
          refine ⟨.int fresh, rfl, rfl, _, rfl, iteE (fun y => nomatch y) ⟨by show 0 ≤ sizeLine; decide, fun R nR => ?_⟩⟩
          have smR := sm.trans (same_upd (o := .lst []) nR)
          have nR0 : H R = none := none_of sm nR
          have hL3 := (same_upd (o := .lst []) nR).seq hL2
          have hR : upd H2 R (.lst []) R = some (.lst []) := upd_same
          generalize upd H2 R (.lst []) = H3 at smR hL3 hR ⊢
          clear sm nR hL2
          refine ⟨.ref L, rfl, 1, rfl, L, _, rfl, hL3, fun D nD => ⟨D, rfl, 2, _, rfl, SqL.of upd_same, by decide, by decide, ?_⟩⟩
          have ecut : cutV (ls.map V.str) (some 1) none = (ls.drop 1).map V.str := (cut_drop _ 1).trans (List.map_drop ..).symm
          rw [ecut]
          have smD := smR.trans (same_upd (o := .lst ((ls.drop 1).map V.str)) nD)
          have nDR : D ≠ R := by rintro rfl; rw [nD] at hR; cases hR
          have hRD : upd H3 D (.lst ((ls.drop 1).map V.str)) R = some (.lst []) := (upd_ne nDR.symm).trans hR
          have hDD : upd H3 D (.lst ((ls.drop 1).map V.str)) D = some (.lst ((ls.drop 1).map V.str)) := upd_same
          generalize upd H3 D (.lst ((ls.drop 1).map V.str)) = H4 at smD hRD hDD ⊢
          have ew2 : wrongR fresh 2 [] (ls.drop 1) = wrongR fresh 2 [] ls.tail := by rw [List.drop_one]
          refine for_any (n := (ls.drop 1).length) (fun i σ H' => ∃ y5 y6 y7 rs xs, σ = [some (.ref p), some (.str z), some (.ref L), some (.int fresh), some (.ref R), y5, y6, y7, none, none, none, none] ∧ Same H H' ∧ H' R = some (.lst xs) ∧ RowsAt K H' xs rs ∧ rs.length ≤ 6 ∧ H' D = some (.lst ((ls.drop 1).map V.str)) ∧ wrongR fresh (2 + i) rs ((ls.drop 1).drop i) = wrongR fresh 2 [] ls.tail)
            ⟨none, none, none, [], [], rfl, smD, hRD, ⟨rfl, fun i r e => by cases e⟩, by decide, hDD, ew2⟩ (fun i σ H' hi hP => ?_) (fun σ H' hP => ?_) (fun i x σ H' H'' hi hP hy => ?_) fun σ H' hP => ?_
          · obtain ⟨_, _, _, _, _, _, _, _, _, _, hD, _⟩ := hP
            exact ⟨_, .str (ls.drop 1)[i], SqL.of hD, by rw [List.getElem?_map, List.getElem?_eq_getElem hi]; rfl⟩
          · obtain ⟨_, _, _, _, _, _, _, _, _, _, hD, _⟩ := hP
            exact ⟨_, SqL.of hD, by rw [List.length_map]; exact Nat.le_refl _⟩
          · obtain ⟨y5, y6, y7, rs, xs, rfl, sm, hR, hrs, h6, hD, hwr⟩ := hP
            obtain ⟨T2, xv, rfl, nT, rfl, hx⟩ := hy
            have hget : (ls.drop 1)[i]? = some (ls.drop 1)[i] := List.getElem?_eq_getElem hi
            have hlen : (ls.drop 1)[i].length ≤ 640 := hw _ (List.mem_of_mem_drop (List.getElem_mem hi))
            have hx := hx _ (SqL.of hD)
            rw [List.getElem?_map, hget] at hx
            obtain rfl : V.str (ls.drop 1)[i] = xv := Option.some.inj hx
            clear hx
            rw [wrongR_step hget] at hwr
            generalize (ls.drop 1)[i] = l at hlen hwr hget ⊢
            have sT := same_upd (o := .tup [.int (2 + (i : Nat)), .str l]) nT
            refine ⟨T2, [.int _, .str _], rfl, SqT.of upd_same, rfl, .int _, [.str _], rfl, .str _, [], rfl, rfl, ?_⟩
            have smT := sm.trans sT
            have hRT := sT _ _ hR
            have hDT := sT _ _ hD
            have hrsT := rowsAt_same sT hrs
            generalize upd H' T2 (.tup [.int (2 + (i : Nat)), .str l]) = H5 at smT hRT hDT hrsT ⊢
            clear hR hrs hD sm nT sT
            have fin2 : ∀ H6, wrongR fresh 2 [] ls.tail = some (2 + i) → Same H H6 → Need K C1 (.int (2 + (i : Nat))) H6 (fun cls d H' => E cls d H') := fun H6 e s6 => fin (2 + i) H6 (ew.trans e) s6
            refine ⟨.str l, rfl, .int fresh, rfl, l, fresh, rfl, hlen, fun e H6 s6 => ?_, fun r e H6 pr s6 hr => ?_⟩
            · rw [e] at hwr
              exact ⟨.non, rfl, rfl, _, rfl, iteD rfl ⟨.int _, rfl, fin2 _ hwr.symm (smT.trans s6)⟩⟩
            · rw [e] at hwr
              refine ⟨.ref pr, rfl, rfl, _, rfl, iteE (fun y => nomatch y) ⟨.ref pr, rfl, .ref R, rfl, pr, R, r, xs, rs, rfl, hr, SqL.of (s6 _ _ hRT), rowsAt_same s6 hrsT, h6, fun H7 s7 => ⟨_, rfl, ?_⟩⟩⟩
              have s67 := s6.trans s7
              cases eb : standsB r.1 r.2.1 rs with
              | false =>
                simp only [eb] at hwr
                exact iteT ⟨.int _, rfl, fin2 _ hwr.symm (smT.trans s67)⟩
              | true =>
                simp only [eb] at hwr
                have hR7 := s67 _ _ hRT
                have few := standsB_few eb
                have hx7 := (rowsAt_same s67 hrsT).1
                refine iteF ⟨.ref R, rfl, .inl ⟨rfl, _, SqL.of hR7⟩, .ref pr, rfl, R, _, _, rfl, rfl, hR7, small1000 (by omega), ?_⟩
                exact ⟨_, _, _, rs ++ [r], xs ++ [.ref pr], rfl, Same.updNew (smT.trans s67) nR0, upd_same, rowsAt_snoc (rowsAt_list hR7 (rowsAt_same s67 hrsT)) (sqT_upd (Same.seqT s7 hr) hR7), by rw [List.length_append, List.length_singleton]; omega, by rw [upd_ne nDR]; exact s67 _ _ hDT, hwr⟩
          · obtain ⟨y5, y6, y7, rs, xs, rfl, sm, hR, hrs, h6, hD, hwr⟩ := hP
            rw [List.drop_of_length_le (Nat.le_refl _)] at hwr
            have hxl := hrs.1
            refine ⟨.ref R, rfl, !xs.isEmpty, .inl ⟨xs, SqL.of hR, rfl⟩, ?_⟩
            cases rs with
            | nil =>
              have ex : xs = [] := List.length_eq_zero_iff.mp hxl
              subst ex
              exact iteT (fin 2 H' (ew.trans hwr.symm) sm)
            | cons r0 rr =>
              have hex : xs.isEmpty = false := by
                cases xs with
                | nil => cases hxl
                | cons _ _ => rfl
              rw [hex]
              have q := q (hwr.symm.trans (if_neg (fun y => nomatch y)))
              have hp1 := sm _ _ hp
              have npR : ¬ R = p := by rintro rfl; rw [hR] at hp1; cases hp1
              have C1 : CS K H (upd H' p (.ins C dx (putF "text" (V.str z) []))) p R C dx z xs (r0 :: rr) 1 := by
                refine ⟨_, upd_same, length_putF _ _ _, by rw [lookup_putF, if_pos rfl], fun b o e ne => by rw [upd_ne ne]; exact sm _ _ e, by rw [upd_ne npR]; exact hR, hxl, fun i r e => ?_⟩
                obtain ⟨pi, e1, e2⟩ := hrs.2 i r e
                exact ⟨pi, e1, sqT_ins e2 hp1⟩
              refine iteF ⟨.str z, rfl, .ref p, rfl, p, C, dx, _, rfl, hp1, T.cl, T.nT, (by show 0 < 1000; decide), ?_⟩
              generalize upd H' p (.ins C dx (putF "text" (V.str z) [])) = H5 at C1 ⊢
              obtain ⟨fs1, p1, l1, _⟩ := id C1
              have C2 := C1.put (f := "fresh") (y := V.int fresh) p1 (by decide)
              refine ⟨.int fresh, rfl, .ref p, rfl, p, C, dx, _, rfl, p1, T.cl, T.nF, (by omega), ?_⟩
              generalize upd H5 p (.ins C dx (putF "fresh" (V.int fresh) fs1)) = H6 at C2 ⊢
              obtain ⟨fs2, p2, l2, _, _, R2, _⟩ := id C2
              refine ⟨.ref R, rfl, R, _, rfl, .inl ⟨SqL.of R2, fun t3 n3 => ?_⟩⟩
              have C2 := C2.same (same_upd (o := .tup xs) n3)
              generalize upd H6 t3 (.tup xs) = H7 at C2 ⊢
              obtain ⟨fs3, p3, l3, _⟩ := id C2
              have C3 := C2.put (f := "rows") (y := V.ref t3) p3 (by decide)
              refine ⟨.ref p, rfl, p, C, dx, _, rfl, p3, T.cl, T.nR, (by omega), ?_⟩
              generalize upd H7 p (.ins C dx (putF "rows" (V.ref t3) fs3)) = H8 at C3 ⊢
              obtain ⟨fs4, p4, l4, _, _, R4, r4⟩ := id C3
              refine ⟨.ref R, rfl, R, rfl, ⟨_, SqL.of R4⟩, fun D4 n4 => ?_⟩
              refine lc_list (xs := xs) (fun i H' => CS K H H' p R C dx z xs (r0 :: rr) 3 ∧ ∃ acc, H' D4 = some (.lst acc) ∧ acc.length = i) ⟨C3.same (same_upd n4), [], upd_same, rfl⟩ (fun i H' _ hP => ?_) (fun i x H' hx hP => ?_) fun H9 hP => ?_
              · obtain ⟨⟨_, _, _, _, _, h, _⟩, _⟩ := hP
                exact SqL.of h
              · obtain ⟨cs, acc, hD4, hacc⟩ := hP
                obtain ⟨_, _, _, _, _, _, hr9⟩ := id cs
                have hi := (List.getElem?_eq_some_iff.mp hx).1
                obtain ⟨pi, e1, e2⟩ := hr9.2 i _ (List.getElem?_eq_getElem (by rw [← hxl]; exact hi))
                cases Option.some.inj (hx.symm.trans e1)
                refine ⟨rfl, ?_⟩
                unfold tYes
                refine iteT ⟨.ref pi, rfl, pi, _, 0, .int _, rfl, rfl, e2, at0, _, hD4, small1000 (by omega), cs.upd C3 n4 hD4 (fun _ y => nomatch y) (fun _ _ y => nomatch y), _, upd_same, by rw [List.length_append, List.length_singleton, hacc]⟩
              · obtain ⟨C4, acc, hD4, hacc⟩ := hP
                refine ⟨D4, acc, rfl, .inl ⟨SqL.of hD4, fun t5 n5 => ?_⟩⟩
                have C4 := C4.same (same_upd (o := .tup acc) n5)
                generalize upd H9 t5 (.tup acc) = H10 at C4 ⊢
                obtain ⟨fs5, p5, l5, _⟩ := id C4
                have C5 := C4.put (f := "tasks") (y := V.ref t5) p5 (by decide)
                refine ⟨.ref p, rfl, p, C, dx, _, rfl, p5, T.cl, T.nK, (by omega), ?_⟩
                generalize upd H10 p (.ins C dx (putF "tasks" (V.ref t5) fs5)) = H11 at C5 ⊢
                obtain ⟨fs6, p6, l6, _, _, R6, r6⟩ := id C5
                refine ⟨.ref R, rfl, R, rfl, ⟨_, SqL.of R6⟩, fun D6 n6 => ?_⟩
                refine dc_any (n := xs.length) (fun i H' => CS K H H' p R C dx z xs (r0 :: rr) 4 ∧ ∃ kvs, H' D6 = some (.dK kvs) ∧ kvs.length ≤ i) ⟨C5.same (same_upd n6), [], upd_same, Nat.le_refl _⟩ (fun i H' hi hP => ?_) (fun H' hP => ?_) (fun i x H' H'' hi hP hy => ?_) fun H12 hP => ?_
                · obtain ⟨⟨_, _, _, _, _, h, _⟩, _⟩ := hP
                  exact ⟨xs, xs[i], SqL.of h, List.getElem?_eq_getElem hi⟩
                · obtain ⟨⟨_, _, _, _, _, h, _⟩, _⟩ := hP
                  exact ⟨xs, SqL.of h, Nat.le_refl _⟩
                · obtain ⟨cs, kvs, hD6, hacc⟩ := hP
                  obtain ⟨rfl, hx⟩ := hy
                  obtain ⟨_, _, _, _, _, hR9, hr9⟩ := id cs
                  have hx := hx xs (SqL.of hR9)
                  obtain ⟨pi, e1, e2⟩ := hr9.2 i _ (List.getElem?_eq_getElem (by rw [← hxl]; exact hi))
                  cases Option.some.inj (hx.symm.trans e1)
                  refine ⟨pi, _, rfl, e2, rfl, .int _, [_, _], rfl, _, [_], rfl, _, [], rfl, rfl, rfl, ?_⟩
                  unfold tYes
                  refine iteT ⟨_, rfl, _, rfl, kvs, .inl _, rfl, hD6, small1000 (by omega), cs.upd C5 n6 hD6 (fun _ y => nomatch y) (fun _ _ y => nomatch y), _, upd_same, Nat.le_trans (length_putK _ _ _) (by omega)⟩
                · obtain ⟨C6, _, _, _⟩ := hP
                  obtain ⟨fs7, p7, l7, _⟩ := id C6
                  have C7 := C6.put (f := "chiefs") (y := V.ref D6) p7 (by decide)
                  refine ⟨.ref p, rfl, p, C, dx, _, rfl, p7, T.cl, T.nC, (by omega), ?_⟩
                  generalize upd H12 p (.ins C dx (putF "chiefs" (V.ref D6) fs7)) = H13 at C7 ⊢
                  obtain ⟨fs8, p8, l8, _, _, R8, r8⟩ := id C7
                  refine ⟨.ref R, rfl, R, rfl, ⟨_, SqL.of R8⟩, fun D8 n8 => ?_⟩
                  refine dc_any (n := xs.length) (fun i H' => CS K H H' p R C dx z xs (r0 :: rr) 5 ∧ ∃ kvs, H' D8 = some (.dK kvs) ∧ kvs.length ≤ i) ⟨C7.same (same_upd n8), [], upd_same, Nat.le_refl _⟩ (fun i H' hi hP => ?_) (fun H' hP => ?_) (fun i x H' H'' hi hP hy => ?_) fun H14 hP => ?_
                  · obtain ⟨⟨_, _, _, _, _, h, _⟩, _⟩ := hP
                    exact ⟨xs, xs[i], SqL.of h, List.getElem?_eq_getElem hi⟩
                  · obtain ⟨⟨_, _, _, _, _, h, _⟩, _⟩ := hP
                    exact ⟨xs, SqL.of h, Nat.le_refl _⟩
                  · obtain ⟨cs, kvs, hD8, hacc⟩ := hP
                    obtain ⟨rfl, hx⟩ := hy
                    obtain ⟨_, _, _, _, _, hR9, hr9⟩ := id cs
                    have hx := hx xs (SqL.of hR9)
                    obtain ⟨pi, e1, e2⟩ := hr9.2 i _ (List.getElem?_eq_getElem (by rw [← hxl]; exact hi))
                    cases Option.some.inj (hx.symm.trans e1)
                    refine ⟨pi, _, rfl, e2, rfl, .int _, [_, _], rfl, _, [_], rfl, _, [], rfl, rfl, rfl, ?_⟩
                    unfold tYes
                    refine iteT ⟨_, rfl, _, rfl, kvs, .inl _, rfl, hD8, small1000 (by omega), cs.upd C7 n8 hD8 (fun _ y => nomatch y) (fun _ _ y => nomatch y), _, upd_same, Nat.le_trans (length_putK _ _ _) (by omega)⟩
                  · obtain ⟨C8, _, _, _⟩ := hP
                    obtain ⟨fs9, p9, l9, _⟩ := id C8
                    have C9 := C8.put (f := "borders") (y := V.ref D8) p9 (by decide)
                    refine ⟨.ref p, rfl, p, C, dx, _, rfl, p9, T.cl, T.nB, (by omega), ?_⟩
                    obtain ⟨fsA, pA, lA, tA, kA, _⟩ := C9
                    exact q _ fsA kA pA tA
end
end K36

set_option maxRecDepth 100000
set_option maxHeartbeats 4000000
/-! k36: the law's drawn house, and its text. -/
namespace K36
open PySem PySem.Spec PyProof.Rows L2 LamX VG TL
/-! ### split is join's other way -/
def joinL (c : Nat) : List (List Nat) → List Nat
  | [] => []
  | [p] => p
  | p :: q :: r => p ++ c :: joinL c (q :: r)
theorem cut_at {c : Nat} : ∀ {p q r s : List Nat}, c ∉ p → c ∉ q → p ++ c :: r = q ++ c :: s → p = q ∧ r = s
  | [], [], _, _, _, _, e => ⟨rfl, (List.cons.inj e).2⟩
  | [], y :: q, _, _, _, hq, e => absurd (by rw [(List.cons.inj e).1]; simp) hq
  | x :: p, [], _, _, hp, _, e => absurd (by rw [← (List.cons.inj e).1]; simp) hp
  | x :: p, y :: q, _, _, hp, hq, e => by
    obtain ⟨e1, e2⟩ := List.cons.inj e
    obtain ⟨e3, e4⟩ := cut_at (fun h => hp (List.mem_cons_of_mem _ h)) (fun h => hq (List.mem_cons_of_mem _ h)) e2
    exact ⟨by rw [e1, e3], e4⟩
theorem joinL_inj {c : Nat} : ∀ (ps qs : List (List Nat)), ps ≠ [] → qs ≠ [] → (∀ p ∈ ps, c ∉ p) → (∀ q ∈ qs, c ∉ q) → joinL c ps = joinL c qs → ps = qs
  | [], _, h, _, _, _, _ => absurd rfl h
  | _, [], _, h, _, _, _ => absurd rfl h
  | [p], [q], _, _, _, _, e => by rw [show p = q from e]
  | [p], q :: q2 :: r, _, _, hp, _, e => by
    have : c ∈ p := by
      rw [show p = q ++ c :: joinL c (q2 :: r) from e]
      simp
    exact absurd this (hp p (by simp))
  | p :: p2 :: r, [q], _, _, _, hq, e => by
    have : c ∈ q := by
      rw [← show p ++ c :: joinL c (p2 :: r) = q from e]
      simp
    exact absurd this (hq q (by simp))
  | p :: p2 :: r, q :: q2 :: s, _, _, hp, hq, e => by
    have e' : p ++ c :: joinL c (p2 :: r) = q ++ c :: joinL c (q2 :: s) := e
    obtain ⟨e1, e2⟩ := cut_at (hp p (by simp)) (hq q (by simp)) e'
    rw [e1, joinL_inj (p2 :: r) (q2 :: s) (by simp) (by simp) (fun x hx => hp x (List.mem_cons_of_mem _ hx)) (fun x hx => hq x (List.mem_cons_of_mem _ hx)) e2]
theorem join_list (c : Nat) : ∀ ps : List Str, (Txt.join ⟨#[c]⟩ ps).cps.toList = joinL c (ps.map fun p => p.cps.toList)
  | [] => rfl
  | [p] => by
    rw [join_eq]
    rfl
  | p :: q :: r => by
    have ih := join_list c (q :: r)
    rw [join_eq] at ih ⊢
    show (p ++ ⟨#[c]⟩ ++ Str.join ⟨#[c]⟩ (q :: r) : Str).cps.toList = _
    simp only [Str.cps_append, Array.toList_append, ih]
    simp [joinL]
theorem join_back (x : Str) (c : Nat) : Txt.join ⟨#[c]⟩ (Txt.split x ⟨#[c]⟩) = x := by
  unfold Txt.split
  split
  · rw [join_eq]; rfl
  · split
    · rw [join_eq]; rfl
    · exact StrLaws.glued_between_self x ⟨#[c]⟩ (x.length + 1)
theorem map_inj {α β : Type} {f : α → β} (h : ∀ a b, f a = f b → a = b) : ∀ {l m : List α}, l.map f = m.map f → l = m
  | [], [], _ => rfl
  | [], _ :: _, e => by cases e
  | _ :: _, [], e => by cases e
  | a :: l, b :: m, e => by
    rw [List.map_cons, List.map_cons] at e
    obtain ⟨e1, e2⟩ := List.cons.inj e
    rw [h _ _ e1, map_inj h e2]
theorem split_join {c : Nat} {ps : List Str} (hne : ps ≠ []) (hf : ∀ p ∈ ps, c ∉ p.cps.toList) : Txt.split (Txt.join ⟨#[c]⟩ ps) ⟨#[c]⟩ = ps := by
  have h1 := congrArg (fun x : Str => x.cps.toList) (join_back (Txt.join ⟨#[c]⟩ ps) c)
  simp only [join_list] at h1
  have h2 := joinL_inj _ _ (by simpa using split_ne _ _) (by simpa using hne) (fun p hp => by
    obtain ⟨y, hy, rfl⟩ := List.mem_map.mp hp
    exact StrLaws.split_free _ c y hy) (fun p hp => by
    obtain ⟨y, hy, rfl⟩ := List.mem_map.mp hp
    exact hf y hy) h1
  exact map_inj (fun a b e => str_ext e) h2
end K36

set_option maxRecDepth 100000
set_option maxHeartbeats 4000000
/-! k36: the text of a house is a text of clans. -/
namespace K36
open PySem PySem.Spec PyProof.Rows L2 LamX VG TL
def chiefT : Option Int → Str
  | none => "-"
  | some n => strN n
def bordT (b : Bool) : Str := if b = true then "border" else "none"
def wordsT (r : Row) : List Str := ["task", strN r.1, chiefT r.2.1, bordT r.2.2]
def rowT (r : Row) : Str := Txt.join " " (wordsT r)
def linesT (nx : Int) (rs : List Row) : List Str := ("clans " ++ strN nx) :: rs.map rowT
def houseT (nx : Int) (rs : List Row) : Str := Txt.join "\n" (linesT nx rs)
/-- each row stands behind those before it -/
def okR : List Row → List Row → Bool
  | _, [] => true
  | acc, r :: rest => standsB r.1 r.2.1 acc && okR (acc ++ [r]) rest
structure RowOk (nx : Int) (r : Row) : Prop where
  lo : 0 ≤ r.1
  hi : r.1 < nx
  no : r.2.1 = none → r.1 = 0
  clo : ∀ n, r.2.1 = some n → 0 ≤ n ∧ n < nx
structure Good (nx : Int) (rs : List Row) : Prop where
  ne : rs ≠ []
  lo : 1 ≤ nx
  hi : nx ≤ 41 * rs.length
  few : rs.length ≤ 6
  ok : okR [] rs = true
  row : ∀ r ∈ rs, RowOk nx r
theorem strN_nat {n : Int} (h : 0 ≤ n) : (strN n).cps.toList = numL n.toNat := by
  have e : n = ((n.toNat : Nat) : Int) := (Int.toNat_of_nonneg h).symm
  conv => lhs; rw [e]
  exact strN_list n.toNat
theorem numL_no {c : Nat} (h : c < 48) (n : Nat) : c ∉ numL n := fun y => by
  have := numL_digits n c y
  omega
theorem strN_no {c : Nat} (h : c < 48) {n : Int} (hn : 0 ≤ n) : c ∉ (strN n).cps.toList := by
  rw [strN_nat hn]
  exact numL_no h _
theorem numIn_strN {n lo hi : Int} (h0 : 0 ≤ n) (h1 : lo ≤ n) (h2 : n ≤ hi) : numIn (strN n) lo hi = some n := by
  obtain ⟨m, rfl⟩ : ∃ m : Nat, n = m := ⟨n.toNat, (Int.toNat_of_nonneg h0).symm⟩
  exact numIn_str h1 h2
theorem chief_no {c : Nat} (h : c < 45) {o : Option Int} (hn : ∀ n, o = some n → 0 ≤ n) : c ∉ (chiefT o).cps.toList := by
  cases o with
  | none =>
    rw [show (chiefT none).cps.toList = [45] by decide]
    intro y
    have := List.mem_singleton.mp y
    omega
  | some n => exact strN_no (by omega) (hn n rfl)
theorem bord_no {c : Nat} (h : c < 48) (b : Bool) : c ∉ (bordT b).cps.toList := by
  cases b
  · rw [show (bordT false).cps.toList = [110, 111, 110, 101] by decide]
    simp; omega
  · rw [show (bordT true).cps.toList = [98, 111, 114, 100, 101, 114] by decide]
    simp; omega
theorem words_no {nx : Int} {r : Row} (h : RowOk nx r) {c : Nat} (hc : c < 45) : ∀ p ∈ wordsT r, c ∉ p.cps.toList := by
  intro p hp
  unfold wordsT at hp
  simp only [List.mem_cons, List.not_mem_nil, or_false] at hp
  rcases hp with rfl | rfl | rfl | rfl
  · rw [show ("task" : Str).cps.toList = [116, 97, 115, 107] by decide]
    simp; omega
  · exact strN_no (show c < 48 by omega) h.lo
  · exact chief_no hc fun n e => (h.clo n e).1
  · exact bord_no (show c < 48 by omega) _
theorem split_row {nx : Int} {r : Row} (h : RowOk nx r) : Txt.split (rowT r) " " = wordsT r :=
  split_join (c := 32) (by simp [wordsT]) (words_no h (by decide))
theorem strN_dash {n : Int} (h : 0 ≤ n) : strN n ≠ "-" := fun e => by
  have := strN_no (c := 45) (by decide) h
  rw [e] at this
  exact this (by decide)
theorem rowOf_row {nx : Int} {r : Row} (h : RowOk nx r) : rowOf (rowT r) nx = some r := by
  unfold rowOf
  rw [split_row h]
  have hb : endB (bordT r.2.2) = true := by cases r.2.2 <;> decide
  have hbb : decide (bordT r.2.2 = "border") = r.2.2 := by cases r.2.2 <;> decide
  unfold rowW wordsT
  simp only
  rw [if_pos ⟨trivial, hb⟩, hbb]
  obtain ⟨t, a, b⟩ := r
  have h1 := h.lo
  have h2 := h.hi
  cases a with
  | none =>
    have h0 : t = 0 := h.no rfl
    subst h0
    show (if chiefT none = "-" then (if numIn (strN 0) 0 (nx - 1) = some 0 then some ((0, none, b) : Row) else none) else _) = _
    rw [if_pos (show chiefT none = "-" from rfl), if_pos (numIn_strN (by decide) (by decide) (by have : (0 : Int) < nx := h2; omega))]
  | some n =>
    obtain ⟨c1, c2⟩ := h.clo n rfl
    show (if chiefT (some n) = "-" then _ else match numIn (strN t) 0 (nx - 1), numIn (strN n) 0 (nx - 1) with | some t, some a => some ((t, some a, b) : Row) | _, _ => none) = _
    rw [if_neg (show chiefT (some n) ≠ "-" from strN_dash c1), numIn_strN h1 h1 (by have : t < nx := h2; show t ≤ nx - 1; omega)]
    show (match some t, numIn (strN n) 0 (nx - 1) with | some t, some a => some (t, some a, b) | _, _ => none) = _
    rw [numIn_strN c1 c1 (by omega)]
theorem wrongR_good {nx : Int} : ∀ (rs acc : List Row) (n : Nat), (∀ r ∈ rs, RowOk nx r) → okR acc rs = true → acc ++ rs ≠ [] → wrongR nx n acc (rs.map rowT) = none
  | [], acc, n, _, _, h => if_neg (by simpa using h)
  | r :: rs, acc, n, h1, h2, h3 => by
    unfold okR at h2
    simp only [Bool.and_eq_true] at h2
    rw [List.map_cons]
    unfold wrongR
    rw [rowOf_row (h1 r (by simp))]
    simp only [h2.1, if_true]
    exact wrongR_good rs (acc ++ [r]) (n + 1) (fun x hx => h1 x (List.mem_cons_of_mem _ hx)) h2.2 (by simp)
theorem head_join (x : Str) : ("clans " ++ x : Str) = Txt.join " " ["clans", x] := by
  refine str_ext ?_
  rw [show (" " : Str) = ⟨#[32]⟩ by decide, join_list, Str.cps_append, Array.toList_append]
  rw [show ("clans " : Str).cps.toList = [99, 108, 97, 110, 115, 32] by decide]
  show _ = ("clans" : Str).cps.toList ++ 32 :: joinL 32 [x.cps.toList]
  rw [show ("clans" : Str).cps.toList = [99, 108, 97, 110, 115] by decide]
  rfl
theorem row_no {nx : Int} {r : Row} (h : RowOk nx r) : 10 ∉ (rowT r).cps.toList := by
  unfold rowT
  rw [show (" " : Str) = ⟨#[32]⟩ by decide, join_list]
  intro y
  have h4 := words_no h (c := 10) (by decide)
  have key : ∀ ps : List (List Nat), (∀ p ∈ ps, 10 ∉ p) → 10 ∉ joinL 32 ps := by
    intro ps
    induction ps with
    | nil => intro _ y; cases y
    | cons p r ih =>
      intro hp
      cases r with
      | nil => exact hp p (by simp)
      | cons q s =>
        show 10 ∉ p ++ 32 :: joinL 32 (q :: s)
        intro y
        rcases List.mem_append.mp y with y | y
        · exact hp p (by simp) y
        · rcases List.mem_cons.mp y with y | y
          · cases y
          · exact ih (fun x hx => hp x (List.mem_cons_of_mem _ hx)) y
  refine key _ (fun p hp => ?_) y
  obtain ⟨z, hz, rfl⟩ := List.mem_map.mp hp
  exact h4 z hz
theorem head_no {nx : Int} (h : 0 ≤ nx) : 10 ∉ ("clans " ++ strN nx : Str).cps.toList := by
  rw [Str.cps_append, Array.toList_append, show ("clans " : Str).cps.toList = [99, 108, 97, 110, 115, 32] by decide]
  intro y
  rcases List.mem_append.mp y with y | y
  · revert y; decide
  · exact strN_no (by decide) h y
theorem split_house {nx : Int} {rs : List Row} (g : Good nx rs) : Txt.split (houseT nx rs) "\n" = linesT nx rs := by
  have hx : ("\n" : Str) = ⟨#[10]⟩ := by decide
  have h1 := g.lo
  unfold houseT
  rw [hx]
  refine split_join (by simp [linesT]) fun p hp => ?_
  rcases List.mem_cons.mp hp with rfl | hp
  · exact head_no (by omega)
  · obtain ⟨r, hr, rfl⟩ := List.mem_map.mp hp
    exact row_no (g.row r hr)
theorem told_house {nx : Int} {rs : List Row} (g : Good nx rs) : toldN (linesT nx rs) 0 "clans" 1 999 = some nx := by
  have h1 := g.lo
  have h2 := g.hi
  have h3 := g.few
  unfold toldN linesT
  show (match Txt.split ("clans " ++ strN nx) " " with
    | [a, b] => if a = "clans" then numIn b 1 999 else none
    | _ => none) = _
  rw [head_join, show (" " : Str) = ⟨#[32]⟩ by decide, split_join (c := 32) (by simp) (fun p hp => by
    simp only [List.mem_cons, List.not_mem_nil, or_false] at hp
    rcases hp with rfl | rfl
    · decide
    · exact strN_no (by decide) (by omega))]
  show (if ("clans" : Str) = "clans" then numIn (strN nx) 1 999 else none) = _
  rw [if_pos rfl]
  exact numIn_strN (by omega) h1 (by omega)
theorem wrong_house {nx : Int} {rs : List Row} (g : Good nx rs) : wrongT (houseT nx rs) = none := by
  unfold wrongT
  rw [split_house g, told_house g]
  exact wrongR_good rs [] 2 g.row g.ok (by simpa using g.ne)
end K36

set_option maxRecDepth 100000
set_option maxHeartbeats 4000000
/-! k36: the law's drawn house. -/
namespace K36
open PySem PySem.Spec PyProof.Rows L2 LamX VG TL
theorem scHouseText : FnScope ["house", "lines", "task", "chief"] ["house"] (defScope sHouseText) := ⟨rfl, rfl, rfl, by decide +kernel, rfl, by decide +kernel, by decide +kernel⟩
theorem scHouseMade : FnScope ["house", "chief", "border", "later"] ["house", "chief", "border"] (defScope sHouseMade) := ⟨rfl, rfl, rfl, by decide +kernel, rfl, by decide +kernel, by decide +kernel⟩
theorem val_to {t : TE} {σ : L2.St} {H : Hp} {Q : VK} (v : V) (h : ∀ R : VK, R v H → t σ H R) (q : Q v H) : t σ H Q := h _ q
def chKV (rs : List Row) : List (Key × V) := rs.map fun r => (Sum.inl r.1, optI r.2.1)
def boKV (rs : List Row) : List (Key × V) := rs.map fun r => (Sum.inl r.1, V.bl r.2.2)
def hkv (nx : Int) (c b : Addr) : List (Key × V) := [(Sum.inr "next", .int nx), (Sum.inr "chiefs", .ref c), (Sum.inr "borders", .ref b)]
theorem v_next {nx : Int} {c b : Addr} : valV (hkv nx c b) (Sum.inr "next") = some (.int nx) := valV_pos rfl
theorem v_chiefs {nx : Int} {c b : Addr} : valV (hkv nx c b) (Sum.inr "chiefs") = some (.ref c) := (valV_neg (fun y => absurd (Sum.inr.inj y) (by decide))).trans (valV_pos rfl)
theorem v_borders {nx : Int} {c b : Addr} : valV (hkv nx c b) (Sum.inr "borders") = some (.ref b) := (valV_neg (fun y => absurd (Sum.inr.inj y) (by decide))).trans ((valV_neg (fun y => absurd (Sum.inr.inj y) (by decide))).trans (valV_pos rfl))
theorem g_next {H : Hp} {h c b : Addr} {nx : Int} (e : H h = some (.dK (hkv nx c b))) : DGet H h (.str "next") (some (.int nx)) := by rw [← v_next (nx := nx) (c := c) (b := b)]; exact DGet.k (k := Sum.inr "next") e
theorem g_chiefs {H : Hp} {h c b : Addr} {nx : Int} (e : H h = some (.dK (hkv nx c b))) : DGet H h (.str "chiefs") (some (.ref c)) := by rw [← v_chiefs (nx := nx) (c := c) (b := b)]; exact DGet.k (k := Sum.inr "chiefs") e
theorem g_borders {H : Hp} {h c b : Addr} {nx : Int} (e : H h = some (.dK (hkv nx c b))) : DGet H h (.str "borders") (some (.ref b)) := by rw [← v_borders (nx := nx) (c := c) (b := b)]; exact DGet.k (k := Sum.inr "borders") e
def Rise (rs : List Row) : Prop := (rs.map (·.1)).Pairwise (· < ·)
theorem rise_snoc {rs : List Row} {r : Row} (h : Rise rs) (hr : ∀ x ∈ rs, x.1 < r.1) : Rise (rs ++ [r]) := by
  unfold Rise at h ⊢
  rw [List.map_append, List.pairwise_append]
  refine ⟨h, by simp, fun a ha b hb => ?_⟩
  obtain ⟨x, hx, rfl⟩ := List.mem_map.mp ha
  rw [List.map_singleton, List.mem_singleton] at hb
  subst hb
  exact hr x hx
theorem rise_last {rs : List Row} {l : Row} (h : Rise rs) (hl : rs.getLast? = some l) : ∀ x ∈ rs, x.1 ≤ l.1 := by
  intro x hx
  obtain ⟨i, hi, e⟩ := List.mem_iff_getElem.mp hx
  have hlast : rs[rs.length - 1]? = some l := by rw [← List.getLast?_eq_getElem?]; exact hl
  obtain ⟨hj, ej⟩ := List.getElem?_eq_some_iff.mp hlast
  rcases Nat.lt_or_ge i (rs.length - 1) with c | c
  · have := List.pairwise_iff_getElem.mp h i (rs.length - 1) (by rw [List.length_map]; exact hi) (by rw [List.length_map]; exact hj) c
    rw [List.getElem_map, List.getElem_map, e, ej] at this
    omega
  · have e2 : i = rs.length - 1 := by omega
    subst e2
    rw [← e, ej]
    exact Int.le_refl _
theorem stands_above {t : Int} {a : Option Int} {rs : List Row} (h : Rise rs) (hs : standsB t a rs = true) : ∀ x ∈ rs, x.1 < t := by
  intro x hx
  unfold standsB at hs
  cases e : rs.getLast? with
  | none => rw [List.getLast?_eq_none_iff.mp e] at hx; cases hx
  | some l =>
    rw [e] at hs
    simp only [Bool.and_eq_true, decide_eq_true_eq] at hs
    have := rise_last h e x hx
    omega
theorem okR_rise : ∀ (rs acc : List Row), Rise acc → okR acc rs = true → Rise (acc ++ rs)
  | [], acc, h, _ => by rw [List.append_nil]; exact h
  | r :: rs, acc, h, h2 => by
    unfold okR at h2
    simp only [Bool.and_eq_true] at h2
    have := okR_rise rs (acc ++ [r]) (rise_snoc h (stands_above h h2.1)) h2.2
    rw [List.append_assoc] at this
    exact this
theorem Good.rise {nx : Int} {rs : List Row} (g : Good nx rs) : Rise rs := okR_rise rs [] (by simp [Rise]) g.ok
theorem sorted_rise {rs : List Row} (h : Rise rs) {ys : List Int} (hp : ys.Perm (rs.map (·.1))) (hs : ys.Pairwise (· ≤ ·)) : ys = rs.map (·.1) :=
  List.Perm.eq_of_pairwise (fun a b _ _ h1 h2 => Int.le_antisymm h1 h2) hs (List.Pairwise.imp (fun h => Int.le_of_lt h) h) hp
theorem val_at {f : Row → V} : ∀ {rs : List Row}, Rise rs → ∀ {i : Nat} {r : Row}, rs[i]? = some r → valV (rs.map fun r => ((Sum.inl r.1 : Key), f r)) (Sum.inl r.1) = some (f r)
  | [], _, i, r, e => by cases e
  | x :: rs, h, i, r, e => by
    rw [List.map_cons]
    have h' : (x.1 :: rs.map (·.1)).Pairwise (· < ·) := h
    rw [List.pairwise_cons] at h'
    cases i with
    | zero => cases e; exact valV_pos rfl
    | succ i =>
      have hm : r ∈ rs := List.mem_of_getElem? (i := i) e
      have := h'.1 _ (List.mem_map_of_mem (f := fun r : Row => r.1) hm)
      exact (valV_neg (by intro y; have := Sum.inl.inj y; omega)).trans (val_at (rs := rs) h'.2 (i := i) e)
theorem valV_none {f : Row → V} {t : Int} : ∀ {rs : List Row}, (∀ x ∈ rs, x.1 ≠ t) → valV (rs.map fun r => ((Sum.inl r.1 : Key), f r)) (Sum.inl t) = none
  | [], _ => rfl
  | x :: rs, h => by
    rw [List.map_cons]
    exact (valV_neg (fun y => h x (by simp) (Sum.inl.inj y))).trans (valV_none fun z hz => h z (List.mem_cons_of_mem _ hz))
theorem mergeK_rise {f : Row → V} : ∀ (rs acc : List Row), Rise (acc ++ rs) → mergeK (acc.map fun r => ((Sum.inl r.1 : Key), f r)) (rs.map fun r => ((Sum.inl r.1 : Key), f r)) = (acc ++ rs).map fun r => ((Sum.inl r.1 : Key), f r)
  | [], acc, _ => by rw [List.append_nil]; rfl
  | r :: rs, acc, h => by
    have hlt : ∀ x ∈ acc, x.1 ≠ r.1 := by
      intro x hx
      unfold Rise at h
      rw [List.map_append, List.pairwise_append] at h
      have := h.2.2 x.1 (List.mem_map_of_mem (f := fun r : Row => r.1) hx) r.1 (by simp)
      omega
    have ih := mergeK_rise (f := f) rs (acc ++ [r]) (by rw [List.append_assoc]; exact h)
    show mergeK (putK (acc.map fun r => ((Sum.inl r.1 : Key), f r)) (Sum.inl r.1) (f r)) (rs.map fun r => ((Sum.inl r.1 : Key), f r)) = _
    rw [putK_new _ (valV_none hlt)]
    rw [List.map_append] at ih
    rw [show [(Sum.inl r.1, f r)] = [r].map (fun r : Row => ((Sum.inl r.1 : Key), f r)) from rfl, ih, List.append_assoc]
    rfl
theorem paired_imp {α β : Type} {F G : α → β → Prop} (h : ∀ a b, F a b → G a b) : ∀ {l : List α} {m : List β}, Paired F l m → Paired G l m
  | _, _, .nil => .nil
  | _, _, .cons a b => .cons (h _ _ a) (paired_imp h b)
theorem paired_snoc {α β : Type} {F : α → β → Prop} {a : α} {b : β} (hab : F a b) : ∀ {l : List α} {m : List β}, Paired F l m → Paired F (l ++ [a]) (m ++ [b])
  | _, _, .nil => .cons hab .nil
  | _, _, .cons x y => .cons x (paired_snoc hab y)
theorem paired_len {α β : Type} {F : α → β → Prop} : ∀ {l : List α} {m : List β}, Paired F l m → l.length = m.length
  | _, _, .nil => rfl
  | _, _, .cons _ y => by rw [List.length_cons, List.length_cons, paired_len y]
theorem strN_len {n : Int} (h0 : 0 ≤ n) (h : n < 1000) : (strN n).length ≤ 3 := by
  have e := strN_nat h0
  have := numL_len (n := n.toNat) (k := 3) (by decide) (by omega)
  rw [← e] at this
  rw [len_list]
  exact this
theorem chief_len {o : Option Int} (h : ∀ n, o = some n → 0 ≤ n ∧ n < 1000) : (chiefT o).length ≤ 3 := by
  cases o with
  | none => decide
  | some n => exact strN_len (h n rfl).1 (h n rfl).2
theorem bord_len (b : Bool) : (bordT b).length ≤ 6 := by cases b <;> decide
theorem Good.small {nx : Int} {rs : List Row} (g : Good nx rs) : nx < 1000 := by
  have h2 := g.hi
  have h3 := g.few
  omega
theorem words_sum {nx : Int} {r : Row} (h : RowOk nx r) (hn : nx < 1000) : ((wordsT r).map (·.length)).sum ≤ 16 := by
  have h1 := strN_len h.lo (by have := h.hi; omega)
  have h2 := chief_len (o := r.2.1) fun n e => ⟨(h.clo n e).1, by have := (h.clo n e).2; omega⟩
  have h3 := bord_len r.2.2
  have h4 : ("task" : Str).length = 4 := by decide
  unfold wordsT
  simp only [List.map_cons, List.map_nil, List.sum_cons, List.sum_nil]
  omega
theorem row_len {nx : Int} {r : Row} (h : RowOk nx r) (hn : nx < 1000) : (rowT r).length ≤ 19 := by
  have h1 := words_sum h hn
  unfold rowT
  rw [join_len]
  have h2 : (wordsT r).length = 4 := rfl
  have h3 : (" " : Str).length = 1 := by decide
  rw [h2, h3]
  omega
theorem sum_le {l : List Nat} {m : Nat} (h : ∀ x ∈ l, x ≤ m) : l.sum ≤ l.length * m := by
  induction l with
  | nil => exact Nat.zero_le _
  | cons a r ih =>
    rw [List.sum_cons, List.length_cons, Nat.add_mul, Nat.one_mul]
    have := h a (by simp)
    have := ih fun x hx => h x (List.mem_cons_of_mem _ hx)
    omega
theorem lines_sum {nx : Int} {rs : List Row} (g : Good nx rs) : ((linesT nx rs).map (·.length)).sum ≤ 123 := by
  have h3 := g.few
  have h1 := g.lo
  unfold linesT
  rw [List.map_cons, List.sum_cons]
  have h4 : ("clans " ++ strN nx : Str).length ≤ 9 := by
    have := strN_len (n := nx) (by omega) g.small
    rw [len_list, Str.cps_append, Array.toList_append, List.length_append, ← len_list (strN nx)]
    have : ("clans " : Str).cps.toList.length = 6 := by decide
    omega
  have h5 := sum_le (l := (rs.map rowT).map (·.length)) (m := 19) fun x hx => by
    obtain ⟨y, hy, rfl⟩ := List.mem_map.mp hx
    obtain ⟨r, hr, rfl⟩ := List.mem_map.mp hy
    exact row_len (g.row r hr) g.small
  rw [List.length_map, List.length_map] at h5
  omega
theorem house_len {nx : Int} {rs : List Row} (g : Good nx rs) : (houseT nx rs).length ≤ 129 := by
  have h1 := lines_sum g
  have h3 := g.few
  unfold houseT
  rw [join_len]
  have h2 : (linesT nx rs).length = rs.length + 1 := by unfold linesT; rw [List.length_cons, List.length_map]
  have h4 : ("\n" : Str).length = 1 := by decide
  rw [h2, h4]
  omega
/-- a house stands at h -/
def HAt (H : Hp) (h : Addr) (nx : Int) (rs : List Row) : Prop := ∃ c b, H h = some (.dK (hkv nx c b)) ∧ H c = some (.dK (chKV rs)) ∧ H b = some (.dK (boKV rs))
theorem HAt.same {H H' : Hp} {h : Addr} {nx : Int} {rs : List Row} (s : Same H H') (a : HAt H h nx rs) : HAt H' h nx rs := let ⟨c, b, h1, h2, h3⟩ := a; ⟨c, b, s _ _ h1, s _ _ h2, s _ _ h3⟩
section
variable {P : Program} {w : World} {K : PySem.W.Frag} {mg : Str → Option Value} {base : Heap}
def spHouseText (K : PySem.W.Frag) : Sp := fun vs H Q _ => ∃ (h : Addr) (nx : Int) (rs : List Row), vs = [.ref h] ∧ HAt H h nx rs ∧ Good nx rs ∧ ∀ H', Same H H' → Q (.str (houseT nx rs)) H'
theorem ok_HouseText {k : Nat} {f : Addr} {fd : FuncData}  (F : Fun K "_law_house_text" "_law_house_text" sHouseText f fd)   (fint : mg "int" = none) (fsorted : mg "sorted" = none) (fstr : mg "str" = none) : FnOk P w K mg base CX0 (k + 1) f fd ["house"] (spHouseText K) := by
  refine F.ok scHouseText (fun vs H Q E h => ?_) (fun cdv A outer s H vs Q E hr h => ?_)
  · obtain ⟨h, nx, rs, rfl, _⟩ := h
    rfl
  · obtain ⟨h, nx, rs, rfl, hh, g, q⟩ := h
    refine ⟨_, (pss_cons (ps_set (i := 1) scHouseText.nd rfl (.inl rfl) (pe_lst (pa_cons (pe_op op_add_str pe_str (pe_callTy call_str_int (by rfl) fstr (by decide +kernel) (pa_cons (pe_callTy call_int1 (by rfl) fint (by decide +kernel) (pa_cons (pe_dget (hu_of hr) (pv 0) pe_str (fun _ _ => rfl)) pa_nil)) pa_nil))) pa_nil))) (pss_cons (ps_for PassesOwn.never rfl (pi_list (pe_callB (call_sortedDI rfl) (by rfl) fsorted (by decide +kernel) (pa_cons (pe_dget (hu_of hr) (pv 0) pe_str (fun _ _ => rfl)) pa_nil))) (pg_name (i := 2) scHouseText.nd rfl (.inl rfl)) (pss_cons (ps_set (i := 3) scHouseText.nd rfl (.inl rfl) (pe_ifExp (pt_cmpR op_isN (pe_dget (hu_of hr) (pe_dget (hu_of hr) (pv 0) pe_str (fun _ _ => rfl)) (pv 2) (fun _ _ => rfl)) pe_non (nomark _)) pe_str (pe_callTy call_str_int (by rfl) fstr (by decide +kernel) (pa_cons (pe_callTy call_int1 (by rfl) fint (by decide +kernel) (pa_cons (pe_dget (hu_of hr) (pe_dget (hu_of hr) (pv 0) pe_str (fun _ _ => rfl)) (pv 2) (fun _ _ => rfl)) pa_nil)) pa_nil)))) (pss_one (ps_expr (pe_bm PySem.F.plainAttrs_list PySem.F.slot_list_append PySem.F.type_list_append mt_append (pv 1) (pa_cons (pe_join pe_str (pe_lst (pa_cons pe_str (pa_cons (pe_callTy call_str_int (by rfl) fstr (by decide +kernel) (pa_cons (pe_callTy call_int1 (by rfl) fint (by decide +kernel) (pa_cons (pv 2) pa_nil)) pa_nil)) (pa_cons (pv 3) (pa_cons (pe_ifExp (pt_val (pe_dget (hu_of hr) (pe_dget (hu_of hr) (pv 0) pe_str (fun _ _ => rfl)) (pv 2) (fun _ _ => rfl))) pe_str pe_str) pa_nil)))))) pa_nil)))))) (pss_one (ps_ret (pe_join pe_str (pv 1)))))), ?_⟩
    obtain ⟨c, b, h1, h2, h3⟩ := hh
    have hsm := g.small
    have hlo := g.lo
    have lg : ∀ n : Int, 0 ≤ n → n < 1000 → n.natAbs.log2 < 1920 := fun n a b => log2_small (by have : n.natAbs < 1000 := by omega
                                                                                                omega)
    refine ⟨.ref h, rfl, h, _, rfl, g_next h1, .inl ⟨nx, rfl, nx, rfl, lg nx (by omega) hsm, "clans ", strN nx, rfl, rfl, (by
      have h5 := strN_len (n := nx) (by omega) hsm
      have h6 : ("clans " : Str).length = 6 := by decide
      exact sl (by omega)), by show 1 ≤ sizeLine; decide, fun L nL => ?_⟩⟩
    have s1 := same_upd (o := .lst [V.str ("clans " ++ strN nx)]) nL
    have hL : upd H L (.lst [V.str ("clans " ++ strN nx)]) L = some (.lst [V.str ("clans " ++ strN nx)]) := upd_same
    generalize upd H L (.lst [V.str ("clans " ++ strN nx)]) = H1 at s1 hL ⊢
    refine ⟨.ref h, rfl, h, _, rfl, g_chiefs (s1 _ _ h1), c, chKV rs, rs.map (·.1), rfl, .inl (s1 _ _ h2), (by unfold chKV; rw [List.map_map, List.map_map]; rfl), (by rw [List.length_map]; have := g.few; omega), fun ys S hp hs nS => ?_⟩
    rw [sorted_rise g.rise hp hs]
    have sS := same_upd (o := .lst ((rs.map (·.1)).map V.int)) nS
    have hLS : L ≠ S := by rintro rfl; rw [nS] at hL; cases hL
    refine ⟨S, rfl, ⟨_, SqL.of upd_same⟩, ?_⟩
    refine for_list (xs := (rs.map (·.1)).map V.int) (fun i σ H' => ∃ y2 y3, σ = [some (.ref h), some (.ref L), y2, y3] ∧ Same H H' ∧ H' L = some (.lst ((("clans " ++ strN nx) :: (rs.take i).map rowT).map V.str)) ∧ H' S = some (.lst ((rs.map (·.1)).map V.int)))
      ⟨none, none, rfl, s1.trans sS, sS _ _ hL, upd_same⟩ (fun i σ H' _ hP => ?_) (fun i x σ H' hx hP => ?_) fun σ H' hP => ?_
    · obtain ⟨_, _, _, _, _, h⟩ := hP
      exact SqL.of h
    · obtain ⟨y2, y3, rfl, sm, hL, hS⟩ := hP
      have hi := (List.getElem?_eq_some_iff.mp hx).1
      rw [List.length_map, List.length_map] at hi
      have hget : rs[i]? = some rs[i] := List.getElem?_eq_getElem hi
      rw [List.getElem?_map, List.getElem?_map, hget] at hx
      obtain rfl : V.int (rs[i]).1 = x := Option.some.inj hx
      have hro := g.row _ (List.getElem_mem hi)
      have vc := val_at (f := fun r => optI r.2.1) g.rise hget
      have vb := val_at (f := fun r => V.bl r.2.2) g.rise hget
      have et : rs.take (i + 1) = rs.take i ++ [rs[i]] := by rw [List.take_add_one, hget]; rfl
      generalize rs[i] = r at hro vc vb et ⊢
      have k1 := sm _ _ h1
      have k2 := sm _ _ h2
      have k3 := sm _ _ h3
      have gc : DGet H' c (.int r.1) (some (optI r.2.1)) := by rw [← vc]; exact DGet.k (k := Sum.inl r.1) k2
      have gb : DGet H' b (.int r.1) (some (.bl r.2.2)) := by rw [← vb]; exact DGet.k (k := Sum.inl r.1) k3
      have lgt := lg r.1 hro.lo (by have := hro.hi; omega)
      show tIf _ _ _ _ _ _
      refine val_to (.str (chiefT r.2.1)) (fun R q => ?_) ?_
      · refine ⟨.ref h, rfl, h, _, rfl, g_chiefs k1, .int r.1, rfl, c, optI r.2.1, rfl, gc, rfl, _, rfl, ?_⟩
        cases ec : r.2.1 with
        | none => rw [ec] at q; exact iteD rfl q
        | some n =>
          rw [ec] at q gc
          have := hro.clo n ec
          exact iteE (fun y => nomatch y) ⟨.ref h, rfl, h, _, rfl, g_chiefs k1, .int r.1, rfl, c, .int n, rfl, gc, .inl ⟨n, rfl, n, rfl, lg n this.1 (by omega), q⟩⟩
      · refine ⟨.ref L, rfl, .inl ⟨rfl, _, SqL.of hL⟩, ⟨_, rfl⟩, .int r.1, rfl, .inl ⟨r.1, rfl, r.1, rfl, lgt, .str (chiefT r.2.1), rfl, ?_⟩⟩
        refine val_to (.str (bordT r.2.2)) (fun R q => ?_) ?_
        · refine ⟨.ref h, rfl, h, _, rfl, g_borders k1, .int r.1, rfl, b, .bl r.2.2, rfl, gb, _, rfl, ?_⟩
          cases eb : r.2.2 with
          | true => rw [eb] at q; exact iteT q
          | false => rw [eb] at q; exact iteF q
        · refine ⟨by show 4 ≤ sizeLine; decide, fun D nD => ⟨" ", D, wordsT r, rfl, rfl, .inl (SqL.of upd_same), ?_, ?_⟩⟩
          · have h6 := words_sum hro hsm
            have h7 : (" " : Str).length = 1 := by decide
            have h8 : (wordsT r).length = 4 := rfl
            show _ ≤ _
            rw [h7, h8]
            omega
          · have sD := same_upd (o := .lst ((wordsT r).map V.str)) nD
            have hL2 := sD _ _ hL
            refine ⟨L, _, _, rfl, rfl, hL2, small1000 (by have := g.few; rw [List.length_map, List.length_cons, List.length_map, List.length_take]; omega), ?_⟩
            refine ⟨_, _, rfl, ?_, ?_, ?_⟩
            · exact Same.updNew (sm.trans sD) nL
            · rw [upd_same, et, List.map_append, ← List.cons_append, List.map_append]
              rfl
            · rw [upd_ne hLS.symm]
              exact sD _ _ hS
    · obtain ⟨y2, y3, rfl, sm, hL, hS⟩ := hP
      rw [List.length_map, List.length_map, List.take_length] at hL
      have h6 := lines_sum g
      have h7 : ("\n" : Str).length = 1 := by decide
      have h8 : (linesT nx rs).length = rs.length + 1 := by unfold linesT; rw [List.length_cons, List.length_map]
      exact ⟨⟨_, rfl⟩, .ref L, rfl, "\n", L, linesT nx rs, rfl, rfl, .inl (SqL.of hL), (by rw [h7, h8]; have := g.few; omega), q _ sm⟩
def spHouseMade (K : PySem.W.Frag) : Sp := fun vs H Q _ => ∃ (h : Addr) (nx : Int) (rs : List Row) (a : Option Int) (b : Bool), vs = [.ref h, optI a, .bl b] ∧ HAt H h nx rs ∧ rs.length ≤ 6 ∧ Rise rs ∧ (∀ r ∈ rs, r.1 < nx) ∧ ∀ H' h', Same H H' → HAt H' h' (nx + 1) (rs ++ [(nx, a, b)]) → H h' = none → Q (.ref h') H'
theorem ok_HouseMade {k : Nat} {f : Addr} {fd : FuncData}  (F : Fun K "_law_house_made" "_law_house_made" sHouseMade f fd)   (fdict : mg "dict" = none) (flist : mg "list" = none) : FnOk P w K mg base CX0 (k + 1) f fd ["house", "chief", "border"] (spHouseMade K) := by
  refine F.ok scHouseMade (fun vs H Q E h => ?_) (fun cdv A outer s H vs Q E hr h => ?_)
  · obtain ⟨h, nx, rs, a, b, rfl, _⟩ := h
    rfl
  · obtain ⟨h, nx, rs, a, b, rfl, hh, h6, hri, hlt, q⟩ := h
    refine ⟨_, (pss_cons (ps_set (i := 3) scHouseMade.nd rfl (.inl rfl) (pe_disp (pps_cons pe_str (pe_op op_add (pe_dget (hu_of hr) (pv 0) pe_str (fun _ _ => rfl)) pe_int) (pps_cons pe_str (pe_callTy (call_dictP rfl) (by rfl) fdict (by decide +kernel) (pa_cons (pe_op op_cat (LiI.pe_listItems rfl (pe_dget (hu_of hr) (pv 0) pe_str (fun _ _ => rfl)) (by rfl) flist (by decide +kernel)) (pe_lst (pa_cons (pe_tup (pa_cons (pe_dget (hu_of hr) (pv 0) pe_str (fun _ _ => rfl)) (pa_cons (pv 1) pa_nil))) pa_nil))) pa_nil)) pps_nil)) (by rfl) (by rfl) (fun z => by cases z) (by decide))) (pss_cons (ps_dput (hu_of hr) (pv 3) pe_str (pe_callTy (call_dictP rfl) (by rfl) fdict (by decide +kernel) (pa_cons (pe_op op_cat (LiI.pe_listItems rfl (pe_dget (hu_of hr) (pv 0) pe_str (fun _ _ => rfl)) (by rfl) flist (by decide +kernel)) (pe_lst (pa_cons (pe_tup (pa_cons (pe_dget (hu_of hr) (pv 0) pe_str (fun _ _ => rfl)) (pa_cons (pv 2) pa_nil))) pa_nil))) pa_nil)) rfl) (pss_one (ps_ret (pv 3))))), ?_⟩
    obtain ⟨c, d, h1, h2, h3⟩ := hh
    have hR2 : Rise (rs ++ [(nx, a, b)]) := rise_snoc hri hlt
    have m1 : mergeK [] (chKV (rs ++ [(nx, a, b)])) = chKV (rs ++ [(nx, a, b)]) := mergeK_rise (f := fun r => optI r.2.1) (rs ++ [(nx, a, b)]) [] hR2
    have m2 : mergeK [] (boKV (rs ++ [(nx, a, b)])) = boKV (rs ++ [(nx, a, b)]) := mergeK_rise (f := fun r => V.bl r.2.2) (rs ++ [(nx, a, b)]) [] hR2
    have e1 : chKV (rs ++ [(nx, a, b)]) = chKV rs ++ [(Sum.inl nx, optI a)] := List.map_append ..
    have e2 : boKV (rs ++ [(nx, a, b)]) = boKV rs ++ [(Sum.inl nx, V.bl b)] := List.map_append ..
    have l1 : (chKV rs).length ≤ 6 := by unfold chKV; rw [List.length_map]; exact h6
    have l2 : (boKV rs).length ≤ 6 := by unfold boKV; rw [List.length_map]; exact h6
    intro p np
    have s0 := same_upd (o := .dK []) np
    have hp : upd H p (.dK []) p = some (.dK []) := upd_same
    generalize upd H p (.dK []) = H0 at s0 hp ⊢
    refine ⟨.ref h, rfl, h, _, rfl, g_next (s0 _ _ h1), nx, 1, rfl, rfl, ?_⟩
    refine ⟨.ref h, rfl, h, _, rfl, g_chiefs (s0 _ _ h1), c, chKV rs, rfl, s0 _ _ h2, fun H3 P ts s3 nP nts nPt hPt hpair => ?_⟩
    have l3 := paired_len hpair
    have s03 : Same H H3 := fun b o e => s3 _ _ (s0 _ _ e)
    refine ⟨.ref h, rfl, h, _, rfl, g_next (s03 _ _ h1), _, rfl, by show 2 ≤ sizeLine; decide, fun t nt => ?_⟩
    have s4 := same_upd (o := .tup [.int nx, optI a]) nt
    have ht4 : SqT K (upd H3 t (.tup [.int nx, optI a])) t [.int nx, optI a] := SqT.of upd_same
    generalize upd H3 t (.tup [.int nx, optI a]) = H4 at s4 ht4 ⊢
    refine ⟨by show 1 ≤ sizeLine; decide, fun L nL => ?_⟩
    have s5 := same_upd (o := .lst [.ref t]) nL
    have hL5 : upd H4 L (.lst [.ref t]) L = some (.lst [.ref t]) := upd_same
    generalize upd H4 L (.lst [.ref t]) = H5 at s5 hL5 ⊢
    have s35 := s4.trans s5
    refine ⟨P, L, ts.map V.ref, [.ref t], rfl, rfl, s35 _ _ hPt, hL5, sl (by rw [List.length_map, l3, List.length_singleton]; omega), fun M nM => ?_⟩
    have s6 := same_upd (o := .lst (ts.map V.ref ++ [.ref t])) nM
    have hM6 : upd H5 M (.lst (ts.map V.ref ++ [.ref t])) M = some (.lst ((ts ++ [t]).map V.ref)) := by rw [upd_same, List.map_append]; rfl
    generalize upd H5 M (.lst (ts.map V.ref ++ [.ref t])) = H6 at s6 hM6 ⊢
    have s36 := s35.trans s6
    refine ⟨M, ts ++ [t], chKV (rs ++ [(nx, a, b)]), rfl, SqL.of hM6, ?_, fun C nC => ?_⟩
    · rw [e1]
      exact paired_snoc (F := fun (t : Addr) (q : Key × V) => SqT K H6 t [kV q.1, q.2]) (Same.seqT (s5.trans s6) ht4) (paired_imp (G := fun (t : Addr) (q : Key × V) => SqT K H6 t [kV q.1, q.2]) (fun x y e => SqT.of (s36 _ _ e)) hpair)
    rw [m1]
    have s7 := same_upd (o := .dK (chKV (rs ++ [(nx, a, b)]))) nC
    have hC7 : upd H6 C (.dK (chKV (rs ++ [(nx, a, b)]))) C = some (.dK (chKV (rs ++ [(nx, a, b)]))) := upd_same
    generalize upd H6 C (.dK (chKV (rs ++ [(nx, a, b)]))) = H7 at s7 hC7 ⊢
    have s07 : Same H0 H7 := fun b o e => s7 _ _ (s36 _ _ (s3 _ _ e))
    have hCp : p ≠ C := by
      rintro rfl
      have := s36 _ _ (s3 _ _ hp)
      rw [this] at nC; cases nC
    refine ⟨s07 _ _ hp, [(Sum.inr "next", .int (nx + 1)), (Sum.inr "chiefs", .ref C)], rfl, (by show 2 ≤ 15; decide), ?_⟩
    have em : mergeK [] [((Sum.inr "next" : Key), V.int (nx + 1)), (Sum.inr "chiefs", .ref C)] = [((Sum.inr "next" : Key), V.int (nx + 1)), ((Sum.inr "chiefs" : Key), V.ref C)] := rfl
    rw [em]
    have hp8 : upd H7 p (.dK [(Sum.inr "next", .int (nx + 1)), (Sum.inr "chiefs", .ref C)]) p = some (.dK [(Sum.inr "next", .int (nx + 1)), (Sum.inr "chiefs", .ref C)]) := upd_same
    have hC8 : upd H7 p (.dK [(Sum.inr "next", .int (nx + 1)), (Sum.inr "chiefs", .ref C)]) C = some (.dK (chKV (rs ++ [(nx, a, b)]))) := by rw [upd_ne hCp.symm]; exact hC7
    have s8 : Same H (upd H7 p (.dK [(Sum.inr "next", .int (nx + 1)), (Sum.inr "chiefs", .ref C)])) := Same.updNew (s0.trans s07) np
    generalize upd H7 p (.dK [(Sum.inr "next", .int (nx + 1)), (Sum.inr "chiefs", .ref C)]) = H8 at hp8 hC8 s8 ⊢
    clear hC7 s07 s7 hM6 s6 s36 hL5 s5 s35 ht4 s4 hpair hPt s03 hp s0
    refine ⟨.ref h, rfl, h, _, rfl, g_borders (s8 _ _ h1), d, boKV rs, rfl, s8 _ _ h3, fun H3 P ts s3 nP nts nPt hPt hpair => ?_⟩
    have l3 := paired_len hpair
    refine ⟨.ref h, rfl, h, _, rfl, g_next (s3 _ _ (s8 _ _ h1)), _, rfl, by show 2 ≤ sizeLine; decide, fun t nt => ?_⟩
    have s4 := same_upd (o := .tup [.int nx, .bl b]) nt
    have ht4 : SqT K (upd H3 t (.tup [.int nx, .bl b])) t [.int nx, .bl b] := SqT.of upd_same
    generalize upd H3 t (.tup [.int nx, .bl b]) = H4 at s4 ht4 ⊢
    refine ⟨by show 1 ≤ sizeLine; decide, fun L nL => ?_⟩
    have s5 := same_upd (o := .lst [.ref t]) nL
    have hL5 : upd H4 L (.lst [.ref t]) L = some (.lst [.ref t]) := upd_same
    generalize upd H4 L (.lst [.ref t]) = H5 at s5 hL5 ⊢
    have s35 := s4.trans s5
    refine ⟨P, L, ts.map V.ref, [.ref t], rfl, rfl, s35 _ _ hPt, hL5, sl (by rw [List.length_map, l3, List.length_singleton]; omega), fun M nM => ?_⟩
    have s6 := same_upd (o := .lst (ts.map V.ref ++ [.ref t])) nM
    have hM6 : upd H5 M (.lst (ts.map V.ref ++ [.ref t])) M = some (.lst ((ts ++ [t]).map V.ref)) := by rw [upd_same, List.map_append]; rfl
    generalize upd H5 M (.lst (ts.map V.ref ++ [.ref t])) = H6 at s6 hM6 ⊢
    have s36 := s35.trans s6
    refine ⟨M, ts ++ [t], boKV (rs ++ [(nx, a, b)]), rfl, SqL.of hM6, ?_, fun B nB => ?_⟩
    · rw [e2]
      exact paired_snoc (F := fun (t : Addr) (q : Key × V) => SqT K H6 t [kV q.1, q.2]) (Same.seqT (s5.trans s6) ht4) (paired_imp (G := fun (t : Addr) (q : Key × V) => SqT K H6 t [kV q.1, q.2]) (fun x y e => SqT.of (s36 _ _ e)) hpair)
    rw [m2]
    have s7 := same_upd (o := .dK (boKV (rs ++ [(nx, a, b)]))) nB
    have hB7 : upd H6 B (.dK (boKV (rs ++ [(nx, a, b)]))) B = some (.dK (boKV (rs ++ [(nx, a, b)]))) := upd_same
    have s86 : Same H8 H6 := fun b o e => s36 _ _ (s3 _ _ e)
    generalize upd H6 B (.dK (boKV (rs ++ [(nx, a, b)]))) = H7 at s7 hB7 ⊢
    have s87 := s86.trans s7
    have hBp : p ≠ B := by
      rintro rfl
      rw [s86 _ _ hp8] at nB; cases nB
    refine ⟨.ref p, rfl, p, _, rfl, DPut.k (k := Sum.inr "borders") (s87 _ _ hp8) (by show 2 < sizeLine; decide), .ref p, rfl, ?_⟩
    have ep : putK [((Sum.inr "next" : Key), V.int (nx + 1)), (Sum.inr "chiefs", .ref C)] (Sum.inr "borders") (V.ref B) = hkv (nx + 1) C B := rfl
    rw [ep]
    exact q _ p (Same.updNew (s8.trans s87) np) ⟨C, B, upd_same, by rw [upd_ne hCp.symm]; exact s87 _ _ hC8, by rw [upd_ne hBp.symm]; exact hB7⟩ np
end
end K36

set_option maxRecDepth 100000
set_option maxHeartbeats 4000000
/-! k36: the law's drawn house. -/
namespace K36
open PySem PySem.Spec PyProof.Rows L2 LamX VG TL
theorem scHouseDrawn : FnScope ["pot", "house", "shape", "many", "lap", "some", "chief"] ["pot"] (defScope sHouseDrawn) := ⟨rfl, rfl, rfl, by decide +kernel, rfl, by decide +kernel, by decide +kernel⟩
theorem none_wo {H H' : Hp} {p x : Addr} (s : Same (wo H p) (wo H' p)) (hx : H' x = none) (ne : x ≠ p) : H x = none := by
  cases e : H x with
  | none => rfl
  | some o =>
    have := s x o (wo_at e ne)
    rw [wo_ne ne, hx] at this
    cases this
theorem pot_dk {H : Hp} {p x : Addr} {n : Nat} {kvs : List (Key × V)} (hp : Pot H p n) (e : H x = some (.dK kvs)) : x ≠ p := by
  rintro rfl
  obtain ⟨xs, h⟩ := pot_lst hp
  rw [e] at h
  cases h
theorem HAt.car {H H' : Hp} {p h : Addr} {n : Nat} {nx : Int} {rs : List Row} (hp : Pot H p n) (s : Same (wo H p) (wo H' p)) (a : HAt H h nx rs) : HAt H' h nx rs :=
  let ⟨c, b, h1, h2, h3⟩ := a
  ⟨c, b, wo_le _ _ (s _ _ (wo_at h1 (pot_dk hp h1))), wo_le _ _ (s _ _ (wo_at h2 (pot_dk hp h2))), wo_le _ _ (s _ _ (wo_at h3 (pot_dk hp h3)))⟩
theorem okR_snoc {r : Row} : ∀ (rs acc : List Row), okR acc (rs ++ [r]) = (okR acc rs && standsB r.1 r.2.1 (acc ++ rs))
  | [], acc => by
    rw [List.append_nil]
    show (standsB r.1 r.2.1 acc && okR (acc ++ [r]) []) = (true && _)
    rw [Bool.true_and]
    exact Bool.and_true _
  | x :: rs, acc => by
    show (standsB x.1 x.2.1 acc && okR (acc ++ [x]) (rs ++ [r])) = ((standsB x.1 x.2.1 acc && okR (acc ++ [x]) rs) && _)
    rw [okR_snoc rs (acc ++ [x]), List.append_assoc, Bool.and_assoc]
    rfl
theorem RowOk.mono {nx nx' : Int} {r : Row} (h : RowOk nx r) (l : nx ≤ nx') : RowOk nx' r := ⟨h.lo, by have := h.hi; omega, h.no, fun n e => ⟨(h.clo n e).1, by have := (h.clo n e).2; omega⟩⟩
theorem Good.step {nx : Int} {rs : List Row} (g : Good nx rs) (h5 : rs.length ≤ 5) {d c : Int} (hd0 : 0 ≤ d) (hd1 : d ≤ 40) (hc : c ∈ rs.map (·.1)) (b : Bool) : Good (nx + d + 1) (rs ++ [(nx + d, some c, b)]) := by
  obtain ⟨x, hx, rfl⟩ := List.mem_map.mp hc
  have hxr := g.row x hx
  have hlo := g.lo
  refine ⟨by simp, by omega, ?_, by rw [List.length_append, List.length_singleton]; omega, ?_, fun r hr => ?_⟩
  · have := g.hi
    rw [List.length_append, List.length_singleton]
    omega
  · rw [okR_snoc, g.ok, Bool.true_and, List.nil_append]
    unfold standsB
    cases e : rs.getLast? with
    | none => exact absurd (List.getLast?_eq_none_iff.mp e) g.ne
    | some l =>
      have hl := g.row l (List.mem_of_getLast? e)
      have := hl.hi
      show (decide (l.1 < nx + d) && (decide (rs.length < 6) && decide (x.1 ∈ rs.map (·.1)))) = true
      rw [decide_eq_true (by omega), decide_eq_true (by omega), decide_eq_true hc]
      rfl
  · rcases List.mem_append.mp hr with hr | hr
    · exact (g.row r hr).mono (by omega)
    · rw [List.mem_singleton.mp hr]
      exact ⟨by show 0 ≤ nx + d; omega, by show nx + d < nx + d + 1; omega, fun y => (nomatch y), fun n e => by cases e; exact ⟨hxr.lo, by have := hxr.hi; omega⟩⟩
theorem good0 (b : Bool) : Good 1 [(0, none, b)] := ⟨by simp, by decide, (by show (1 : Int) ≤ 41 * ((1 : Nat) : Int); decide), (by show 1 ≤ 6; decide), by cases b <;> decide, fun r hr => by
  rw [List.mem_singleton.mp hr]
  exact ⟨by show (0 : Int) ≤ 0; decide, by show (0 : Int) < 1; decide, fun _ => rfl, fun n e => by cases e⟩⟩
theorem atI_in {xs : List V} {k : Int} (h0 : 0 ≤ k) (h1 : k < xs.length) : ∃ v, atI xs k = some v ∧ v ∈ xs := by
  obtain ⟨m, rfl⟩ : ∃ m : Nat, k = m := ⟨k.toNat, (Int.toNat_of_nonneg h0).symm⟩
  have hm : m < xs.length := by omega
  exact ⟨xs[m], atI_nat (List.getElem?_eq_getElem hm), List.getElem_mem hm⟩
theorem atI_end {xs : List V} (h : 0 < xs.length) : ∃ v, atI xs (-1) = some v ∧ v ∈ xs := by
  have hm : xs.length - 1 < xs.length := by omega
  refine ⟨xs[xs.length - 1], ?_, List.getElem_mem hm⟩
  unfold atI ixN
  rw [if_neg (by decide), if_pos (by omega)]
  show xs[(-1 + (xs.length : Int)).toNat]? = _
  rw [show (-1 + (xs.length : Int)).toNat = xs.length - 1 by omega]
  exact List.getElem?_eq_getElem hm
section
variable {P : Program} {w : World} {K : PySem.W.Frag} {mg : Str → Option Value} {base : Heap}
def spHouseDrawn (K : PySem.W.Frag) : Sp := fun vs H Q _ => ∃ (p : Addr) (n : Nat), vs = [.ref p] ∧ Pot H p n ∧ n < 900000 ∧ ∀ H' h m nx rs, n ≤ m → m ≤ n + 40 → Pot H' p m → Same (wo H p) (wo H' p) → HAt H' h nx rs → Good nx rs → Q (.ref h) H'
theorem ok_HouseDrawn {k : Nat} {f : Addr} {fd : FuncData}  (F : Fun K "_law_house_drawn" "_law_house_drawn" sHouseDrawn f fd) (gTa : Cal P w K mg base CX0 (k + 3) "_law_take" ["pot", "upto"] spTake) (gOf : Cal P w K mg base CX0 (k + 3) "_law_of" ["pot", "some"] (spOf K)) (gHm : Cal P w K mg base CX0 (k + 3) "_law_house_made" ["house", "chief", "border"] (spHouseMade K))  (flen : mg "len" = none) (fmax : mg "max" = none) (frange : mg "range" = none) (fsorted : mg "sorted" = none) : FnOk P w K mg base CX0 (k + 4) f fd ["pot"] (spHouseDrawn K) := by
  obtain ⟨fTa, fdTa, GTa, kTa, bTa, mTa⟩ := gTa
  obtain ⟨fOf, fdOf, GOf, kOf, bOf, mOf⟩ := gOf
  obtain ⟨fHm, fdHm, GHm, kHm, bHm, mHm⟩ := gHm
  refine F.ok scHouseDrawn (fun vs H Q E h => ?_) (fun cdv A outer s H vs Q E hr h => ?_)
  · obtain ⟨p, n, rfl, _⟩ := h
    rfl
  · obtain ⟨p, n, rfl, hp, hn, q⟩ := h
    refine ⟨_, (pss_cons (ps_set (i := 1) scHouseDrawn.nd rfl (.inl rfl) (pe_disp (pps_cons pe_str pe_int (pps_cons pe_str (pe_disp (pps_cons pe_int pe_non pps_nil) (by rfl) (by rfl) (fun z => by cases z) (by decide)) (pps_cons pe_str (pe_disp (pps_cons pe_int (pe_cmpR op_gt (pe_call GTa hr (by rfl) mTa kTa bTa .nil pass0 (pa_cons (pv 0) (pa_cons pe_int pa_nil))) pe_int (nomark _)) pps_nil) (by rfl) (by rfl) (fun z => by cases z) (by decide)) pps_nil))) (by rfl) (by rfl) (fun z => by cases z) (by decide))) (pss_cons (ps_par (i := 2) (j := 3) (by rfl) scHouseDrawn.nd rfl rfl (by decide) rfl rfl (pa_cons (pe_call GTa hr (by rfl) mTa kTa bTa .nil pass0 (pa_cons (pv 0) (pa_cons pe_int pa_nil))) (pa_cons (pe_call GOf hr (by rfl) mOf kOf bOf .nil pass0 (pa_cons (pv 0) (pa_cons (pe_lst (pa_cons pe_int (pa_cons pe_int (pa_cons pe_int (pa_cons pe_int (pa_cons pe_int (pa_cons pe_int (pa_cons pe_int (pa_cons pe_int (pa_cons pe_int pa_nil)))))))))) pa_nil))) pa_nil)) (by rfl)) (pss_cons (ps_for PassesOwn.never rfl (pi_range1 (by rfl) frange (pa_cons (pe_op op_sub (pv 3) pe_int) pa_nil)) (pg_name (i := 4) scHouseDrawn.nd rfl (.inl rfl)) (pss_cons (ps_set (i := 5) scHouseDrawn.nd rfl (.inl rfl) (pe_callB (call_sortedDI rfl) (by rfl) fsorted (by decide +kernel) (pa_cons (pe_dget (hu_of hr) (pv 1) pe_str (fun _ _ => rfl)) pa_nil))) (pss_cons (ps_set (i := 6) scHouseDrawn.nd rfl (.inl rfl) (pe_ix ix_list (pe_lst (pa_cons (pe_call GOf hr (by rfl) mOf kOf bOf .nil pass0 (pa_cons (pv 0) (pa_cons (pv 5) pa_nil))) (pa_cons (pe_ix ix_list (pv 5) (pe_un un_neg pe_int) (fun _ _ => rfl)) (pa_cons (pe_ix ix_list (pv 5) pe_int (fun _ _ => rfl)) (pa_cons (pe_ix ix_list (pv 5) (pe_callB (call_max2 rfl) (by rfl) fmax (by decide +kernel) (pa_cons pe_int (pa_cons (pe_op op_sub (pe_callB call_len_seq (by rfl) flen PySem.boot_len (pa_cons (pv 5) pa_nil)) pe_int) pa_nil))) (fun _ _ => rfl)) pa_nil))))) (pv 2) (fun _ _ => rfl))) (pss_cons (ps_dput (hu_of hr) (pv 1) pe_str (pe_op op_add (pe_dget (hu_of hr) (pv 1) pe_str (fun _ _ => rfl)) (pe_call GOf hr (by rfl) mOf kOf bOf .nil pass0 (pa_cons (pv 0) (pa_cons (pe_lst (pa_cons pe_int (pa_cons pe_int (pa_cons pe_int (pa_cons pe_int (pa_cons pe_int pa_nil)))))) pa_nil)))) rfl) (pss_one (ps_set (i := 1) scHouseDrawn.nd rfl (.inl rfl) (pe_call GHm hr (by rfl) mHm kHm bHm .nil pass0 (pa_cons (pv 1) (pa_cons (pv 6) (pa_cons (pe_cmpR op_gt (pe_call GTa hr (by rfl) mTa kTa bTa .nil pass0 (pa_cons (pv 0) (pa_cons pe_int pa_nil))) pe_int (nomark _)) pa_nil)))))))))) (pss_one (ps_ret (pv 1)))))), ?_⟩
    intro D nD
    have s0 := same_upd (o := .dK []) nD
    have hD : upd H D (.dK []) D = some (.dK []) := upd_same
    have hp := hp.same s0
    have sw := wo_same_of (a := p) s0
    generalize upd H D (.dK []) = H0 at s0 hD hp sw ⊢
    intro C nC
    have s1 := same_upd (o := .dK []) nC
    refine ⟨upd_same, [(Sum.inl 0, .non)], rfl, (by show 1 ≤ 15; decide), ?_⟩
    rw [show mergeK [] [((Sum.inl 0 : Key), V.non)] = [(Sum.inl 0, V.non)] from rfl]
    have s1 : Same H0 (upd (upd H0 C (.dK [])) C (.dK [((Sum.inl 0 : Key), V.non)])) := Same.updNew s1 nC
    have hC : upd (upd H0 C (.dK [])) C (.dK [((Sum.inl 0 : Key), V.non)]) C = some (.dK [((Sum.inl 0 : Key), V.non)]) := upd_same
    generalize upd (upd H0 C (.dK [])) C (.dK [((Sum.inl 0 : Key), V.non)]) = H1 at s1 hC ⊢
    intro B nB
    have s2 := same_upd (o := .dK []) nB
    have hB : upd H1 B (.dK []) B = some (.dK []) := upd_same
    generalize upd H1 B (.dK []) = H2 at s2 hB ⊢
    have s02 := s1.trans s2
    have hp2 := hp.same s02
    refine ⟨.ref p, rfl, p, 3, n, rfl, by decide, by decide, hp2, by omega, fun d H3 d0 d1 hp3 s3 => ?_⟩
    have sw3 := sw.trans ((wo_same_of s02).trans s3)
    have hD3 := wo_le _ _ (s3 _ _ (wo_at (s02 _ _ hD) (pot_dk hp2 (s02 _ _ hD))))
    have hC3 := wo_le _ _ (s3 _ _ (wo_at (s2 _ _ hC) (pot_dk hp2 (s2 _ _ hC))))
    have hB3 := wo_le _ _ (s3 _ _ (wo_at hB (pot_dk hp2 hB)))
    have nDC : D ≠ C := by rintro rfl; rw [hD] at nC; cases nC
    have nDB : D ≠ B := by rintro rfl; rw [s1 _ _ hD] at nB; cases nB
    have nCB : C ≠ B := by rintro rfl; rw [hC] at nB; cases nB
    have pD := pot_dk hp3 hD3
    have pB := pot_dk hp3 hB3
    have nB0 : H B = none := none_wo (sw.trans (wo_same_of s1)) nB pB
    refine ⟨_, _, rfl, rfl, ?_⟩
    refine ⟨hB3, [(Sum.inl 0, .bl (decide (0 < d)))], rfl, (by show 1 ≤ 15; decide), ?_⟩
    rw [show mergeK [] [((Sum.inl 0 : Key), V.bl (decide (0 < d)))] = [(Sum.inl 0, V.bl (decide (0 < d)))] from rfl]
    refine ⟨by rw [upd_ne nDB]; exact hD3, [(Sum.inr "next", .int 1), (Sum.inr "chiefs", .ref C), (Sum.inr "borders", .ref B)], rfl, (by show 3 ≤ 15; decide), ?_⟩
    rw [show mergeK [] [((Sum.inr "next" : Key), V.int 1), (Sum.inr "chiefs", .ref C), (Sum.inr "borders", .ref B)] = hkv 1 C B from rfl]
    have hh : HAt (upd (upd H3 B (.dK [((Sum.inl 0 : Key), V.bl (decide (0 < d)))])) D (.dK (hkv 1 C B))) D 1 [(0, none, decide (0 < d))] :=
      ⟨C, B, upd_same, by rw [upd_ne nDC.symm, upd_ne nCB]; exact hC3, by rw [upd_ne nDB.symm]; exact upd_same⟩
    have hp4 : Pot (upd (upd H3 B (.dK [((Sum.inl 0 : Key), V.bl (decide (0 < d)))])) D (.dK (hkv 1 C B))) p (n + 1) := (hp3.upd pB).upd pD
    have sw4 : Same (wo H p) (wo (upd (upd H3 B (.dK [((Sum.inl 0 : Key), V.bl (decide (0 < d)))])) D (.dK (hkv 1 C B))) p) := wo_updNew (wo_updNew sw3 nB0) nD
    generalize upd (upd H3 B (.dK [((Sum.inl 0 : Key), V.bl (decide (0 < d)))])) D (.dK (hkv 1 C B)) = H4 at hh hp4 sw4 ⊢
    have gg := good0 (decide (0 < d))
    generalize decide (0 < d) = b0 at hh gg
    clear hD3 hC3 hB3 sw3 s3 hp3 hp2 s02 s2 hB hC s1 s0 hD hp sw
    refine ⟨.ref p, rfl, p, 4, n + 1, rfl, by decide, by decide, hp4, by omega, fun sh H5 sh0 sh1 hp5 s5 => ?_⟩
    have hh5 := hh.car hp4 s5
    have sw5 := sw4.trans s5
    refine ⟨.ref p, rfl, by show 9 ≤ sizeLine; decide, fun L nL => ?_⟩
    have sL := same_upd (o := .lst [V.int 1, .int 2, .int 3, .int 4, .int 5, .int 5, .int 6, .int 6, .int 6]) nL
    have pL := hp5.ne nL
    have hp6 := hp5.same sL
    have hh6 := hh5.same sL
    have sw6 := sw5.trans (wo_same_of sL)
    refine ⟨p, L, [V.int 1, .int 2, .int 3, .int 4, .int 5, .int 5, .int 6, .int 6, .int 6], n + 2, rfl, SqL.of (wo_at upd_same pL), by simp, by decide, hp6, by omega, fun x hx H7 hp7 s7 => ?_⟩
    have hh7 := hh6.car hp6 s7
    have sw7 := sw6.trans s7
    obtain ⟨many, rfl, m1, m6⟩ : ∃ m : Int, x = .int m ∧ 1 ≤ m ∧ m ≤ 6 := by
      simp only [List.mem_cons, List.not_mem_nil, or_false] at hx
      rcases hx with rfl | rfl | rfl | rfl | rfl | rfl | rfl | rfl | rfl <;> exact ⟨_, rfl, by decide, by decide⟩
    clear hh6 hp6 sw6 hh5 hp5 sw5 sL s5 s7 hh hp4 sw4
    refine ⟨.int sh, .int many, rfl, ?_⟩
    refine ⟨.int many, rfl, many, 1, rfl, rfl, many - 1, rfl, by omega, by omega, ?_⟩
    have em : (many - 1).toNat ≤ 5 := by omega
    generalize (many - 1).toNat = laps at em ⊢
    refine for_range (n := laps) (fun i σ H' => ∃ y4 y5 y6 h nx rs m, σ = [some (.ref p), some (.ref h), some (.int sh), some (.int many), y4, y5, y6] ∧ Pot H' p m ∧ m = n + 3 + 3 * i ∧ Same (wo H p) (wo H' p) ∧ HAt H' h nx rs ∧ Good nx rs ∧ rs.length = i + 1 ∧ H h = none)
      ⟨none, none, none, D, 1, [(0, none, b0)], n + 3, rfl, hp7, rfl, sw7, hh7, gg, rfl, nD⟩ (fun i σ H' hi hP => ?_) fun σ H' hP => ?_
    · obtain ⟨y4, y5, y6, h, nx, rs, m, rfl, hp, hm, sw, hh, g, hl, nh⟩ := hP
      obtain ⟨c, b, h1, h2, h3⟩ := id hh
      refine ⟨.ref h, rfl, h, _, rfl, g_chiefs h1, c, chKV rs, rs.map (·.1), rfl, .inl h2, (by unfold chKV; rw [List.map_map, List.map_map]; rfl), (by rw [List.length_map]; have := g.few; omega), fun ys S hpm hs nS => ?_⟩
      rw [sorted_rise g.rise hpm hs]
      clear hpm hs
      have sS := same_upd (o := .lst ((rs.map (·.1)).map V.int)) nS
      have hS : upd H' S (.lst ((rs.map (·.1)).map V.int)) S = some (.lst ((rs.map (·.1)).map V.int)) := upd_same
      have pS := hp.ne nS
      have hp := hp.same sS
      have sw := sw.trans (wo_same_of sS)
      have hh := hh.same sS
      generalize upd H' S (.lst ((rs.map (·.1)).map V.int)) = H8 at hS hp sw hh ⊢
      clear sS nS h1 h2 h3
      have hxl : ((rs.map (·.1)).map V.int).length = i + 1 := by rw [List.length_map, List.length_map]; exact hl
      have hmem : ∀ x ∈ (rs.map (·.1)).map V.int, ∃ t, x = .int t ∧ t ∈ rs.map (·.1) := fun x hx => let ⟨t, ht, e⟩ := List.mem_map.mp hx; ⟨t, e.symm, ht⟩
      generalize (rs.map (·.1)).map V.int = xs at hS hxl hmem ⊢
      refine ⟨.ref p, rfl, .ref S, rfl, p, S, xs, m, rfl, SqL.of (wo_at hS pS), (by intro e; rw [e] at hxl; cases hxl), by omega, hp, by omega, fun v1 hv1 H9 hp9 s9 => ?_⟩
      have hS9 : H9 S = some (.lst xs) := wo_le _ _ (s9 _ _ (wo_at hS pS))
      have hh9 := hh.car hp s9
      have sw9 := sw.trans s9
      obtain ⟨v2, a2, i2⟩ := atI_end (xs := xs) (by omega)
      obtain ⟨v3, a3, i3⟩ := atI_in (xs := xs) (k := 0) (by omega) (by omega)
      obtain ⟨v4, a4, i4⟩ := atI_in (xs := xs) (k := if ((xs.length : Nat) : Int) - 2 > 0 then ((xs.length : Nat) : Int) - 2 else 0) (by split <;> omega) (by split <;> omega)
      refine ⟨.ref S, rfl, 1, rfl, S, xs, -1, v2, rfl, rfl, SqL.of hS9, a2, .ref S, rfl, S, xs, 0, v3, rfl, rfl, SqL.of hS9, a3, .ref S, rfl, .ref S, rfl, S, xs, rfl, .inl (SqL.of hS9), _, _, rfl, rfl, 0, _, rfl, S, xs, _, v4, rfl, rfl, SqL.of hS9, a4, by show 4 ≤ sizeLine; decide, fun L2_ nL2 => ?_⟩
      have sL2 := same_upd (o := .lst [v1, v2, v3, v4]) nL2
      obtain ⟨v, av, iv⟩ := atI_in (xs := [v1, v2, v3, v4]) (k := sh) sh0 (by show sh < ((4 : Nat) : Int); omega)
      have hv : v ∈ xs := by
        simp only [List.mem_cons, List.not_mem_nil, or_false] at iv
        rcases iv with rfl | rfl | rfl | rfl
        · exact hv1
        · exact i2
        · exact i3
        · exact i4
      obtain ⟨ch, rfl, hch⟩ := hmem v hv
      refine ⟨.int sh, rfl, L2_, _, sh, .int ch, rfl, rfl, SqL.of upd_same, av, ?_⟩
      have hp10 := hp9.same sL2
      have hh10 := hh9.same sL2
      have sw10 := sw9.trans (wo_same_of sL2)
      generalize upd H9 L2_ (.lst [v1, v2, v3, v4]) = H10 at hp10 hh10 sw10 ⊢
      clear sL2 nL2 av iv hv i2 i3 i4 a2 a3 a4 hS9 s9 hp9 hh9 sw9 hmem hxl hS hp sw hh hv1
      obtain ⟨c1, b1, k1, k2, k3⟩ := id hh10
      refine ⟨.ref h, rfl, h, _, rfl, g_next k1, .ref p, rfl, by show 5 ≤ sizeLine; decide, fun L nL => ?_⟩
      have sL := same_upd (o := .lst [V.int 0, .int 0, .int 0, .int 1, .int 40]) nL
      have pL := hp10.ne nL
      refine ⟨p, L, [V.int 0, .int 0, .int 0, .int 1, .int 40], m + 1, rfl, SqL.of (wo_at upd_same pL), by simp, by decide, hp10.same sL, by omega, fun x hx H11 hp11 s11 => ?_⟩
      obtain ⟨dd, rfl, dd0, dd1⟩ : ∃ dd : Int, x = .int dd ∧ 0 ≤ dd ∧ dd ≤ 40 := by
        simp only [List.mem_cons, List.not_mem_nil, or_false] at hx
        rcases hx with rfl | rfl | rfl | rfl | rfl <;> exact ⟨_, rfl, by decide, by decide⟩
      have hh11 := (hh10.same sL).car (hp10.same sL) s11
      have sw11 := sw10.trans ((wo_same_of sL).trans s11)
      obtain ⟨c2, b2, j1, j2, j3⟩ := id hh11
      refine ⟨nx, dd, rfl, rfl, .ref h, rfl, h, _, rfl, DPut.k (k := Sum.inr "next") j1 (by show 3 < sizeLine; decide), ?_⟩
      rw [show putK (hkv nx c2 b2) (Sum.inr "next") (V.int (nx + dd)) = hkv (nx + dd) c2 b2 from rfl]
      have ph := pot_dk hp11 j1
      have nch : c2 ≠ h := by
        rintro rfl
        rw [j1] at j2
        have := HO.dK.inj (Option.some.inj j2)
        cases rs with
        | nil => cases hl
        | cons r0 rr =>
          have := congrArg Prod.fst (List.cons.inj this).1
          cases this
      have nbh : b2 ≠ h := by
        rintro rfl
        rw [j1] at j3
        have := HO.dK.inj (Option.some.inj j3)
        cases rs with
        | nil => cases hl
        | cons r0 rr =>
          have := congrArg Prod.fst (List.cons.inj this).1
          cases this
      have hh12 : HAt (upd H11 h (.dK (hkv (nx + dd) c2 b2))) h (nx + dd) rs := ⟨c2, b2, upd_same, by rw [upd_ne nch]; exact j2, by rw [upd_ne nbh]; exact j3⟩
      have hp12 : Pot (upd H11 h (.dK (hkv (nx + dd) c2 b2))) p (m + 2) := hp11.upd ph
      have sw12 : Same (wo H p) (wo (upd H11 h (.dK (hkv (nx + dd) c2 b2))) p) := wo_updNew sw11 nh
      generalize upd H11 h (.dK (hkv (nx + dd) c2 b2)) = H12 at hh12 hp12 sw12 ⊢
      refine ⟨.ref h, rfl, .int ch, rfl, .ref p, rfl, p, 3, m + 2, rfl, by decide, by decide, hp12, by omega, fun bb H13 _ _ hp13 s13 => ⟨_, _, rfl, rfl, ?_⟩⟩
      have hh13 := hh12.car hp12 s13
      have sw13 := sw12.trans s13
      refine ⟨h, nx + dd, rs, some ch, decide (0 < bb), rfl, hh13, by omega, g.rise, fun r hr => by have := (g.row r hr).hi; omega, fun H14 h' s14 hh14 nh14 => ?_⟩
      refine ⟨_, _, _, h', _, _, m + 3, rfl, hp13.same s14, by omega, sw13.trans (wo_same_of s14), hh14, g.step (by omega) dd0 dd1 hch _, by rw [List.length_append, List.length_singleton]; omega, none_wo sw13 nh14 (hp13.ne nh14)⟩
    · obtain ⟨y4, y5, y6, h, nx, rs, m, rfl, hp, hm, sw, hh, g, hl, nh⟩ := hP
      exact ⟨.ref h, rfl, q _ h m nx rs (by omega) (by omega) hp sw hh g⟩
end
end K36

set_option maxRecDepth 100000
set_option maxHeartbeats 4000000
/-! k36: the line that is wrong, by the law's own look. -/
namespace K36
open PySem PySem.Spec PyProof.Rows L2 LamX VG TL
theorem scWrongLine : FnScope ["value", "lines", "numbers", "line", "most", "at", "words", "number", "chief"] ["value"] (defScope sWrongLine) := ⟨rfl, rfl, rfl, by decide +kernel, rfl, by decide +kernel, by decide +kernel⟩
def lawOk (most : Int) (rs : List Row) : List Str → Option Int
  | [w0, w1, w2, w3] => if w0 = "task" ∧ endB w3 = true ∧ rs.length ≠ 6 then
      (match rs.getLast? with
        | none => if numIn w1 0 (most - 1) = some 0 ∧ w2 = "-" then some 0 else none
        | some l => match numIn w1 0 (most - 1) with
          | some t => if l.1 < t ∧ inO (numIn w2 0 (most - 1)) rs = true then some t else none
          | none => none) else none
  | _ => none
theorem dash_none {lo hi : Int} : numIn "-" lo hi = none := by
  unfold numIn
  rw [show numOf "-" = none by decide]
theorem numIn_le {z : Str} {lo hi n : Int} (h : numIn z lo hi = some n) : lo ≤ n ∧ n ≤ hi := by
  unfold numIn at h
  split at h
  · split at h
    · rename_i c; cases h; exact c
    · cases h
  · cases h
theorem toldN_le {ls : List Str} {i : Nat} {head : Str} {lo hi n : Int} (h : toldN ls i head lo hi = some n) : lo ≤ n ∧ n ≤ hi := by
  unfold toldN at h
  split at h
  · split at h
    · split at h
      · exact numIn_le h
      · cases h
    · cases h
  · cases h
theorem lawOk_len {most : Int} {rs : List Row} {l : List Str} (h : l.length ≠ 4) : lawOk most rs l = none := by
  unfold lawOk
  split
  · rename_i e; exact absurd rfl h
  · rfl
theorem law_step {most : Int} {rs : List Row} (h6 : rs.length ≤ 6) (ws : List Str) :
    (match rowW most ws with | none => none | some row => if standsB row.1 row.2.1 rs = true then some row.1 else none) = lawOk most rs ws := by
  by_cases h4 : ws.length = 4
  · obtain ⟨w0, w1, w2, w3, rfl⟩ := four h4
    unfold lawOk rowW
    simp only
    by_cases c1 : w0 = "task" ∧ endB w3 = true
    · rw [if_pos c1]
      by_cases c2 : w2 = "-"
      · rw [if_pos c2]
        subst c2
        by_cases c3 : numIn w1 0 (most - 1) = some 0
        · rw [if_pos c3]
          simp only
          unfold standsB
          cases e : rs.getLast? with
          | none =>
            have : rs = [] := List.getLast?_eq_none_iff.mp e
            subst this
            simp [c1, c3]
          | some l =>
            rw [dash_none, c3]
            simp [inO]
        · rw [if_neg c3]
          simp only
          cases e : rs.getLast? with
          | none => simp [c3]
          | some l =>
            rw [dash_none]
            cases numIn w1 0 (most - 1) <;> simp [inO]
      · rw [if_neg c2]
        cases e1 : numIn w1 0 (most - 1) with
        | none =>
          simp only
          cases e : rs.getLast? with
          | none => simp [c2]
          | some l => simp
        | some t =>
          cases e2 : numIn w2 0 (most - 1) with
          | none =>
            simp only
            cases e : rs.getLast? with
            | none => simp [c2]
            | some l => simp [inO]
          | some a =>
            simp only
            unfold standsB
            cases e : rs.getLast? with
            | none => simp [c2]
            | some l =>
              by_cases c6 : rs.length = 6
              · simp [c6]
              · have : rs.length < 6 := by omega
                simp [c1, c6, this]
    · rw [if_neg c1, if_neg fun y => c1 ⟨y.1, y.2.1⟩]
  · rw [rowW_len h4, lawOk_len h4]
theorem wrongR_none {most : Int} {rs : List Row} (h6 : rs.length ≤ 6) {ls : List Str} {i n : Nat} {l : Str} (hg : ls[i]? = some l) (e : lawOk most rs (Txt.split l " ") = none) : wrongR most n rs (ls.drop i) = some n := by
  rw [wrongR_step hg]
  rw [← law_step h6] at e
  unfold rowOf
  cases er : rowW most (Txt.split l " ") with
  | none => rfl
  | some row =>
    rw [er] at e
    simp only at e ⊢
    by_cases hs : standsB row.1 row.2.1 rs = true
    · rw [if_pos hs] at e; cases e
    · rw [if_neg hs]
theorem wrongR_some {most : Int} {rs : List Row} (h6 : rs.length ≤ 6) {ls : List Str} {i n : Nat} {l : Str} {t : Int} (hg : ls[i]? = some l) (e : lawOk most rs (Txt.split l " ") = some t) : ∃ row : Row, row.1 = t ∧ rs.length < 6 ∧ wrongR most n rs (ls.drop i) = wrongR most (n + 1) (rs ++ [row]) (ls.drop (i + 1)) := by
  rw [wrongR_step hg]
  rw [← law_step h6] at e
  unfold rowOf
  cases er : rowW most (Txt.split l " ") with
  | none => rw [er] at e; cases e
  | some row =>
    rw [er] at e
    simp only at e ⊢
    by_cases hs : standsB row.1 row.2.1 rs = true
    · rw [if_pos hs] at e
      exact ⟨row, Option.some.inj e, standsB_few hs, by rw [if_pos hs]⟩
    · rw [if_neg hs] at e; cases e
/-- lists of words stand for the lines -/
def LinesAt (X : Addr) (H : Hp) (xs : List V) (ls : List Str) : Prop := xs.length = ls.length ∧ ∀ (i : Nat) (l : Str), ls[i]? = some l → ∃ p, p ≠ X ∧ xs[i]? = some (.ref p) ∧ H p = some (.lst ((Txt.split l " ").map V.str))
theorem linesAt_same {X : Addr} {H H' : Hp} {xs : List V} {ls : List Str} (s : Same H H') (h : LinesAt X H xs ls) : LinesAt X H' xs ls := ⟨h.1, fun i l e => let ⟨p, e0, e1, e2⟩ := h.2 i l e; ⟨p, e0, e1, s _ _ e2⟩⟩
theorem linesAt_other {X N : Addr} {H : Hp} {xs : List V} {ls : List Str} (nN : H N = none) (h : LinesAt X H xs ls) : LinesAt N H xs ls := ⟨h.1, fun i l e => let ⟨p, e0, e1, e2⟩ := h.2 i l e; ⟨p, (by rintro rfl; rw [e2] at nN; cases nN), e1, e2⟩⟩
theorem linesAt_upd {X : Addr} {H : Hp} {o : HO} {xs : List V} {ls : List Str} (h : LinesAt X H xs ls) : LinesAt X (upd H X o) xs ls := ⟨h.1, fun i l e => let ⟨p, e0, e1, e2⟩ := h.2 i l e; ⟨p, e0, e1, by rw [upd_ne e0]; exact e2⟩⟩
theorem linesAt_snoc {X p : Addr} {H : Hp} {xs : List V} {ls : List Str} {l : Str} (h : LinesAt X H xs ls) (ne : p ≠ X) (hp : H p = some (.lst ((Txt.split l " ").map V.str))) : LinesAt X H (xs ++ [.ref p]) (ls ++ [l]) := by
  refine ⟨by rw [List.length_append, List.length_append, h.1]; rfl, fun i q e => ?_⟩
  by_cases c : i < ls.length
  · rw [List.getElem?_append_left c] at e
    rw [List.getElem?_append_left (by rw [h.1]; exact c)]
    exact h.2 i q e
  · rw [List.getElem?_append_right (by omega)] at e
    have e0 : i - ls.length = 0 := by
      have := (List.getElem?_eq_some_iff.mp e).1
      rw [List.length_singleton] at this
      omega
    rw [e0] at e
    cases Option.some.inj e
    refine ⟨p, ne, ?_, hp⟩
    rw [List.getElem?_append_right (by rw [h.1]; omega), h.1, e0]
    rfl
theorem linesAt_drop {X : Addr} {H : Hp} {xs : List V} {ls : List Str} (h : LinesAt X H xs ls) : LinesAt X H (xs.drop 1) (ls.drop 1) := ⟨by rw [List.length_drop, List.length_drop, h.1], fun i l e => by
  rw [List.getElem?_drop] at e ⊢
  exact h.2 _ _ e⟩
theorem tyX {K : PySem.W.Frag} {H : Hp} {v : V} {d : PyData} (h : Dk K H v d) : TyX K H v (.type (tyName d)) := by
  cases h with
  | d0 h => exact .base (.dK h)
  | d1 h => exact .base (.dK h)
  | dp h =>
    cases h with
    | non => exact .base .non
    | bl b => exact .base (.bl b)
    | int i => exact .base (.int i)
    | str x => exact .base (.str x)
    | lst hs _ =>
      rcases hs with (h | ⟨o, h⟩) | ⟨o, its, n, h, hc, _⟩
      · exact .base (.lst h)
      · exact .base (.frz h)
      · exact .kList h hc
    | tup hs _ =>
      rcases hs with (h | ⟨o, h⟩) | ⟨o, its, n, h, hc, _⟩
      · exact .base (.tup h)
      · exact .fTuple h
      · exact .kTuple h hc
def isStrD : PyData → Bool
  | .str _ => true
  | _ => false
theorem kitStr {K : PySem.W.Frag} : ∀ d : PyData, PySem.W.kitOne K (.type (tyName d)) (.type "str") = some (isStrD d)
  | .none => kit_ty (a := "NoneType") (b := "str") (r := false) (by decide +kernel)
  | .bool _ => kit_ty (a := "bool") (b := "str") (r := false) (by decide +kernel)
  | .int _ => kit_ty (a := "int") (b := "str") (r := false) (by decide +kernel)
  | .str _ => kit_ty (a := "str") (b := "str") (r := true) (by decide +kernel)
  | .list _ => kit_ty (a := "list") (b := "str") (r := false) (by decide +kernel)
  | .tuple _ => kit_ty (a := "tuple") (b := "str") (r := false) (by decide +kernel)
  | .dict _ => kit_ty (a := "dict") (b := "str") (r := false) (by decide +kernel)
theorem eqv_nil (l : List Int) : (PyData.list (l.map PyData.int)).eqv (.list []) = l.isEmpty := by cases l <;> rfl
theorem shaped_ints (l : List Int) : SeqAt.shaped (.list (l.map PyData.int)) = true := by
  induction l with
  | nil => rfl
  | cons a l ih => exact ih
theorem dp_ints {K : PySem.W.Frag} {H : Hp} : ∀ l : List Int, DpAll K H (l.map V.int) (l.map PyData.int)
  | [] => .nil
  | a :: l => .cons (.int a) (dp_ints l)
theorem val_toS {t : TE} {σ : L2.St} {H : Hp} {Q : VK} (v : V) (h : ∀ R : VK, (∀ H', Same H H' → R v H') → t σ H R) (q : ∀ H', Same H H' → Q v H') : t σ H Q := h _ q
def optN : Option Nat → V
  | none => .non
  | some n => .int (n : Nat)
section
variable {P : Program} {w : World} {K : PySem.W.Frag} {mg : Str → Option Value} {base : Heap}
def spWrongLine (K : PySem.W.Frag) : Sp := fun vs H Q _ => ∃ (v : V) (d : PyData), vs = [v] ∧ Dk K H v d ∧ (∀ z, d = .str z → z.length ≤ 640) ∧ ∀ H', Same H H' → Q (optN (wrongD d)) H'
theorem ok_WrongLine {k : Nat} {f : Addr} {fd : FuncData}  (F : Fun K "_law_wrong_line" "_law_wrong_line" sWrongLine f fd) (gLn : Cal P w K mg base CX0 (k + 1) "_law_number" ["word", "low", "high"] spLNumber)  (fenumerate : mg "enumerate" = none) (fisinstance : mg "isinstance" = none) (flen : mg "len" = none) (fstr : mg "str" = none) : FnOk P w K mg base CX0 (k + 2) f fd ["value"] (spWrongLine K) := by
  obtain ⟨fLn, fdLn, GLn, kLn, bLn, mLn⟩ := gLn
  refine F.ok scWrongLine (fun vs H Q E h => ?_) (fun cdv A outer s H vs Q E hr h => ?_)
  · obtain ⟨v, d, rfl, _⟩ := h
    rfl
  · obtain ⟨v, d, rfl, hd, hz, q⟩ := h
    refine ⟨_, (pss_cons (ps_if (pt_not (pt_val (pe_callB call_isi (by rfl) fisinstance (by decide +kernel) (pa_cons (pv 0) (pa_cons (pe_bltn (v := .ty "str") (by rfl) fstr (by decide +kernel) rfl) pa_nil))))) (pss_one (ps_ret pe_int)) pss_nil) (pss_cons (ps_par (i := 1) (j := 2) (by rfl) scWrongLine.nd rfl rfl (by decide) rfl rfl (pa_cons (pe_lc (own := [("line", 3)]) (g := (gName 3)) (tt := tYes) rfl scWrongLine.nd (pi_list (pe_split (pv 0) pe_str)) (blkOk_by (N := ["value", "lines", "numbers", "line", "most", "at", "words", "number", "chief"]) (sc := defScope sWrongLine) (by decide +kernel)) (fun _ _ _ _ _ => (pg_name (i := 3) scWrongLine.nd rfl (.inl rfl))) (fun _ _ _ _ _ => pts_nil) (fun _ _ _ _ _ => (pe_split (pv 3) pe_str))) (pa_cons (pe_lst pa_nil) pa_nil)) (by rfl)) (pss_cons (ps_set (i := 4) scWrongLine.nd rfl (.inl rfl) (pe_ifExp (PW.pt (pw_and (pt_cmpR op_eq (pe_callB call_len_seq (by rfl) flen PySem.boot_len (pa_cons (pe_ix ix_list (pv 1) pe_int (fun _ _ => rfl)) pa_nil)) pe_int (nomark _)) (pw_and1 (pt_cmpR op_eq (pe_ix ix_list (pe_ix ix_list (pv 1) pe_int (fun _ _ => rfl)) pe_int (fun _ _ => rfl)) pe_str (nomark _))))) (pe_call GLn hr (by rfl) mLn kLn bLn .nil pass0 (pa_cons (pe_ix ix_list (pe_ix ix_list (pv 1) pe_int (fun _ _ => rfl)) pe_int (fun _ _ => rfl)) (pa_cons pe_int (pa_cons pe_int pa_nil)))) pe_non)) (pss_cons (ps_if (pt_cmpR op_isN (pv 4) pe_non (nomark _)) (pss_one (ps_ret pe_int)) pss_nil) (pss_cons (ps_for PassesOwn.never rfl (pi_enum (by rfl) fenumerate (pa_cons (pe_slice sl_list (pv 1) (po_some pe_int) po_none) pa_nil)) (pg_tup (by rfl) (pgs_cons (pg_name (i := 5) scWrongLine.nd rfl (.inl rfl)) (pgs_cons (pg_name (i := 6) scWrongLine.nd rfl (.inl rfl)) pgs_nil))) (pss_cons (ps_if (PW.pt (pw_or (pt_cmpR op_ne (pe_callB call_len_seq (by rfl) flen PySem.boot_len (pa_cons (pv 6) pa_nil)) pe_int (nomark _)) (pw_or (pt_cmpR op_ne (pe_ix ix_list (pv 6) pe_int (fun _ _ => rfl)) pe_str (nomark _)) (pw_or (pt_cmpR op_notIn_seq (pe_ix ix_list (pv 6) pe_int (fun _ _ => rfl)) (pe_tup (pa_cons pe_str (pa_cons pe_str pa_nil))) (by rfl)) (pw_or1 (pt_cmpR op_eq (pe_callB call_len_seq (by rfl) flen PySem.boot_len (pa_cons (pv 2) pa_nil)) pe_int (nomark _))))))) (pss_one (ps_ret (pe_op op_add (pv 5) pe_int))) pss_nil) (pss_cons (ps_par (i := 7) (j := 8) (by rfl) scWrongLine.nd rfl rfl (by decide) rfl rfl (pa_cons (pe_call GLn hr (by rfl) mLn kLn bLn .nil pass0 (pa_cons (pe_ix ix_list (pv 6) pe_int (fun _ _ => rfl)) (pa_cons pe_int (pa_cons (pe_op op_sub (pv 4) pe_int) pa_nil)))) (pa_cons (pe_call GLn hr (by rfl) mLn kLn bLn .nil pass0 (pa_cons (pe_ix ix_list (pv 6) pe_int (fun _ _ => rfl)) (pa_cons pe_int (pa_cons (pe_op op_sub (pv 4) pe_int) pa_nil)))) pa_nil)) (by rfl)) (pss_cons (ps_if (pt_cmpR (op_eqD hr.units) (pv 2) (pe_lst pa_nil) (nomark _)) (pss_one (ps_if (PW.pt (pw_or (pt_cmpR op_ne (pv 7) pe_int (nomark _)) (pw_or1 (pt_cmpR op_ne (pe_ix ix_list (pv 6) pe_int (fun _ _ => rfl)) pe_str (nomark _))))) (pss_one (ps_ret (pe_op op_add (pv 5) pe_int))) pss_nil)) (pss_one (ps_if (PW.pt (pw_or (pt_cmpR op_isN (pv 7) pe_non (nomark _)) (pw_or (pt_cmpR op_le (pv 7) (pe_ix ix_list (pv 2) (pe_un un_neg pe_int) (fun _ _ => rfl)) (nomark _)) (pw_or1 (pt_cmpR op_notIn_seq (pv 8) (pv 2) (by rfl)))))) (pss_one (ps_ret (pe_op op_add (pv 5) pe_int))) pss_nil))) (pss_one (ps_expr (pe_bm PySem.F.plainAttrs_list PySem.F.slot_list_append PySem.F.type_list_append mt_append (pv 2) (pa_cons (pv 7) pa_nil)))))))) (pss_one (ps_ret (pe_ifExp (pt_cmpR (op_eqD hr.units) (pv 2) (pe_lst pa_nil) (nomark _)) pe_int pe_non)))))))), ?_⟩
    refine ⟨v, rfl, v, .ty "str", .type (tyName d), .type "str", isStrD d, rfl, .ty _, tyX hd, kitStr d, _, rfl, ?_⟩
    by_cases hs : isStrD d = true
    · obtain ⟨z, rfl⟩ : ∃ z, d = .str z := by
        cases d <;> first | exact ⟨_, rfl⟩ | cases hs
      have hz := hz z rfl
      obtain rfl : v = .str z := by
        cases hd with
        | dp h => cases h; rfl
      have hw : ∀ x ∈ Txt.split z "\n", x.length ≤ 640 := fun x hx => Nat.le_trans (split_le hx) hz
      have hmany := split_many z "\n" (by decide)
      have hlim : (Txt.split z "\n").length ≤ 641 := by omega
      have hne := split_ne z "\n"
      clear hmany
      have ew : wrongD (.str z) = match toldN (Txt.split z "\n") 0 "clans" 1 999 with
        | none => some 1
        | some fresh => wrongR fresh 2 [] (Txt.split z "\n").tail := rfl
      rw [ew] at q
      clear ew
      refine iteF ⟨.str z, rfl, ⟨_, rfl⟩, z, "\n", rfl, rfl, by decide, sl (by omega), fun L nL => ?_⟩
      have s1 := same_upd (o := .lst ((Txt.split z "\n").map V.str)) nL
      have hL : upd H L (.lst ((Txt.split z "\n").map V.str)) L = some (.lst ((Txt.split z "\n").map V.str)) := upd_same
      generalize Txt.split z "\n" = ls at s1 hL hw hlim hne q ⊢
      generalize upd H L (.lst (ls.map V.str)) = H1 at s1 hL ⊢
      refine ⟨L, rfl, ⟨_, SqL.of hL⟩, fun D nD => ?_⟩
      have s2 := same_upd (o := .lst []) nD
      have nLD : L ≠ D := by rintro rfl; rw [hL] at nD; cases nD
      have nD0 : H D = none := none_of s1 nD
      refine lc_list (xs := ls.map V.str) (fun i H' => Same H H' ∧ H' L = some (.lst (ls.map V.str)) ∧ ∃ acc, H' D = some (.lst acc) ∧ LinesAt D H' acc (ls.take i)) ⟨s1.trans s2, s2 _ _ hL, [], upd_same, rfl, fun i l e => by cases e⟩ (fun i H' _ hP => SqL.of hP.2.1) (fun i x H' hx hP => ?_) fun H2 hP => ?_
      · obtain ⟨sm, hL, acc, hD, hacc⟩ := hP
        have hi := (List.getElem?_eq_some_iff.mp hx).1
        rw [List.length_map] at hi
        have hget : ls[i]? = some ls[i] := List.getElem?_eq_getElem hi
        rw [List.getElem?_map, hget] at hx
        obtain rfl : V.str ls[i] = x := Option.some.inj hx
        have hlen := hw _ (List.getElem_mem hi)
        have et : ls.take (i + 1) = ls.take i ++ [ls[i]] := by rw [List.take_add_one, hget]; rfl
        generalize ls[i] = l at hlen et ⊢
        refine ⟨rfl, ?_⟩
        unfold tYes
        refine iteT ⟨.str l, rfl, ⟨_, rfl⟩, l, " ", rfl, rfl, by decide, sl (by omega), fun p np => ?_⟩
        have sp := same_upd (o := .lst ((Txt.split l " ").map V.str)) np
        have npD : p ≠ D := by rintro rfl; rw [hD] at np; cases np
        refine ⟨acc, sp _ _ hD, small1000 (by rw [hacc.1, List.length_take]; omega), Same.updNew (sm.trans sp) nD0, ?_, _, upd_same, ?_⟩
        · rw [upd_ne nLD]; exact sp _ _ hL
        · rw [et]
          exact linesAt_upd (linesAt_snoc (linesAt_same sp hacc) npD upd_same)
      · obtain ⟨sm, _, xs, hD, hxs⟩ := hP
        rw [List.length_map, List.take_length] at hxs
        clear hL s1 s2
        refine ⟨by show 0 ≤ sizeLine; decide, fun N nN => ⟨.ref D, .ref N, rfl, ?_⟩⟩
        have sN := same_upd (o := .lst []) nN
        have hxs := linesAt_same sN (linesAt_other nN hxs)
        have nDN : D ≠ N := by rintro rfl; rw [hD] at nN; cases nN
        have hN : upd H2 N (.lst []) N = some (.lst []) := upd_same
        have hD := sN _ _ hD
        have nN0 := none_of sm nN
        have sm := sm.trans sN
        generalize upd H2 N (.lst []) = H3 at hxs hN hD sm ⊢
        clear sN nN nD nD0 nLD
        obtain ⟨l0, lr, rfl⟩ : ∃ l0 lr, ls = l0 :: lr := by
          cases ls with
          | nil => exact absurd rfl hne
          | cons a b => exact ⟨a, b, rfl⟩
        obtain ⟨p0, _, x0, k0⟩ := hxs.2 0 l0 rfl
        have hl0 : l0.length ≤ 640 := hw l0 (by simp)
        have eT : toldN (l0 :: lr) 0 "clans" 1 999 = match Txt.split l0 " " with
          | [a, b] => if a = "clans" then numIn b 1 999 else none
          | _ => none := rfl
        dsimp only [tSeq, tAsg]
        refine val_toS (H := H3) (optI (toldN (l0 :: lr) 0 "clans" 1 999)) (fun R q => ?_) fun H4 s4 => ?_
        · have at0' : atI xs 0 = some (.ref p0) := atI_nat x0
          refine ⟨.ref D, rfl, D, xs, 0, .ref p0, rfl, rfl, SqL.of hD, at0', p0, _, rfl, .inl (SqL.of k0), rfl, _, rfl, ?_⟩
          by_cases h2 : (Txt.split l0 " ").length = 2
          · obtain ⟨a, b, e⟩ := two h2
            have hb : b.length ≤ 640 := Nat.le_trans (split_le (x := l0) (y := " ") (by rw [e]; simp)) hl0
            rw [e] at eT k0 ⊢
            simp only at eT
            refine iteD rfl ⟨.ref D, rfl, D, xs, 0, .ref p0, rfl, rfl, SqL.of hD, at0', p0, _, 0, .str a, rfl, rfl, SqL.of k0, at0, rfl, _, rfl, ?_⟩
            by_cases ha : a = "clans"
            · rw [if_pos ha] at eT
              refine iteD (congrArg V.str ha) ⟨.ref D, rfl, D, xs, 0, .ref p0, rfl, rfl, SqL.of hD, at0', p0, _, 1, .str b, rfl, rfl, SqL.of k0, at1, b, 1, 999, rfl, hb, fun H' s' => ?_⟩
              rw [law_num (by decide), ← eT]
              exact q H' s'
            · rw [if_neg ha] at eT
              rw [eT] at q
              exact iteE (fun y => ha (V.str.inj y)) (q _ (Same.refl _))
          · refine iteE (fun y => h2 ?_) ?_
            · have := V.int.inj y
              rw [List.length_map] at this
              omega
            · have e : toldN (l0 :: lr) 0 "clans" 1 999 = none := by
                rw [eT]
                split
                · rename_i e; exact absurd (congrArg List.length e) (fun h => h2 h)
                · rfl
              rw [e] at q
              exact q _ (Same.refl _)
        · have hxs := linesAt_same s4 hxs
          have hN := s4 _ _ hN
          have hD := s4 _ _ hD
          have sm := sm.trans s4
          cases ef : toldN (l0 :: lr) 0 "clans" 1 999 with
          | none =>
            rw [ef] at q
            exact ⟨.non, rfl, rfl, _, rfl, iteD rfl (q _ sm)⟩
          | some most =>
            rw [ef] at q
            refine ⟨.int most, rfl, rfl, _, rfl, iteE (fun y => nomatch y) ?_⟩
            have hmost := (toldN_le ef).2
            clear eT k0 x0 hne hlim ef
            refine ⟨.ref D, rfl, 1, rfl, D, xs, rfl, SqL.of hD, fun S nS => ⟨S, _, rfl, SqL.of upd_same, ?_⟩⟩
            have ecut : cutV xs (some 1) none = xs.drop 1 := cut_drop xs 1
            rw [ecut]
            have hxs := linesAt_drop hxs
            rw [List.drop_one (l := l0 :: lr)] at hxs
            have hxs : LinesAt N H4 (xs.drop 1) lr := hxs
            have q : ∀ H', Same H H' → Q (optN (wrongR most 2 [] lr)) H' := q
            have hw : ∀ x ∈ lr, x.length ≤ 640 := fun x hx => hw x (List.mem_cons_of_mem _ hx)
            generalize xs.drop 1 = ys at hxs ⊢
            have sS := same_upd (o := .lst ys) nS
            have nNS : N ≠ S := by rintro rfl; rw [hN] at nS; cases nS
            refine for_any (n := lr.length) (fun i σ H' => ∃ y5 y6 y7 y8 rs, σ = [some (.str z), some (.ref D), some (.ref N), none, some (.int most), y5, y6, y7, y8] ∧ Same H H' ∧ H' S = some (.lst ys) ∧ LinesAt N H' ys lr ∧ H' N = some (.lst ((rs.map (·.1)).map V.int)) ∧ rs.length ≤ 6 ∧ wrongR most (2 + i) rs (lr.drop i) = wrongR most 2 [] lr)
              ⟨none, none, none, none, [], rfl, sm.trans sS, upd_same, linesAt_same sS hxs, sS _ _ hN, by decide, rfl⟩ (fun i σ H' hi hP => ?_) (fun σ H' hP => ?_) (fun i x σ H' H'' hi hP hy => ?_) fun σ H' hP => ?_
            · obtain ⟨_, _, _, _, _, _, _, hS, hl, _⟩ := hP
              exact ⟨ys, ys[i]'(by rw [hl.1]; exact hi), SqL.of hS, List.getElem?_eq_getElem _⟩
            · obtain ⟨_, _, _, _, _, _, _, hS, hl, _⟩ := hP
              exact ⟨ys, SqL.of hS, by rw [hl.1]; exact Nat.le_refl _⟩
            · obtain ⟨y5, y6, y7, y8, rs, rfl, sm, hS, hl, hN, h6, hwr⟩ := hP
              obtain ⟨T2, xv, rfl, nT, rfl, hx⟩ := hy
              have hget : lr[i]? = some lr[i] := List.getElem?_eq_getElem hi
              have hlen := hw _ (List.getElem_mem hi)
              obtain ⟨pi, npi, x1, hpi⟩ := hl.2 i _ hget
              obtain rfl : V.ref pi = xv := Option.some.inj (x1.symm.trans (hx _ (SqL.of hS)))
              have fin0 := wrongR_none (most := most) (n := 2 + i) h6 hget
              have fin1 := fun t => wrongR_some (most := most) (n := 2 + i) (t := t) h6 hget
              generalize lr[i] = l at hlen hpi fin0 fin1
              clear hx x1 hget
              have hw2 : ∀ x ∈ Txt.split l " ", x.length ≤ 640 := fun x hx => Nat.le_trans (split_le hx) hlen
              generalize Txt.split l " " = ws at hpi fin0 fin1 hw2
              have sT := same_upd (o := .tup [.int (i : Nat), .ref pi]) nT
              refine ⟨T2, [.int _, .ref _], rfl, SqT.of upd_same, rfl, .int _, [.ref _], rfl, .ref _, [], rfl, rfl, ?_⟩
              have sm := sm.trans sT
              have hS := sT _ _ hS
              have hl := linesAt_same sT hl
              have hN := sT _ _ hN
              have hpi := sT _ _ hpi
              generalize upd H' T2 (.tup [.int (i : Nat), .ref pi]) = H5 at sm hS hl hN hpi ⊢
              clear sT nT
              have fin : ∀ H6, lawOk most rs ws = none → Same H5 H6 → Q (.int ((i : Nat) + 2)) H6 := fun H6 e s6 => by
                have := q H6 (sm.trans s6)
                rw [← hwr, fin0 e] at this
                rw [show ((i : Nat) : Int) + 2 = ((2 + i : Nat) : Int) by omega]
                exact this
              clear fin0
              refine ⟨.ref pi, rfl, pi, _, rfl, .inl (SqL.of hpi), rfl, _, rfl, ?_⟩
              by_cases h4 : ws.length = 4
              · obtain ⟨w0, w1, w2, w3, rfl⟩ := four h4
                have l1 := hw2 w1 (by simp)
                have l2 := hw2 w2 (by simp)
                have eL : lawOk most rs [w0, w1, w2, w3] = if w0 = "task" ∧ endB w3 = true ∧ rs.length ≠ 6 then
                    (match rs.getLast? with
                      | none => if numIn w1 0 (most - 1) = some 0 ∧ w2 = "-" then some 0 else none
                      | some l => match numIn w1 0 (most - 1) with
                        | some t => if l.1 < t ∧ inO (numIn w2 0 (most - 1)) rs = true then some t else none
                        | none => none) else none := rfl
                refine iteF ⟨.ref pi, rfl, pi, _, 0, .str w0, rfl, rfl, SqL.of hpi, at0, rfl, _, rfl, ?_⟩
                by_cases h0 : w0 = "task"
                · refine iteC (by rw [h0, decide_eq_true rfl]; rfl) ⟨.ref pi, rfl, pi, _, 3, .str w3, rfl, rfl, SqL.of hpi, at3, by show 2 ≤ sizeLine; decide, fun t nt => ?_⟩
                  have st := same_upd (o := .tup [V.str "border", .str "none"]) nt
                  have ht : SqT K (upd H5 t (.tup [V.str "border", .str "none"])) t [V.str "border", .str "none"] := SqT.of upd_same
                  generalize upd H5 t (.tup [V.str "border", .str "none"]) = H6 at st ht ⊢
                  refine ⟨t, _, rfl, .inr ht, rfl, rfl, _, rfl, ?_⟩
                  rw [inV_end]
                  cases h3 : endB w3 with
                  | false => exact iteT ⟨.int (i : Nat), rfl, (i : Nat), 2, rfl, rfl, fin _ (eL.trans (if_neg fun y => by rw [h3] at y; cases y.2.1)) st⟩
                  | true =>
                    refine iteF ⟨.ref N, rfl, N, _, rfl, .inl (SqL.of (st _ _ hN)), rfl, _, rfl, ?_⟩
                    by_cases h66 : rs.length = 6
                    · refine iteD (by rw [List.length_map, List.length_map, h66]; rfl) ⟨.int (i : Nat), rfl, (i : Nat), 2, rfl, rfl, fin _ (eL.trans (if_neg fun y => y.2.2 h66)) st⟩
                    · refine iteE (fun y => h66 (by have := V.int.inj y; rw [List.length_map, List.length_map] at this; omega)) ?_
                      rw [if_pos ⟨h0, h3, h66⟩] at eL
                      refine ⟨.ref pi, rfl, pi, _, 1, .str w1, rfl, rfl, SqL.of (st _ _ hpi), at1, .int most, rfl, most, 1, rfl, rfl, w1, 0, most - 1, rfl, l1, fun H7 s7 => ?_⟩
                      have s57 := st.trans s7
                      refine ⟨.ref pi, rfl, pi, _, 2, .str w2, rfl, rfl, SqL.of (s57 _ _ hpi), at2, .int most, rfl, most, 1, rfl, rfl, w2, 0, most - 1, rfl, l2, fun H8 s8 => ⟨_, _, rfl, ?_⟩⟩
                      have s58 := s57.trans s8
                      rw [law_num (by omega), law_num (by omega)]
                      refine ⟨.ref N, rfl, by show 0 ≤ sizeLine; decide, fun E nE => ?_⟩
                      have sE := same_upd (o := .lst []) nE
                      have s59 := s58.trans sE
                      refine ⟨.list ((rs.map (·.1)).map PyData.int), .list [], .lst (SqL.of (s59 _ _ hN)) (dp_ints _), .lst (SqL.of upd_same) .nil, shaped_ints _, rfl, _, rfl, ?_⟩
                      rw [eqv_nil]
                      generalize upd H8 E (.lst []) = H9 at s59 ⊢
                      have hN9 := s59 _ _ hN
                      have hpi9 := s59 _ _ hpi
                      cases el : rs.getLast? with
                      | none =>
                        rw [el] at eL
                        simp only at eL
                        obtain rfl : rs = [] := List.getLast?_eq_none_iff.mp el
                        cases en : numIn w1 0 (most - 1) with
                        | none =>
                          rw [en, if_neg (fun y => nomatch y.1)] at eL
                          exact iteT ⟨.non, rfl, rfl, _, rfl, iteNE (fun y => nomatch y) ⟨.int (i : Nat), rfl, (i : Nat), 2, rfl, rfl, fin _ eL s59⟩⟩
                        | some n =>
                          rw [en] at eL
                          by_cases hn : n = 0
                          · subst hn
                            refine iteT ⟨.int 0, rfl, rfl, _, rfl, iteF ⟨.ref pi, rfl, pi, _, 2, .str w2, rfl, rfl, SqL.of hpi9, at2, rfl, _, rfl, ?_⟩⟩
                            by_cases hd : w2 = "-"
                            · rw [if_pos ⟨rfl, hd⟩] at eL
                              refine iteC (by rw [hd, decide_eq_true rfl]; rfl) ⟨.ref N, rfl, .inl ⟨rfl, _, SqL.of hN9⟩, .int 0, rfl, N, _, _, rfl, rfl, hN9, small1000 (by rw [List.length_map, List.length_map]; omega), ?_⟩
                              obtain ⟨row, er, hlt, hw'⟩ := fin1 _ eL
                              exact ⟨_, _, _, _, [] ++ [row], rfl, Same.updNew (sm.trans s59) nN0, by rw [upd_ne nNS.symm]; exact s59 _ _ hS, linesAt_upd (linesAt_same s59 hl), by rw [upd_same, ← er, List.map_append, List.map_append]; rfl, by rw [List.length_append, List.length_singleton]; omega, hw'.symm.trans hwr⟩
                            · rw [if_neg fun y => hd y.2] at eL
                              exact iteNE (fun y => hd (V.str.inj y)) ⟨.int (i : Nat), rfl, (i : Nat), 2, rfl, rfl, fin _ eL s59⟩
                          · rw [if_neg fun y => hn (Option.some.inj y.1)] at eL
                            exact iteT ⟨.int n, rfl, rfl, _, rfl, iteNE (fun y => hn (V.int.inj y)) ⟨.int (i : Nat), rfl, (i : Nat), 2, rfl, rfl, fin _ eL s59⟩⟩
                      | some l0' =>
                        rw [el] at eL
                        simp only at eL
                        have hemp : (rs.map (·.1)).isEmpty = false := by
                          cases rs with
                          | nil => cases el
                          | cons _ _ => rfl
                        rw [hemp]
                        have hpos : 0 < rs.length := by
                          cases rs with
                          | nil => cases el
                          | cons _ _ => exact Nat.succ_pos _
                        have hat : atI ((rs.map (·.1)).map V.int) (-1) = some (.int l0'.1) := by
                          unfold atI ixN
                          rw [if_neg (by decide), if_pos (by rw [List.length_map, List.length_map]; omega)]
                          rw [List.length_map, List.length_map]
                          show ((rs.map (·.1)).map V.int)[(-1 + (rs.length : Int)).toNat]? = _
                          rw [show (-1 + (rs.length : Int)).toNat = rs.length - 1 by omega, List.getElem?_map, List.getElem?_map, ← List.getLast?_eq_getElem?, el]
                          rfl
                        cases en : numIn w1 0 (most - 1) with
                        | none =>
                          rw [en] at eL
                          exact iteF ⟨.non, rfl, rfl, _, rfl, iteD rfl ⟨.int (i : Nat), rfl, (i : Nat), 2, rfl, rfl, fin _ eL s59⟩⟩
                        | some t =>
                          rw [en] at eL
                          simp only at eL
                          refine iteF ⟨.int t, rfl, rfl, _, rfl, iteE (fun y => nomatch y) ⟨.int t, rfl, .ref N, rfl, 1, rfl, N, _, -1, .int l0'.1, rfl, rfl, SqL.of hN9, hat, _, _, rfl, rfl, _, rfl, ?_⟩⟩
                          by_cases hlt : t ≤ l0'.1
                          · rw [if_neg fun y => by omega] at eL
                            exact iteD hlt ⟨.int (i : Nat), rfl, (i : Nat), 2, rfl, rfl, fin _ eL s59⟩
                          · refine iteE hlt ⟨_, rfl, .ref N, rfl, N, _, rfl, .inl (SqL.of hN9), flat_optI _, flat_ints _, _, rfl, ?_⟩
                            rw [inV_optI]
                            cases hin : inO (numIn w2 0 (most - 1)) rs with
                            | false =>
                              rw [if_neg fun y => by rw [hin] at y; cases y.2] at eL
                              exact iteT ⟨.int (i : Nat), rfl, (i : Nat), 2, rfl, rfl, fin _ eL s59⟩
                            | true =>
                              rw [if_pos ⟨by omega, hin⟩] at eL
                              refine iteF ⟨.ref N, rfl, .inl ⟨rfl, _, SqL.of hN9⟩, .int t, rfl, N, _, _, rfl, rfl, hN9, small1000 (by rw [List.length_map, List.length_map]; omega), ?_⟩
                              obtain ⟨row, er, hlt, hw'⟩ := fin1 _ eL
                              exact ⟨_, _, _, _, rs ++ [row], rfl, Same.updNew (sm.trans s59) nN0, by rw [upd_ne nNS.symm]; exact s59 _ _ hS, linesAt_upd (linesAt_same s59 hl), by rw [upd_same, ← er, List.map_append, List.map_append]; rfl, by rw [List.length_append, List.length_singleton]; omega, hw'.symm.trans hwr⟩
                · refine iteNE (fun y => h0 (V.str.inj y)) ⟨.int (i : Nat), rfl, (i : Nat), 2, rfl, rfl, fin _ (eL.trans (if_neg fun y => h0 y.1)) (Same.refl _)⟩
              · refine iteNE (fun y => h4 (by have := V.int.inj y; rw [List.length_map] at this; omega)) ⟨.int (i : Nat), rfl, (i : Nat), 2, rfl, rfl, fin _ (lawOk_len h4) (Same.refl _)⟩
            · obtain ⟨y5, y6, y7, y8, rs, rfl, sm, hS, hl, hN, h6, hwr⟩ := hP
              rw [List.drop_of_length_le (Nat.le_refl _)] at hwr
              refine ⟨.ref N, rfl, by show 0 ≤ sizeLine; decide, fun E nE => ?_⟩
              have sE := same_upd (o := .lst []) nE
              refine ⟨.list ((rs.map (·.1)).map PyData.int), .list [], .lst (SqL.of (sE _ _ hN)) (dp_ints _), .lst (SqL.of upd_same) .nil, shaped_ints _, rfl, _, rfl, ?_⟩
              rw [eqv_nil]
              have q := q _ (sm.trans sE)
              rw [← hwr] at q
              cases rs with
              | nil => exact iteT q
              | cons a b => exact iteF q
    · have e : wrongD d = some 0 := by
        cases d <;> first | rfl | exact absurd rfl hs
      rw [e] at q
      have hs' : isStrD d = false := by simpa using hs
      rw [hs']
      exact iteT (q _ (Same.refl H))
end
end K36

set_option maxRecDepth 100000
set_option maxHeartbeats 4000000
/-! k36: bent lines. -/
namespace K36
open PySem PySem.Spec PyProof.Rows L2 LamX VG TL
theorem scOtherLine : FnScope ["pot", "line", "words", "way", "at", "some", "joined"] ["pot", "line"] (defScope sOtherLine) := ⟨rfl, rfl, rfl, by decide +kernel, rfl, by decide +kernel, by decide +kernel⟩
theorem sum_app {l m : List Str} : ((l ++ m).map (·.length)).sum = (l.map (·.length)).sum + (m.map (·.length)).sum := by rw [List.map_append, List.sum_append]
theorem sum_take {l : List Str} (a : Nat) : ((l.take a).map (·.length)).sum + ((l.drop a).map (·.length)).sum = (l.map (·.length)).sum := by rw [← sum_app, List.take_append_drop]
theorem sum_drop1 {l : List Str} (a : Nat) : ((l.drop (a + 1)).map (·.length)).sum ≤ ((l.drop a).map (·.length)).sum := by
  rw [show l.drop (a + 1) = (l.drop a).drop 1 by rw [List.drop_drop]]
  cases l.drop a with
  | nil => exact Nat.le_refl _
  | cons x r => rw [List.drop_one, List.tail_cons, List.map_cons, List.sum_cons]; omega
theorem sum_set {l : List Str} {z : Str} : ∀ {a : Nat}, ((l.set a z).map (·.length)).sum ≤ (l.map (·.length)).sum + z.length := by
  induction l with
  | nil => intro a; exact Nat.zero_le _
  | cons x r ih =>
    intro a
    cases a with
    | zero => rw [List.set_cons_zero, List.map_cons, List.map_cons, List.sum_cons, List.sum_cons]; omega
    | succ a => rw [List.set_cons_succ, List.map_cons, List.map_cons, List.sum_cons, List.sum_cons]; have := ih (a := a); omega
theorem sum_rev {l : List Str} : ((l.reverse).map (·.length)).sum = (l.map (·.length)).sum := by
  rw [List.map_reverse]
  induction l.map (·.length) with
  | nil => rfl
  | cons x r ih => rw [List.reverse_cons, List.sum_append, ih]; simp [Nat.add_comm]
/-- words that join to at most forty signs -/
def Few (ws : List Str) : Prop := (ws.map (·.length)).sum + ws.length ≤ 41
theorem Few.join {ws : List Str} (h : Few ws) : (Txt.join " " ws).length ≤ 41 := by
  unfold Few at h
  rw [join_len, show (" " : Str).length = 1 by decide]
  omega
theorem add_len (a b : Str) : (a ++ b).length = a.length + b.length := by rw [len_list, len_list, len_list, Str.cps_append, Array.toList_append, List.length_append]
section
variable {P : Program} {w : World} {K : PySem.W.Frag} {mg : Str → Option Value} {base : Heap}
def spOtherLine : Sp := fun vs H Q _ => ∃ (p : Addr) (l : Str) (n : Nat), vs = [.ref p, .str l] ∧ l.length ≤ 19 ∧ Pot H p n ∧ n < 900000 ∧ ∀ z H', z.length ≤ 150 → Pot H' p (n + 3) → Same (wo H p) (wo H' p) → Q (.str z) H'
theorem ok_OtherLine {k : Nat} {f : Addr} {fd : FuncData}  (F : Fun K "_law_other_line" "_law_other_line" sOtherLine f fd) (gTa : Cal P w K mg base CX0 (k + 3) "_law_take" ["pot", "upto"] spTake) (gOf : Cal P w K mg base CX0 (k + 3) "_law_of" ["pot", "some"] (spOf K))  (flen : mg "len" = none) : FnOk P w K mg base CX0 (k + 4) f fd ["pot", "line"] (spOtherLine) := by
  obtain ⟨fTa, fdTa, GTa, kTa, bTa, mTa⟩ := gTa
  obtain ⟨fOf, fdOf, GOf, kOf, bOf, mOf⟩ := gOf
  refine F.ok scOtherLine (fun vs H Q E h => ?_) (fun cdv A outer s H vs Q E hr h => ?_)
  · obtain ⟨p, l, n, rfl, _⟩ := h
    rfl
  · obtain ⟨p, l, n, rfl, hl, hp, hn, q⟩ := h
    refine ⟨_, (pss_cons (ps_par (i := 2) (j := 3) (by rfl) scOtherLine.nd rfl rfl (by decide) rfl rfl (pa_cons (pe_split (pv 1) pe_str) (pa_cons (pe_call GTa hr (by rfl) mTa kTa bTa .nil pass0 (pa_cons (pv 0) (pa_cons pe_int pa_nil))) pa_nil)) (by rfl)) (pss_cons (ps_set (i := 4) scOtherLine.nd rfl (.inl rfl) (pe_call GTa hr (by rfl) mTa kTa bTa .nil pass0 (pa_cons (pv 0) (pa_cons (pe_callB call_len_seq (by rfl) flen PySem.boot_len (pa_cons (pv 2) pa_nil)) pa_nil)))) (pss_cons (ps_if (pt_cmpR op_eq (pv 3) pe_int (nomark _)) (pss_cons (ps_set (i := 5) scOtherLine.nd rfl (.inl rfl) (pe_lst (pa_cons pe_str (pa_cons pe_str (pa_cons pe_str (pa_cons pe_str (pa_cons pe_str (pa_cons pe_str (pa_cons pe_str (pa_cons pe_str (pa_cons pe_str (pa_cons pe_str (pa_cons pe_str (pa_cons pe_str (pa_cons pe_str (pa_cons pe_str pa_nil)))))))))))))))) (pss_one (ps_asg (pe_call GOf hr (by rfl) mOf kOf bOf .nil pass0 (pa_cons (pv 0) (pa_cons (pv 5) pa_nil))) (pg_sub (pv 2) (pv 4) set_list)))) pss_nil) (pss_cons (ps_if (pt_cmpR op_eq (pv 3) pe_int (nomark _)) (pss_one (ps_set (i := 2) scOtherLine.nd rfl (.inl rfl) (pe_op op_cat (pe_slice sl_list (pv 2) po_none (po_some (pv 4))) (pe_slice sl_list (pv 2) (po_some (pe_op op_add (pv 4) pe_int)) po_none)))) pss_nil) (pss_cons (ps_if (pt_cmpR op_eq (pv 3) pe_int (nomark _)) (pss_one (ps_set (i := 2) scOtherLine.nd rfl (.inl rfl) (pe_op op_cat (pv 2) (pe_lst (pa_cons (pe_ix ix_list (pv 2) (pv 4) (fun _ _ => rfl)) pa_nil))))) pss_nil) (pss_cons (ps_if (pt_cmpR op_eq (pv 3) pe_int (nomark _)) (pss_one (ps_set (i := 2) scOtherLine.nd rfl (.inl rfl) (pe_revL (pv 2)))) pss_nil) (pss_cons (ps_set (i := 6) scOtherLine.nd rfl (.inl rfl) (pe_join pe_str (pv 2))) (pss_one (ps_ret (pe_ix ix_list (pe_lst (pa_cons (pv 6) (pa_cons (pv 6) (pa_cons (pv 6) (pa_cons (pv 6) (pag_cons (peg_opC op_add_str (pv 6)) (patg_cons (pe_op op_add_str pe_str (pv 6)) (pat_cons (CwR.pet_replC (pv 6)) pat_nil)))))))) (pv 3) (fun _ _ => rfl))))))))))), ?_⟩
    have hsum := split_sum l " "
    have hsne := split_ne l " "
    refine ⟨.str l, rfl, ⟨_, rfl⟩, l, " ", rfl, rfl, by decide, sl (by omega), fun W nW => ?_⟩
    have s1 := same_upd (o := .lst ((Txt.split l " ").map V.str)) nW
    have hW : upd H W (.lst ((Txt.split l " ").map V.str)) W = some (.lst ((Txt.split l " ").map V.str)) := upd_same
    generalize Txt.split l " " = ws at s1 hW hsum hsne ⊢
    rw [show (" " : Str).length = 1 by decide] at hsum
    have hpos : 0 < ws.length := List.length_pos_iff.mpr hsne
    have pW := hp.ne nW
    have hp1 := hp.same s1
    have sw := wo_same_of (a := p) s1
    generalize upd H W (.lst (ws.map V.str)) = H1 at hW hp1 sw ⊢
    clear s1
    refine ⟨.ref p, rfl, p, 7, n, rfl, by decide, by decide, hp1, by omega, fun way H2 w0 w1 hp2 s2 => ⟨.ref W, .int way, rfl, ?_⟩⟩
    have hW := wo_le _ _ (s2 _ _ (wo_at hW pW))
    have sw := sw.trans s2
    refine ⟨.ref p, rfl, .ref W, rfl, W, _, rfl, .inl (SqL.of hW), p, ((ws.map V.str).length : Nat), n + 1, rfl, by rw [List.length_map]; omega, by rw [List.length_map]; omega, hp2, by omega, fun at_ H3 a0 a1 hp3 s3 => ?_⟩
    have hW := wo_le _ _ (s3 _ _ (wo_at hW pW))
    have sw := sw.trans s3
    obtain ⟨a, rfl⟩ : ∃ a : Nat, at_ = a := ⟨at_.toNat, (Int.toNat_of_nonneg a0).symm⟩
    have ha : a < ws.length := by rw [List.length_map] at a1; omega
    clear hp1 hp2 s2 s3 a0 a1
    refine ⟨.int way, rfl, rfl, _, rfl, ?_⟩
    by_cases e0 : way = 0
    · refine iteD (congrArg V.int e0) ⟨by show 14 ≤ sizeLine; decide, fun L nL => ?_⟩
      have sL := same_upd (o := .lst ((["-", "0", "1", "2", "01", "-0", "+1", "border", "none", "task", "clans", "", "999", "1000"] : List Str).map V.str)) nL
      have pL := hp3.ne nL
      refine ⟨.ref p, rfl, .ref L, rfl, p, L, (["-", "0", "1", "2", "01", "-0", "+1", "border", "none", "task", "clans", "", "999", "1000"] : List Str).map V.str, n + 2, rfl, SqL.of (wo_at upd_same pL), by simp, by decide, hp3.same sL, by omega, fun x hx H5 hp5 s5 => ?_⟩
      obtain ⟨z0, hz0, rfl⟩ := List.mem_map.mp hx
      have hz6 : z0.length ≤ 6 := by
        simp only [List.mem_cons, List.not_mem_nil, or_false] at hz0
        rcases hz0 with rfl | rfl | rfl | rfl | rfl | rfl | rfl | rfl | rfl | rfl | rfl | rfl | rfl | rfl <;> decide
      have hW5 := wo_le _ _ (s5 _ _ (wo_at (sL _ _ hW) pW))
      have sw5 := sw.trans ((wo_same_of sL).trans s5)
      refine ⟨.ref W, rfl, .int (a : Nat), rfl, W, _, _, a, rfl, rfl, hW5, (by unfold ixN; rw [if_pos (by omega), if_pos (by rw [List.length_map]; omega)]; rfl), ?_⟩
      subst e0
      have hf : Few (ws.set a z0) := by unfold Few; have := sum_set (l := ws) (z := z0) (a := a); rw [List.length_set]; omega
      have hC : upd H5 W (.lst ((ws.map V.str).set a (V.str z0))) W = some (.lst ((ws.set a z0).map V.str)) := by rw [upd_same, List.map_set]
      have hpz := hp5.upd (o := .lst ((ws.map V.str).set a (V.str z0))) pW
      have swz : Same (wo H p) (wo (upd H5 W (.lst ((ws.map V.str).set a (V.str z0)))) p) := wo_updNew sw5 nW
      generalize upd H5 W (.lst ((ws.map V.str).set a (V.str z0))) = Hz at hC hpz swz ⊢
      generalize ws.set a z0 = wz at hf hC
      have way0 : (0 : Int) ≠ 1 := by decide
      have way1 : (0 : Int) ≠ 2 := by decide
      have way2 : (0 : Int) ≠ 3 := by decide
      clear w0 w1
      generalize hw_ : (0 : Int) = way at way0 way1 way2 ⊢
      have w0 : 0 ≤ way := by omega
      have w1 : way < 7 := by omega
      obtain ⟨C, eC⟩ : ∃ C, C = W := ⟨W, rfl⟩
      rw [← eC] at hC ⊢
      clear eC
      refine ⟨.int way, rfl, rfl, _, rfl, iteE (fun y => way0 (V.int.inj y)) ?_⟩
      refine ⟨.int way, rfl, rfl, _, rfl, iteE (fun y => way1 (V.int.inj y)) ?_⟩
      refine ⟨.int way, rfl, rfl, _, rfl, iteE (fun y => way2 (V.int.inj y)) ?_⟩
      have hj := Few.join hf
      refine ⟨⟨_, rfl⟩, .ref C, rfl, " ", C, wz, rfl, rfl, .inl (SqL.of hC), (by unfold Few at hf; rw [show (" " : Str).length = 1 by decide]; show _ ≤ _; omega), ?_⟩
      generalize Txt.join " " wz = j at hj ⊢
      have hb1 : (" " : Str).length = 1 := by decide
      have hb2 : ("  " : Str).length = 2 := by decide
      refine ⟨.str j, rfl, .str j, rfl, .str j, rfl, .str j, rfl, .str j, rfl, j, " ", rfl, rfl, sl (by omega), .str j, rfl, " ", j, rfl, rfl, sl (by omega), .str j, rfl, j, rfl, (by rw [hb2]; omega), by show 7 ≤ sizeLine; decide, fun R nR => ?_⟩
      have hrl := TK.replace_len j " " "  "
      rw [hb2] at hrl
      obtain ⟨v, av, iv⟩ := atI_in (xs := [V.str j, .str j, .str j, .str j, .str (j ++ " "), .str (" " ++ j), .str (Txt.replace j " " "  ")]) (k := way) w0 (by show way < ((7 : Nat) : Int); omega)
      obtain ⟨z, rfl, hzl⟩ : ∃ z, v = .str z ∧ z.length ≤ 150 := by
        simp only [List.mem_cons, List.not_mem_nil, or_false] at iv
        rcases iv with rfl | rfl | rfl | rfl | rfl | rfl | rfl
        · exact ⟨_, rfl, by omega⟩
        · exact ⟨_, rfl, by omega⟩
        · exact ⟨_, rfl, by omega⟩
        · exact ⟨_, rfl, by omega⟩
        · exact ⟨_, rfl, by rw [add_len]; omega⟩
        · exact ⟨_, rfl, by rw [add_len]; omega⟩
        · exact ⟨_, rfl, by omega⟩
      have sR := same_upd (o := .lst [V.str j, .str j, .str j, .str j, .str (j ++ " "), .str (" " ++ j), .str (Txt.replace j " " "  ")]) nR
      exact ⟨.int way, rfl, R, _, way, .str z, rfl, rfl, SqL.of upd_same, av, q z _ hzl (hpz.same sR) (swz.trans (wo_same_of sR))⟩
    · refine iteE (fun y => e0 (V.int.inj y)) ?_
      have hpm := hp3.mono (show n + 2 ≤ n + 3 by omega)
      refine ⟨.int way, rfl, rfl, _, rfl, ?_⟩
      by_cases e1 : way = 1
      · refine iteD (congrArg V.int e1) ⟨.ref W, rfl, .int (a : Nat), rfl, (a : Nat), rfl, W, _, rfl, SqL.of hW, fun A nA => ?_⟩
        have sA := same_upd (o := .lst (cutV (ws.map V.str) none (some ((a : Nat) : Int)))) nA
        have hA : upd H3 A (.lst (cutV (ws.map V.str) none (some ((a : Nat) : Int)))) A = some (.lst ((ws.take a).map V.str)) := by rw [upd_same, cut_take, List.map_take]
        generalize upd H3 A (.lst (cutV (ws.map V.str) none (some ((a : Nat) : Int)))) = HA at sA hA ⊢
        refine ⟨.ref W, rfl, .int (a : Nat), rfl, (a : Nat), 1, rfl, rfl, ((a + 1 : Nat) : Int), rfl, W, _, rfl, SqL.of (sA _ _ hW), fun B nB => ?_⟩
        have sB := same_upd (o := .lst (cutV (ws.map V.str) (some ((a + 1 : Nat) : Int)) none)) nB
        have hB : upd HA B (.lst (cutV (ws.map V.str) (some ((a + 1 : Nat) : Int)) none)) B = some (.lst ((ws.drop (a + 1)).map V.str)) := by rw [upd_same, cut_drop, List.map_drop]
        generalize upd HA B (.lst (cutV (ws.map V.str) (some ((a + 1 : Nat) : Int)) none)) = HB at sB hB ⊢
        refine ⟨A, B, _, _, rfl, rfl, sB _ _ hA, hB, sl (by rw [List.length_map, List.length_map, List.length_take, List.length_drop]; omega), fun C nC => ?_⟩
        have hf : Few (ws.take a ++ ws.drop (a + 1)) := by
          unfold Few
          have h1 := sum_take (l := ws) a
          have h2 := sum_drop1 (l := ws) a
          rw [sum_app, List.length_append, List.length_take, List.length_drop]
          omega
        have sC := sA.trans (sB.trans (same_upd (o := .lst ((ws.take a).map V.str ++ (ws.drop (a + 1)).map V.str)) nC))
        have hC : upd HB C (.lst ((ws.take a).map V.str ++ (ws.drop (a + 1)).map V.str)) C = some (.lst ((ws.take a ++ ws.drop (a + 1)).map V.str)) := by rw [upd_same, List.map_append]
        have hpz := hpm.same sC
        have swz := sw.trans (wo_same_of sC)
        generalize upd HB C (.lst ((ws.take a).map V.str ++ (ws.drop (a + 1)).map V.str)) = Hz at hC hpz swz ⊢
        generalize ws.take a ++ ws.drop (a + 1) = wz at hf hC
        have way1 : way ≠ 2 := by omega
        have way2 : way ≠ 3 := by omega
        refine ⟨.int way, rfl, rfl, _, rfl, iteE (fun y => way1 (V.int.inj y)) ?_⟩
        refine ⟨.int way, rfl, rfl, _, rfl, iteE (fun y => way2 (V.int.inj y)) ?_⟩
        have hj := Few.join hf
        refine ⟨⟨_, rfl⟩, .ref C, rfl, " ", C, wz, rfl, rfl, .inl (SqL.of hC), (by unfold Few at hf; rw [show (" " : Str).length = 1 by decide]; show _ ≤ _; omega), ?_⟩
        generalize Txt.join " " wz = j at hj ⊢
        have hb1 : (" " : Str).length = 1 := by decide
        have hb2 : ("  " : Str).length = 2 := by decide
        refine ⟨.str j, rfl, .str j, rfl, .str j, rfl, .str j, rfl, .str j, rfl, j, " ", rfl, rfl, sl (by omega), .str j, rfl, " ", j, rfl, rfl, sl (by omega), .str j, rfl, j, rfl, (by rw [hb2]; omega), by show 7 ≤ sizeLine; decide, fun R nR => ?_⟩
        have hrl := TK.replace_len j " " "  "
        rw [hb2] at hrl
        obtain ⟨v, av, iv⟩ := atI_in (xs := [V.str j, .str j, .str j, .str j, .str (j ++ " "), .str (" " ++ j), .str (Txt.replace j " " "  ")]) (k := way) w0 (by show way < ((7 : Nat) : Int); omega)
        obtain ⟨z, rfl, hzl⟩ : ∃ z, v = .str z ∧ z.length ≤ 150 := by
          simp only [List.mem_cons, List.not_mem_nil, or_false] at iv
          rcases iv with rfl | rfl | rfl | rfl | rfl | rfl | rfl
          · exact ⟨_, rfl, by omega⟩
          · exact ⟨_, rfl, by omega⟩
          · exact ⟨_, rfl, by omega⟩
          · exact ⟨_, rfl, by omega⟩
          · exact ⟨_, rfl, by rw [add_len]; omega⟩
          · exact ⟨_, rfl, by rw [add_len]; omega⟩
          · exact ⟨_, rfl, by omega⟩
        have sR := same_upd (o := .lst [V.str j, .str j, .str j, .str j, .str (j ++ " "), .str (" " ++ j), .str (Txt.replace j " " "  ")]) nR
        exact ⟨.int way, rfl, R, _, way, .str z, rfl, rfl, SqL.of upd_same, av, q z _ hzl (hpz.same sR) (swz.trans (wo_same_of sR))⟩
      · refine iteE (fun y => e1 (V.int.inj y)) ?_
        refine ⟨.int way, rfl, rfl, _, rfl, ?_⟩
        by_cases e2 : way = 2
        · have hga : ws[a]? = some ws[a] := List.getElem?_eq_getElem ha
          refine iteD (congrArg V.int e2) ⟨.ref W, rfl, .ref W, rfl, .int (a : Nat), rfl, W, _, a, .str ws[a], rfl, rfl, SqL.of hW, atI_nat (by rw [List.getElem?_map, hga]; rfl), by show 1 ≤ sizeLine; decide, fun B nB => ?_⟩
          have sB := same_upd (o := .lst [V.str ws[a]]) nB
          have hB : upd H3 B (.lst [V.str ws[a]]) B = some (.lst [V.str ws[a]]) := upd_same
          generalize upd H3 B (.lst [V.str ws[a]]) = HB at sB hB ⊢
          refine ⟨W, B, _, _, rfl, rfl, sB _ _ hW, hB, sl (by rw [List.length_map, List.length_singleton]; omega), fun C nC => ?_⟩
          have hf : Few (ws ++ [ws[a]]) := by
            unfold Few
            have h1 := mem_sum (List.mem_map_of_mem (f := fun s : Str => s.length) (List.getElem_mem ha))
            rw [sum_app, List.length_append, List.length_singleton, List.map_singleton, List.sum_singleton]
            omega
          have sC := sB.trans (same_upd (o := .lst (ws.map V.str ++ [V.str ws[a]])) nC)
          have hC : upd HB C (.lst (ws.map V.str ++ [V.str ws[a]])) C = some (.lst ((ws ++ [ws[a]]).map V.str)) := by rw [upd_same, List.map_append]; rfl
          have hpz := hpm.same sC
          have swz := sw.trans (wo_same_of sC)
          generalize upd HB C (.lst (ws.map V.str ++ [V.str ws[a]])) = Hz at hC hpz swz ⊢
          generalize ws ++ [ws[a]] = wz at hf hC
          have way2 : way ≠ 3 := by omega
          refine ⟨.int way, rfl, rfl, _, rfl, iteE (fun y => way2 (V.int.inj y)) ?_⟩
          have hj := Few.join hf
          refine ⟨⟨_, rfl⟩, .ref C, rfl, " ", C, wz, rfl, rfl, .inl (SqL.of hC), (by unfold Few at hf; rw [show (" " : Str).length = 1 by decide]; show _ ≤ _; omega), ?_⟩
          generalize Txt.join " " wz = j at hj ⊢
          have hb1 : (" " : Str).length = 1 := by decide
          have hb2 : ("  " : Str).length = 2 := by decide
          refine ⟨.str j, rfl, .str j, rfl, .str j, rfl, .str j, rfl, .str j, rfl, j, " ", rfl, rfl, sl (by omega), .str j, rfl, " ", j, rfl, rfl, sl (by omega), .str j, rfl, j, rfl, (by rw [hb2]; omega), by show 7 ≤ sizeLine; decide, fun R nR => ?_⟩
          have hrl := TK.replace_len j " " "  "
          rw [hb2] at hrl
          obtain ⟨v, av, iv⟩ := atI_in (xs := [V.str j, .str j, .str j, .str j, .str (j ++ " "), .str (" " ++ j), .str (Txt.replace j " " "  ")]) (k := way) w0 (by show way < ((7 : Nat) : Int); omega)
          obtain ⟨z, rfl, hzl⟩ : ∃ z, v = .str z ∧ z.length ≤ 150 := by
            simp only [List.mem_cons, List.not_mem_nil, or_false] at iv
            rcases iv with rfl | rfl | rfl | rfl | rfl | rfl | rfl
            · exact ⟨_, rfl, by omega⟩
            · exact ⟨_, rfl, by omega⟩
            · exact ⟨_, rfl, by omega⟩
            · exact ⟨_, rfl, by omega⟩
            · exact ⟨_, rfl, by rw [add_len]; omega⟩
            · exact ⟨_, rfl, by rw [add_len]; omega⟩
            · exact ⟨_, rfl, by omega⟩
          have sR := same_upd (o := .lst [V.str j, .str j, .str j, .str j, .str (j ++ " "), .str (" " ++ j), .str (Txt.replace j " " "  ")]) nR
          exact ⟨.int way, rfl, R, _, way, .str z, rfl, rfl, SqL.of upd_same, av, q z _ hzl (hpz.same sR) (swz.trans (wo_same_of sR))⟩
        · refine iteE (fun y => e2 (V.int.inj y)) ?_
          refine ⟨.int way, rfl, rfl, _, rfl, ?_⟩
          by_cases e3 : way = 3
          · refine iteD (congrArg V.int e3) ⟨.ref W, rfl, W, _, rfl, SqL.of hW, fun C nC => ?_⟩
            have hf : Few ws.reverse := by unfold Few; rw [sum_rev, List.length_reverse]; omega
            have sC := same_upd (o := .lst (ws.map V.str).reverse) nC
            have hC : upd H3 C (.lst (ws.map V.str).reverse) C = some (.lst (ws.reverse.map V.str)) := by rw [upd_same, List.map_reverse]
            have hpz := hpm.same sC
            have swz := sw.trans (wo_same_of sC)
            generalize upd H3 C (.lst (ws.map V.str).reverse) = Hz at hC hpz swz ⊢
            generalize ws.reverse = wz at hf hC
            have hj := Few.join hf
            refine ⟨⟨_, rfl⟩, .ref C, rfl, " ", C, wz, rfl, rfl, .inl (SqL.of hC), (by unfold Few at hf; rw [show (" " : Str).length = 1 by decide]; show _ ≤ _; omega), ?_⟩
            generalize Txt.join " " wz = j at hj ⊢
            have hb1 : (" " : Str).length = 1 := by decide
            have hb2 : ("  " : Str).length = 2 := by decide
            refine ⟨.str j, rfl, .str j, rfl, .str j, rfl, .str j, rfl, .str j, rfl, j, " ", rfl, rfl, sl (by omega), .str j, rfl, " ", j, rfl, rfl, sl (by omega), .str j, rfl, j, rfl, (by rw [hb2]; omega), by show 7 ≤ sizeLine; decide, fun R nR => ?_⟩
            have hrl := TK.replace_len j " " "  "
            rw [hb2] at hrl
            obtain ⟨v, av, iv⟩ := atI_in (xs := [V.str j, .str j, .str j, .str j, .str (j ++ " "), .str (" " ++ j), .str (Txt.replace j " " "  ")]) (k := way) w0 (by show way < ((7 : Nat) : Int); omega)
            obtain ⟨z, rfl, hzl⟩ : ∃ z, v = .str z ∧ z.length ≤ 150 := by
              simp only [List.mem_cons, List.not_mem_nil, or_false] at iv
              rcases iv with rfl | rfl | rfl | rfl | rfl | rfl | rfl
              · exact ⟨_, rfl, by omega⟩
              · exact ⟨_, rfl, by omega⟩
              · exact ⟨_, rfl, by omega⟩
              · exact ⟨_, rfl, by omega⟩
              · exact ⟨_, rfl, by rw [add_len]; omega⟩
              · exact ⟨_, rfl, by rw [add_len]; omega⟩
              · exact ⟨_, rfl, by omega⟩
            have sR := same_upd (o := .lst [V.str j, .str j, .str j, .str j, .str (j ++ " "), .str (" " ++ j), .str (Txt.replace j " " "  ")]) nR
            exact ⟨.int way, rfl, R, _, way, .str z, rfl, rfl, SqL.of upd_same, av, q z _ hzl (hpz.same sR) (swz.trans (wo_same_of sR))⟩
          · refine iteE (fun y => e3 (V.int.inj y)) ?_
            have hf : Few ws := by unfold Few; omega
            have hC := hW
            have hpz := hpm
            have swz := sw
            obtain ⟨C, eC⟩ : ∃ C, C = W := ⟨W, rfl⟩
            rw [← eC] at hC ⊢
            obtain ⟨wz, ewz⟩ : ∃ wz, wz = ws := ⟨ws, rfl⟩
            rw [← ewz] at hC hf
            clear eC ewz
            have hj := Few.join hf
            refine ⟨⟨_, rfl⟩, .ref C, rfl, " ", C, wz, rfl, rfl, .inl (SqL.of hC), (by unfold Few at hf; rw [show (" " : Str).length = 1 by decide]; show _ ≤ _; omega), ?_⟩
            generalize Txt.join " " wz = j at hj ⊢
            have hb1 : (" " : Str).length = 1 := by decide
            have hb2 : ("  " : Str).length = 2 := by decide
            refine ⟨.str j, rfl, .str j, rfl, .str j, rfl, .str j, rfl, .str j, rfl, j, " ", rfl, rfl, sl (by omega), .str j, rfl, " ", j, rfl, rfl, sl (by omega), .str j, rfl, j, rfl, (by rw [hb2]; omega), by show 7 ≤ sizeLine; decide, fun R nR => ?_⟩
            have hrl := TK.replace_len j " " "  "
            rw [hb2] at hrl
            obtain ⟨v, av, iv⟩ := atI_in (xs := [V.str j, .str j, .str j, .str j, .str (j ++ " "), .str (" " ++ j), .str (Txt.replace j " " "  ")]) (k := way) w0 (by show way < ((7 : Nat) : Int); omega)
            obtain ⟨z, rfl, hzl⟩ : ∃ z, v = .str z ∧ z.length ≤ 150 := by
              simp only [List.mem_cons, List.not_mem_nil, or_false] at iv
              rcases iv with rfl | rfl | rfl | rfl | rfl | rfl | rfl
              · exact ⟨_, rfl, by omega⟩
              · exact ⟨_, rfl, by omega⟩
              · exact ⟨_, rfl, by omega⟩
              · exact ⟨_, rfl, by omega⟩
              · exact ⟨_, rfl, by rw [add_len]; omega⟩
              · exact ⟨_, rfl, by rw [add_len]; omega⟩
              · exact ⟨_, rfl, by omega⟩
            have sR := same_upd (o := .lst [V.str j, .str j, .str j, .str j, .str (j ++ " "), .str (" " ++ j), .str (Txt.replace j " " "  ")]) nR
            exact ⟨.int way, rfl, R, _, way, .str z, rfl, rfl, SqL.of upd_same, av, q z _ hzl (hpz.same sR) (swz.trans (wo_same_of sR))⟩
def SmallD (d : PyData) : Prop := ∀ z, d = .str z → z.length ≤ 640
end
end K36

set_option maxRecDepth 100000
set_option maxHeartbeats 4000000
/-! k36: a text bent. -/
namespace K36
open PySem PySem.Spec PyProof.Rows L2 LamX VG TL
theorem scBent : FnScope ["pot", "value", "at", "some", "sign"] ["pot", "value"] (defScope sBent) := ⟨rfl, rfl, rfl, by decide +kernel, rfl, by decide +kernel, by decide +kernel⟩
section
variable {X : Cx}
theorem pss_nev {st : List Stmt} : PSs X st tNever := ⟨fun _ _ _ _ _ _ h => h.elim⟩
def tNeverT : TT := fun _ _ _ => False
theorem pw_nev {e : Expr} : PW X e tNeverT := ⟨fun _ _ _ _ _ _ _ h => h.elim⟩
end
theorem cut_len (z : Str) (lo hi : Option Int) : (cutS z lo hi).length ≤ z.length := by
  rw [len_list, len_list]
  unfold cutS
  show (List.take _ _).length ≤ _
  rw [List.length_take, List.length_drop]
  omega
theorem signs_len {z x : Str} (h : x ∈ VG.signs z) : x.length = 1 := by
  unfold VG.signs at h
  obtain ⟨c, _, rfl⟩ := List.mem_map.mp h
  rfl
section
variable {P : Program} {w : World} {K : PySem.W.Frag} {mg : Str → Option Value} {base : Heap}
def spBent (K : PySem.W.Frag) : Sp := fun vs H Q _ => ∃ (p : Addr) (z : Str) (n : Nat), vs = [.ref p, .str z] ∧ z ≠ "" ∧ z.length ≤ 129 ∧ Pot H p n ∧ n < 900000 ∧ ∀ v d H', Pot H' p (n + 6) → Same (wo H p) (wo H' p) → Dk K (wo H' p) v d → SmallD d → Q v H'
theorem ok_Bent {k : Nat} {f : Addr} {fd : FuncData}  (F : Fun K "_law_bent" "_law_bent" sBent f fd) (gTa : Cal P w K mg base CX0 (k + 3) "_law_take" ["pot", "upto"] spTake) (gOf : Cal P w K mg base CX0 (k + 3) "_law_of" ["pot", "some"] (spOf K)) (gSo : Cal P w K mg base CX0 (k + 3) "_law_some" ["pot", "pool", "many"] (spSome K))  (fbool : mg "bool" = none) (fint : mg "int" = none) (fisinstance : mg "isinstance" = none) (flen : mg "len" = none) (flist : mg "list" = none) (fstr : mg "str" = none) (ftuple : mg "tuple" = none) : FnOk P w K mg base CX0 (k + 4) f fd ["pot", "value"] (spBent K) := by
  obtain ⟨fTa, fdTa, GTa, kTa, bTa, mTa⟩ := gTa
  obtain ⟨fOf, fdOf, GOf, kOf, bOf, mOf⟩ := gOf
  obtain ⟨fSo, fdSo, GSo, kSo, bSo, mSo⟩ := gSo
  refine F.ok scBent (fun vs H Q E h => ?_) (fun cdv A outer s H vs Q E hr h => ?_)
  · obtain ⟨p, z, n, rfl, _⟩ := h
    rfl
  · obtain ⟨p, z, n, rfl, hz, hl, hp, hn, q⟩ := h
    refine ⟨_, (pss_cons (ps_if (PW.pt (pw_and (pt_val (pe_callB call_isi (by rfl) fisinstance (by decide +kernel) (pa_cons (pv 1) (pa_cons (pe_bltn (v := .ty "tuple") (by rfl) ftuple (by decide +kernel) rfl) pa_nil)))) pw_nev)) pss_nev pss_nil) (pss_cons (ps_if (pt_val (pe_callB call_isi (by rfl) fisinstance (by decide +kernel) (pa_cons (pv 1) (pa_cons (pe_bltn (v := .ty "tuple") (by rfl) ftuple (by decide +kernel) rfl) pa_nil)))) pss_nev pss_nil) (pss_cons (ps_if (pt_val (pe_callB call_isi (by rfl) fisinstance (by decide +kernel) (pa_cons (pv 1) (pa_cons (pe_bltn (v := .ty "bool") (by rfl) fbool (by decide +kernel) rfl) pa_nil)))) pss_nev pss_nil) (pss_cons (ps_if (pt_val (pe_callB call_isi (by rfl) fisinstance (by decide +kernel) (pa_cons (pv 1) (pa_cons (pe_bltn (v := .ty "int") (by rfl) fint (by decide +kernel) rfl) pa_nil)))) pss_nev pss_nil) (pss_cons (ps_if (PW.pt (pw_and (pt_val (pe_callB call_isi (by rfl) fisinstance (by decide +kernel) (pa_cons (pv 1) (pa_cons (pe_bltn (v := .ty "str") (by rfl) fstr (by decide +kernel) rfl) pa_nil)))) (pw_and1 (pt_cmpR op_ne (pv 1) pe_str (nomark _))))) (pss_cons (ps_set (i := 2) scBent.nd rfl (.inr rfl) (pe_call GTa hr (by rfl) mTa kTa bTa .nil pass0 (pa_cons (pv 0) (pa_cons (pe_callB call_len_str (by rfl) flen PySem.boot_len (pa_cons (pv 1) pa_nil)) pa_nil)))) (pss_cons (ps_setLc (i := 3) (own := [("sign", 4)]) (g := (gName 4)) (tt := tYes) rfl scBent.nd rfl rfl (by rfl) (pi_list (pe_call GSo hr (by rfl) mSo kSo bSo .nil pass0 (pa_cons (pv 0) (pa_cons (pe_callTy (call_listS rfl) (by rfl) flist (by decide +kernel) (pa_cons pe_str pa_nil)) (pa_cons pe_int pa_nil))))) (blkOk_by (N := ["pot", "value", "at", "some", "sign"]) (sc := defScope sBent) (by decide +kernel)) (fun _ _ _ _ _ => (pg_name (i := 4) scBent.nd rfl (.inl rfl))) (fun _ _ _ _ _ => pts_nil) (fun _ _ _ _ _ => (pe_op op_add_str (pe_op op_add_str (pe_slice sl_str (pv 1) po_none (po_some (pv 2))) (pv 4)) (pe_slice sl_str (pv 1) (po_some (pe_op op_add (pv 2) pe_int)) po_none)))) (pss_one (ps_ret (pe_call GOf hr (by rfl) mOf kOf bOf .nil pass0 (pa_cons (pv 0) (pa_cons (pe_op op_cat (pv 3) (pe_lst (pa_cons (pe_op op_add_str (pv 1) pe_str) (pa_cons (pe_slice sl_str (pv 1) (po_some pe_int) po_none) (pa_cons (pe_upper (pv 1)) (pa_cons (pe_lst (pa_cons (pv 1) pa_nil)) (pa_cons pe_non (pa_cons (pe_op op_add_str pe_str (pv 1)) (pa_cons (pe_tup (pa_cons (pv 1) pa_nil)) pa_nil))))))))) pa_nil))))))) pss_nil) (pss_one ps_never)))))), ?_⟩
    have hzl : 0 < z.length := by
      rw [len_list]
      exact List.length_pos_iff.mpr fun e => hz (empty_iff.mpr e)
    refine ⟨.str z, rfl, .str z, .ty "tuple", .type "str", .type "tuple", false, rfl, .ty _, .base (.str z), kit_ty (a := "str") (b := "tuple") (r := false) (by decide +kernel), _, rfl, iteF (iteF ?_)⟩
    refine ⟨.str z, rfl, .str z, .ty "tuple", .type "str", .type "tuple", false, rfl, .ty _, .base (.str z), kit_ty (a := "str") (b := "tuple") (r := false) (by decide +kernel), _, rfl, iteF ?_⟩
    refine ⟨.str z, rfl, .str z, .ty "bool", .type "str", .type "bool", false, rfl, .ty _, .base (.str z), kit_ty (a := "str") (b := "bool") (r := false) (by decide +kernel), _, rfl, iteF ?_⟩
    refine ⟨.str z, rfl, .str z, .ty "int", .type "str", .type "int", false, rfl, .ty _, .base (.str z), kit_ty (a := "str") (b := "int") (r := false) (by decide +kernel), _, rfl, iteF ?_⟩
    refine ⟨.str z, rfl, .str z, .ty "str", .type "str", .type "str", true, rfl, .ty _, .base (.str z), kit_ty (a := "str") (b := "str") (r := true) (by decide +kernel), _, rfl, iteT ⟨.str z, rfl, rfl, _, rfl, iteNE (fun y => hz (V.str.inj y)) ?_⟩⟩
    refine ⟨.ref p, rfl, .str z, rfl, z, rfl, sl (by omega), p, (z.length : Nat), n, rfl, by omega, by omega, hp, by omega, fun at_ H1 a0 a1 hp1 s1 => ?_⟩
    refine ⟨.ref p, rfl, "rwx019- ", rfl, by decide, fun L nL => ?_⟩
    have sL := same_upd (o := .lst ((VG.signs "rwx019- ").map V.str)) nL
    have pL := hp1.ne nL
    refine ⟨p, L, (VG.signs "rwx019- ").map V.str, 4, n + 1, rfl, SqL.of (wo_at upd_same pL), by decide, by decide, hp1.same sL, by omega, fun H3 S ys hp3 s3 hS hyl hym => ?_⟩
    have sw := s1.trans ((wo_same_of sL).trans s3)
    have hS := wo_le _ _ hS
    clear s1 hp1 sL nL pL s3
    refine ⟨S, rfl, ⟨_, SqL.of hS⟩, fun D nD => ?_⟩
    have sD := same_upd (o := .lst []) nD
    have nSD : S ≠ D := by rintro rfl; rw [hS] at nD; cases nD
    have pD := hp3.ne nD
    have nD0 : H D = none := none_wo sw nD pD
    refine lc_list (xs := ys) (fun i H' => Pot H' p (n + 5) ∧ Same (wo H p) (wo H' p) ∧ H' S = some (.lst ys) ∧ ∃ acc : List Str, H' D = some (.lst (acc.map V.str)) ∧ acc.length = i ∧ ∀ x ∈ acc, x.length ≤ 640) ⟨hp3.same sD, sw.trans (wo_same_of sD), sD _ _ hS, [], upd_same, rfl, fun x h => by cases h⟩ (fun i H' _ hP => SqL.of hP.2.2.1) (fun i x H' hx hP => ?_) fun H4 hP => ?_
    · obtain ⟨hp4, sw4, hS4, acc, hD, hal, hac⟩ := hP
      obtain ⟨sg, hsg, rfl⟩ := List.mem_map.mp (hym x (List.mem_of_getElem? hx))
      have h1 := signs_len hsg
      have hi := (List.getElem?_eq_some_iff.mp hx).1
      have c1 := cut_len z none (some at_)
      have c2 := cut_len z (some (at_ + 1)) none
      refine ⟨rfl, ?_⟩
      unfold tYes
      refine iteT ⟨.str z, rfl, .int at_, rfl, at_, rfl, z, rfl, sl (by omega), .str sg, rfl, _, sg, rfl, rfl, sl (by omega), .str z, rfl, .int at_, rfl, at_, 1, rfl, rfl, at_ + 1, rfl, z, rfl, sl (by omega), _, _, rfl, rfl, sl (by rw [add_len]; omega), _, hD, small1000 (by rw [List.length_map, hal]; omega), hp4.upd pD, ?_, by rw [upd_ne nSD]; exact hS4, acc ++ [cutS z none (some at_) ++ sg ++ cutS z (some (at_ + 1)) none], ?_, by rw [List.length_append, List.length_singleton, hal], fun x hx => ?_⟩
      · exact wo_updNew sw4 nD0
      · rw [upd_same, List.map_append]
        rfl
      · rcases List.mem_append.mp hx with hx | hx
        · exact hac x hx
        · rw [List.mem_singleton.mp hx, add_len, add_len]
          omega
    · obtain ⟨hp4, sw4, _, acc, hD, hal, hac⟩ := hP
      have c3 := cut_len z (some 1) none
      have c4 := PyProof.Rows.len_upper z
      have hb1 : ("x" : Str).length = 1 := by decide
      have hb2 : ("-" : Str).length = 1 := by decide
      refine ⟨.ref p, rfl, .ref D, rfl, .str z, rfl, z, "x", rfl, rfl, sl (by omega), .str z, rfl, 1, rfl, z, rfl, sl (by omega), .str z, rfl, ⟨_, rfl⟩, z, rfl, rfl, by omega, .str z, rfl, by show 1 ≤ sizeLine; decide, fun L1 n1 => ?_⟩
      have t1 := same_upd (o := .lst [V.str z]) n1
      have hL1 : upd H4 L1 (.lst [V.str z]) L1 = some (.lst [V.str z]) := upd_same
      generalize upd H4 L1 (.lst [V.str z]) = H5 at t1 hL1 ⊢
      refine ⟨.str z, rfl, "-", z, rfl, rfl, sl (by omega), .str z, rfl, by show 1 ≤ sizeLine; decide, fun T1 nT => ?_⟩
      have t2 := same_upd (o := .tup [V.str z]) nT
      have hT1 : upd H5 T1 (.tup [V.str z]) T1 = some (.tup [V.str z]) := upd_same
      generalize upd H5 T1 (.tup [V.str z]) = H6 at t2 hT1 ⊢
      refine ⟨by show 7 ≤ sizeLine; decide, fun L7 n7 => ?_⟩
      have t3 := same_upd (o := .lst [V.str (z ++ "x"), .str (cutS z (some 1) none), .str (Txt.upper z), .ref L1, .non, .str ("-" ++ z), .ref T1]) n7
      have hL7 : upd H6 L7 (.lst [V.str (z ++ "x"), .str (cutS z (some 1) none), .str (Txt.upper z), .ref L1, .non, .str ("-" ++ z), .ref T1]) L7 = some (.lst [V.str (z ++ "x"), .str (cutS z (some 1) none), .str (Txt.upper z), .ref L1, .non, .str ("-" ++ z), .ref T1]) := upd_same
      generalize upd H6 L7 (.lst [V.str (z ++ "x"), .str (cutS z (some 1) none), .str (Txt.upper z), .ref L1, .non, .str ("-" ++ z), .ref T1]) = H7 at t3 hL7 ⊢
      have t13 := t1.trans (t2.trans t3)
      refine ⟨D, L7, _, _, rfl, rfl, t13 _ _ hD, hL7, sl (by rw [List.length_map, hal, hyl]; show 4 + 7 ≤ 1000; decide), fun C nC => ?_⟩
      generalize hxs : acc.map V.str ++ [V.str (z ++ "x"), .str (cutS z (some 1) none), .str (Txt.upper z), .ref L1, .non, .str ("-" ++ z), .ref T1] = xs
      have t4 := same_upd (o := .lst xs) nC
      have t14 := t13.trans t4
      have hp8 := hp4.same t14
      have pC : C ≠ p := (hp4.same t13).ne nC
      refine ⟨p, C, xs, n + 5, rfl, SqL.of (wo_at upd_same pC), by rw [← hxs]; simp, by rw [← hxs, List.length_append, List.length_map, hal, hyl]; show 4 + 7 ≤ 1000; decide, hp8, by omega, fun x hx H8 hp9 s9 => ?_⟩
      have sw9 := sw4.trans ((wo_same_of t14).trans s9)
      have pL1 : L1 ≠ p := hp4.ne n1
      have pT1 : T1 ≠ p := (hp4.same t1).ne nT
      have kL1 : wo H8 p L1 = some (.lst [V.str z]) := s9 _ _ (wo_at ((t2.trans (t3.trans t4)) _ _ hL1) pL1)
      have kT1 : wo H8 p T1 = some (.tup [V.str z]) := s9 _ _ (wo_at ((t3.trans t4) _ _ hT1) pT1)
      rw [← hxs] at hx
      rcases List.mem_append.mp hx with hx | hx
      · obtain ⟨y, hy, rfl⟩ := List.mem_map.mp hx
        exact q _ (.str y) _ hp9 sw9 (.dp (.str y)) fun z' e => by cases e; exact hac y hy
      · simp only [List.mem_cons, List.not_mem_nil, or_false] at hx
        rcases hx with rfl | rfl | rfl | rfl | rfl | rfl | rfl
        · exact q _ (.str _) _ hp9 sw9 (.dp (.str _)) fun z' e => by cases e; rw [add_len]; omega
        · exact q _ (.str _) _ hp9 sw9 (.dp (.str _)) fun z' e => by cases e; omega
        · exact q _ (.str _) _ hp9 sw9 (.dp (.str _)) fun z' e => by cases e; omega
        · exact q _ (.list [.str z]) _ hp9 sw9 (.dp (.lst (SqL.of kL1) (.cons (.str z) .nil))) fun z' e => by cases e
        · exact q _ .none _ hp9 sw9 (.dp .non) fun z' e => by cases e
        · exact q _ (.str _) _ hp9 sw9 (.dp (.str _)) fun z' e => by cases e; rw [add_len]; omega
        · exact q _ (.tuple [.str z]) _ hp9 sw9 (.dp (.tup (SqT.of kT1) (.cons (.str z) .nil))) fun z' e => by cases e
end
end K36

set_option maxRecDepth 100000
set_option maxHeartbeats 4000000
/-! k36: texts near a house's text. -/
namespace K36
open PySem PySem.Spec PyProof.Rows L2 LamX VG TL
theorem scNear : FnScope ["pot", "text", "lines", "found", "lap", "at", "to", "some", "way", "more", "one"] ["pot", "text"] (defScope sNear) := ⟨rfl, rfl, rfl, by decide +kernel, rfl, by decide +kernel, by decide +kernel⟩
theorem house_lines {nx : Int} {rs : List Row} (g : Good nx rs) : (∀ l ∈ linesT nx rs, l.length ≤ 19) ∧ (linesT nx rs).length ≤ 7 ∧ 0 < (linesT nx rs).length := by
  have h3 := g.few
  have h1 := g.lo
  refine ⟨fun l hl => ?_, by unfold linesT; rw [List.length_cons, List.length_map]; omega, by unfold linesT; exact Nat.succ_pos _⟩
  unfold linesT at hl
  rcases List.mem_cons.mp hl with rfl | hl
  · have h4 := strN_len (n := nx) (by omega) g.small
    rw [add_len, show ("clans " : Str).length = 6 by decide]
    omega
  · obtain ⟨r, hr, rfl⟩ := List.mem_map.mp hl
    exact row_len (g.row r hr) g.small
theorem house_ne {nx : Int} {rs : List Row} (g : Good nx rs) : houseT nx rs ≠ "" := fun e => by
  have := wrong_house g
  rw [e] at this
  exact absurd this (by decide)
/-- lines that join to at most four hundred signs -/
def Few2 (ws : List Str) : Prop := (ws.map (·.length)).sum + ws.length ≤ 400
theorem Few2.join {ws : List Str} (h : Few2 ws) : (Txt.join "\n" ws).length ≤ 400 := by
  unfold Few2 at h
  rw [join_len, show ("\n" : Str).length = 1 by decide]
  omega
theorem sum_19 {ws : List Str} (h : ∀ l ∈ ws, l.length ≤ 19) : (ws.map (·.length)).sum ≤ ws.length * 19 := by
  have := sum_le (l := ws.map (·.length)) (m := 19) fun x hx => by
    obtain ⟨y, hy, rfl⟩ := List.mem_map.mp hx
    exact h y hy
  rw [List.length_map] at this
  exact this
theorem few19 {ws : List Str} (h : ∀ l ∈ ws, l.length ≤ 19) (h8 : ws.length ≤ 8) : Few2 ws := by
  have := sum_19 h
  unfold Few2
  omega
theorem dp_strs {K : PySem.W.Frag} {H : Hp} : ∀ l : List Str, DpAll K H (l.map V.str) (l.map PyData.str)
  | [] => .nil
  | a :: l => .cons (.str a) (dp_strs l)
theorem ixN_at {n a : Nat} (h : a < n) : ixN n ((a : Nat) : Int) = some a := by
  unfold ixN
  rw [if_pos (by omega), if_pos (by omega)]
  rfl
section
variable {P : Program} {w : World} {K : PySem.W.Frag} {mg : Str → Option Value} {base : Heap}
def spNear (K : PySem.W.Frag) : Sp := fun vs H Q _ => ∃ (p : Addr) (n : Nat) (nx : Int) (rs : List Row), vs = [.ref p, .str (houseT nx rs)] ∧ Good nx rs ∧ Pot H p n ∧ n < 800000 ∧ ∀ F xs H', Same (wo H p) (wo H' p) → H' F = some (.lst xs) → (∀ x ∈ xs, ∃ d, Dk K H' x d ∧ SmallD d) → Q (.ref F) H'
theorem ok_Near {k : Nat} {f : Addr} {fd : FuncData}  (F : Fun K "_law_near" "_law_near" sNear f fd) (gTa : Cal P w K mg base CX0 (k + 4) "_law_take" ["pot", "upto"] spTake) (gOl : Cal P w K mg base CX0 (k + 4) "_law_other_line" ["pot", "line"] spOtherLine) (gOd : Cal P w K mg base CX0 (k + 4) "_law_odd" ["pot"] (spOdd K)) (gBe : Cal P w K mg base CX0 (k + 4) "_law_bent" ["pot", "value"] (spBent K))  (flen : mg "len" = none) (flist : mg "list" = none) (frange : mg "range" = none) (fstr : mg "str" = none) : FnOk P w K mg base CX0 (k + 5) f fd ["pot", "text"] (spNear K) := by
  obtain ⟨fTa, fdTa, GTa, kTa, bTa, mTa⟩ := gTa
  obtain ⟨fOl, fdOl, GOl, kOl, bOl, mOl⟩ := gOl
  obtain ⟨fOd, fdOd, GOd, kOd, bOd, mOd⟩ := gOd
  obtain ⟨fBe, fdBe, GBe, kBe, bBe, mBe⟩ := gBe
  refine F.ok scNear (fun vs H Q E h => ?_) (fun cdv A outer s H vs Q E hr h => ?_)
  · obtain ⟨p, n, nx, rs, rfl, _⟩ := h
    rfl
  · obtain ⟨p, n, nx, rs, rfl, g, hp, hn, q⟩ := h
    refine ⟨_, (pss_cons (ps_par (i := 2) (j := 3) (by rfl) scNear.nd rfl rfl (by decide) rfl rfl (pa_cons (pe_split (pv 1) pe_str) (pa_cons (pe_lst (pa_cons (pv 1) (pa_cons (pe_op op_add_str (pv 1) pe_str) (pa_cons (pe_op op_add_str pe_str (pv 1)) (pa_cons (pe_op op_add_str (pv 1) pe_str) (pa_cons pe_str (pa_cons pe_str pa_nil))))))) pa_nil)) (by rfl)) (pss_cons (ps_expr (pe_bm PySem.F.plainAttrs_list PySem.F.slot_list_append PySem.F.type_list_append mt_append (pv 3) (pa_cons pe_str pa_nil))) (pss_cons (ps_for PassesOwn.never rfl (pi_range1 (by rfl) frange (pa_cons pe_int pa_nil)) (pg_name (i := 4) scNear.nd rfl (.inl rfl)) (pss_cons (ps_par3 (i := 5) (j := 6) (l := 7) (by rfl) scNear.nd rfl rfl rfl (by decide) (by decide) (by decide) rfl rfl rfl (pa_cons (pe_call GTa hr (by rfl) mTa kTa bTa .nil pass0 (pa_cons (pv 0) (pa_cons (pe_callB call_len_seq (by rfl) flen PySem.boot_len (pa_cons (pv 2) pa_nil)) pa_nil))) (pa_cons (pe_call GTa hr (by rfl) mTa kTa bTa .nil pass0 (pa_cons (pv 0) (pa_cons (pe_callB call_len_seq (by rfl) flen PySem.boot_len (pa_cons (pv 2) pa_nil)) pa_nil))) (pa_cons (pe_callTy call_list_of (by rfl) flist (by decide +kernel) (pa_cons (pv 2) pa_nil)) pa_nil))) (by rfl)) (pss_cons (ps_set (i := 8) scNear.nd rfl (.inl rfl) (pe_call GTa hr (by rfl) mTa kTa bTa .nil pass0 (pa_cons (pv 0) (pa_cons pe_int pa_nil)))) (pss_cons (ps_if (pt_cmpR op_eq (pv 8) pe_int (nomark _)) (pss_one (ps_asg (pe_tup (pa_cons (pe_ix ix_list (pv 7) (pv 6) (fun _ _ => rfl)) (pa_cons (pe_ix ix_list (pv 7) (pv 5) (fun _ _ => rfl)) pa_nil))) (pg_tup (by rfl) (pgs_cons (pg_sub (pv 7) (pv 5) set_list) (pgs_cons (pg_sub (pv 7) (pv 6) set_list) pgs_nil))))) pss_nil) (pss_cons (ps_if (pt_cmpR op_eq (pv 8) pe_int (nomark _)) (pss_one (ps_set (i := 7) scNear.nd rfl (.inl rfl) (pe_op op_cat (pe_slice sl_list (pv 7) po_none (po_some (pv 5))) (pe_slice sl_list (pv 7) (po_some (pe_op op_add (pv 5) pe_int)) po_none)))) pss_nil) (pss_cons (ps_if (pt_cmpR op_eq (pv 8) pe_int (nomark _)) (pss_one (ps_set (i := 7) scNear.nd rfl (.inl rfl) (pe_op op_cat (pe_op op_cat (pe_slice sl_list (pv 7) po_none (po_some (pv 5))) (pe_lst (pa_cons (pe_ix ix_list (pv 7) (pv 6) (fun _ _ => rfl)) pa_nil))) (pe_slice sl_list (pv 7) (po_some (pv 5)) po_none)))) pss_nil) (pss_cons (ps_if (pt_cmpR op_gt (pv 8) pe_int (nomark _)) (pss_one (ps_asg (pe_call GOl hr (by rfl) mOl kOl bOl .nil pass0 (pa_cons (pv 0) (pa_cons (pe_ix ix_list (pv 7) (pv 5) (fun _ _ => rfl)) pa_nil))) (pg_sub (pv 7) (pv 5) set_list))) pss_nil) (pss_one (ps_expr (pe_bm PySem.F.plainAttrs_list PySem.F.slot_list_append PySem.F.type_list_append mt_append (pv 3) (pa_cons (pe_join pe_str (pv 7)) pa_nil))))))))))) (pssg_set (i := 9) scNear.nd rfl (.inl rfl) (peg_m1 PySem.F.slot_str_join PySem.F.type_str_join mt_join (pe_op op_cat (pe_lst (pa_cons pe_str (pa_cons pe_str pa_nil))) (pe_lc (own := [("one", 10)]) (g := (gName 10)) (tt := tYes) rfl scNear.nd (pi_range2 (by rfl) frange (pa_cons pe_int (pa_cons pe_int pa_nil))) (blkOk_by (N := ["pot", "text", "lines", "found", "lap", "at", "to", "some", "way", "more", "one"]) (sc := defScope sNear) (by decide +kernel)) (fun _ _ _ _ _ => (pg_name (i := 10) scNear.nd rfl (.inl rfl))) (fun _ _ _ _ _ => pts_nil) (fun _ _ _ _ _ => (pe_op op_add_str (pe_op op_add_str pe_str (pe_callTy call_str_int (by rfl) fstr (by decide +kernel) (pa_cons (pv 10) pa_nil))) pe_str))))) (CwR.psst_one (CwR.pst_ret (CwR.pet_op op_cat (CwR.PET.of (pv 3)) (pet_lst (patg_cons (pv 9) (pat_cons (CwR.pet_replC (pv 9)) (patg_cons (pe_callTy call_list_of (by rfl) flist (by decide +kernel) (pa_cons (pv 2) pa_nil)) (patg_cons pe_non (patg_cons (pe_call GOd hr (by rfl) mOd kOd bOd .nil pass0 (pa_cons (pv 0) pa_nil)) (patg_cons (pe_call GBe hr (by rfl) mBe kBe bBe .nil pass0 (pa_cons (pv 0) (pa_cons (pv 1) pa_nil))) pat_nil)))))))))))))), ?_⟩
    have hz := house_len g
    have hzn := house_ne g
    have hsp := split_house g
    obtain ⟨h19, h7, h0⟩ := house_lines g
    generalize houseT nx rs = z at hz hzn hsp ⊢
    generalize linesT nx rs = ls at hsp h19 h7 h0
    have b1 : ("\n" : Str).length = 1 := by decide
    have b2 : (" " : Str).length = 1 := by decide
    refine ⟨.str z, rfl, ⟨_, rfl⟩, z, "\n", rfl, rfl, by decide, sl (by omega), fun L nL => ?_⟩
    rw [hsp]
    have s1 := same_upd (o := .lst (ls.map V.str)) nL
    have hL : upd H L (.lst (ls.map V.str)) L = some (.lst (ls.map V.str)) := upd_same
    have pL := hp.ne nL
    have hp1 := hp.same s1
    have sw := wo_same_of (a := p) s1
    generalize upd H L (.lst (ls.map V.str)) = H1 at s1 hL hp1 sw ⊢
    refine ⟨.str z, rfl, .str z, rfl, z, "\n", rfl, rfl, sl (by omega), .str z, rfl, "\n", z, rfl, rfl, sl (by omega), .str z, rfl, z, " ", rfl, rfl, sl (by omega), by show 6 ≤ sizeLine; decide, fun F nF => ⟨.ref L, .ref F, rfl, ?_⟩⟩
    have pF := hp1.ne nF
    have nF0 : H F = none := none_of s1 nF
    have nLF : L ≠ F := by rintro rfl; rw [hL] at nF; cases nF
    have sF := same_upd (o := .lst [V.str z, .str (z ++ "\n"), .str ("\n" ++ z), .str (z ++ " "), .str "", .str "clans 1"]) nF
    have hF : upd H1 F (.lst [V.str z, .str (z ++ "\n"), .str ("\n" ++ z), .str (z ++ " "), .str "", .str "clans 1"]) F = some (.lst [V.str z, .str (z ++ "\n"), .str ("\n" ++ z), .str (z ++ " "), .str "", .str "clans 1"]) := upd_same
    have hp2 := hp1.same sF
    have hL := sF _ _ hL
    have sw := sw.trans (wo_same_of sF)
    generalize upd H1 F (.lst [V.str z, .str (z ++ "\n"), .str ("\n" ++ z), .str (z ++ " "), .str "", .str "clans 1"]) = H2 at hF hp2 hL sw ⊢
    clear s1 sF hp1 nF nL
    refine ⟨.ref F, rfl, .inl ⟨rfl, _, SqL.of hF⟩, F, _, _, rfl, rfl, hF, by show 6 < sizeLine; decide, ?_⟩
    have hp3 : Pot (upd H2 F (.lst ([V.str z, .str (z ++ "\n"), .str ("\n" ++ z), .str (z ++ " "), .str "", .str "clans 1"] ++ [V.str "clans 1\ntask 0 - none"]))) p n := hp2.upd pF
    refine ⟨10, rfl, by decide, by decide, ?_⟩
    refine for_range (n := 10) (fun i σ H' => ∃ y4 y5 y6 y7 y8 fs m, σ = [some (.ref p), some (.str z), some (.ref L), some (.ref F), y4, y5, y6, y7, y8, none, none] ∧ Pot H' p m ∧ m ≤ n + 6 * i ∧ Same (wo H p) (wo H' p) ∧ H' L = some (.lst (ls.map V.str)) ∧ H' F = some (.lst (fs.map V.str)) ∧ fs.length = 7 + i ∧ ∀ x ∈ fs, x.length ≤ 640)
      ⟨none, none, none, none, none, [z, z ++ "\n", "\n" ++ z, z ++ " ", "", "clans 1", "clans 1\ntask 0 - none"], n, rfl, hp3, by omega, wo_updNew sw nF0, by rw [upd_ne nLF]; exact hL, upd_same, rfl, fun x hx => ?_⟩ (fun i σ H' hi hP => ?_) fun σ H' hP => ?_
    · simp only [List.mem_cons, List.not_mem_nil, or_false] at hx
      rcases hx with rfl | rfl | rfl | rfl | rfl | rfl | rfl
      · omega
      · rw [add_len]; omega
      · rw [add_len]; omega
      · rw [add_len]; omega
      · decide
      · decide
      · decide
    · clear hp3 hF hL sw hp2
      obtain ⟨y4, y5, y6, y7, y8, fs, m, rfl, hp, hm, sw, hL, hF, hfl, hfs⟩ := hP
      refine ⟨.ref p, rfl, .ref L, rfl, L, _, rfl, .inl (SqL.of hL), p, ((ls.map V.str).length : Nat), m, rfl, by rw [List.length_map]; omega, by rw [List.length_map]; omega, hp, by omega, fun a_ H2 a0 a1 hp2 s2 => ?_⟩
      have hL := wo_le _ _ (s2 _ _ (wo_at hL pL))
      have hF := wo_le _ _ (s2 _ _ (wo_at hF pF))
      have sw := sw.trans s2
      refine ⟨.ref p, rfl, .ref L, rfl, L, _, rfl, .inl (SqL.of hL), p, ((ls.map V.str).length : Nat), m + 1, rfl, by rw [List.length_map]; omega, by rw [List.length_map]; omega, hp2, by omega, fun c_ H3 c0 c1 hp3 s3 => ?_⟩
      have hL := wo_le _ _ (s3 _ _ (wo_at hL pL))
      have hF := wo_le _ _ (s3 _ _ (wo_at hF pF))
      have sw := sw.trans s3
      obtain ⟨a, rfl⟩ : ∃ a : Nat, a_ = a := ⟨a_.toNat, (Int.toNat_of_nonneg a0).symm⟩
      obtain ⟨c, rfl⟩ : ∃ c : Nat, c_ = c := ⟨c_.toNat, (Int.toNat_of_nonneg c0).symm⟩
      have ha : a < ls.length := by rw [List.length_map] at a1; omega
      have hc : c < ls.length := by rw [List.length_map] at c1; omega
      clear s2 s3 hp hp2 a0 a1 c0 c1
      refine ⟨.ref L, rfl, L, _, rfl, .inl (SqL.of hL), fun S nS => ⟨.int (a : Nat), .int (c : Nat), .ref S, rfl, ?_⟩⟩
      have sS := same_upd (o := .lst (ls.map V.str)) nS
      have hS : upd H3 S (.lst (ls.map V.str)) S = some (.lst (ls.map V.str)) := upd_same
      have pS := hp3.ne nS
      have nSF : S ≠ F := by rintro rfl; rw [hF] at nS; cases nS
      have nSL : S ≠ L := by rintro rfl; rw [hL] at nS; cases nS
      have nS0 : H S = none := none_wo sw nS pS
      have hL := sS _ _ hL
      have hF := sS _ _ hF
      have hp3 := hp3.same sS
      have sw := sw.trans (wo_same_of sS)
      generalize upd H3 S (.lst (ls.map V.str)) = H4 at hS hL hF hp3 sw ⊢
      clear sS nS
      refine ⟨.ref p, rfl, p, 5, m + 2, rfl, by decide, by decide, hp3, by omega, fun way H5 w0 w1 hp4 s4 => ?_⟩
      have hS := wo_le _ _ (s4 _ _ (wo_at hS pS))
      have hL := wo_le _ _ (s4 _ _ (wo_at hL pL))
      have hF := wo_le _ _ (s4 _ _ (wo_at hF pF))
      have sw := sw.trans s4
      clear s4 hp3
      have hga : ls[a]? = some ls[a] := List.getElem?_eq_getElem ha
      have hgc : ls[c]? = some ls[c] := List.getElem?_eq_getElem hc
      have la := h19 _ (List.getElem_mem ha)
      have lc := h19 _ (List.getElem_mem hc)
      have ata : atI (ls.map V.str) ((a : Nat) : Int) = some (.str ls[a]) := atI_nat (by rw [List.getElem?_map, hga]; rfl)
      have atc : atI (ls.map V.str) ((c : Nat) : Int) = some (.str ls[c]) := atI_nat (by rw [List.getElem?_map, hgc]; rfl)
      have hlen : (ls.map V.str).length = ls.length := List.length_map ..
      refine ⟨.int way, rfl, rfl, _, rfl, ?_⟩
      by_cases e0 : way = 0
      · have way1 : way ≠ 1 := by omega
        have way2 : way ≠ 2 := by omega
        have way3 : ¬ way > 2 := by omega
        refine iteD (congrArg V.int e0) ⟨.ref S, rfl, .int (c : Nat), rfl, S, _, c, .str ls[c], rfl, rfl, SqL.of hS, atc, .ref S, rfl, .int (a : Nat), rfl, S, _, a, .str ls[a], rfl, rfl, SqL.of hS, ata, by show 2 ≤ sizeLine; decide, fun T nT => ?_⟩
        have sT := same_upd (o := .tup [V.str ls[c], .str ls[a]]) nT
        have hS := sT _ _ hS
        have hL := sT _ _ hL
        have hF := sT _ _ hF
        have hp4 := hp4.same sT
        have sw := sw.trans (wo_same_of sT)
        refine ⟨T, [.str ls[c], .str ls[a]], rfl, SqT.of upd_same, rfl, .str ls[c], [.str ls[a]], rfl, .ref S, rfl, .int (a : Nat), rfl, S, _, _, a, rfl, rfl, hS, (by rw [hlen]; exact ixN_at ha), .str ls[a], [], rfl, .ref S, rfl, .int (c : Nat), rfl, S, _, _, c, rfl, rfl, upd_same, (by rw [List.length_set, hlen]; exact ixN_at hc), rfl, ?_⟩
        generalize upd H5 T (.tup [V.str ls[c], .str ls[a]]) = H6 at hS hL hF hp4 sw ⊢
        have hf : Few2 ((ls.set a ls[c]).set c ls[a]) := few19 (fun l hl => by
          rcases List.mem_or_eq_of_mem_set hl with hl | rfl
          · rcases List.mem_or_eq_of_mem_set hl with hl | rfl
            · exact h19 l hl
            · exact lc
          · exact la) (by rw [List.length_set, List.length_set]; omega)
        have hC : upd (upd H6 S (.lst ((ls.map V.str).set a (.str ls[c])))) S (.lst (((ls.map V.str).set a (.str ls[c])).set c (.str ls[a]))) S = some (.lst (((ls.set a ls[c]).set c ls[a]).map V.str)) := by rw [upd_same, List.map_set, List.map_set]
        have hpz := (hp4.upd (o := .lst ((ls.map V.str).set a (.str ls[c]))) pS).upd (o := .lst (((ls.map V.str).set a (.str ls[c])).set c (.str ls[a]))) pS
        have swz : Same (wo H p) (wo (upd (upd H6 S (.lst ((ls.map V.str).set a (.str ls[c])))) S (.lst (((ls.map V.str).set a (.str ls[c])).set c (.str ls[a])))) p) := wo_updNew (wo_updNew sw nS0) nS0
        have hFz : upd (upd H6 S (.lst ((ls.map V.str).set a (.str ls[c])))) S (.lst (((ls.map V.str).set a (.str ls[c])).set c (.str ls[a]))) F = some (.lst (fs.map V.str)) := by rw [upd_ne nSF.symm, upd_ne nSF.symm]; exact hF
        have hLz : upd (upd H6 S (.lst ((ls.map V.str).set a (.str ls[c])))) S (.lst (((ls.map V.str).set a (.str ls[c])).set c (.str ls[a]))) L = some (.lst (ls.map V.str)) := by rw [upd_ne nSL.symm, upd_ne nSL.symm]; exact hL
        generalize upd (upd H6 S (.lst ((ls.map V.str).set a (.str ls[c])))) S (.lst (((ls.map V.str).set a (.str ls[c])).set c (.str ls[a]))) = Hz at hC hpz swz hFz hLz ⊢
        generalize (ls.set a ls[c]).set c ls[a] = wz at hf hC
        refine ⟨.int way, rfl, rfl, _, rfl, iteE (fun y => way1 (V.int.inj y)) ?_⟩
        refine ⟨.int way, rfl, rfl, _, rfl, iteE (fun y => way2 (V.int.inj y)) ?_⟩
        refine ⟨.int way, rfl, way, 2, rfl, rfl, _, rfl, iteE way3 ?_⟩
        have hj := Few2.join hf
        refine ⟨.ref F, rfl, .inl ⟨rfl, _, SqL.of hFz⟩, ⟨_, rfl⟩, .ref S, rfl, "\n", S, wz, rfl, rfl, .inl (SqL.of hC), (by unfold Few2 at hf; rw [show ("\n" : Str).length = 1 by decide]; show _ ≤ _; omega), F, _, _, rfl, rfl, hFz, small1000 (by rw [List.length_map]; omega), ?_⟩
        generalize Txt.join "\n" wz = j at hj ⊢
        exact ⟨_, _, _, _, _, fs ++ [j], _, rfl, hpz.upd pF, by omega, wo_updNew swz nF0, by rw [upd_ne nLF]; exact hLz, by rw [upd_same, List.map_append]; rfl, by rw [List.length_append, List.length_singleton]; omega, fun x hx => by
          rcases List.mem_append.mp hx with hx | hx
          · exact hfs x hx
          · rw [List.mem_singleton.mp hx]; omega⟩
      · refine iteE (fun y => e0 (V.int.inj y)) ?_
        refine ⟨.int way, rfl, rfl, _, rfl, ?_⟩
        by_cases e1 : way = 1
        · have way2 : way ≠ 2 := by omega
          have way3 : ¬ way > 2 := by omega
          refine iteD (congrArg V.int e1) ⟨.ref S, rfl, .int (a : Nat), rfl, (a : Nat), rfl, S, _, rfl, SqL.of hS, fun A nA => ?_⟩
          have sA := same_upd (o := .lst (cutV (ls.map V.str) none (some ((a : Nat) : Int)))) nA
          have hA : upd H5 A (.lst (cutV (ls.map V.str) none (some ((a : Nat) : Int)))) A = some (.lst ((ls.take a).map V.str)) := by rw [upd_same, cut_take, List.map_take]
          generalize upd H5 A (.lst (cutV (ls.map V.str) none (some ((a : Nat) : Int)))) = HA at sA hA ⊢
          refine ⟨.ref S, rfl, .int (a : Nat), rfl, (a : Nat), 1, rfl, rfl, ((a + 1 : Nat) : Int), rfl, S, _, rfl, SqL.of (sA _ _ hS), fun B nB => ?_⟩
          have sB := same_upd (o := .lst (cutV (ls.map V.str) (some ((a + 1 : Nat) : Int)) none)) nB
          have hB : upd HA B (.lst (cutV (ls.map V.str) (some ((a + 1 : Nat) : Int)) none)) B = some (.lst ((ls.drop (a + 1)).map V.str)) := by rw [upd_same, cut_drop, List.map_drop]
          generalize upd HA B (.lst (cutV (ls.map V.str) (some ((a + 1 : Nat) : Int)) none)) = HB at sB hB ⊢
          refine ⟨A, B, _, _, rfl, rfl, sB _ _ hA, hB, sl (by rw [List.length_map, List.length_map, List.length_take, List.length_drop]; omega), fun C nC => ?_⟩
          have hf : Few2 (ls.take a ++ ls.drop (a + 1)) := few19 (fun l hl => by
            rcases List.mem_append.mp hl with hl | hl
            · exact h19 l (List.mem_of_mem_take hl)
            · exact h19 l (List.mem_of_mem_drop hl)) (by rw [List.length_append, List.length_take, List.length_drop]; omega)
          have sC := sA.trans (sB.trans (same_upd (o := .lst ((ls.take a).map V.str ++ (ls.drop (a + 1)).map V.str)) nC))
          have hC : upd HB C (.lst ((ls.take a).map V.str ++ (ls.drop (a + 1)).map V.str)) C = some (.lst ((ls.take a ++ ls.drop (a + 1)).map V.str)) := by rw [upd_same, List.map_append]
          have hpz := hp4.same sC
          have swz := sw.trans (wo_same_of sC)
          have hFz := sC _ _ hF
          have hLz := sC _ _ hL
          generalize upd HB C (.lst ((ls.take a).map V.str ++ (ls.drop (a + 1)).map V.str)) = Hz at hC hpz swz hFz hLz ⊢
          generalize ls.take a ++ ls.drop (a + 1) = wz at hf hC
          refine ⟨.int way, rfl, rfl, _, rfl, iteE (fun y => way2 (V.int.inj y)) ?_⟩
          refine ⟨.int way, rfl, way, 2, rfl, rfl, _, rfl, iteE way3 ?_⟩
          have hj := Few2.join hf
          refine ⟨.ref F, rfl, .inl ⟨rfl, _, SqL.of hFz⟩, ⟨_, rfl⟩, .ref C, rfl, "\n", C, wz, rfl, rfl, .inl (SqL.of hC), (by unfold Few2 at hf; rw [show ("\n" : Str).length = 1 by decide]; show _ ≤ _; omega), F, _, _, rfl, rfl, hFz, small1000 (by rw [List.length_map]; omega), ?_⟩
          generalize Txt.join "\n" wz = j at hj ⊢
          exact ⟨_, _, _, _, _, fs ++ [j], _, rfl, hpz.upd pF, by omega, wo_updNew swz nF0, by rw [upd_ne nLF]; exact hLz, by rw [upd_same, List.map_append]; rfl, by rw [List.length_append, List.length_singleton]; omega, fun x hx => by
            rcases List.mem_append.mp hx with hx | hx
            · exact hfs x hx
            · rw [List.mem_singleton.mp hx]; omega⟩
        · refine iteE (fun y => e1 (V.int.inj y)) ?_
          refine ⟨.int way, rfl, rfl, _, rfl, ?_⟩
          by_cases e2 : way = 2
          · have way3 : ¬ way > 2 := by omega
            refine iteD (congrArg V.int e2) ⟨.ref S, rfl, .int (a : Nat), rfl, (a : Nat), rfl, S, _, rfl, SqL.of hS, fun A nA => ?_⟩
            have sA := same_upd (o := .lst (cutV (ls.map V.str) none (some ((a : Nat) : Int)))) nA
            have hA : upd H5 A (.lst (cutV (ls.map V.str) none (some ((a : Nat) : Int)))) A = some (.lst ((ls.take a).map V.str)) := by rw [upd_same, cut_take, List.map_take]
            generalize upd H5 A (.lst (cutV (ls.map V.str) none (some ((a : Nat) : Int)))) = HA at sA hA ⊢
            refine ⟨.ref S, rfl, .int (c : Nat), rfl, S, _, c, .str ls[c], rfl, rfl, SqL.of (sA _ _ hS), atc, by show 1 ≤ sizeLine; decide, fun B nB => ?_⟩
            have sB := same_upd (o := .lst [V.str ls[c]]) nB
            have hB : upd HA B (.lst [V.str ls[c]]) B = some (.lst [V.str ls[c]]) := upd_same
            generalize upd HA B (.lst [V.str ls[c]]) = HB at sB hB ⊢
            refine ⟨A, B, _, _, rfl, rfl, sB _ _ hA, hB, sl (by rw [List.length_map, List.length_take, List.length_singleton]; omega), fun D nD => ?_⟩
            have sD := same_upd (o := .lst ((ls.take a).map V.str ++ [V.str ls[c]])) nD
            have hD : upd HB D (.lst ((ls.take a).map V.str ++ [V.str ls[c]])) D = some (.lst ((ls.take a ++ [ls[c]]).map V.str)) := by rw [upd_same, List.map_append]; rfl
            generalize upd HB D (.lst ((ls.take a).map V.str ++ [V.str ls[c]])) = HD at sD hD ⊢
            have sAD := sA.trans (sB.trans sD)
            refine ⟨.ref S, rfl, .int (a : Nat), rfl, (a : Nat), rfl, S, _, rfl, SqL.of (sAD _ _ hS), fun E nE => ?_⟩
            have sE := same_upd (o := .lst (cutV (ls.map V.str) (some ((a : Nat) : Int)) none)) nE
            have hE : upd HD E (.lst (cutV (ls.map V.str) (some ((a : Nat) : Int)) none)) E = some (.lst ((ls.drop a).map V.str)) := by rw [upd_same, cut_drop, List.map_drop]
            generalize upd HD E (.lst (cutV (ls.map V.str) (some ((a : Nat) : Int)) none)) = HE at sE hE ⊢
            refine ⟨D, E, _, _, rfl, rfl, sE _ _ hD, hE, sl (by rw [List.length_map, List.length_map, List.length_append, List.length_take, List.length_drop, List.length_singleton]; omega), fun C nC => ?_⟩
            have hf : Few2 ((ls.take a ++ [ls[c]]) ++ ls.drop a) := few19 (fun l hl => by
              rcases List.mem_append.mp hl with hl | hl
              · rcases List.mem_append.mp hl with hl | hl
                · exact h19 l (List.mem_of_mem_take hl)
                · rw [List.mem_singleton.mp hl]; exact lc
              · exact h19 l (List.mem_of_mem_drop hl)) (by rw [List.length_append, List.length_append, List.length_take, List.length_drop, List.length_singleton]; omega)
            have sC := sAD.trans (sE.trans (same_upd (o := .lst ((ls.take a ++ [ls[c]]).map V.str ++ (ls.drop a).map V.str)) nC))
            have hC : upd HE C (.lst ((ls.take a ++ [ls[c]]).map V.str ++ (ls.drop a).map V.str)) C = some (.lst (((ls.take a ++ [ls[c]]) ++ ls.drop a).map V.str)) := by rw [upd_same, ← List.map_append]
            have hpz := hp4.same sC
            have swz := sw.trans (wo_same_of sC)
            have hFz := sC _ _ hF
            have hLz := sC _ _ hL
            generalize upd HE C (.lst ((ls.take a ++ [ls[c]]).map V.str ++ (ls.drop a).map V.str)) = Hz at hC hpz swz hFz hLz ⊢
            generalize (ls.take a ++ [ls[c]]) ++ ls.drop a = wz at hf hC
            refine ⟨.int way, rfl, way, 2, rfl, rfl, _, rfl, iteE way3 ?_⟩
            have hj := Few2.join hf
            refine ⟨.ref F, rfl, .inl ⟨rfl, _, SqL.of hFz⟩, ⟨_, rfl⟩, .ref C, rfl, "\n", C, wz, rfl, rfl, .inl (SqL.of hC), (by unfold Few2 at hf; rw [show ("\n" : Str).length = 1 by decide]; show _ ≤ _; omega), F, _, _, rfl, rfl, hFz, small1000 (by rw [List.length_map]; omega), ?_⟩
            generalize Txt.join "\n" wz = j at hj ⊢
            exact ⟨_, _, _, _, _, fs ++ [j], _, rfl, hpz.upd pF, by omega, wo_updNew swz nF0, by rw [upd_ne nLF]; exact hLz, by rw [upd_same, List.map_append]; rfl, by rw [List.length_append, List.length_singleton]; omega, fun x hx => by
              rcases List.mem_append.mp hx with hx | hx
              · exact hfs x hx
              · rw [List.mem_singleton.mp hx]; omega⟩
          · refine iteE (fun y => e2 (V.int.inj y)) ?_
            refine ⟨.int way, rfl, way, 2, rfl, rfl, _, rfl, iteD (by omega) ?_⟩
            refine ⟨.ref p, rfl, .ref S, rfl, .int (a : Nat), rfl, S, _, a, .str ls[a], rfl, rfl, SqL.of hS, ata, p, ls[a], m + 3, rfl, la, hp4, by omega, fun zz H6 hzz hp6 s6 => ?_⟩
            have hS := wo_le _ _ (s6 _ _ (wo_at hS pS))
            have hL := wo_le _ _ (s6 _ _ (wo_at hL pL))
            have hF := wo_le _ _ (s6 _ _ (wo_at hF pF))
            have sw := sw.trans s6
            refine ⟨.ref S, rfl, .int (a : Nat), rfl, S, _, _, a, rfl, rfl, hS, (by rw [hlen]; exact ixN_at ha), ?_⟩
            have hf : Few2 (ls.set a zz) := by
              have h1 := sum_set (l := ls) (z := zz) (a := a)
              have h2 := sum_19 h19
              unfold Few2
              rw [List.length_set]
              omega
            have hC : upd H6 S (.lst ((ls.map V.str).set a (.str zz))) S = some (.lst ((ls.set a zz).map V.str)) := by rw [upd_same, List.map_set]
            have hpz := hp6.upd (o := .lst ((ls.map V.str).set a (.str zz))) pS
            have swz : Same (wo H p) (wo (upd H6 S (.lst ((ls.map V.str).set a (.str zz)))) p) := wo_updNew sw nS0
            have hFz : upd H6 S (.lst ((ls.map V.str).set a (.str zz))) F = some (.lst (fs.map V.str)) := by rw [upd_ne nSF.symm]; exact hF
            have hLz : upd H6 S (.lst ((ls.map V.str).set a (.str zz))) L = some (.lst (ls.map V.str)) := by rw [upd_ne nSL.symm]; exact hL
            generalize upd H6 S (.lst ((ls.map V.str).set a (.str zz))) = Hz at hC hpz swz hFz hLz ⊢
            generalize ls.set a zz = wz at hf hC
            have hj := Few2.join hf
            refine ⟨.ref F, rfl, .inl ⟨rfl, _, SqL.of hFz⟩, ⟨_, rfl⟩, .ref S, rfl, "\n", S, wz, rfl, rfl, .inl (SqL.of hC), (by unfold Few2 at hf; rw [show ("\n" : Str).length = 1 by decide]; show _ ≤ _; omega), F, _, _, rfl, rfl, hFz, small1000 (by rw [List.length_map]; omega), ?_⟩
            generalize Txt.join "\n" wz = j at hj ⊢
            exact ⟨_, _, _, _, _, fs ++ [j], _, rfl, hpz.upd pF, by omega, wo_updNew swz nF0, by rw [upd_ne nLF]; exact hLz, by rw [upd_same, List.map_append]; rfl, by rw [List.length_append, List.length_singleton]; omega, fun x hx => by
              rcases List.mem_append.mp hx with hx | hx
              · exact hfs x hx
              · rw [List.mem_singleton.mp hx]; omega⟩
    · clear hp3 hF hL sw hp2
      obtain ⟨y4, y5, y6, y7, y8, fs, m, rfl, hp, hm, sw, hL, hF, hfl, hfs⟩ := hP
      refine ⟨⟨_, rfl⟩, by show 2 ≤ sizeLine; decide, fun A nA => ?_⟩
      have sA := same_upd (o := .lst [V.str "clans 9", .str "task 0 - border"]) nA
      have hA : upd H' A (.lst [V.str "clans 9", .str "task 0 - border"]) A = some (.lst [V.str "clans 9", .str "task 0 - border"]) := upd_same
      generalize upd H' A (.lst [V.str "clans 9", .str "task 0 - border"]) = H2 at sA hA ⊢
      refine ⟨1, 7, rfl, by decide, fun D nD => ?_⟩
      have sD := same_upd (o := .lst []) nD
      refine lc_any (n := 6) (fun i H3 => Same H' H3 ∧ H3 A = some (.lst [V.str "clans 9", .str "task 0 - border"]) ∧ ∃ acc : List Str, H3 D = some (.lst (acc.map V.str)) ∧ acc.length = i ∧ ∀ x ∈ acc, x.length ≤ 15) ⟨sA.trans sD, sD _ _ hA, [], upd_same, rfl, fun x h => by cases h⟩ (fun i H3 hi _ => hi) (fun H3 _ => Nat.le_refl _) (fun i x H3 H4 hi hP hy => ?_) fun H3 hP => ?_
      · obtain ⟨sm, hA3, acc, hD, hal, hac⟩ := hP
        obtain ⟨rfl, rfl⟩ := hy
        have nD0 : H' D = none := none_of sA nD
        have nAD : A ≠ D := by rintro rfl; rw [hA] at nD; cases nD
        have hsl : (strN (1 + (i : Nat))).length ≤ 3 := strN_len (by omega) (by omega)
        have c1 : ("task " : Str).length = 5 := by decide
        have c2 : (" 0 none" : Str).length = 7 := by decide
        refine ⟨rfl, ?_⟩
        unfold tYes
        refine iteT ⟨.int (1 + (i : Nat)), rfl, 1 + (i : Nat), rfl, log2_small (by omega), "task ", strN (1 + (i : Nat)), rfl, rfl, sl (by omega), _, " 0 none", rfl, rfl, sl (by rw [add_len]; omega), _, hD, small1000 (by rw [List.length_map, hal]; omega), Same.updNew sm nD0, by rw [upd_ne nAD]; exact hA3, acc ++ ["task " ++ strN (1 + (i : Nat)) ++ " 0 none"], by rw [upd_same, List.map_append]; rfl, by rw [List.length_append, List.length_singleton, hal], fun x hx => ?_⟩
        rcases List.mem_append.mp hx with hx | hx
        · exact hac x hx
        · rw [List.mem_singleton.mp hx, add_len, add_len]
          omega
      · obtain ⟨sm, hA3, acc, hD, hal, hac⟩ := hP
        refine ⟨A, D, _, _, rfl, rfl, hA3, hD, sl (by rw [List.length_map, hal]; decide), fun C nC => ?_⟩
        have sC := sm.trans (same_upd (o := .lst ([V.str "clans 9", .str "task 0 - border"] ++ acc.map V.str)) nC)
        have hC : upd H3 C (.lst ([V.str "clans 9", .str "task 0 - border"] ++ acc.map V.str)) C = some (.lst (((["clans 9", "task 0 - border"] : List Str) ++ acc).map V.str)) := by rw [upd_same, List.map_append]; rfl
        generalize upd H3 C (.lst ([V.str "clans 9", .str "task 0 - border"] ++ acc.map V.str)) = H4 at sC hC ⊢
        have hf : Few2 ((["clans 9", "task 0 - border"] : List Str) ++ acc) := by
          have h15 := sum_le (l := acc.map (·.length)) (m := 15) fun x hx => by
            obtain ⟨y, hy, rfl⟩ := List.mem_map.mp hx
            exact hac y hy
          rw [List.length_map] at h15
          have d1 : ((["clans 9", "task 0 - border"] : List Str).map fun s : Str => s.length).sum = 22 := by decide
          unfold Few2
          rw [sum_app, d1, List.length_append]
          show _ + (2 + _) ≤ 400
          omega
        generalize ((["clans 9", "task 0 - border"] : List Str) ++ acc) = wz at hf hC
        have hj := Few2.join hf
        refine ⟨"\n", C, wz, rfl, rfl, .inl (SqL.of hC), (by unfold Few2 at hf; rw [b1]; show _ ≤ _; omega), ?_⟩
        generalize Txt.join "\n" wz = mo at hj ⊢
        have hp := hp.same sC
        have hL := sC _ _ hL
        have hF := sC _ _ hF
        have sw := sw.trans (wo_same_of sC)
        clear sC hC sm hD hA3 nC
        have e0 : ("" : Str).length = 0 := by decide
        have hrl := TK.replace_len mo "\ntask 6 0 none" ""
        rw [e0] at hrl
        refine ⟨.ref F, rfl, .str mo, rfl, .str mo, rfl, mo, rfl, (by rw [e0]; omega), .ref L, rfl, L, _, rfl, .inl (SqL.of hL), fun LL nLL => ?_⟩
        have sLL := same_upd (o := .lst (ls.map V.str)) nLL
        have hLL : upd H4 LL (.lst (ls.map V.str)) LL = some (.lst (ls.map V.str)) := upd_same
        have pLL := hp.ne nLL
        have hp := hp.same sLL
        have hF := sLL _ _ hF
        have sw := sw.trans (wo_same_of sLL)
        generalize upd H4 LL (.lst (ls.map V.str)) = H5 at hLL hp hF sw ⊢
        refine ⟨.ref p, rfl, p, m, rfl, hp, by omega, fun v1 d1 H6 hp6 s6 k1 o1 => ?_⟩
        have k1 : Dk K (wo H6 p) v1 d1 := k1.same (nl_wo (pot_lst hp))
        have hLL := wo_le _ _ (s6 _ _ (wo_at hLL pLL))
        have hF := wo_le _ _ (s6 _ _ (wo_at hF pF))
        have sw := sw.trans s6
        refine ⟨.ref p, rfl, .str z, rfl, p, z, m + 1, rfl, hzn, hz, hp6, by omega, fun v2 d2 H7 hp7 s7 k2 o2 => ?_⟩
        have k1 : Dk K (wo H7 p) v1 d1 := k1.same s7
        have hLL := wo_le _ _ (s7 _ _ (wo_at hLL pLL))
        have hF := wo_le _ _ (s7 _ _ (wo_at hF pF))
        have sw := sw.trans s7
        have k1 : Dk K H7 v1 d1 := k1.same wo_le
        have k2 : Dk K H7 v2 d2 := k2.same wo_le
        refine ⟨by show 6 ≤ sizeLine; decide, fun R nR => ?_⟩
        have sR := same_upd (o := .lst [V.str mo, .str (Txt.replace mo "\ntask 6 0 none" ""), .ref LL, .non, v1, v2]) nR
        refine ⟨F, R, _, _, rfl, rfl, sR _ _ hF, upd_same, sl (by rw [List.length_map, hfl]; show 7 + 10 + 6 ≤ 1000; decide), fun G nG => ?_⟩
        generalize hxs : fs.map V.str ++ [V.str mo, .str (Txt.replace mo "\ntask 6 0 none" ""), .ref LL, .non, v1, v2] = xs
        have sG := sR.trans (same_upd (o := .lst xs) nG)
        refine q G xs _ (sw.trans (wo_same_of sG)) upd_same fun x hx => ?_
        rw [← hxs] at hx
        rcases List.mem_append.mp hx with hx | hx
        · obtain ⟨y, hy, rfl⟩ := List.mem_map.mp hx
          exact ⟨.str y, .dp (.str y), fun z' e => by cases e; exact hfs y hy⟩
        · simp only [List.mem_cons, List.not_mem_nil, or_false] at hx
          rcases hx with rfl | rfl | rfl | rfl | rfl | rfl
          · exact ⟨.str mo, .dp (.str _), fun z' e => by cases e; omega⟩
          · exact ⟨.str _, .dp (.str _), fun z' e => by cases e; omega⟩
          · exact ⟨.list (ls.map PyData.str), .dp (.lst (SqL.of (sG _ _ hLL)) (dp_strs ls)), fun z' e => by cases e⟩
          · exact ⟨.none, .dp .non, fun z' e => by cases e⟩
          · exact ⟨d1, k1.same sG, fun z' e => by
              subst e
              unfold okOdd at o1
              rw [Bool.and_eq_true] at o1
              exact of_decide_eq_true o1.2⟩
          · exact ⟨d2, k2.same sG, o2⟩
end
end K36

set_option maxRecDepth 100000
set_option maxHeartbeats 4000000
/-! k36: the whole of it. -/
namespace K36
open PySem PySem.Spec PyProof.Rows L2 LamX VG TL
theorem scRight : FnScope ["pot", "text", "value", "due", "caught", "back"] ["pot"] (defScope sRight) := ⟨rfl, rfl, rfl, by decide +kernel, rfl, by decide +kernel, by decide +kernel⟩
def lamsS2 : Stmt → List LamD
  | .Assign _ (.Tuple [_, v] _ _) _ => lamsE v
  | _ => []
def lamRight (i : Nat) : LamD := (((defBody sRight).map fun s => ((bodyOf s).map lamsS2).flatten).flatten).getD i ⟨⟨[], [], none, [], [], none, []⟩, .Constant .none 0 ⟨0, 0, 0, 0⟩, defScope sRight⟩
theorem lamRight_sc (i : Nat) (h : i < 1) : LamS (defScope sRight) (lamRight i).scope := by
  match i, h with
  | 0, _ => exact lamS_by (by decide +kernel)
structure Err1 (K : PySem.W.Frag) (CS C : Addr) : Prop where
  i : IsC K C
  n : PySem.W.findIn K (.ref C) "value" = some none
  x : PySem.W.exmOne K (.ref C) (.ref CS) = some true
theorem same_f {x : V} : (!decide (x = x)) = false := by simp
theorem ExtP.ext {H H1 H2 : Hp} {p : Addr} (e : ExtP p H H1) (s : ExtN H1 H2) : ExtP p H H2 := fun b o z ne nt => s _ _ (e b o z ne nt) nt
theorem ExtP.wo {H H' : Hp} {p : Addr} (s : Same (wo H p) (wo H' p)) : ExtP p H H' := fun b o e ne _ => wo_le _ _ (s _ _ (wo_at e ne))
theorem wrongR_le {fresh : Int} : ∀ (ls : List Str) (n : Nat) (acc : List Row) {m : Nat}, wrongR fresh n acc ls = some m → m ≤ n + ls.length + 2
  | [], n, acc, m, h => by
    unfold wrongR at h
    split at h
    · cases h; omega
    · cases h
  | l :: r, n, acc, m, h => by
    unfold wrongR at h
    rw [List.length_cons]
    split at h
    · cases h; omega
    · split at h
      · have := wrongR_le r (n + 1) _ h
        omega
      · cases h; omega
theorem wrongD_le {d : PyData} (hz : SmallD d) {n : Nat} (h : wrongD d = some n) : n ≤ 700 := by
  cases d with
  | str z =>
    have hz := hz z rfl
    have hm := split_many z "\n" (by decide)
    have h : wrongT z = some n := h
    unfold wrongT at h
    split at h
    · cases h; omega
    · have := wrongR_le _ _ _ h
      rw [List.length_tail] at this
      omega
  | none => cases h; omega
  | bool _ => cases h; omega
  | int _ => cases h; omega
  | list _ => cases h; omega
  | tuple _ => cases h; omega
  | dict _ => cases h; omega
theorem same_two {H : Hp} {x dx C : Addr} (nx : H x = none) (nd : H dx = none) : Same H (upd (upd H dx (.own x)) x (.ins C dx [])) := Same.updNew (same_upd nd) nx
section
variable {P : Program} {w : World} {K : PySem.W.Frag} {mg : Str → Option Value} {base : Heap}
def spRight (K : PySem.W.Frag) (T : List (Addr × Str)) : Sp := fun vs H Q _ => ∃ p : Addr, vs = [.ref p] ∧ Pot H p 0 ∧ Tabs T H ∧ ∀ H', ExtP p H H' → Tabs T H' → Q (.bl true) H'
theorem ok_Right {k : Nat} {f : Addr} {fd : FuncData} {C1 CK CS g cc Pt fCi:Addr} {gd fdCi:FuncData} {T:List (Addr × Str)} (F : Fun K "_law_right" "_law_right" sRight f fd) (hcc : fd.code = .ref cc) (TB : TabB base mg cc Pt) (Tm : (Pt, Str.ofString "_law_right.<locals>." ++ "<lambda>") ∈ T) (T1 : ∀ p ∈ T, p.1 = Pt → p.2 = Str.ofString "_law_right.<locals>." ++ "<lambda>") (FH : Fun K "_law_heard" "_law_heard" sHeard g gd) (bH : L2.Binds K gd ["call"] []) (gH : mg "_law_heard" = some (.ref g)) (gS : mg "CoreError" = some (.ref CS)) (gHt : Cal P w K mg base CX0 (k + 8) "_law_house_text" ["house"] (spHouseText K)) (gHd : Cal P w K mg base CX0 (k + 8) "_law_house_drawn" ["pot"] (spHouseDrawn K)) (gNe : Cal P w K mg base CX0 (k + 8) "_law_near" ["pot", "text"] (spNear K)) (gWl : Cal P w K mg base CX0 (k + 8) "_law_wrong_line" ["value"] (spWrongLine K)) (MCi : Mk K CK fCi) (GCi : FnOk P w K mg base (L2.CX P w) (k + 5) fCi fdCi ["self", "text"] (spClans K CK C1)) (GCiD : FnOk P w K mg base (L2.CX P w) (k + 7) fCi fdCi ["self", "text"] (spClans K CK C1)) (bCi : L2.Binds K fdCi ["self", "text"] []) (kbCi : L2.KBn K fdCi ["self", "text"] 1 ["text"] (fun us ws => us ++ ws) (fun vs zs => vs ++ zs)) (gCi : mg "Clans" = some (.ref CK)) (TC : CF K CK) (gBadClans : mg "BadClans" = some (.ref C1)) (X1 : Err1 K CS C1) (kt1 : PySem.W.kitOne K (.ref C1) (.ref C1) = some true) (fisinstance : mg "isinstance" = none) (frepr : mg "repr" = none) : FnG P w K mg base (k + 9) f fd ["pot"] (spRight K T) := by
  obtain ⟨fHt, fdHt, GHt, kHt, bHt, mHt⟩ := gHt
  obtain ⟨fHd, fdHd, GHd, kHd, bHd, mHd⟩ := gHd
  obtain ⟨fNe, fdNe, GNe, kNe, bNe, mNe⟩ := gNe
  obtain ⟨fWl, fdWl, GWl, kWl, bWl, mWl⟩ := gWl
  refine fnG_code F hcc scRight (fun vs H Q E h => ?_) (fun A outer s H vs Q hr gd h => ?_)
  · obtain ⟨p, rfl, _⟩ := h
    rfl
  · have M : LamM (cxOf CX0 P w K mg base ["pot", "text", "value", "due", "caught", "back"] "_law_right" (defScope sRight) f (.ref cc) A outer s H E0).nox T cc Pt := ⟨TB, rfl, Tm, T1⟩
    obtain ⟨p, rfl, hp, hT, q⟩ := h
    refine ⟨_, (pss_cons (ps_set (i := 1) scRight.nd rfl (.inl rfl) (pe_call GHt hr (by rfl) mHt kHt bHt .nil pass0 (pa_cons (pe_call GHd hr (by rfl) mHd kHd bHd .nil pass0 (pa_cons (pv 0) pa_nil)) pa_nil))) (pss_cons (ps_for PassesOwn.never rfl (pi_list (pe_call GNe hr (by rfl) mNe kNe bNe .nil pass0 (pa_cons (pv 0) (pa_cons (pv 1) pa_nil)))) (pg_name (i := 2) scRight.nd rfl (.inr rfl)) (pss_cons (ps_asg (pe_tup (pa_cons (pe_call GWl hr (by rfl) mWl kWl bWl .nil pass0 (pa_cons (pv 2) pa_nil)) (pa_cons (pe_heard (ι := Unit) (D := fun _ => lamRight 0) (k := (k+6)) FH bH (by rfl) gH gS hr (pe_lam M (lamRight_sc 0 (by omega)) (by rfl)) (fun _ => lamRight_sc 0 (by omega)) (fun _ _ _ _ => by rfl) (fun _ A' outer' s' H' E' f' c' hr' => pe_make (X := (lamCx _ A' outer' s' H' E' (lamRight 0).scope f' c')) MCi GCi hr' (by rfl) gCi bCi .nil VG.passL (pa_cons (pv 2) pa_nil))) pa_nil))) (pg_tup (by rfl) (pgs_cons (pg_name (i := 3) scRight.nd rfl (.inl rfl)) (pgs_cons (pg_tup (by rfl) (pgs_cons (pg_name (i := 4) scRight.nd rfl (.inl rfl)) (pgs_cons (pg_name (i := 5) scRight.nd rfl (.inl rfl)) pgs_nil))) pgs_nil)))) (pss_cons (ps_if (PW.pt (pw_and (pt_cmpR op_isN (pv 3) pe_non (nomark _)) (pw_and1 (PW.pt (pw_or (pt_cmpR op_notN (pv 4) pe_non (nomark _)) (pw_or1 (pt_cmpR op_ne (pe_fld (pv 5) rfl) (pv 2) (nomark _)))))))) (pss_one (ps_ret pe_bl)) pss_nil) (pss_one (ps_if (PW.pt (pw_and (pt_cmpR op_notN (pv 3) pe_non (nomark _)) (pw_and1 (PW.pt (pw_or (pt_not (pt_val (pe_callB call_isErrB (by rfl) fisinstance (by decide +kernel) (pa_cons (pv 4) (pa_cons (pgr (by rfl) gBadClans) pa_nil))))) (pw_or1 (pt_cmpR op_ne (pe_callB (call_repr gd hr.units) (by rfl) frepr (by decide +kernel) (pa_cons (pe_errF (pv 4)) pa_nil)) (pe_callB (call_repr gd hr.units) (by rfl) frepr (by decide +kernel) (pa_cons (pv 3) pa_nil)) (nomark _)))))))) (pss_one (ps_ret pe_bl)) pss_nil))))) (pss_one (ps_ret (pe_cmpR op_eq (pe_fld (pe_makeK0 MCi GCiD hr (by rfl) gCi kbCi passX (pk_cons (pv 1) pk_nil)) rfl) (pv 1) (nomark _)))))), ?_⟩
    refine ⟨.ref p, rfl, p, 0, rfl, hp, by decide, fun H1 h m nx rs m0 m1 hp1 s1 hh g => ⟨h, nx, rs, rfl, hh, g, fun H2 s2 => ?_⟩⟩
    refine ⟨.ref p, rfl, .str (houseT nx rs), rfl, p, m, nx, rs, rfl, g, hp1.same s2, by omega, fun F xs H3 s3 hF hx => ⟨F, rfl, ⟨_, SqL.of hF⟩, ?_⟩⟩
    have sw := s1.trans ((wo_same_of s2).trans s3)
    have e3 : ExtP p H H3 := ExtP.wo sw
    have t3 : Tabs T H3 := tabs_wo hT (pot_lst hp) sw
    have hz := house_len g
    have hwz := wrong_house g
    generalize houseT nx rs = z at hz hwz ⊢
    clear sw s1 s2 s3 hh g hp1
    refine for_list (xs := xs) (fun i σ H' => ∃ y2 y3 y4 y5, σ = [some (.ref p), some (.str z), y2, y3, y4, y5] ∧ ExtP p H H' ∧ Tabs T H' ∧ H' F = some (.lst xs) ∧ ∀ x ∈ xs, ∃ d, Dk K H' x d ∧ SmallD d) ⟨none, none, none, none, rfl, e3, t3, hF, hx⟩ (fun i σ H' _ hP => ?_) (fun i x σ H' hxi hP => ?_) fun σ H' hP => ?_
    · obtain ⟨_, _, _, _, _, _, _, h, _⟩ := hP
      exact SqL.of h
    · clear e3 t3 hF hx
      obtain ⟨y2, y3, y4, y5, rfl, e3, t3, hF, hx⟩ := hP
      obtain ⟨d, hd, hs⟩ := hx x (List.mem_of_getElem? hxi)
      refine ⟨x, rfl, x, d, rfl, hd, hs, fun H4 s4 => ?_⟩
      refine ⟨t3.ext s4, fun f0 F0 e0 t0 l0 nf0 => ⟨(), f0, rfl, l0, fun H5 s5 E' Q' hE hB => ?_⟩⟩
      have e5 := (ExtN.of s4).trans (e0.trans (ExtN.of s5))
      have t5 := t0.ext s5
      have hF5 := e5 _ _ hF (fun ps z => by cases z)
      have hd5 := dk_extN hd e5
      refine ⟨x, rfl, fun q0 dx nq ndx nex => ?_⟩
      have sN := same_two (C := CK) nq ndx
      refine ⟨q0, x, d, dx, rfl, hd5.same sN, upd_same, hs, fun n en H6 dd s6 nd => hE _ _ _ ⟨X1.x, C1, dd, rfl, rfl, fun ea pt nea npt => ?_⟩, fun zz ez ew H6 fs k6 h6 lk => ⟨rfl, hB _ _ fun pt npt => ?_⟩⟩
      · clear hE hB
        have hn := wrongD_le hs en
        have okI : okData (.int (n : Nat)) = true := (okN.int (by omega) (by omega)).ok (by decide) (by decide)
        have sd := same_upd (o := .xd [("value", .int (n : Nat))]) nd
        have se := same_upd (o := ErrO C1 dd ea) nea
        have sp := same_upd (o := .tup [V.ref ea, .non]) npt
        have herr := sp _ _ (upd_same (H := upd H6 dd (.xd [("value", .int (n : Nat))])) (a := ea) (o := ErrO C1 dd ea))
        have hdd := (se.trans sp) _ _ (upd_same (H := H6) (a := dd) (o := .xd [("value", .int (n : Nat))]))
        have hpt : upd (upd (upd H6 dd (.xd [("value", .int (n : Nat))])) ea (ErrO C1 dd ea)) pt (.tup [V.ref ea, .non]) pt = some (.tup [V.ref ea, .non]) := upd_same
        have s11 := (sN.trans s6).trans ((sd.trans se).trans sp)
        generalize upd (upd (upd H6 dd (.xd [("value", .int (n : Nat))])) ea (ErrO C1 dd ea)) pt (.tup [V.ref ea, .non]) = H7 at herr hdd hpt s11 ⊢
        clear sd se sp
        refine ⟨by show 2 ≤ sizeLine; decide, fun T2 nT2 => ?_⟩
        have sT := same_upd (o := .tup [optN (wrongD d), V.ref pt]) nT2
        have hT2 : upd H7 T2 (.tup [optN (wrongD d), V.ref pt]) T2 = some (.tup [optN (wrongD d), V.ref pt]) := upd_same
        have herr := sT _ _ herr
        have hdd := sT _ _ hdd
        have hpt := sT _ _ hpt
        have s12 := s11.trans sT
        generalize upd H7 T2 (.tup [optN (wrongD d), V.ref pt]) = H8 at hT2 herr hdd hpt s12 ⊢
        have e8 := e5.trans (ExtN.of s12)
        have fin := And.intro (ExtP.ext e3 e8) (And.intro (t5.ext s12) (And.intro (e8 _ _ hF (fun ps z => by cases z)) (fun x hxx => let ⟨d, a, b⟩ := hx x hxx; (⟨d, dk_extN a e8, b⟩ : ∃ d, Dk K H8 x d ∧ SmallD d))))
        rw [en] at hT2
        refine ⟨T2, [.int (n : Nat), .ref pt], rfl, SqT.of hT2, rfl, .int (n : Nat), [.ref pt], rfl, .ref pt, [], rfl, ⟨pt, [.ref ea, .non], rfl, SqT.of hpt, rfl, .ref ea, [.non], rfl, .non, [], rfl, rfl, rfl, ?_⟩⟩
        refine ⟨.int (n : Nat), rfl, rfl, _, rfl, iteE (fun y => nomatch y) (iteF ?_)⟩
        refine ⟨.int (n : Nat), rfl, rfl, _, rfl, iteNE (fun y => nomatch y) ?_⟩
        refine ⟨.ref ea, rfl, ea, C1, C1, dd, _, true, rfl, herr, hdd, X1.i, kt1, true, rfl, iteF ⟨.ref ea, rfl, ea, C1, dd, [("value", .int (n : Nat))], .int (n : Nat), rfl, herr, X1.i.f, X1.n, hdd, rfl, .int (n : Nat), .int (n : Nat), rfl, .dp (.int _), ?_, .int (n : Nat), rfl, .int (n : Nat), .int (n : Nat), rfl, .dp (.int _), ?_, rfl, _, rfl, ?_⟩⟩
        · exact okI
        · exact okI
        · rw [same_f]
          exact iteF ⟨_, _, _, _, rfl, fin.1, fin.2.1, fin.2.2.1, fin.2.2.2⟩
      · cases ez
        clear hE hB
        obtain rfl : x = .str zz := by
          cases hd with
          | dp h => cases h; rfl
        have s6 : Same H5 H6 := fun b o e => k6 b o (sN b o e) fun y => by rw [y, nq] at e; cases e
        have sp := same_upd (o := .tup [V.non, .ref q0]) npt
        have hpt : upd H6 pt (.tup [V.non, .ref q0]) pt = some (.tup [V.non, .ref q0]) := upd_same
        have h6 := sp _ _ h6
        have s11 := s6.trans sp
        generalize upd H6 pt (.tup [V.non, .ref q0]) = H7 at hpt h6 s11 ⊢
        refine ⟨by show 2 ≤ sizeLine; decide, fun T2 nT2 => ?_⟩
        have sT := same_upd (o := .tup [optN (wrongD (.str zz)), V.ref pt]) nT2
        have hT2 : upd H7 T2 (.tup [optN (wrongD (.str zz)), V.ref pt]) T2 = some (.tup [optN (wrongD (.str zz)), V.ref pt]) := upd_same
        have h6 := sT _ _ h6
        have hpt := sT _ _ hpt
        have s12 := s11.trans sT
        generalize upd H7 T2 (.tup [optN (wrongD (.str zz)), V.ref pt]) = H8 at hT2 h6 hpt s12 ⊢
        have e8 := e5.trans (ExtN.of s12)
        have fin := And.intro (ExtP.ext e3 e8) (And.intro (t5.ext s12) (And.intro (e8 _ _ hF (fun ps z => by cases z)) (fun x hxx => let ⟨d, a, b⟩ := hx x hxx; (⟨d, dk_extN a e8, b⟩ : ∃ d, Dk K H8 x d ∧ SmallD d))))
        have en : wrongD (.str zz) = none := ew
        rw [en] at hT2
        refine ⟨T2, [.non, .ref pt], rfl, SqT.of hT2, rfl, .non, [.ref pt], rfl, .ref pt, [], rfl, ⟨pt, [.non, .ref q0], rfl, SqT.of hpt, rfl, .non, [.ref q0], rfl, .ref q0, [], rfl, rfl, rfl, ?_⟩⟩
        refine ⟨.non, rfl, rfl, _, rfl, iteD rfl ⟨.non, rfl, rfl, _, rfl, iteF ⟨.ref q0, rfl, q0, CK, dx, fs, .str zz, rfl, h6, TC.cl, TC.nT, lk, .str zz, rfl, rfl, _, rfl, ?_⟩⟩⟩
        rw [same_f]
        refine iteF ⟨.non, rfl, rfl, _, rfl, iteF (iteF ?_)⟩
        exact ⟨_, _, _, _, rfl, fin.1, fin.2.1, fin.2.2.1, fin.2.2.2⟩
    · obtain ⟨y2, y3, y4, y5, rfl, e3, t3, hF, hx⟩ := hP
      refine ⟨.str z, rfl, rfl, rfl, fun q0 dx nq ndx nex => ?_⟩
      have sN := same_two (C := CK) nq ndx
      refine ⟨q0, .str z, .str z, dx, rfl, .dp (.str z), upd_same, fun z' e => by cases e; omega, fun n en => absurd (show wrongT z = some n from en) (by rw [hwz]; exact fun y => nomatch y), fun zz ez ew H6 fs k6 h6 lk => ?_⟩
      cases ez
      refine ⟨rfl, q0, CK, dx, fs, .str z, rfl, h6, TC.cl, TC.nT, lk, .str z, rfl, rfl, ?_⟩
      rw [decide_eq_true rfl]
      have s6 : Same H' H6 := fun b o e => k6 b o (sN b o e) fun y => by rw [y, nq] at e; cases e
      exact q _ (ExtP.ext e3 (ExtN.of s6)) (t3.ext s6)
end
end K36

set_option maxRecDepth 100000
set_option maxHeartbeats 8000000
/-! k36: the law. -/
namespace K36
open PySem PySem.Spec PyProof.Rows L2 LamX VG TL
theorem scLaw : FnScope ["script", "place"] ["script"] (defScope sLaw) := ⟨rfl, rfl, rfl, by decide +kernel, rfl, by decide +kernel, by decide +kernel⟩
section
variable {P : Program} {w : World} {K : PySem.W.Frag} {mg : Str → Option Value} {base : Heap}
def spLaw (K : PySem.W.Frag) (T : List (Addr × Str)) : Sp := fun vs H Q _ => ∃ (a : Addr) (ns : List Int), vs = [.ref a] ∧ SqL K H a (ns.map V.int) ∧ ns.length ≤ 63 ∧ Tabs T H ∧ ∀ H', Q (.bl true) H'
theorem ok_Law {k : Nat} {f : Addr} {fd : FuncData} {T:List (Addr × Str)} (F : Fun K "law" "law" sLaw f fd) (gRt : CalG P w K mg base (k + 9) "_law_right" ["pot"] (spRight K T)) (gPo : Cal P w K mg base CX0 (k + 9) "_law_pot" ["script", "place"] (spPot K)) (gCe : Cal P w K mg base CX0 (k + 9) "_law_cells" ["script", "most"] (spCells K))  (fall : mg "all" = none) : FnG P w K mg base (k + 10) f fd ["script"] (spLaw K T) := by
  obtain ⟨fRt, fdRt, GRt, kRt, bRt, mRt⟩ := gRt
  obtain ⟨fPo, fdPo, GPo, kPo, bPo, mPo⟩ := gPo
  obtain ⟨fCe, fdCe, GCe, kCe, bCe, mCe⟩ := gCe
  refine fnG_of F scLaw (fun vs H Q E h => ?_) (fun cdv A outer s H vs Q hr gd h => ?_)
  · obtain ⟨a, ns, rfl, _⟩ := h
    rfl
  · obtain ⟨a, ns, rfl, hs, hn, hT, q⟩ := h
    refine ⟨_, (pss_one (ps_ret (pe_callB (cr_all rfl) (by rfl) fall (by decide +kernel) (pa_cons (pe_lc (own := [("place", 1)]) (g := (gName 1)) (tt := tYes) rfl scLaw.nd (pi_list (pe_call GCe hr (by rfl) mCe kCe bCe .nil pass0 (pa_cons (pv 0) (pa_cons pe_int pa_nil)))) (blkOk_by (N := ["script", "place"]) (sc := defScope sLaw) (by decide +kernel)) (fun _ _ _ _ _ => (pg_name (i := 1) scLaw.nd rfl (.inl rfl))) (fun _ _ _ _ _ => pts_nil) (fun _ _ _ _ _ => (pe_callG GRt hr gd (by rfl) mRt kRt bRt (pa_cons (pe_call GPo hr (by rfl) mPo kPo bPo .nil pass0 (pa_cons (pv 0) (pa_cons (pv 1) pa_nil))) pa_nil)))) pa_nil)))), ?_⟩
    refine ⟨.ref a, rfl, a, ns, rfl, hs, hn, fun l m hm nl => ?_⟩
    have s1 := same_upd (o := .lst ((List.range m).map fun i => V.int (i : Nat))) nl
    refine ⟨l, rfl, ⟨_, SqL.of upd_same⟩, fun D nD => ?_⟩
    have s2 := same_upd (o := .lst []) nD
    have hs1 := s1.seq hs
    have hl1 : SqL K (upd H l (.lst ((List.range m).map fun i => V.int (i : Nat)))) l ((List.range m).map fun i => V.int (i : Nat)) := SqL.of upd_same
    have hT1 := hT.ext s1
    generalize upd H l (.lst ((List.range m).map fun i => V.int (i : Nat))) = H0 at nD s2 hs1 hl1 hT1 ⊢
    refine lc_list (xs := (List.range m).map fun i => V.int (i : Nat)) (fun i H' => ExtN H0 H' ∧ Tabs T H' ∧ H' D = some (.lst ((List.replicate i true).map V.bl)))
      ⟨ExtN.of s2, hT1.ext s2, upd_same⟩ (fun i H' _ hP => sqL_extN hl1 hP.1) (fun i x H' hx hP => ?_) fun H2 hP => ?_
    · obtain ⟨en, ht, hD⟩ := hP
      obtain ⟨j, hj, rfl⟩ := List.mem_map.mp (List.mem_of_getElem? hx)
      have hjm := List.mem_range.mp hj
      have hi : i < m := by have := (List.getElem?_eq_some_iff.mp hx).1; rw [List.length_map, List.length_range] at this; exact this
      refine ⟨rfl, ?_⟩
      unfold tYes
      refine iteT ⟨.ref a, rfl, .int (j : Nat), rfl, a, ns, j, rfl, sqL_extN hs1 en, hn, by omega, fun p H3 np s3 hp => ⟨p, rfl, hp, ht.ext s3, fun H4 e4 t4 => ?_⟩⟩
      have nDp : D ≠ p := fun z => by rw [z, np] at hD; cases hD
      have hD4 := e4 _ _ (s3 _ _ hD) nDp (fun ps z => by cases z)
      refine ⟨_, hD4, small1000 (by rw [List.length_map, List.length_replicate]; omega), fun b o e nt => ?_, tabs_upd t4 hD4, ?_⟩
      · rw [upd_ne (ne_of_none e nD)]
        have eb := en b o e nt
        exact e4 b o (s3 b o eb) (fun z => by rw [z, np] at eb; cases eb) nt
      · rw [upd_same, List.replicate_succ', List.map_append]
        rfl
    · obtain ⟨en, ht, hD⟩ := hP
      have ea : (List.replicate ((List.range m).map fun i => V.int (i : Nat)).length true).all id = true := List.all_eq_true.mpr fun x hx => by
        rw [List.eq_of_mem_replicate hx]
        rfl
      refine ⟨D, List.replicate ((List.range m).map fun i => V.int (i : Nat)).length true, rfl, SqL.of hD, ?_⟩
      rw [ea]
      exact q _
end
end K36

set_option maxRecDepth 100000
set_option maxHeartbeats 2000000
/-! k36: the law's call from outside, with some empty tables. -/
namespace K36
open PySem PySem.Spec PyProof.Rows L2 LamX VG
/-- the tables, and the script where the written part has it not -/
def startT (K : PySem.W.Frag) (Ps : List Addr) (a : Addr) (o : Obj) (xs : List V) : Hp := fun b =>
  if b ∈ Ps then some (.tbl #[]) else if b = a then (match K.lookup a with
    | none => some (.frz o (.lst xs))
    | some _ => none) else none
theorem startT_cases {K : PySem.W.Frag} {Ps : List Addr} {a b : Addr} {o : Obj} {xs : List V} {u : HO} (h : startT K Ps a o xs b = some u) : (b ∈ Ps ∧ u = .tbl #[]) ∨ (b = a ∧ K.lookup a = none ∧ u = .frz o (.lst xs)) := by
  unfold startT at h
  by_cases c : b ∈ Ps
  · rw [if_pos c] at h
    exact .inl ⟨c, (Option.some.inj h).symm⟩
  · rw [if_neg c] at h
    by_cases c2 : b = a
    · rw [if_pos c2] at h
      cases hk : K.lookup a with
      | some x =>
        rw [hk] at h
        cases h
      | none =>
        rw [hk] at h
        exact .inr ⟨c2, rfl, (Option.some.inj h).symm⟩
    · rw [if_neg c2] at h
      cases h
theorem call_tops {P : Program} {w : World} {K : PySem.W.Frag} {mg mb : Str → Option Value} {k : Nat} {fa a : Addr} {Ts : List (Addr × Addr)} {fd : FuncData} {x : Str} {sp : Sp} {s : Shared} {us : List Value} {ns : List Int}
    (kin : K.In s.heap) (gl : s.heap.Ns mainGlobals mg) (bl : s.heap.Ns builtinsNs mb) (blb : ∀ y : Str, y ≠ "__name__" → mb y = bootBuiltins y) (nol : s.heap.NoLimit) (gens : s.gens = #[])
    (tabs : ∀ t ∈ Ts, s.heap.get? t.2 = some { cls := .none, data := .fields #[] }) (tabsK : ∀ t ∈ Ts, K.lookup t.2 = none) (cods : ∀ t ∈ Ts, PySem.W.CodeHd s.heap t.1 t.2)
    (bmain : ∃ (bm : Addr) (ob : Obj), mg "__builtins__" = some (.ref bm) ∧ bm ≠ builtinsNs ∧ s.heap.get? bm = some ob ∧ ob.cls = .type "module" ∧ ob.dict = some builtinsNs ∧ ob.data = .plain)
    (scr : s.heap.get? a = some { cls := .type "list", data := .seq us.toArray }) (areI : IntsAre us ns) (short : ns.length ≤ sizeLine) (room : Room k callerA)
    (F : ∀ base : Heap, K.In base → base.Ns mainGlobals mg → (∀ t ∈ Ts, TabB base mg t.1 t.2) → FnG P w K mg base k fa fd [x] sp) (bind : ∀ (s : Shared) (u : Value), BindsTo s fd ⟨[u], []⟩ [(x, u)])
    (keep : ∀ H : Hp, (∀ t ∈ Ts, H t.2 = some (.tbl #[])) → SqL K H a (ns.map V.int) → sp [.ref a] H (fun v _ => v = .bl true) E0) :
    codeAny (model P w) callerA (.call (.ref fa) ⟨[.ref a], []⟩) (fun r s' => r = .ok (.ret (.bool true)) ∧ OldK s.heap s'.heap ∧ s'.os = s.os ∧ AllBare s'.gens) s := by
  have vals := vals_ints areI
  have same_len := areI.length
  have tab : ∀ b ∈ Ts.map (·.2), s.heap.get? b = some { cls := .none, data := .fields #[] } := fun b hb => by
    obtain ⟨t, ht, rfl⟩ := List.mem_map.mp hb
    exact tabs t ht
  generalize hH : startT K (Ts.map (·.2)) a { cls := .type "list", data := .seq us.toArray } (ns.map V.int) = H
  have look : ∀ {b : Addr} {u : HO}, H b = some u → (b ∈ Ts.map (·.2) ∧ u = .tbl #[]) ∨ (b = a ∧ K.lookup a = none ∧ u = .frz { cls := .type "list", data := .seq us.toArray } (.lst (ns.map V.int))) := fun {b u} e => startT_cases (hH ▸ e)
  have apart : a ∉ Ts.map (·.2) := fun z => by
    have e := tab a z
    rw [e] at scr
    exact absurd (congrArg Obj.data (Option.some.inj scr)) (fun y => nomatch y)
  have hP : ∀ b ∈ Ts.map (·.2), H b = some (.tbl #[]) := fun b hb => by rw [← hH]; exact if_pos hb
  have hPt : ∀ t ∈ Ts, H t.2 = some (.tbl #[]) := fun t ht => hP _ (List.mem_map.mpr ⟨t, ht, rfl⟩)
  have hseq : SqL K H a (ns.map V.int) := by
    cases hk : K.lookup a with
    | some o =>
      have e := (kin a o hk).symm.trans scr
      exact .inr ⟨_, us.toArray, _, by rw [hk, Option.some.inj e], rfl, rfl, rfl, by rw [List.size_toArray, same_len]; exact short, by simpa using vals⟩
    | none =>
      refine .inl (.inr ⟨{ cls := .type "list", data := .seq us.toArray }, ?_⟩)
      rw [← hH]
      unfold startT
      rw [if_neg apart, if_pos rfl, hk]
  have sound : HOk P w H s.heap := fun b u e => by
    rcases look e with ⟨hb, rfl⟩ | ⟨rfl, _, rfl⟩
    · exact tab b hb
    · exact ⟨scr, by rw [List.length_map]; exact short, us, _, vals, scr⟩
  -- what is no list and no empty record is not tracked
  have out : ∀ {b : Addr} {o : Obj}, s.heap.get? b = some o → (∀ is n, o.data ≠ .seq is n) → o.data ≠ .fields #[] → H b = none := fun {b o} e n1 n2 => by
    cases q : H b with
    | none => rfl
    | some u =>
      rcases look q with ⟨hb, _⟩ | ⟨rfl, _⟩
      · exact absurd (congrArg Obj.data (Option.some.inj ((tab b hb).symm.trans e))).symm n2
      · exact absurd (congrArg Obj.data (Option.some.inj (scr.symm.trans e))).symm (n1 _ _)
  have outD : ∀ {b : Addr} {o : Obj} {es : Array DictEntry} {n : Nat}, s.heap.get? b = some o → o.data = .dict es n → H b = none := fun {b o es n} e d => out e (fun _ _ z => by rw [d] at z; cases z) fun z => by rw [d] at z; cases z
  have dictK : ∀ {b : Addr} {m : Str → Option Value}, s.heap.Ns b m → (hidT s.heap H).Ns b m := fun {b m} hn => by
    obtain ⟨o, es, n, e, d, r⟩ := hn
    exact ⟨o, es, n, hidT_get e (outD e d), d, r⟩
  have kinB : K.In (hidT s.heap H) := fun b o e => hidT_get (kin b o e) (by
    cases q : H b with
    | none => rfl
    | some u =>
      rcases look q with ⟨hb, _⟩ | ⟨rfl, z, _⟩
      · obtain ⟨t, ht, rfl⟩ := List.mem_map.mp hb
        exact absurd ((tabsK t ht).symm.trans e) fun y => nomatch y
      · exact absurd (z.symm.trans e) fun y => nomatch y)
  have module : L2.Mod K mg (hidT s.heap H) := by
    obtain ⟨ml, e1, e2⟩ := nol
    exact ⟨kinB, dictK gl, ⟨mb, dictK bl, blb⟩, ml, dictK e1, e2⟩
  have table : ∀ t ∈ Ts, TabB (hidT s.heap H) mg t.1 t.2 := fun t ht => by
    have cod := cods t ht
    have tab := tabs t ht
    refine ⟨?_, ?_, fun z => ?_⟩
    · obtain ⟨o, vs, file, tf, flags, tg, inF, text, tt, e1, e2, e3, e4, rest⟩ := cod
      refine ⟨o, vs, file, tf, flags, tg, inF, text, tt, hidT_get e1 (out e1 (fun _ _ y => by rw [e3] at y; cases y) fun y => ?_), e2, e3, e4, rest⟩
      rw [e3] at y
      have y' : vs = #[] := Data.fields.inj y
      rw [y'] at e4
      cases e4
    · obtain ⟨bm, ob, m1, m2, m3, m4, m5, m6⟩ := bmain
      refine ⟨bm, ob, m1, m2, fun y => ?_, fun y => ?_, hidT_get m3 (out m3 (fun _ _ y => by rw [m6] at y; cases y) fun y => by rw [m6] at y; cases y), m4, m5, m6⟩
      · obtain ⟨o, es, n, e, d, _⟩ := gl
        rw [← y, m3] at e
        rw [← Option.some.inj e, m6] at d
        cases d
      · have e := m3.symm.trans (y ▸ tab)
        have d := m6
        rw [Option.some.inj e] at d
        cases d
    · obtain ⟨o, es, n, e, d, _⟩ := gl
      have e' := e.symm.trans (z ▸ tab)
      rw [Option.some.inj e'] at d
      cases d
  have env : Env0 P w K mg (hidT s.heap H) callerA [] s H := ⟨rfl, module, fun b o e => of_hidT e, Nat.le_of_eq (hidT_size _ _), trivial, fun b hb => (List.not_mem_nil hb).elim, sound, .of_eq gens⟩
  refine codeAny_mono ((F _ kinB (dictK gl) table).run callerA [] s H ⟨[.ref a], []⟩ [.ref a] [.ref a] _ room rfl env (bind s (.ref a)) (.cons rfl .nil) (keep H hPt hseq)) fun r s' res => ?_
  match r, res with
  | .ok (.ret u), res =>
    obtain ⟨v, H', same_os, bare, un, sound', rv, ev⟩ := res
    have ev' : v = .bl true := ev
    subst ev'
    obtain rfl : u = Value.bool true := rv
    have stays : ∀ b o, b ∉ Ts.map (·.2) → s.heap.get? b = some o → s'.heap.get? b = some o := fun b o nb e => by
      cases q : H b with
      | none => exact un.keep b o e q (fun z => (List.not_mem_nil z).elim) (by simp)
      | some u =>
        rcases look q with ⟨z, _⟩ | ⟨rfl, _, rfl⟩
        · exact absurd z nb
        · have g := (sound' b _ (un.frzs b _ _ q)).1
          rw [← Option.some.inj (scr.symm.trans e)]
          exact g
    refine ⟨rfl, ⟨fun b o e => ?_, fun b o e => ?_⟩, same_os, bare⟩
    · by_cases hb : b ∈ Ts.map (·.2)
      · obtain ⟨more, hm⟩ := un.tbls b #[] (hP b hb)
        have after : s'.heap.get? b = some { cls := .none, data := .fields (#[] ++ more) } := sound' b _ hm
        obtain ⟨t, ht, rfl⟩ := List.mem_map.mp hb
        obtain rfl := Option.some.inj ((tabs t ht).symm.trans e)
        refine .inr (.inl ⟨((cods t ht).tab (tabs t ht)).isCodeTable, rfl, #[], more, rfl, ?_⟩)
        rw [after]
      · exact .inl (stays b o hb e)
    · by_cases hb : b ∈ Ts.map (·.2)
      · obtain ⟨more, hm⟩ := un.tbls b #[] (hP b hb)
        exact ⟨_, sound' b _ hm⟩
      · exact ⟨o, stays b o hb e⟩
  | .ok .next, res => exact False.elim res
  | .ok .brk, res => exact False.elim res
  | .ok .cont, res => exact False.elim res
  | .error e, res => exact False.elim res
end K36

set_option maxRecDepth 100000
set_option maxHeartbeats 16000000
/-! k36: the end. -/
namespace K36
open PySem PySem.Spec PyProof.Rows L2 LamX VG
def dd (x : Str) (st : Stmt) : He.DefD := ⟨(x, none), x, x, defArgs st, defBody st, defScope st, [], []⟩
def dIni (C : Str) : He.DefD := ⟨(C, some "__init__"), "__init__", "CoreError.__init__", defArgs sInit, defBody sInit, defScope sInit, [], []⟩
def fns : List He.DefD := [dd "number_of" sNumberOf, dd "number_in" sNumberIn, dd "number_told" sNumberTold, dd "task_row" sTaskRow, dd "_stands_behind" sStands, dd "_law_pot" sPot, dd "_law_take" sTake, dd "_law_of" sOf, dd "_law_some" sSome, dd "_law_cells" sCells, dd "_law_heard" sHeard, dd "_law_odd" sOdd, dd "_law_bent" sBent, dd "_law_house_text" sHouseText, dd "_law_house_made" sHouseMade, dd "_law_house_drawn" sHouseDrawn, dd "_law_number" sLNumber, dd "_law_wrong_line" sWrongLine, dd "_law_other_line" sOtherLine, dd "_law_near" sNear, dd "_law_right" sRight, dd "law" sLaw, dIni "BadClans", ⟨("Clans", some "__init__"), "__init__", "Clans.__init__", defArgs sClans, defBody sClans, defScope sClans, [], []⟩]
def PlainT (K : PySem.W.Frag) (p : Addr) : Prop := ∃ o, K.lookup p = some o ∧ o.cls = .type "tuple" ∧ o.dict = none
def clB (K : PySem.W.Frag) (C f : Addr) : Bool :=
  (PySem.W.plainGet K C Str.empty && (PySem.W.hasDictIn K C && (PySem.W.plainOver K C && decide (PySem.W.findIn K (.ref C) "__setattr__" = some (some (.builtin "object.__setattr__")))))) &&
  ((decide (PySem.W.findIn K (.ref C) "text" = some none) && (decide (PySem.W.findIn K (.ref C) "fresh" = some none) && (decide (PySem.W.findIn K (.ref C) "rows" = some none) && (decide (PySem.W.findIn K (.ref C) "tasks" = some none) && (decide (PySem.W.findIn K (.ref C) "chiefs" = some none) && decide (PySem.W.findIn K (.ref C) "borders" = some none)))))) &&
  (PySem.W.makesIn K C && (decide (PySem.W.findIn K (.ref C) "__init__" = some (some (.ref f))) && (PySem.W.isFn K (.ref f) && PySem.W.keepIn K (.ref C)))))
theorem clB_ok {K : PySem.W.Frag} {C f : Addr} (h : clB K C f = true) : CF K C ∧ Mk K C f := by
  unfold clB at h
  simp only [Bool.and_eq_true, decide_eq_true_eq] at h
  obtain ⟨⟨a1, a2, a3, a4⟩, ⟨b1, b2, b3, b4, b5, b6⟩, c1, c2, c3, c4⟩ := h
  exact ⟨⟨⟨a1, a2, a3, a4⟩, b1, b2, b3, b4, b5, b6⟩, ⟨c1, c2, c3, c4⟩⟩
theorem vals_app {vs : List V} {us : List Value} {zs : List V} {ws : List Value} (r : Vals vs us) (rz : Vals zs ws) : Vals (vs ++ zs) (us ++ ws) := by
  induction r with
  | nil => exact rz
  | cons a _ ih => exact .cons a ih
def fas : List He.Fa := [.glo "number_of", .glo "number_in", .glo "number_told", .glo "task_row", .glo "_stands_behind", .glo "_law_pot", .glo "_law_take", .glo "_law_of", .glo "_law_some", .glo "_law_cells", .glo "_law_heard", .glo "_law_odd", .glo "_law_bent", .glo "_law_house_text", .glo "_law_house_made", .glo "_law_house_drawn", .glo "_law_number", .glo "_law_wrong_line", .glo "_law_other_line", .glo "_law_near", .glo "_law_right", .glo "law", .glo "CoreError", .glo "BadClans", .glo "Clans", .int "MOST_TASKS" 6, .int "LAST_NUMBER" 999, .free "abs", .free "all", .free "bool", .free "dict", .free "enumerate", .free "int", .free "isinstance", .free "len", .free "list", .free "max", .free "min", .free "range", .free "repr", .free "sorted", .free "str", .free "sum", .free "tuple", .free "type"]
def rfd1 : He.Defn := ("_law_right", none)
def cds : List He.Defn := [rfd1]
/-- a tuple with no dict -/
def plB (K : PySem.W.Frag) (a : Addr) : Bool := match K.lookup a with
  | some o => decide (o.cls = .type "tuple") && o.dict.isNone
  | none => false
theorem plB_ok {K : PySem.W.Frag} {a : Addr} (h : plB K a = true) : PlainT K a := by
  unfold plB at h
  split at h
  · rename_i o ho
    simp only [Bool.and_eq_true, decide_eq_true_eq, Option.isNone_iff_eq_none] at h
    exact ⟨o, ho, h.1, h.2⟩
  · cases h
def kiB (K : PySem.W.Frag) (a b : Addr) (r : Bool) : Bool := decide (PySem.W.kitOne K (.ref a) (.ref b) = some r)
def er (K : PySem.W.Frag) (C : Str) : Bool := errB K (He.ga K C) (He.ma K (He.ga K C) "__init__") (He.ga K "CoreError") && isCB K (He.ga K C)
theorem er_ok {K : PySem.W.Frag} {C : Str} (h : er K C = true) : ErrC K (He.ga K C) (He.ma K (He.ga K C) "__init__") ∧ Err1 K (He.ga K "CoreError") (He.ga K C) := by
  unfold er at h
  obtain ⟨a, b⟩ := Bool.and_eq_true_iff.mp h
  obtain ⟨E, _, m⟩ := errB_ok a
  exact ⟨E, isCB_ok b, E.noV, m⟩
def tuB (K : PySem.W.Frag) (x : Str) (vs : List V) : Bool := ktB K (He.ga K x) vs && plB K (He.ga K x)
def exs (K : PySem.W.Frag) : Bool := er K "BadClans" && (kiB K (He.ga K "BadClans") (He.ga K "BadClans") true && (clB K (He.ga K "Clans") (He.ma K (He.ga K "Clans") "__init__")))
def tabL (A0 : Addr) : List (Addr × Str) := [(A0, Str.ofString "_law_right.<locals>." ++ "<lambda>")]
def cTs (K : PySem.W.Frag) : List (Addr × Addr) := [He.cT K rfd1]
theorem all_in {P : Program} {w : World} {K : PySem.W.Frag} {h : Heap} {mg : Str → Option Value} (X : K.In h) (G : h.Ns mainGlobals mg) (c : He.SaysX fas fns [] cds exs w h K) :
    ∃ fd : FuncData, (∀ (s : Shared) (u : Value), BindsTo s fd ⟨[u], []⟩ [("script", u)]) ∧ mg "law" = some (.ref (He.ga K "law")) ∧
      ∀ base : Heap, K.In base → base.Ns mainGlobals mg → (∀ t ∈ cTs K, TabB base mg t.1 t.2) → FnG P w K mg base 10 (He.ga K "law") fd ["script"] (spLaw K (tabL (He.cT K rfd1).2)) := by
  have sd := c.t.d
  obtain ⟨fd0, D0⟩ := sd.def_ 0 (d := dd "number_of" sNumberOf) rfl
  have F0 : Fun K "number_of" "number_of" sNumberOf (He.ga K "number_of") fd0 := defFun D0
  have b0 : L2.Binds K fd0 ["text"] [] := F0.binds (ps := ["text"]) fun _ _ _ _ _ _ us hl => match us, hl with | [_], _ => rfl
  have g0 := He.glo_ok X G (sd.fact 0 (f := .glo "number_of") rfl)
  obtain ⟨fd1, D1⟩ := sd.def_ 1 (d := dd "number_in" sNumberIn) rfl
  have F1 : Fun K "number_in" "number_in" sNumberIn (He.ga K "number_in") fd1 := defFun D1
  have b1 : L2.Binds K fd1 ["text", "low", "high"] [] := F1.binds (ps := ["text", "low", "high"]) fun _ _ _ _ _ _ us hl => match us, hl with | [_, _, _], _ => rfl
  have g1 := He.glo_ok X G (sd.fact 1 (f := .glo "number_in") rfl)
  obtain ⟨fd2, D2⟩ := sd.def_ 2 (d := dd "number_told" sNumberTold) rfl
  have F2 : Fun K "number_told" "number_told" sNumberTold (He.ga K "number_told") fd2 := defFun D2
  have b2 : L2.Binds K fd2 ["lines", "at", "head", "bounds"] [] := F2.binds (ps := ["lines", "at", "head", "bounds"]) fun _ _ _ _ _ _ us hl => match us, hl with | [_, _, _, _], _ => rfl
  have g2 := He.glo_ok X G (sd.fact 2 (f := .glo "number_told") rfl)
  obtain ⟨fd3, D3⟩ := sd.def_ 3 (d := dd "task_row" sTaskRow) rfl
  have F3 : Fun K "task_row" "task_row" sTaskRow (He.ga K "task_row") fd3 := defFun D3
  have b3 : L2.Binds K fd3 ["line", "fresh"] [] := F3.binds (ps := ["line", "fresh"]) fun _ _ _ _ _ _ us hl => match us, hl with | [_, _], _ => rfl
  have g3 := He.glo_ok X G (sd.fact 3 (f := .glo "task_row") rfl)
  obtain ⟨fd4, D4⟩ := sd.def_ 4 (d := dd "_stands_behind" sStands) rfl
  have F4 : Fun K "_stands_behind" "_stands_behind" sStands (He.ga K "_stands_behind") fd4 := defFun D4
  have b4 : L2.Binds K fd4 ["row", "rows"] [] := F4.binds (ps := ["row", "rows"]) fun _ _ _ _ _ _ us hl => match us, hl with | [_, _], _ => rfl
  have g4 := He.glo_ok X G (sd.fact 4 (f := .glo "_stands_behind") rfl)
  obtain ⟨fd5, D5⟩ := sd.def_ 5 (d := dd "_law_pot" sPot) rfl
  have F5 : Fun K "_law_pot" "_law_pot" sPot (He.ga K "_law_pot") fd5 := defFun D5
  have b5 : L2.Binds K fd5 ["script", "place"] [] := F5.binds (ps := ["script", "place"]) fun _ _ _ _ _ _ us hl => match us, hl with | [_, _], _ => rfl
  have g5 := He.glo_ok X G (sd.fact 5 (f := .glo "_law_pot") rfl)
  obtain ⟨fd6, D6⟩ := sd.def_ 6 (d := dd "_law_take" sTake) rfl
  have F6 : Fun K "_law_take" "_law_take" sTake (He.ga K "_law_take") fd6 := defFun D6
  have b6 : L2.Binds K fd6 ["pot", "upto"] [] := F6.binds (ps := ["pot", "upto"]) fun _ _ _ _ _ _ us hl => match us, hl with | [_, _], _ => rfl
  have g6 := He.glo_ok X G (sd.fact 6 (f := .glo "_law_take") rfl)
  obtain ⟨fd7, D7⟩ := sd.def_ 7 (d := dd "_law_of" sOf) rfl
  have F7 : Fun K "_law_of" "_law_of" sOf (He.ga K "_law_of") fd7 := defFun D7
  have b7 : L2.Binds K fd7 ["pot", "some"] [] := F7.binds (ps := ["pot", "some"]) fun _ _ _ _ _ _ us hl => match us, hl with | [_, _], _ => rfl
  have g7 := He.glo_ok X G (sd.fact 7 (f := .glo "_law_of") rfl)
  obtain ⟨fd8, D8⟩ := sd.def_ 8 (d := dd "_law_some" sSome) rfl
  have F8 : Fun K "_law_some" "_law_some" sSome (He.ga K "_law_some") fd8 := defFun D8
  have b8 : L2.Binds K fd8 ["pot", "pool", "many"] [] := F8.binds (ps := ["pot", "pool", "many"]) fun _ _ _ _ _ _ us hl => match us, hl with | [_, _, _], _ => rfl
  have g8 := He.glo_ok X G (sd.fact 8 (f := .glo "_law_some") rfl)
  obtain ⟨fd9, D9⟩ := sd.def_ 9 (d := dd "_law_cells" sCells) rfl
  have F9 : Fun K "_law_cells" "_law_cells" sCells (He.ga K "_law_cells") fd9 := defFun D9
  have b9 : L2.Binds K fd9 ["script", "most"] [] := F9.binds (ps := ["script", "most"]) fun _ _ _ _ _ _ us hl => match us, hl with | [_, _], _ => rfl
  have g9 := He.glo_ok X G (sd.fact 9 (f := .glo "_law_cells") rfl)
  obtain ⟨fd10, D10⟩ := sd.def_ 10 (d := dd "_law_heard" sHeard) rfl
  have F10 : Fun K "_law_heard" "_law_heard" sHeard (He.ga K "_law_heard") fd10 := defFun D10
  have b10 : L2.Binds K fd10 ["call"] [] := F10.binds (ps := ["call"]) fun _ _ _ _ _ _ us hl => match us, hl with | [_], _ => rfl
  have g10 := He.glo_ok X G (sd.fact 10 (f := .glo "_law_heard") rfl)
  obtain ⟨fd11, D11⟩ := sd.def_ 11 (d := dd "_law_odd" sOdd) rfl
  have F11 : Fun K "_law_odd" "_law_odd" sOdd (He.ga K "_law_odd") fd11 := defFun D11
  have b11 : L2.Binds K fd11 ["pot"] [] := F11.binds (ps := ["pot"]) fun _ _ _ _ _ _ us hl => match us, hl with | [_], _ => rfl
  have g11 := He.glo_ok X G (sd.fact 11 (f := .glo "_law_odd") rfl)
  obtain ⟨fd12, D12⟩ := sd.def_ 12 (d := dd "_law_bent" sBent) rfl
  have F12 : Fun K "_law_bent" "_law_bent" sBent (He.ga K "_law_bent") fd12 := defFun D12
  have b12 : L2.Binds K fd12 ["pot", "value"] [] := F12.binds (ps := ["pot", "value"]) fun _ _ _ _ _ _ us hl => match us, hl with | [_, _], _ => rfl
  have g12 := He.glo_ok X G (sd.fact 12 (f := .glo "_law_bent") rfl)
  obtain ⟨fd13, D13⟩ := sd.def_ 13 (d := dd "_law_house_text" sHouseText) rfl
  have F13 : Fun K "_law_house_text" "_law_house_text" sHouseText (He.ga K "_law_house_text") fd13 := defFun D13
  have b13 : L2.Binds K fd13 ["house"] [] := F13.binds (ps := ["house"]) fun _ _ _ _ _ _ us hl => match us, hl with | [_], _ => rfl
  have g13 := He.glo_ok X G (sd.fact 13 (f := .glo "_law_house_text") rfl)
  obtain ⟨fd14, D14⟩ := sd.def_ 14 (d := dd "_law_house_made" sHouseMade) rfl
  have F14 : Fun K "_law_house_made" "_law_house_made" sHouseMade (He.ga K "_law_house_made") fd14 := defFun D14
  have b14 : L2.Binds K fd14 ["house", "chief", "border"] [] := F14.binds (ps := ["house", "chief", "border"]) fun _ _ _ _ _ _ us hl => match us, hl with | [_, _, _], _ => rfl
  have g14 := He.glo_ok X G (sd.fact 14 (f := .glo "_law_house_made") rfl)
  obtain ⟨fd15, D15⟩ := sd.def_ 15 (d := dd "_law_house_drawn" sHouseDrawn) rfl
  have F15 : Fun K "_law_house_drawn" "_law_house_drawn" sHouseDrawn (He.ga K "_law_house_drawn") fd15 := defFun D15
  have b15 : L2.Binds K fd15 ["pot"] [] := F15.binds (ps := ["pot"]) fun _ _ _ _ _ _ us hl => match us, hl with | [_], _ => rfl
  have g15 := He.glo_ok X G (sd.fact 15 (f := .glo "_law_house_drawn") rfl)
  obtain ⟨fd16, D16⟩ := sd.def_ 16 (d := dd "_law_number" sLNumber) rfl
  have F16 : Fun K "_law_number" "_law_number" sLNumber (He.ga K "_law_number") fd16 := defFun D16
  have b16 : L2.Binds K fd16 ["word", "low", "high"] [] := F16.binds (ps := ["word", "low", "high"]) fun _ _ _ _ _ _ us hl => match us, hl with | [_, _, _], _ => rfl
  have g16 := He.glo_ok X G (sd.fact 16 (f := .glo "_law_number") rfl)
  obtain ⟨fd17, D17⟩ := sd.def_ 17 (d := dd "_law_wrong_line" sWrongLine) rfl
  have F17 : Fun K "_law_wrong_line" "_law_wrong_line" sWrongLine (He.ga K "_law_wrong_line") fd17 := defFun D17
  have b17 : L2.Binds K fd17 ["value"] [] := F17.binds (ps := ["value"]) fun _ _ _ _ _ _ us hl => match us, hl with | [_], _ => rfl
  have g17 := He.glo_ok X G (sd.fact 17 (f := .glo "_law_wrong_line") rfl)
  obtain ⟨fd18, D18⟩ := sd.def_ 18 (d := dd "_law_other_line" sOtherLine) rfl
  have F18 : Fun K "_law_other_line" "_law_other_line" sOtherLine (He.ga K "_law_other_line") fd18 := defFun D18
  have b18 : L2.Binds K fd18 ["pot", "line"] [] := F18.binds (ps := ["pot", "line"]) fun _ _ _ _ _ _ us hl => match us, hl with | [_, _], _ => rfl
  have g18 := He.glo_ok X G (sd.fact 18 (f := .glo "_law_other_line") rfl)
  obtain ⟨fd19, D19⟩ := sd.def_ 19 (d := dd "_law_near" sNear) rfl
  have F19 : Fun K "_law_near" "_law_near" sNear (He.ga K "_law_near") fd19 := defFun D19
  have b19 : L2.Binds K fd19 ["pot", "text"] [] := F19.binds (ps := ["pot", "text"]) fun _ _ _ _ _ _ us hl => match us, hl with | [_, _], _ => rfl
  have g19 := He.glo_ok X G (sd.fact 19 (f := .glo "_law_near") rfl)
  obtain ⟨fd20, D20⟩ := sd.def_ 20 (d := dd "_law_right" sRight) rfl
  have F20 : Fun K "_law_right" "_law_right" sRight (He.ga K "_law_right") fd20 := defFun D20
  have b20 : L2.Binds K fd20 ["pot"] [] := F20.binds (ps := ["pot"]) fun _ _ _ _ _ _ us hl => match us, hl with | [_], _ => rfl
  have g20 := He.glo_ok X G (sd.fact 20 (f := .glo "_law_right") rfl)
  obtain ⟨fd21, D21⟩ := sd.def_ 21 (d := dd "law" sLaw) rfl
  have F21 : Fun K "law" "law" sLaw (He.ga K "law") fd21 := defFun D21
  have b21 : L2.Binds K fd21 ["script"] [] := F21.binds (ps := ["script"]) fun _ _ _ _ _ _ us hl => match us, hl with | [_], _ => rfl
  have g21 := He.glo_ok X G (sd.fact 21 (f := .glo "law") rfl)
  obtain ⟨fd22, D22⟩ := sd.def_ 22 (d := dIni "BadClans") rfl
  have F22 : Fun K "__init__" "CoreError.__init__" sInit (He.ma K (He.ga K "BadClans") "__init__") fd22 := defFun D22
  have b22 : L2.Binds K fd22 ["self", "value"] [] := F22.binds (ps := ["self", "value"]) fun _ _ _ _ _ _ us hl => match us, hl with | [_, _], _ => rfl
  obtain ⟨fd23, D23⟩ := sd.def_ 23 (d := ⟨("Clans", some "__init__"), "__init__", "Clans.__init__", defArgs sClans, defBody sClans, defScope sClans, [], []⟩) rfl
  have F23 : Fun K "__init__" "Clans.__init__" sClans (He.ma K (He.ga K "Clans") "__init__") fd23 := defFun D23
  have b23 : L2.Binds K fd23 ["self", "text"] [] := F23.binds (ps := ["self", "text"]) fun _ _ _ _ _ _ us hl => match us, hl with | [_, _], _ => rfl
  have gCoreError := He.glo_ok X G (sd.fact 22 (f := .glo "CoreError") rfl)
  have gBadClans := He.glo_ok X G (sd.fact 23 (f := .glo "BadClans") rfl)
  have gClans := He.glo_ok X G (sd.fact 24 (f := .glo "Clans") rfl)
  obtain ⟨tNMOST_TASKS, gMOST_TASKS⟩ := He.int_ok X G (sd.fact 25 (f := .int "MOST_TASKS" 6) rfl)
  obtain ⟨tNLAST_NUMBER, gLAST_NUMBER⟩ := He.int_ok X G (sd.fact 26 (f := .int "LAST_NUMBER" 999) rfl)
  have fabs := He.free_ok X G (sd.fact 27 (f := .free "abs") rfl)
  have fall := He.free_ok X G (sd.fact 28 (f := .free "all") rfl)
  have fbool := He.free_ok X G (sd.fact 29 (f := .free "bool") rfl)
  have fdict := He.free_ok X G (sd.fact 30 (f := .free "dict") rfl)
  have fenumerate := He.free_ok X G (sd.fact 31 (f := .free "enumerate") rfl)
  have fint := He.free_ok X G (sd.fact 32 (f := .free "int") rfl)
  have fisinstance := He.free_ok X G (sd.fact 33 (f := .free "isinstance") rfl)
  have flen := He.free_ok X G (sd.fact 34 (f := .free "len") rfl)
  have flist := He.free_ok X G (sd.fact 35 (f := .free "list") rfl)
  have fmax := He.free_ok X G (sd.fact 36 (f := .free "max") rfl)
  have fmin := He.free_ok X G (sd.fact 37 (f := .free "min") rfl)
  have frange := He.free_ok X G (sd.fact 38 (f := .free "range") rfl)
  have frepr := He.free_ok X G (sd.fact 39 (f := .free "repr") rfl)
  have fsorted := He.free_ok X G (sd.fact 40 (f := .free "sorted") rfl)
  have fstr := He.free_ok X G (sd.fact 41 (f := .free "str") rfl)
  have fsum := He.free_ok X G (sd.fact 42 (f := .free "sum") rfl)
  have ftuple := He.free_ok X G (sd.fact 43 (f := .free "tuple") rfl)
  have ftype := He.free_ok X G (sd.fact 44 (f := .free "type") rfl)
  obtain ⟨xe1, xk0, xc0⟩ : er K "BadClans" = true ∧ (kiB K (He.ga K "BadClans") (He.ga K "BadClans") true = true ∧ (clB K (He.ga K "Clans") (He.ma K (He.ga K "Clans") "__init__") = true)) := by
    have m := c.more
    unfold exs at m
    simpa only [Bool.and_eq_true, decide_eq_true_eq] using m
  obtain ⟨E1, X1⟩ := er_ok xe1
  have kt1 : PySem.W.kitOne K (.ref (He.ga K "BadClans")) (.ref (He.ga K "BadClans")) = some true := of_decide_eq_true xk0
  obtain ⟨TCf, MCf⟩ := clB_ok xc0
  have kbC : L2.KBn K fd23 ["self", "text"] 1 ["text"] (fun us ws => us ++ ws) (fun vs zs => vs ++ zs) := ⟨fun s us ws _ h1 h2 => by
    obtain ⟨oc, od, kV, doc, pm, an, cdv, ct, osl, rfl, lk, hcd⟩ := F23.ex
    match us, ws, h1, h2 with
    | [_], [_], _, _ => exact .of_eq rfl, fun r rz => vals_app r rz⟩
  have hcc1 : fd20.code = .ref (He.cT K rfd1).1 := by
    obtain ⟨oc, od, kV, doc, pm, an, cdv, ct, osl, e0, lk, hcd⟩ := F20.ex
    obtain ⟨cc, rfl⟩ := He.codeIn_ref hcd
    have e1 : fd20.code = .ref cc := by rw [e0]
    have e2 : He.codeOf K rfd1 = cc := He.codeOf_eq (p := rfd1) lk e1
    rw [e1, ← e2]
    rfl
  refine ⟨fd21, fun s u => .of_eq (by obtain ⟨oc, od, kV, doc, pm, an, cdv, ct, osl, e0, lk, hcd⟩ := F21.ex; rw [e0]; rfl), g21, fun base KB GB TBs => ?_⟩
  have TB1 := TBs _ List.mem_cons_self
  have wpot : FnOk P w K mg base CX0 1 _ fd5 _ (spPot K) := ok_pot (k := 0) F5 flen fsum fint fabs
  have wtake : FnOk P w K mg base CX0 1 _ fd6 _ spTake := ok_take (k := 0) F6 fint
  have wof : FnOk P w K mg base CX0 2 _ fd7 _ (spOf K) := ok_of (k := 0) F7 wtake F6.kp b6 g6 flen
  have wsome : FnOk P w K mg base CX0 2 _ fd8 _ (spSome K) := ok_some (k := 0) F8 wtake F6.kp b6 g6 flist frange flen
  have wcells : FnOk P w K mg base CX0 1 _ fd9 _ (spCells K) := ok_cells (k := 0) F9 flist frange fmax fmin flen
  have wodd : FnOk P w K mg base CX0 3 _ fd11 _ (spOdd K) := ok_odd (k := 0) F11 wof F7.kp b7 g7
  have wNumberOf : FnOk P w K mg base CX0 1 _ fd0 _ (spNumberOf) := ok_NumberOf (k := 0) F0 (fall := fall) (fint := fint)
  have wNumberIn : FnOk P w K mg base CX0 2 _ fd1 _ (spNumberIn) := ok_NumberIn (k := 0) F1 (gNo := ⟨_, _, wNumberOf, F0.kp, b0, g0⟩)
  have wNumberTold : FnOk P w K mg base CX0 3 _ fd2 _ (spNumberTold K) := ok_NumberTold (k := 0) F2 (gNi := ⟨_, _, wNumberIn, F1.kp, b1, g1⟩) (flen := flen)
  have wLNumber : FnOk P w K mg base CX0 1 _ fd16 _ (spLNumber) := ok_LNumber (k := 0) F16 (fall := fall) (fint := fint) (flen := flen) (fstr := fstr)
  have wTaskRow : FnOk P w K mg base CX0 3 _ fd3 _ (spTaskRow K) := ok_TaskRow (k := 0) F3 (gNi := ⟨_, _, wNumberIn, F1.kp, b1, g1⟩) (flen := flen)
  have wStands : FnOk P w K mg base CX0 1 _ fd4 _ (spStands K) := ok_Stands (k := 0) F4 (gMOST_TASKS := gMOST_TASKS) (flen := flen)
  have wClans : FnOk P w K mg base (L2.CX P w) 5 _ fd23 _ (spClans K (He.ga K "Clans") (He.ga K "BadClans")) := ok_Clans (k := 0) F23 (gNt := ⟨_, _, wNumberTold.mono (by omega), F2.kp, b2, g2⟩) (gTr := ⟨_, _, wTaskRow.mono (by omega), F3.kp, b3, g3⟩) (gSb := ⟨_, _, wStands.mono (by omega), F4.kp, b4, g4⟩) (E1 := E1) (I1 := F22) (bI1 := b22) (gBadClans := gBadClans) (T := TCf) (gLAST_NUMBER := gLAST_NUMBER) (fenumerate := fenumerate) (fstr := fstr) (ftuple := ftuple) (ftype := ftype)
  have wHouseText : FnOk P w K mg base CX0 1 _ fd13 _ (spHouseText K) := ok_HouseText (k := 0) F13 (fint := fint) (fsorted := fsorted) (fstr := fstr)
  have wHouseMade : FnOk P w K mg base CX0 1 _ fd14 _ (spHouseMade K) := ok_HouseMade (k := 0) F14 (fdict := fdict) (flist := flist)
  have wHouseDrawn : FnOk P w K mg base CX0 4 _ fd15 _ (spHouseDrawn K) := ok_HouseDrawn (k := 0) F15 (gTa := ⟨_, _, wtake.mono (by omega), F6.kp, b6, g6⟩) (gOf := ⟨_, _, wof.mono (by omega), F7.kp, b7, g7⟩) (gHm := ⟨_, _, wHouseMade.mono (by omega), F14.kp, b14, g14⟩) (flen := flen) (fmax := fmax) (frange := frange) (fsorted := fsorted)
  have wWrongLine : FnOk P w K mg base CX0 2 _ fd17 _ (spWrongLine K) := ok_WrongLine (k := 0) F17 (gLn := ⟨_, _, wLNumber, F16.kp, b16, g16⟩) (fenumerate := fenumerate) (fisinstance := fisinstance) (flen := flen) (fstr := fstr)
  have wOtherLine : FnOk P w K mg base CX0 4 _ fd18 _ (spOtherLine) := ok_OtherLine (k := 0) F18 (gTa := ⟨_, _, wtake.mono (by omega), F6.kp, b6, g6⟩) (gOf := ⟨_, _, wof.mono (by omega), F7.kp, b7, g7⟩) (flen := flen)
  have wBent : FnOk P w K mg base CX0 4 _ fd12 _ (spBent K) := ok_Bent (k := 0) F12 (gTa := ⟨_, _, wtake.mono (by omega), F6.kp, b6, g6⟩) (gOf := ⟨_, _, wof.mono (by omega), F7.kp, b7, g7⟩) (gSo := ⟨_, _, wsome.mono (by omega), F8.kp, b8, g8⟩) (fbool := fbool) (fint := fint) (fisinstance := fisinstance) (flen := flen) (flist := flist) (fstr := fstr) (ftuple := ftuple)
  have wNear : FnOk P w K mg base CX0 5 _ fd19 _ (spNear K) := ok_Near (k := 0) F19 (gTa := ⟨_, _, wtake.mono (by omega), F6.kp, b6, g6⟩) (gOl := ⟨_, _, wOtherLine, F18.kp, b18, g18⟩) (gOd := ⟨_, _, wodd.mono (by omega), F11.kp, b11, g11⟩) (gBe := ⟨_, _, wBent, F12.kp, b12, g12⟩) (flen := flen) (flist := flist) (frange := frange) (fstr := fstr)
  have wRight : FnG P w K mg base 9 _ fd20 _ (spRight K (tabL (He.cT K rfd1).2)) := ok_Right (k := 0) F20 hcc1 TB1 List.mem_cons_self (fun p hp ep => by
    rcases List.mem_singleton.mp hp with rfl
    rfl) F10 b10 g10 gCoreError (gHt := ⟨_, _, wHouseText.mono (by omega), F13.kp, b13, g13⟩) (gHd := ⟨_, _, wHouseDrawn.mono (by omega), F15.kp, b15, g15⟩) (gNe := ⟨_, _, wNear.mono (by omega), F19.kp, b19, g19⟩) (gWl := ⟨_, _, wWrongLine.mono (by omega), F17.kp, b17, g17⟩) (MCi := MCf) (GCi := wClans) (GCiD := (wClans.mono (by omega))) (bCi := b23) (kbCi := kbC) (gCi := gClans) (TC := TCf) (gBadClans := gBadClans) (X1 := X1) (kt1 := kt1) (fisinstance := fisinstance) (frepr := frepr)
  have wLaw : FnG P w K mg base 10 _ fd21 _ (spLaw K (tabL (He.cT K rfd1).2)) := ok_Law (k := 0) F21 (gRt := ⟨_, _, wRight, F20.kp, b20, g20⟩) (gPo := ⟨_, _, wpot.mono (by omega), F5.kp, b5, g5⟩) (gCe := ⟨_, _, wcells.mono (by omega), F9.kp, b9, g9⟩) (fall := fall)
  exact wLaw
end K36

set_option maxRecDepth 100000
set_option maxHeartbeats 0
/-! k36: the top's run, and the law. -/
namespace K36
open PySem PySem.Spec PyProof.Rows L2 LamX VG
abbrev hook5 : PySem.W.Hook := He.hookX 5 fas fns [] cds exs
def seen5 (s : PySem.W.SharedT) : He.AlX := He.obsX 5 fas fns [] cds exs (HandSHeadRun.getT s)
theorem seen5_eq (s : PySem.W.SharedT) : seen5 s = hook5.obs s.abs := He.obsX_eq (HandSHeadRun.getT_eq s)
def bound1 : List Str := ["number_of", "number_in", "number_told", "task_row", "_stands_behind", "_law_pot", "_law_take", "_law_of", "_law_some", "_law_cells", "_law_heard", "_law_odd"]
def bound2 : List Str := ["_law_bent", "_law_house_text", "_law_house_made", "_law_house_drawn", "_law_number", "_law_wrong_line", "_law_other_line", "_law_near", "_law_right", "law", "CoreError", "BadClans"]
def bound3 : List Str := ["Clans", "MOST_TASKS", "LAST_NUMBER", "NoTask", "_wall"]
def bound : List Str := bound1 ++ (bound2 ++ (bound3))
abbrev RunAt (w : World) : Prop := HandSHeadRun.RunEq (PySem.W.OpenLaw.row PySem.Challenge.rw_clankernel_k36_texts_of_no_clans) (PySem.W.view (PySem.W.OpenLaw.row PySem.Challenge.rw_clankernel_k36_texts_of_no_clans).prog [32]) hook5 seen5 4000 bound w
theorem run_f (w : World) : RunAt (w.withFollow "special-get-raises" false) := by
  intro os
  kernel_rfl
theorem run_t (w : World) : RunAt (w.withFollow "special-get-raises" true) := by
  intro os
  kernel_rfl
theorem top_run (w : World) : RunAt w := PySem.W.byRow2 "special-get-raises" run_f run_t w
end K36

set_option maxRecDepth 100000
set_option maxHeartbeats 8000000
namespace K36
open PySem PySem.Spec PyProof.Rows L2 LamX VG
theorem walk_top : PySem.W.WalkO (PySem.W.view (PySem.W.OpenLaw.row PySem.Challenge.rw_clankernel_k36_texts_of_no_clans).prog [32]) bound (PySem.W.XL (PySem.W.view (PySem.W.OpenLaw.row PySem.Challenge.rw_clankernel_k36_texts_of_no_clans).prog [32]) []) hook5.says
    PySem.Challenge.rw_clankernel_k36_texts_of_no_clans.row.toRowW (HandSHeadRun.topDef (PySem.W.OpenLaw.row PySem.Challenge.rw_clankernel_k36_texts_of_no_clans).prog 32) [] (fun f vs => PySem.call f vs) := by
  refine Att.attach_callB (l := PySem.Challenge.rw_clankernel_k36_texts_of_no_clans) (n := 63) rfl (by kernel_rfl) fun w s₀ s₁ mg mb fa o pm cd doc a vs ns G Y ho hd hcd hmg hobj hints hlen _ hg => ?_
  obtain ⟨K, KX, c⟩ := Y
  obtain ⟨fd, hb, g, F⟩ := all_in (P := PySem.Challenge.rw_clankernel_k36_texts_of_no_clans.prog) KX G.T.g c
  have e : (HandSHeadRun.topDef (PySem.W.OpenLaw.row PySem.Challenge.rw_clankernel_k36_texts_of_no_clans).prog 32).name = ("law" : Str) := by kernel_rfl
  rw [e, g] at hmg
  obtain rfl := Value.ref.inj (Option.some.inj hmg)
  have mem : ∀ t ∈ cTs K, ∃ r, r ∈ cds ∧ t = He.cT K r := fun t ht => by
    unfold cTs at ht
    simp only [List.mem_cons, List.not_mem_nil, or_false] at ht
    subst ht
    · exact ⟨rfd1, List.mem_cons_self, rfl⟩
  refine call_tops (Ts := cTs K) KX G.T.g G.T.b G.T.builtins G.T.nolimit hg (fun t ht => by obtain ⟨r, hr, rfl⟩ := mem t ht; exact c.empty _ hr) (fun t ht => by obtain ⟨r, hr, rfl⟩ := mem t ht; exact c.out _ hr) (fun t ht => by obtain ⟨r, hr, rfl⟩ := mem t ht; exact PySem.W.codeHd_of_K KX (c.hd _ hr)) G.T.bmain hobj hints (Nat.le_trans hlen (by decide)) ⟨rfl, by decide, by decide⟩ F hb fun H hT hS => ?_
  refine ⟨a, ns, rfl, hS, hlen, fun p hp => ?_, fun _ => rfl⟩
  have hp2 : H p.1 = some (.tbl #[]) := by
    unfold tabL at hp
    simp only [List.mem_cons, List.not_mem_nil, or_false] at hp
    subst hp
    · exact hT (He.cT K rfd1) List.mem_cons_self
  exact ⟨#[], hp2, trivial, fun pos cv hc => by cases hc⟩
end K36
open PySem PySem.W PySem.Calls PyProof.Rows
set_option maxRecDepth 100000 in
set_option maxHeartbeats 0 in
theorem PySem.Challenge.cw_clankernel_k36_texts_of_no_clans_holds : PySem.Challenge.rw_clankernel_k36_texts_of_no_clans.Holds := by
  w_on; o_law
  refine HandSHeadRun.head_any (r := OpenLaw.row PySem.Challenge.rw_clankernel_k36_texts_of_no_clans) (q := view (OpenLaw.row PySem.Challenge.rw_clankernel_k36_texts_of_no_clans).prog [32]) (H := K36.hook5) (ob := K36.seen5) (M := 4000) (loose := K36.bound) (d := HandSHeadRun.topDef (OpenLaw.row PySem.Challenge.rw_clankernel_k36_texts_of_no_clans).prog 32) (kwd := []) K36.seen5_eq
    (by kernel_rfl) (fun s => by kernel_rfl) K36.top_run (by kernel_rfl) (by kernel_rfl) (by kernel_rfl) (by rfl) (by first | assumption | decide +kernel) (by decide +kernel) ⟨rfl, rfl, rfl, rfl, rfl, by decide +kernel⟩ ?hw ?hc
  case hw => w_witness2
  case hc => exact K36.walk_top
