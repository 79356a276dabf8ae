import PyProof.Rows.All
import Wide.All
import OpenK.AllK
import Wide.FinOn
import HandS.Base
import HandS.ForMost
import HandS.ForExc
import HandS.IsInst
import HandS.Zip
import HandS.Star
import HandS.Flow
import HandS.FStr
import HandS.TupAny
import HandS.Wide
import HandS.Conv
import HandS.ExcInit
import HandS.Steps
import HandS.Style
import HandS.ExcField
import HandS.ExcIs
import HandS.ExcValue
import HandS.Lambda
import PyProof.ReprRoads
import PyProof.ReprLen
import HandS.Strs
import HandS.SetFor
import HandS.SetKeys
import HandS.TupSets
import PyProof.SeqIndex
import PyProof.ListStr
import HandS.Defaults
import HandS.Head2
import HandS.HeadHook4
import HandS.HeadWalk
import KE.KStateDown
import HandS.TupMul
import KE.GoesMore
import KE.GoesEnum
import PyProof.Draws
import HandS.MakeKwOnly
import KE.GoesEnumKw
import PyProof.Rows.CallKwBuiltin
import HandS.DictComp
import HandS.ReplaceLit
import HandS.Sort
import PyProof.ListRange
import PyProof.EqKinds
import PySem.Challenge.RW_clankernel_k26_faults_and_their_messages
set_option Elab.async false
set_option linter.all false
set_option maxRecDepth 100000
set_option maxHeartbeats 8000000
/-! What serves every law: data on the heap, the pot, kept errors and lambdas, repr, the end. -/
namespace VG
open PySem PySem.Spec PyProof.Rows L2 LamX
/-- a value of any kind: as Dp tells, or one of the dicts that are drawn -/
inductive Dk (K : PySem.W.Frag) (H : Hp) : V → PyData → Prop
  | dp {v : V} {d : PyData} : Dp K H v d → Dk K H v d
  | d0 {a : Addr} : H a = some (.dK []) → Dk K H (.ref a) (.dict [])
  | d1 {a : Addr} : H a = some (.dK [(.inr "a", .int 1)]) → Dk K H (.ref a) (.dict [(.str "a", .int 1)])
def tyName : PyData → String
  | .none => "NoneType"
  | .bool _ => "bool"
  | .int _ => "int"
  | .str _ => "str"
  | .list _ => "list"
  | .tuple _ => "tuple"
  | .dict _ => "dict"
theorem Dk.ty {K : PySem.W.Frag} {H : Hp} {v : V} {d : PyData} (h : Dk K H v d) : TyB K H v (tyName d) := by
  cases h with
  | dp h =>
    cases h with
    | non => exact .non
    | bl b => exact .bl b
    | int i => exact .int i
    | str x => exact .str x
    | lst hs _ => exact .lst hs
    | tup hs _ => exact .tup hs
  | d0 h => exact .dK h
  | d1 h => exact .dK h
theorem Same.seqT {K : PySem.W.Frag} {H H' : Hp} {a : Addr} {xs : List V} (e : Same H H') (h : SqT K H a xs) : SqT K H' a xs := by
  rcases h with (h | ⟨o, h⟩) | h
  · exact .inl (.inl (e _ _ h))
  · exact .inl (.inr ⟨o, e _ _ h⟩)
  · exact .inr h
mutual
theorem dp_same {K : PySem.W.Frag} {H H' : Hp} (e : Same H H') : ∀ (d : PyData) (v : V), Dp K H v d → Dp K H' v d
  | .none, _, h => by cases h; exact .non
  | .bool b, _, h => by cases h; exact .bl b
  | .int i, _, h => by cases h; exact .int i
  | .str x, _, h => by cases h; exact .str x
  | .list ds, _, h => by
    cases h with
    | lst hs ha => exact .lst (e.seq hs) (dpAll_same e ds _ ha)
  | .tuple ds, _, h => by
    cases h with
    | tup hs ha => exact .tup (Same.seqT e hs) (dpAll_same e ds _ ha)
  | .dict _, _, h => by cases h
theorem dpAll_same {K : PySem.W.Frag} {H H' : Hp} (e : Same H H') : ∀ (ds : List PyData) (vs : List V), DpAll K H vs ds → DpAll K H' vs ds
  | [], _, h => by cases h; exact .nil
  | d :: ds, _, h => by
    cases h with
    | cons h1 h2 => exact .cons (dp_same e d _ h1) (dpAll_same e ds _ h2)
end
theorem Dk.same {K : PySem.W.Frag} {H H' : Hp} (e : Same H H') {d : PyData} {v : V} (h : Dk K H v d) : Dk K H' v d := by
  cases h with
  | dp h => exact .dp (dp_same e _ _ h)
  | d0 h => exact .d0 (e _ _ h)
  | d1 h => exact .d1 (e _ _ h)
theorem same_upd {H : Hp} {p : Addr} {o : HO} (h : H p = none) : Same H (upd H p o) := fun b x e => by
  rw [upd_ne (ne_of_none e h)]
  exact e
def isW : PyData → Int → Int → Bool
  | .int i, lo, hi => decide (lo ≤ i) && decide (i ≤ hi)
  | _, _, _ => false
/-- a name of the module that holds an object -/
theorem pgr {X : Cx} {x : Str} {a : Addr} {pos : Pos} (hg : Gl X x) (hm : X.mg x = some (.ref a)) (hd : (x == ("__debug__" : Str)) = false := by decide) : PE X (.Name x pos) (tC (.ref a)) := pe_glob hg hm rfl hd
section
variable {P : Program} {w : World} {K : PySem.W.Frag} {mg : Str → Option Value} {base : Heap}
/-- a tuple of the written part -/
def KT (K : PySem.W.Frag) (a : Addr) (xs : List V) : Prop := ∃ (o : Obj) (its : Array Value) (n : Nat), K.lookup a = some o ∧ o.cls = .type "tuple" ∧ o.data = .seq its n ∧ its.size ≤ sizeLine ∧ Vals xs its.toList
theorem KT.sq {a : Addr} {xs : List V} (h : KT K a xs) {H : Hp} : SqT K H a xs := .inr h
def optS : Option Str → V
  | none => .non
  | some x => .str x
end
theorem cut_take (xs : List V) (j : Nat) : cutV xs none (some (j : Int)) = xs.take j := by
  unfold cutV
  rw [HT.sIx_none, HT.sIx_nat, List.drop_zero, Nat.sub_zero]
  by_cases h : j ≤ xs.length
  · rw [Nat.min_eq_left h]
  · rw [Nat.min_eq_right (by omega), List.take_of_length_le (Nat.le_refl _), List.take_of_length_le (by omega)]
/-- t[:j] of a written tuple -/
theorem slice_to {K : PySem.W.Frag} {H : Hp} {a : Addr} {xs : List V} {j : Nat} {Q : VK} (h : SqT K H a xs) (q : ∀ p H', SqT K H' p (xs.take j) → Same H H' → Q (.ref p) H') : rSlA K (.ref a) none (some (j : Int)) H Q := by
  refine ⟨a, xs, rfl, h, fun hw => q a H ?_ (Same.refl H), fun _ p hp => q p _ ?_ (same_upd hp)⟩
  · have e : xs.length ≤ j := by
      have := hw.2
      rw [HT.sIx_nat] at this
      omega
    rw [List.take_of_length_le e]
    exact h
  · rw [cut_take]
    exact SqT.of upd_same
theorem isW_int {d : PyData} {lo hi : Int} (h : isW d lo hi = true) : ∃ i, d = .int i ∧ lo ≤ i ∧ i ≤ hi := by
  cases d with
  | int i =>
    simp [isW] at h
    exact ⟨i, rfl, h.1, h.2⟩
  | none => cases h
  | bool _ => cases h
  | str _ => cases h
  | list _ => cases h
  | tuple _ => cases h
  | dict _ => cases h
section
variable {P : Program} {w : World} {K : PySem.W.Frag} {mg : Str → Option Value} {base : Heap}
theorem dk_int {H : Hp} {v : V} {i : Int} (h : Dk K H v (.int i)) : v = .int i := by
  cases h with
  | dp h => cases h; rfl
theorem sqT_upd {H : Hp} {a p : Addr} {xs ys : List V} {o : HO} (h : SqT K H a xs) (hp : H p = some (.lst ys)) : SqT K (upd H p o) a xs := by
  rcases h with (h | ⟨u, h⟩) | h
  · exact .inl (.inl (by rw [upd_ne (ne_of h hp (by intro z; cases z))]; exact h))
  · exact .inl (.inr ⟨u, by rw [upd_ne (ne_of h hp (by intro z; cases z))]; exact h⟩)
  · exact .inr h
theorem Same.updNew {H H' : Hp} {p : Addr} {o : HO} (s : Same H H') (h : H p = none) : Same H (upd H' p o) := fun b x e => by
  rw [upd_ne (ne_of_none e h)]
  exact s b x e
end
/-- a comprehension over anything that yields n things -/
theorem lc_any {J : It} {n : Nat} {g : TG} {tt : TT} {te : TE} {vs : List Nat} {σ : L2.St} {H1 : Hp} {D : Addr} {Qd : Hp → Prop} (Pv : Nat → Hp → Prop) (h0 : Pv 0 (upd H1 D (.lst []))) (hgo : ∀ i H, i < n → Pv i H → J.go i H) (hst : ∀ H, Pv n H → J.stop n H)
    (hs : ∀ i x H H', i < n → Pv i H → J.yld i H x H' → g x (wipe σ vs) H' fun σ2 H2 => wipe σ2 vs = wipe σ vs ∧ tt σ2 H2 fun b H3 =>
      if b = true then te σ2 H3 fun y H4 => ∃ acc, H4 D = some (.lst acc) ∧ acc.length < sizeLine ∧ Pv (i + 1) (upd H4 D (.lst (acc ++ [y]))) else Pv (i + 1) H3) (hd : ∀ H, Pv n H → Qd H) :
    ∃ W : Nat → Nat → Hp → Prop, (∃ m, W 0 m (upd H1 D (.lst []))) ∧ ∀ i m H, W i m H →
      (J.stop i H ∧ Qd H) ∨ (J.go i H ∧ ∃ Nx : Hp → Prop, (∀ H', Nx H' → ∃ m', m' < m ∧ W (i + 1) m' H') ∧ ∀ x H', J.yld i H x H' → g x (wipe σ vs) H' fun σ2 H2 => wipe σ2 vs = wipe σ vs ∧ tt σ2 H2 fun b H3 =>
        if b = true then te σ2 H3 fun y H4 => ∃ acc, H4 D = some (.lst acc) ∧ acc.length < sizeLine ∧ Nx (upd H4 D (.lst (acc ++ [y]))) else Nx H3) := by
  refine ⟨fun i m H => i + m = n ∧ Pv i H, ⟨n, Nat.zero_add n, h0⟩, ?_⟩
  rintro i m H ⟨e, p⟩
  by_cases c : i < n
  · exact .inr ⟨hgo i H c p, Pv (i + 1), fun H' q => ⟨m - 1, by omega, by omega, q⟩, fun x H' y => hs i x H H' c p y⟩
  · obtain rfl : i = n := by omega
    exact .inl ⟨hst H p, hd H p⟩
/-- a loop over anything that yields n things -/
theorem for_any {J : It} {n : Nat} {g : TG} {tb : TS} {D : Ends} {σ : L2.St} {H : Hp} (Pv : Nat → L2.St → Hp → Prop) (h0 : Pv 0 σ H) (hgo : ∀ i σ H, i < n → Pv i σ H → J.go i H) (hst : ∀ σ H, Pv n σ H → J.stop n H)
    (hs : ∀ i x σ H H', i < n → Pv i σ H → J.yld i H x H' → g x σ H' fun σ2 H2 => tb { D with nx := Pv (i + 1), ct := Pv (i + 1), bk := D.nx } σ2 H2) (hd : ∀ σ H, Pv n σ H → D.nx σ H) :
    ∃ W : Nat → Nat → L2.St → Hp → Prop, (∃ m, W 0 m σ H) ∧ ∀ i m σ H, W i m σ H →
      (J.stop i H ∧ D.nx σ H) ∨ (J.go i H ∧ ∃ N : L2.St → Hp → Prop, (∀ σ' H', N σ' H' → ∃ m', m' < m ∧ W (i + 1) m' σ' H') ∧ ∀ x H', J.yld i H x H' → g x σ H' fun σ2 H2 => tb { D with nx := N, ct := N, bk := D.nx } σ2 H2) := by
  refine ⟨fun i m σ H => i + m = n ∧ Pv i σ H, ⟨n, Nat.zero_add n, h0⟩, ?_⟩
  rintro i m σ H ⟨e, p⟩
  by_cases c : i < n
  · exact .inr ⟨hgo i σ H c p, Pv (i + 1), fun σ' H' q => ⟨m - 1, by omega, by omega, q⟩, fun x H' y => hs i x σ H H' c p y⟩
  · obtain rfl : i = n := by omega
    exact .inl ⟨hst σ H p, hd σ H p⟩
theorem cut_drop (xs : List V) (j : Nat) : cutV xs (some (j : Int)) none = xs.drop j := by
  unfold cutV
  rw [HT.sIx_none, HT.sIx_nat]
  by_cases h : j ≤ xs.length
  · rw [Nat.min_eq_left h, List.take_of_length_le (by rw [List.length_drop]; omega)]
  · rw [Nat.min_eq_right (by omega), Nat.sub_self, List.take_zero, List.drop_eq_nil_of_le (by omega)]
/-- t[j:] -/
theorem slice_from {K : PySem.W.Frag} {H : Hp} {a : Addr} {xs : List V} {j : Nat} {Q : VK} (h : SqT K H a xs) (q : ∀ p H', SqT K H' p (xs.drop j) → Same H H' → (p = a ∨ H p = none) → Q (.ref p) H') : rSlA K (.ref a) (some (j : Int)) none H Q := by
  refine ⟨a, xs, rfl, h, fun hw => q a H ?_ (Same.refl H) (.inl rfl), fun _ p hp => q p _ ?_ (same_upd hp) (.inr hp)⟩
  · have e := hw.1
    rw [HT.sIx_nat] at e
    by_cases c : xs.length = 0
    · have : xs = [] := List.length_eq_zero_iff.mp c
      subst this
      rw [List.drop_nil]
      exact h
    · obtain rfl : j = 0 := by omega
      exact h
  · rw [cut_drop]
    exact SqT.of upd_same
/-- the heap without a -/
def wo (H : Hp) (a : Addr) : Hp := fun b => if b = a then none else H b
theorem wo_ne {H : Hp} {a b : Addr} (h : b ≠ a) : wo H a b = H b := if_neg h
theorem wo_same {H : Hp} {a : Addr} : wo H a a = none := if_pos rfl
theorem wo_le {H : Hp} {a : Addr} : Same (wo H a) H := fun b o e => by
  by_cases h : b = a
  · rw [h, wo_same] at e
    cases e
  · rw [wo_ne h] at e
    exact e
theorem wo_same_of {H H' : Hp} {a : Addr} (s : Same H H') : Same (wo H a) (wo H' a) := fun b o e => by
  by_cases h : b = a
  · rw [h, wo_same] at e
    cases e
  · rw [wo_ne h] at e ⊢
    exact s b o e
theorem wo_upd {H : Hp} {a : Addr} {o : HO} : wo (upd H a o) a = wo H a := by
  funext b
  by_cases h : b = a
  · rw [h, wo_same, wo_same]
  · rw [wo_ne h, wo_ne h, upd_ne h]
theorem wo_at {H : Hp} {a b : Addr} {o : HO} (h : H b = some o) (n : b ≠ a) : wo H a b = some o := by rw [wo_ne n]; exact h
/-- the law's pot: three numbers, the last one below a bound that grows -/
def Pot (H : Hp) (p : Addr) (n : Nat) : Prop := ∃ a b c : Int, H p = some (.lst [.int a, .int b, .int c]) ∧ 0 ≤ b ∧ b < 2305843009213693951 ∧ 0 ≤ c ∧ c ≤ n
theorem Pot.same {H H' : Hp} {p : Addr} {n : Nat} (h : Pot H p n) (s : Same H H') : Pot H' p n := by
  obtain ⟨a, b, c, e, r⟩ := h
  exact ⟨a, b, c, s _ _ e, r⟩
theorem Pot.mono {H : Hp} {p : Addr} {n m : Nat} (h : Pot H p n) (l : n ≤ m) : Pot H p m := by
  obtain ⟨a, b, c, e, r1, r2, r3, r4⟩ := h
  exact ⟨a, b, c, e, r1, r2, r3, by omega⟩
theorem op_powB {X : Cx} : OpR X (binaryOp .Pow) (rI (fun i j => 0 ≤ j ∧ (Builtin.Int.intBits i : Int) * j ≤ 2 ^ 27) fun i j => .int (i ^ j.toNat)) := opI fun i j t u Q s _ hc q => pow_int hc.1 hc.2 q
theorem Pot.ne {H : Hp} {p c : Addr} {n : Nat} (h : Pot H p n) (nc : H c = none) : c ≠ p := fun z => by
  obtain ⟨a, b, d, e, _⟩ := h
  rw [z, e] at nc
  cases nc
theorem Pot.upd {H : Hp} {p c : Addr} {n : Nat} {o : HO} (h : Pot H p n) (ne : c ≠ p) : Pot (upd H c o) p n := by
  obtain ⟨a, b, d, e, r⟩ := h
  exact ⟨a, b, d, by rw [upd_ne ne.symm]; exact e, r⟩
theorem Dk.tyx {K : PySem.W.Frag} {H : Hp} {v : V} {d : PyData} (h : Dk K H v d) : TyX K H v (.type (tyName d)) := by
  cases h with
  | dp h =>
    cases h with
    | non => exact .base .non
    | bl b => exact .base (.bl b)
    | int i => exact .base (.int i)
    | str x => exact .base (.str x)
    | lst hs _ =>
      rcases hs with (e | ⟨o, e⟩) | ⟨o, its, n, e, c, _⟩
      · exact .base (.lst e)
      · exact .base (.frz e)
      · exact .kList e c
    | tup hs _ =>
      rcases hs with (e | ⟨o, e⟩) | ⟨o, its, n, e, c, _⟩
      · exact .base (.tup e)
      · exact .fTuple e
      · exact .kTuple e c
  | d0 h => exact .base (.dK h)
  | d1 h => exact .base (.dK h)
theorem inV_strs (x : Str) : ∀ l : List Str, inV (.str x) (l.map V.str) = decide (x ∈ l)
  | [] => rfl
  | y :: l => by
    have ih := inV_strs x l
    unfold inV at ih ⊢
    rw [List.map_cons, List.any_cons, ih]
    show ((y == x) || _) = _
    by_cases h : y = x
    · subst h
      simp
    · have h' : ¬ x = y := fun z => h z.symm
      simp [h, h']
theorem flat_strs (l : List Str) : (l.map V.str).all flatV = true := by
  induction l with
  | nil => rfl
  | cons a l ih =>
    rw [List.map_cons, List.all_cons, ih]
    rfl
/-- list.index of a text -/
theorem index_read {K : PySem.W.Frag} {H : Hp} {a : Addr} {l : List Str} {x : Str} {Q : VK} (h : SqL K H a (l.map V.str)) (hx : x ∈ l) (q : Q (.int (l.idxOf x : Nat)) H) : rIndex K (.ref a) [.str x] H Q := by
  have hlt : l.idxOf x < l.length := List.idxOf_lt_length_of_mem hx
  refine ⟨a, l.map V.str, .str x, l.idxOf x, .str x, rfl, rfl, h, rfl, flat_strs l, ?_, by simp [eqV], fun m z hm hz => ?_, q⟩
  · rw [List.getElem?_map, List.getElem?_eq_getElem hlt, List.getElem_idxOf hlt]
    rfl
  · rw [List.getElem?_map] at hz
    cases e : l[m]? with
    | none => rw [e] at hz; cases hz
    | some y =>
      rw [e] at hz
      have hz : V.str y = z := Option.some.inj hz
      subst hz
      show (y == x) = false
      have hne : y ≠ x := fun c => by
        subst c
        have hml : m < l.length := (List.getElem?_eq_some_iff.mp e).1
        have := List.not_of_lt_findIdx (xs := l) (p := (· == y)) (show m < l.findIdx (· == y) from hm)
        have e2 := (List.getElem?_eq_some_iff.mp e).2
        rw [e2] at this
        simp at this
      exact beq_eq_false_iff_ne.mpr hne
theorem wo_updNew {H H' : Hp} {p q : Addr} {o : HO} (s : Same (wo H p) (wo H' p)) (h : H q = none) : Same (wo H p) (wo (upd H' q o) p) := fun b x e => by
  have hb : b ≠ p := fun z => by rw [z, wo_same] at e; cases e
  have hq : b ≠ q := fun z => by rw [wo_ne hb, z, h] at e; cases e
  have := s b x e
  rw [wo_ne hb] at this ⊢
  rw [upd_ne hq]
  exact this
/-- what stands in the written part of an error's class -/
structure ErrC (K : PySem.W.Frag) (C fI : Addr) : Prop where
  oex : OexC K C
  iC : PySem.W.findIn K (.ref C) "__init__" = some (some (.ref fI))
  tI : PySem.W.typeIn K (.ref fI) = some (.type "function")
  noV : PySem.W.findIn K (.ref C) "value" = some none
section
variable {P : Program} {w : World} {K : PySem.W.Frag} {mg : Str → Option Value} {base : Heap}
def spInit (K : PySem.W.Frag) : Sp := fun vs H Q _ => ∃ (a C : Addr) (v : V), vs = [.ref a, v] ∧ H a = some (exo a C none) ∧ OexC K C ∧ PySem.W.findIn K (.ref C) "value" = some none ∧
  ∀ dx, H dx = none → dx ≠ a → Q .non (upd (upd H dx (exd dx [("value", v)])) a (exo a C (some dx)))
/-- the heap behind a made error: its own dict is new, nothing else -/
theorem err_heap {H : Hp} {a d C : Addr} {v : V} (ha : H a = none) (hne : d ≠ a) :
    upd (del (upd (upd (upd H a (exo a C none)) d (exd d [("value", v)])) a (exo a C (some d))) a) d (.xd [("value", v)]) = upd H d (.xd [("value", v)]) := by
  funext b
  by_cases hb : b = d
  · rw [hb, upd_same, upd_same]
  · rw [upd_ne hb, upd_ne hb]
    by_cases hc : b = a
    · rw [hc, del_same, ha]
    · rw [del_ne hc, upd_ne hc, upd_ne hb, upd_ne hc]
/-- what the making of C(v) asks -/
def Need (K : PySem.W.Frag) (C : Addr) (v : V) (H1 : Hp) (Q : XK) : Prop := [v].length ≤ 1000 ∧ ∀ a, H1 a = none → spInit K (.ref a :: ([v] ++ [])) (upd H1 a (exo a C none))
  (fun u H2 => u = .non ∧ ∃ (d : Addr) (fs : List (Str × V)), H2 a = some (exo a C (some d)) ∧ H2 d = some (exd d fs) ∧ H1 d = none ∧ Q (.ref C) (some d) (upd (del H2 a) d (.xd fs))) (fun _ _ _ => False)
theorem need_ok {C fI : Addr} {v : V} {H1 : Hp} {Q : XK} (T : ErrC K C fI) (h : ∀ d, H1 d = none → Q (.ref C) (some d) (upd H1 d (.xd [("value", v)]))) : Need K C v H1 Q := by
  refine ⟨by simp, fun a ha => ⟨a, C, v, rfl, upd_same, T.oex, T.noV, fun dx n ne => ⟨rfl, dx, [("value", v)], upd_same, ?_, ?_, ?_⟩⟩⟩
  · rw [upd_ne ne, upd_same]
  · rw [upd_ne ne] at n
    exact n
  · rw [upd_ne ne] at n
    rw [err_heap ha ne]
    exact h dx n
/-- raise C(e) -/
def tErr (K : PySem.W.Frag) (C : Addr) (W : WX) (te : TE) : TS := fun _ σ H => te σ H fun v H1 => Need K C v H1 fun cls d H' => W cls d σ H'
end
/-- the exception at a: of the class C, its fields in the dict at d -/
def ErrO (C d a : Addr) : HO := .ext fun h => ∃ (oe : Obj) (fv : Array Value), h.get? a = some oe ∧ Zc (.ref C) (some d) oe ∧ oe.data = .fields fv
theorem errO_ok {P : Program} {w : World} {H : Hp} {h : Heap} {a C d : Addr} {oe : Obj} {fv : Array Value} (e : h.get? a = some oe) (z : Zc (.ref C) (some d) oe) (f : oe.data = .fields fv) : ObjOk P w H h a (ErrO C d a) :=
  ⟨⟨oe, fv, e, z, f⟩, ⟨oe, e⟩, fun _ _ ⟨o1, f1, e1, r1⟩ k => ⟨o1, f1, k _ e1, r1⟩⟩
section
variable {X : Cx} {pins : List (Addr × Obj)} {σ : L2.St} {H : Hp} {s : Shared}
theorem err_get {a C d : Addr} (I : Inv X pins σ H s) (ha : H a = some (ErrO C d a)) : ∃ (oe : Obj) (fv : Array Value), s.heap.get? a = some oe ∧ Zc (.ref C) (some d) oe ∧ oe.data = .fields fv := (I.hok a _ ha).1
/-- from now on a is known -/
theorem track {a : Addr} {o : HO} (I : Inv X pins σ H s) (na : H a = none) (new : ∀ b ob, X.s_0.heap.get? b = some ob → X.H_0 b = none → b ∉ X.ex → b ≠ a) (nl : X.env.locals ≠ a) (nc : ∀ x c, X.env.cells.lookup x = some c → c ≠ a)
    (np : ∀ p ∈ X.pn ++ pins, p.1 ≠ a) (ok : ObjOk X.prog X.w (upd H a o) s.heap a o) : Inv X pins σ (upd H a o) s where
  ok := I.ok
  os := I.os
  bare := I.bare
  base := ⟨I.base.keep, I.base.slot, fun b ob e n hx => by rw [upd_ne (new b ob e n hx)]; exact I.base.free b ob e n hx, I.base.there, fun b xs e => by rw [upd_ne (ne_of_none (I.base.tups b xs e) na)]; exact I.base.tups b xs e,
    fun b ob u e => by rw [upd_ne (ne_of_none (I.base.frzs b ob u e) na)]; exact I.base.frzs b ob u e, fun b ps e => by
      obtain ⟨more, q⟩ := I.base.tbls b ps e
      exact ⟨more, by rw [upd_ne (ne_of_none q na)]; exact q⟩⟩
  loc := I.loc
  cell := I.cell
  free := by rw [upd_ne nl]; exact I.free
  freeC := fun x c e => by rw [upd_ne (nc x c e)]; exact I.freeC x c e
  pin := fun p hp => by
    obtain ⟨e1, e2, e3⟩ := I.pin p hp
    exact ⟨e1, by rw [upd_ne (np p hp)]; exact e2, e3⟩
  hok := I.hok.laidN (fun _ _ e => e) na ok
  len := I.len
/-- what 'except x as n: suite' makes of an exception of its own class: the caught one is known behind it -/
def wHeard (K : PySem.W.Frag) (c : Value) (i : Nat) (ts : Addr → Value → Option Addr → TS) (D : Ends) : WX := fun cls d σ H =>
  PySem.W.exmOne K cls c = some true ∧ ∃ (C dd : Addr), cls = .ref C ∧ d = some dd ∧ ∀ a, H a = none → ts a cls d { nx := fun σ' H' => H' a = none → D.nx (σ'.set i none) (upd H' a (ErrO C dd a)), rt := fun _ _ => False } (σ.set i (some (.ref a))) H
variable {x n : Str} {c : Value} {i : Nat} {body suite : List Stmt} {b₀ : Stmt} {np pos pos' : Pos} {tb : WX → TS} {ts : Addr → Value → Option Addr → TS}
theorem ps_heard (hs : X.stack = X.env :: X.outer) (hf : X.env.frame = some X.env.locals) (hN : X.N.Nodup) (hi : X.N[i]? = some n) (hln : X.env.kindOf n = some .local) (hc : Names X x c)
    (hb : ∀ (Wn : WX) (qn : List (Addr × Obj)) (xe : Value → Shared → Prop), Takes (X.tr qn xe) Wn → PassesOwn (model X.prog X.w) X.A X.env xe → PSs (X.tr qn xe) body (tb Wn))
    (hsu : ∀ (a : Addr) (oe : Obj) (cls : Value) (d : Option Addr) (qn : List (Addr × Obj)), Zc cls d oe → (∃ vs, oe.data = .fields vs) → PSs (X.suite a ((a, oe) :: qn)) (b₀ :: suite) (ts a cls d)) :
    PS X (.Try body [.ExceptHandler (some (.Name x np)) (some n) (b₀ :: suite) pos'] [] [] pos) (fun Dn σ H => tb (wHeard X.K c i ts Dn) Dn σ H) := by
  refine ⟨fun pins s σ H Dn I h => wpAny_Try_except ?_⟩
  have ok := I.ok
  have frames : X.A.frames = some (X.env :: X.outer) := by rw [ok.frames, hs]
  refine wpAny_mono ((hb (wHeard X.K c i ts Dn) (X.pn ++ pins) (fun e s₁ => wpAny (model X.prog X.w) X.A (noteFrame e X.env) (fun _ s₂ => wpAny (model X.prog X.w) X.A (setFlight e none) (fun _ s₃ =>
    wpAny (model X.prog X.w) X.A (handleBy e X.env [.ExceptHandler (some (.Name x np)) (some n) (b₀ :: suite) pos']) (SP X pins Dn) X.xe s₃) X.xe s₂) X.xe s₁) (fun u s' xx => ?_) PassesOwn.looking).run [] s σ H Dn (I.toTry _) h) (fun f s1 res => ?_) (fun e s1 he => he)
  · obtain ⟨a, B, s0E, pins', σ', H', cls, d, rfl, J', keeps_, grow, air, naa, osE, bareE, yes, C, dd, rfl, rfl, wish⟩ := xx
    have I0E : Inv X pins σ' H' s0E := J'.ofTry ok
    rw [show (X.tr (X.pn ++ pins) _).stack = X.env :: X.outer from hs] at air
    show wpAny (model X.prog X.w) X.A (noteFrame (.ref a) X.env) _ _ _
    refine Sky.land Zc.steady frames hf air fun hA fly3 more3 => ?_
    have Ba : B.get? a = none := fly3.2.1
    have IA : Inv X pins σ' H' { s' with heap := hA } := I0E.landed keeps_ fly3.1 (grow.trans more3) osE bareE
    obtain ⟨ob3, fv3, at3, zc3, dt3⟩ := fly3.there
    have ne0 : a ∉ frs (X.env :: X.outer) := fun hm => by
      obtain ⟨_, o', e', hnf⟩ := fly3.2.2.1.mem hm
      rw [at3] at e'; cases e'; exact hnf _ dt3
    have ne1 : a ≠ X.env.locals := fun z => ne0 (List.mem_filterMap.mpr ⟨X.env, List.mem_cons_self, by rw [hf, z]⟩)
    have ne2 : a ∉ X.fs := fun hm => by
      obtain ⟨e, he, q⟩ := List.mem_filterMap.mp hm
      exact ne0 (List.mem_filterMap.mpr ⟨e, List.mem_cons_of_mem _ he, q⟩)
    have noA : s0E.heap.get? a = none := by
      cases q : s0E.heap.get? a with
      | none => rfl
      | some o => exact absurd ((keeps_ a o q (by rw [hs]; exact ne0)).symm.trans Ba) (fun z => nomatch z)
    have newA : ∀ b ob, X.s_0.heap.get? b = some ob → X.H_0 b = none → b ∉ X.ex → b ≠ a := fun b ob e _ hx z => by
      obtain ⟨o', q⟩ := I0E.base.there b ob e hx
      rw [z, noA] at q; cases q
    have npA : ∀ p ∈ X.pn ++ pins, p.1 ≠ a := fun p hp z => by
      have q := (I0E.pin p hp).1
      rw [z, noA] at q; cases q
    have SA := IA.suite at3 dt3 naa ne1 ne2
    refine wpAny_handleBy_cons (codeAny_handlers_test ?_) (by intro q; cases q)
    have looks : PySem.W.Looks (model X.prog X.w) hA (typeOf (.ref a)) (.ref C) := fun A Q E s k q => wpAny_typeOf_ref (k _ _ at3) (by rw [zc3.1]; exact q)
    have meets_ := PySem.W.exm_one (M := model X.prog X.w) (IA.kIn) looks yes
    have tst : ∀ {Q : Value → Shared → Prop} {E : Value → Shared → Prop}, Q c { s' with heap := hA } → wpAny (model X.prog X.w) (X.A.mark (some (.ref a))) (eval (.Name x np) X.env) Q E { s' with heap := hA } := fun {Q E} q => by
      obtain ⟨g1, g2, g3 | ⟨g3, g4, g5⟩⟩ := hc
      · exact ld_glob (X := X.suite a ((a, ob3) :: (X.pn ++ pins))) SA g1 g3 q g2
      · exact ld_blt (X := X.suite a ((a, ob3) :: (X.pn ++ pins))) SA g1 g3 g4 q g5 g2
    refine tst (meets_.here (codeAny_handlers_suite_as (HandSPX.lands_againZ fly3 fun hB_ fly4 more4 => ?_)))
    have IB : Inv X pins σ' H' { s' with heap := hB_ } := I0E.landed keeps_ fly4.1 ((grow.trans more3).trans more4) osE bareE
    obtain ⟨ob4, fv4, at4, zc4, dt4⟩ := fly4.there
    refine store_ok (X := X.suite a ((a, ob4) :: (X.pn ++ pins))) (v := .ref a) (IB.suite at4 dt4 naa ne1 ne2) hN hi (.inl hln) rfl (fun sB SB => ?_) (.inr hln)
    refine wpAny_mono ((hsu a ob4 (.ref C) (some dd) (X.pn ++ pins) zc4 ⟨_, dt4⟩).run [] sB _ H' _ SB (wish a naa)) (fun f sC res => ?_) (fun _ _ z => False.elim z)
    cases f with
    | next =>
      obtain ⟨σ6, HC, SC, qC⟩ := res
      obtain ⟨p1, p2, p3, p4, p5⟩ := SC.pin (a, ob4) (List.mem_append_left _ List.mem_cons_self)
      have IC : Inv X pins σ6 HC sC := SC.unsuite ok
      have ID : Inv X pins σ6 (upd HC a (ErrO C dd a)) sC := track IC p2 newA ne1.symm (fun y c' e z => by
        obtain ⟨v, o, ho, hd⟩ := IC.cell y c' e
        rw [z, p1] at ho; cases ho; exact p5 _ hd) npA (errO_ok p1 zc4 dt4)
      exact gone_ok ID hN hi hln fun sE IE => ⟨_, _, IE, qC p2⟩
    | brk =>
      obtain ⟨_, _, _, qC⟩ := res
      exact qC.elim
    | cont =>
      obtain ⟨_, _, _, qC⟩ := res
      exact qC.elim
    | ret u =>
      obtain ⟨_, _, _, _, _, qC⟩ := res
      exact qC.elim
  · cases f with
    | next =>
      obtain ⟨σ', H', J', q⟩ := res
      exact wpAny_execs_nil ⟨σ', H', J'.ofTry ok, q⟩
    | brk => obtain ⟨σ', H', J', q⟩ := res; exact ⟨σ', H', J'.ofTry ok, q⟩
    | cont => obtain ⟨σ', H', J', q⟩ := res; exact ⟨σ', H', J'.ofTry ok, q⟩
    | ret u => obtain ⟨v, σ', H', J', r, q⟩ := res; exact ⟨v, σ', H', J'.ofTry ok, r, q⟩
/-- isinstance(e, C), e of the very class C -/
def rIsErr : List V → Hp → VK → Prop := fun xs H Q => ∃ (a C d : Addr), xs = [.ref a, .ref C] ∧ H a = some (ErrO C d a) ∧ Q (.bl true) H
theorem err_ans {a C : Addr} : Answers (fun s => ∃ oe, s.heap.get? a = some oe ∧ oe.cls = .ref C) (.ref a) (.ref C) true := by
  intro dep tk prog w A R s hs
  obtain ⟨⟨oe, he, hcl⟩, hq⟩ := hs
  unfold Builtin.«isinstance.nested»
  refine wpAny_bind (wpAny_typeOf_ref he ?_)
  rw [hcl, if_pos (beq_self_eq_true (Value.ref C))]
  first
    | exact wpAny_bind (wpAny_rule (wpAny_pure (hq _)))
    | exact wpAny_bind (wpAny_rule (hq _))
theorem call_isErr : CallR X (.builtin "isinstance") rIsErr := by
  intro pp s σ H xs vus Q I r h
  obtain ⟨a, C, d, rfl, ha, q⟩ := h
  obtain ⟨oe, fv, he, hz, hf⟩ := err_get I ha
  obtain ⟨u1, u2, rfl, r1, r2⟩ : ∃ u1 u2, vus = [u1, u2] ∧ RelV (.ref a) u1 ∧ RelV (.ref C) u2 := by
    cases r with
    | cons r rr => cases rr with | cons r' rr => cases rr; exact ⟨_, _, rfl, r, r'⟩
  cases r1; cases r2
  exact call_isinstance (S := fun _ R s => (∃ oe, s.heap.get? a = some oe ∧ oe.cls = .ref C) ∧ ∀ tk, R (.ok (.ret (.bool true))) { s with toks := tk })
    (fun prog w A R s hs => isinstance_outer (err_ans 0 _ prog w A R s hs) (fun z => nomatch z)) ⟨⟨oe, he, hz.1⟩, fun tk => ⟨.bl true, H, I.kept (t' := tk) fun _ _ z => z, rfl, q⟩⟩
/-- e.f, e a caught exception of an own class -/
def tErrF (K : PySem.W.Frag) (f : Str) (te : TE) : TE := fun σ H Q => te σ H fun x H1 => ∃ (a C d : Addr) (fs : List (Str × V)) (v : V), x = .ref a ∧ H1 a = some (ErrO C d a) ∧ XfC K C ∧ PySem.W.findIn K (.ref C) f = some none ∧ H1 d = some (.xd fs) ∧ fs.lookup f = some v ∧ Q v H1
theorem pe_errF {e : Expr} {te : TE} {pos : Pos} {f : Str} (he : PE X e te) (hb : attributeBase e f X.env (eval e X.env) = eval e X.env := by rfl) : PE X (.Attribute e f pos) (tErrF X.K f te) := by
  refine ⟨fun pp s σ H Q I h => attr_of hb (thn (he.run pp s σ H _ I h) fun u s1 hh => ?_)⟩
  obtain ⟨y, H1, I1, rxu, a, C, d, fs, v, rfl, ha, T, hno, hd, l, q⟩ := hh
  obtain rfl : u = Value.ref a := rxu
  obtain ⟨oe, fv, h1, hz, hfv⟩ := err_get I1 ha
  obtain ⟨mA, nsd, hr⟩ := (show ObjOk X.prog X.w H1 s1.heap d (.xd fs) from I1.hok d _ hd)
  obtain ⟨odd_, look_, lkd⟩ := lookIn_ns nsd
  obtain ⟨u2, atu, rvu⟩ := RelO.some_of (v := v) (o := mA f) (by rw [← l]; exact hr f)
  have J : PySem.W.InstAt s1.heap a oe C (some odd_) := ⟨h1, hz.1, by unfold PySem.W.notCls; rw [hfv] <;> rfl, by rw [hz.2]; exact look_⟩
  exact HandSPX.exc_get I1.kIn J T.ga T.gg T.exC (PySem.W.findObj_own T.hdC hno rfl (by rw [lkd, atu])) (handed_of rvu) ⟨v, H1, I1.tok _, rvu, q⟩
end
/-- a lambda's text -/
structure LamD where
  params : Arguments
  body : Expr
  scope : Scope
/-- the lambda at f: made in X -/
def LamO (X : Cx) (D : LamD) (f c' : Addr) : HO := .ext fun h => ∃ pm ctv : Value, h.get? f = some (PySem.W.kla_obj "<lambda>" (X.env.qual ++ "<lambda>") D.params D.body D.scope (cloFrom X.env.cells D.scope.names []) pm c' ctv)
/-- a known lambda and its code -/
def IsLam (X : Cx) (D : LamD) (f : Addr) (H : Hp) : Prop := ∃ c', H f = some (LamO X D f c') ∧ H c' = some (CodeO c' (X.env.qual ++ "<lambda>"))
theorem IsLam.ext {X : Cx} {D : LamD} {f : Addr} {H H' : Hp} (h : IsLam X D f H) (e : ExtN H H') : IsLam X D f H' := by
  obtain ⟨c', h1, h2⟩ := h
  exact ⟨c', e _ _ h1 (fun ps z => by unfold LamO at z; cases z), e _ _ h2 codeO_ne⟩
section
variable {X : Cx} {pins : List (Addr × Obj)} {σ : L2.St} {H : Hp} {s : Shared}
theorem lamO_ok {P : Program} {w : World} {H : Hp} {h : Heap} {D : LamD} {f c' : Addr} {pm ctv : Value} (e : h.get? f = some (PySem.W.kla_obj "<lambda>" (X.env.qual ++ "<lambda>") D.params D.body D.scope (cloFrom X.env.cells D.scope.names []) pm c' ctv)) : ObjOk P w H h f (LamO X D f c') :=
  ⟨⟨pm, ctv, e⟩, ⟨_, e⟩, fun _ _ ⟨a, b, e1⟩ k => ⟨a, b, k _ e1⟩⟩
/-- what the making asks: the maker's code object and table, the tables at hand -/
structure LamM (X : Cx) (T : List (Addr × Str)) (c P : Addr) : Prop where
  tb : TabB X.base X.mg c P
  code : X.env.code = .ref c
  mem : (P, X.env.qual ++ "<lambda>") ∈ T
  one : ∀ p ∈ T, p.1 = P → p.2 = X.env.qual ++ "<lambda>"
def tLamE (X : Cx) (T : List (Addr × Str)) (D : LamD) : TE := fun σ H Q => Tabs T H ∧ ∀ f H1, ExtN H H1 → Tabs T H1 → IsLam X D f H1 → H f = none → Q (.ref f) H1
theorem pe_lam {T : List (Addr × Str)} {c P : Addr} {params : Arguments} {body : Expr} {scope : Scope} {pos : Pos} (M : LamM X T c P) (L : LamS X.env.scope scope) (hdef : defaultsOf params X.env = ([], [])) : PE X (.Lambda params body scope pos) (tLamE X T ⟨params, body, scope⟩) := by
  refine ⟨fun pins s σ H Q I ⟨hT, q⟩ => ?_⟩
  obtain ⟨tbl, tblP, tri, all⟩ := hT _ M.mem
  have hP' : s.heap.get? P = some { cls := .none, data := .fields tbl } := I.hok P _ tblP
  have hcl := closure_ok (L.has I.ok)
  refine PySem.W.kla_eval hdef ?_
  cases hca : codeAmong pos tbl.toList with
  | some cv =>
    obtain ⟨c', rfl, hco⟩ := all pos cv hca
    refine PySem.W.kla_makeFunctionHit (mg := X.mg) (c := c) (P := P) (ps := tbl) hcl I.ok.glob (I.mod.glob.keeps I.bk) M.code (M.tb.code.keeps I.bk) hP' tri hca (M.tb.bm.keeps I.bk) fun ctv h' tk kept_ szle => ?_
    have I1 : Inv X pins σ H { s with heap := h', toks := tk } := I.kept kept_
    have nf : H h'.objs.size = none := I.hok.fresh szle
    have I2 := I1.laid (t' := tk) (o := LamO X ⟨params, body, scope⟩ h'.objs.size c') (h' := h'.push (PySem.W.kla_obj "<lambda>" (X.env.qual ++ "<lambda>") params body scope (cloFrom X.env.cells scope.names []) ((X.mg "__name__").getD .none) c' ctv)) (fun b o e => Heap.get?_push_of_some _ e) (Nat.le_refl _) (lamO_ok (D := ⟨params, body, scope⟩) (Heap.get?_push_size _ rfl))
    have e : ExtN H (upd H h'.objs.size (LamO X ⟨params, body, scope⟩ h'.objs.size c')) := fun b o z _ => by rw [upd_ne (ne_of_none z nf)]; exact z
    exact ⟨.ref h'.objs.size, _, I2, rfl, q _ _ e (hT.ext fun b o z => by rw [upd_ne (ne_of_none z nf)]; exact z) ⟨c', upd_same, e _ _ hco codeO_ne⟩ nf⟩
  | none =>
    refine PySem.W.kla_makeFunction (mg := X.mg) (c := c) (P := P) (ps := tbl) hcl I.ok.glob (I.mod.glob.keeps I.bk) M.code (M.tb.code.keeps I.bk) hP' tri hca M.tb.gP (M.tb.bm.keeps I.bk) fun c' ctv h' tk kept_ gec ltc rec_ htb => ?_
    obtain ⟨c2, oco, flds, t, ecode, hoc, dat, nmq⟩ := rec_
    cases ecode
    have szle : s.heap.objs.size ≤ h'.objs.size := Nat.le_trans gec (Nat.le_of_lt ltc)
    have nn : H c' = none := I.hok.fresh gec
    have I1 := inv_table (t' := tk) (more := #[rawInt pos.line, rawInt pos.col, .ref c']) (h' := h') I tblP (fun b o hb e => kept_ b o hb e) htb gec ⟨oco, flds, t, hoc, dat, nmq⟩
    have nP : h'.objs.size ≠ P := Nat.ne_of_gt (Nat.lt_of_lt_of_le (Heap.lt_size hP') szle)
    have nf0 : H h'.objs.size = none := I.hok.fresh szle
    have nf : upd (upd H P (.tbl (tbl ++ #[rawInt pos.line, rawInt pos.col, .ref c']))) c' (CodeO c' (X.env.qual ++ "<lambda>")) h'.objs.size = none := by rw [upd_ne (Nat.ne_of_gt ltc), upd_ne nP]; exact nf0
    have I2 := I1.laid (t' := tk) (o := LamO X ⟨params, body, scope⟩ h'.objs.size c') (h' := h'.push (PySem.W.kla_obj "<lambda>" (X.env.qual ++ "<lambda>") params body scope (cloFrom X.env.cells scope.names []) ((X.mg "__name__").getD .none) c' ctv)) (fun b o e => Heap.get?_push_of_some _ e) (Nat.le_refl _) (lamO_ok (D := ⟨params, body, scope⟩) (Heap.get?_push_size _ rfl))
    have e1 : ExtN H (upd (upd H P (.tbl (tbl ++ #[rawInt pos.line, rawInt pos.col, .ref c']))) c' (CodeO c' (X.env.qual ++ "<lambda>"))) := fun b o e n => by
      rw [upd_ne (ne_of_none e nn), upd_ne (fun z => n tbl (Option.some.inj (e.symm.trans (by rw [z]; exact tblP))))]
      exact e
    have T1 : Tabs T (upd (upd H P (.tbl (tbl ++ #[rawInt pos.line, rawInt pos.col, .ref c']))) c' (CodeO c' (X.env.qual ++ "<lambda>"))) := fun p hp => by
      have lst_ : (tbl ++ #[rawInt pos.line, rawInt pos.col, .ref c']).toList = tbl.toList ++ [rawInt pos.line, rawInt pos.col, .ref c'] := by simp
      by_cases hb : p.1 = P
      · rw [M.one p hp hb, hb]
        refine ⟨_, by rw [upd_ne (ne_of_none tblP nn), upd_same], by rw [lst_]; exact PySem.TriplesOk_snoc _ _ _ _ tri, fun p' cv hcv => ?_⟩
        rcases among_app _ tri (lst_ ▸ hcv) with z | z
        · obtain ⟨c0, a1, a2⟩ := all p' cv z
          exact ⟨c0, a1, e1 _ _ a2 codeO_ne⟩
        · exact ⟨c', z, upd_same⟩
      · obtain ⟨ps', a1, a2, a3⟩ := hT p hp
        refine ⟨ps', by rw [upd_ne (ne_of_none a1 nn), upd_ne hb]; exact a1, a2, fun p' cv hcv => ?_⟩
        obtain ⟨c0, b1, b2⟩ := a3 p' cv hcv
        exact ⟨c0, b1, e1 _ _ b2 codeO_ne⟩
    have keep : ∀ b o, upd (upd H P (.tbl (tbl ++ #[rawInt pos.line, rawInt pos.col, .ref c']))) c' (CodeO c' (X.env.qual ++ "<lambda>")) b = some o → upd (upd (upd H P (.tbl (tbl ++ #[rawInt pos.line, rawInt pos.col, .ref c']))) c' (CodeO c' (X.env.qual ++ "<lambda>"))) h'.objs.size (LamO X ⟨params, body, scope⟩ h'.objs.size c') b = some o := fun b o z => by
      rw [upd_ne (ne_of_none z nf)]; exact z
    exact ⟨.ref h'.objs.size, _, I2, rfl, q _ _ (e1.trans (ExtN.of keep)) (T1.ext keep) ⟨c', upd_same, keep _ _ upd_same⟩ nf0⟩
variable {HZ : Hp} {s1 : Shared}
/-- x(), in the def that got a known lambda: entered at s, X as it stood -/
theorem pe_actT {Ng : List Str} {qg : Str} {sg : Scope} {g f : Addr} {cdg : Value} {D : LamD} {CXg : CXT} {Eg : XK} {k i : Nat} {a : Str} {pn : List (Addr × Obj)} {xe : Value → Shared → Prop} {W : WX} {tb : XK → TE} {pp1 pp2 : Pos}
    (I : Inv X pins σ H s) (L : LamS X.env.scope D.scope) (hbind : ∀ (pm cv ctv : Value), bindArgs (PySem.W.kla_fn "<lambda>" (X.env.qual ++ "<lambda>") D.params D.body D.scope (cloFrom X.env.cells D.scope.names []) pm cv ctv) ⟨[], []⟩ = pure [])
    (tk : Takes ((cxOf CXg X.prog X.w X.K X.mg X.base Ng qg sg g cdg X.A X.stack s H Eg).tr pn xe) W) (hr : Room (k + 1) (X.A.deeper (envOfC qg sg s.heap.objs.size g cdg)))
    (hbody : ∀ (A : Around) (outer : List Env) (s : Shared) (H : Hp) (E : XK) (c' : Addr), Room k (A.deeper (lamEnv X D.scope s.heap.objs.size f c')) → PE (lamCx X A outer s H E D.scope f c') D.body (tb E))
    (hNg : Ng[i]? = some a) (hvis : Vis sg a) (dbg : (a == ("__debug__" : Str)) = false := by decide) (cdc : (a == ("__classdict__" : Str)) = false := by decide) :
    PE ((cxOf CXg X.prog X.w X.K X.mg X.base Ng qg sg g cdg X.A X.stack s H Eg).tr pn xe) (.Call (.Name a pp1) [] [] pp2)
      (fun σZ HZ Q => σZ[i]? = some (some (.ref f)) ∧ IsLam X D f HZ ∧ tb (fun cls d H' => W cls d σZ H') σ HZ Q) := by
  refine ⟨fun pinsZ sZ σZ HZ Q IZe ⟨slot, ⟨c', lamf, cod⟩, tbq⟩ => ?_⟩
  refine wpAny_Call_Name_kw (thn ((pe_var (pos := pp1) (i := i) hNg hvis dbg cdc).run pinsZ sZ σZ HZ (fun v H1 => v = .ref f ∧ H1 = HZ) IZe ⟨.ref f, slot, rfl, rfl⟩) fun u s1 ⟨v, H1, IA, rA, ev, eH⟩ => ?_)
  subst ev
  rw [eH] at IA
  obtain rfl : u = Value.ref f := rA
  obtain ⟨⟨pm, ctv, atf⟩, _, _⟩ := IA.hok f _ lamf
  obtain ⟨⟨oco, flds, t, atc, datc, nmc⟩, _, _⟩ := IA.hok c' _ cod
  refine PySem.W.callWith_F0 ⟨_, _, _, _, atf⟩ ?_
  have base_ : Un (frs X.stack) [] H HZ s.heap s1.heap := IA.base
  have run_ : codeAny (model X.prog X.w) (X.A.deeper (envOfC qg sg s.heap.objs.size g cdg)) (.call (.ref f) ⟨[], []⟩) (CR (L2.CX X.prog X.w) (envOfC qg sg s.heap.objs.size g cdg :: X.stack) X.prog X.w HZ s1 Q (fun cls d H' => W cls d σZ H')) s1 := by
    refine PySem.W.kla_callFunE hr.depth atf rfl L.co L.gen rfl ⟨c', oco, flds, t, rfl, atc, datc, nmc⟩ ?_
    rw [hbind]
    refine wpAny_pure (wpAny_newFunctionEnv (fun y hy => (L.own y hy).2) (fun y hy => absurd hy (by simp)) (fun h₁ nsn sbt => ⟨IA.nolimit.fresh _ sbt, ?_⟩) L.kind)
    show codeAny _ _ (.expr D.body (lamEnv X D.scope s1.heap.objs.size f c')) _ _
    have J : Inv (lamCx X (X.A.deeper (envOfC qg sg s.heap.objs.size g cdg)) (envOfC qg sg s.heap.objs.size g cdg :: X.stack) s1 HZ (fun cls d H' => W cls d σZ H') D.scope f c') [] σ HZ { s1 with heap := h₁, toks := s1.toks + ([] : List (Str × Value)).length } :=
      lam_start2 I L IA.env0 hr.hd base_ nsn fun b o e => sbt.extBut b o (Nat.ne_of_lt (Heap.lt_size e)) (Heap.get?_push_of_some _ e)
    refine PySem.W.kla_codeExpr (wpAny_mono ((hbody _ _ s1 HZ _ c' (hr.deeper _)).run [] _ _ HZ Q J tbq) (fun v s' ⟨w', H', J', rv, q⟩ => ⟨w', H', J'.os, J'.bare, J'.base, J'.hok, rv, q⟩) fun e s' hq => hq)
  refine wpAny_call (codeAny_mono run_ fun r s' hq => ?_)
  cases r with
  | error e => exact tk e s' (XE.of_call IA (fun cls d H' h => h) hq)
  | ok fl => cases fl with
    | ret u => exact IA.after hq
    | next => exact False.elim hq
    | brk => exact False.elim hq
    | cont => exact False.elim hq
/-- what the hearing makes of an error of the package, and of none -/
def HErr (K : PySem.W.Frag) (CS : Addr) (Q : VK) : XK := fun cls d H' => PySem.W.exmOne K cls (.ref CS) = some true ∧ ∃ (C dd : Addr), cls = .ref C ∧ d = some dd ∧
  ∀ a p, H' a = none → upd H' a (ErrO C dd a) p = none → Q (.ref p) (upd (upd H' a (ErrO C dd a)) p (.tup [.ref a, .non]))
def HBack (Q : VK) : VK := fun v H' => ∀ p, H' p = none → Q (.ref p) (upd H' p (.tup [.non, v]))
def TH (K : PySem.W.Frag) (CS : Addr) (tb : XK → TE) : TE := fun σ H Q => ∀ (E : XK) (Q' : VK), (∀ cls d H', HErr K CS Q cls d H' → E cls d H') → (∀ v H', HBack Q v H' → Q' v H') → tb E σ H Q'
def tHeard (X : Cx) {ι : Type} (CS : Addr) (D : ι → LamD) (tb : ι → XK → TE) (te : TE) : TE := fun σ H Q => te σ H fun v H1 => ∃ (j : ι) (f : Addr), v = .ref f ∧ IsLam X (D j) f H1 ∧ ∀ H2, Same H1 H2 → TH X.K CS (tb j) σ H2 Q
end
def isDict : PyData → Bool
  | .dict _ => true
  | _ => false
/-- data of a kind that can be shown, and compared -/
def okData (d : PyData) : Bool := d.leavesShort 13 && (decide (d.weight ≤ 2 ^ 20) && (d.showable && (decide (d.depth ≤ 8) && (d.canLay0 || isDict d))))
theorem okData.parts {d : PyData} (h : okData d = true) : d.leavesShort 13 = true ∧ d.weight ≤ 2 ^ 20 ∧ d.showable = true ∧ d.depth ≤ 8 ∧ (d.canLay0 = true ∨ isDict d = true) := by
  unfold okData at h
  simp only [Bool.and_eq_true, Bool.or_eq_true, decide_eq_true_eq] at h
  exact h
theorem okData.fits {d : PyData} (h : okData d = true) : d.shown.length ≤ sizeLine := PyData.shown_fits (B := 13) (by decide) (by decide) (okData.parts h).1 (okData.parts h).2.1
theorem okData.shaped {d : PyData} (h : okData d = true) : ∀ ds, d = .tuple ds → SeqAt.shaped d = true := fun ds e => by
  obtain ⟨_, _, _, h4, h5⟩ := okData.parts h
  subst e
  unfold SeqAt.shaped
  rw [Bool.and_eq_true, decide_eq_true_eq]
  exact ⟨h5.elim id (fun z => nomatch z), by omega⟩
mutual
theorem lay_noDict : ∀ d : PyData, d.canLay0 = true → d.hasDict = false
  | .none, _ => rfl
  | .bool _, _ => rfl
  | .int _, _ => rfl
  | .str _, _ => rfl
  | .list xs, h => by
    simp only [PyData.canLay0] at h
    simp only [PyData.hasDict]
    exact lay_noDictAll xs h
  | .tuple xs, h => by
    simp only [PyData.canLay0] at h
    simp only [PyData.hasDict]
    exact lay_noDictAll xs h
  | .dict _, h => by simp [PyData.canLay0] at h
theorem lay_noDictAll : ∀ ds : List PyData, PyData.canLayAll0 ds = true → PyData.hasDictAll ds = false
  | [], _ => rfl
  | d :: ds, h => by
    simp only [PyData.canLayAll0, Bool.and_eq_true] at h
    simp only [PyData.hasDictAll, lay_noDict d h.1, lay_noDictAll ds h.2, Bool.or_false]
end
section
variable {X : Cx} {pins : List (Addr × Obj)} {σ : L2.St} {H : Hp} {s : Shared}
theorem dk_reads (I : Inv X pins σ H s) {d : PyData} {v : V} {u : Value} (h : Dk X.K H v d) (r : RelV v u) : ∃ as, Reads s.heap u d as ∧ (d.hasDict = true → isDict d = true → sysModules ∉ as) := by
  cases h with
  | dp h =>
    obtain ⟨as, hr⟩ := Dp.reads I d v u h r
    refine ⟨as, hr, fun _ z => ?_⟩
    cases h <;> cases z
  | @d0 a h =>
    cases r
    obtain ⟨_, hsys, ws, rel, od, des, dep, ho, hex, hdat, _, hp, _⟩ := dk_of I.hok h
    cases rel
    have e : des = #[] := by
      cases des with | mk l => cases hp; rfl
    subst e
    refine ⟨_, Reads.dict (kvs := []) ho hex.1 hdat .nil .nil, fun _ _ hm => ?_⟩
    rcases List.mem_append.mp hm with hm | hm
    · rcases List.mem_cons.mp hm with rfl | hm
      · rw [beq_self_eq_true] at hsys; cases hsys
      · cases hm
    · cases hm
  | @d1 a h =>
    cases r
    obtain ⟨_, hsys, ws, rel, od, des, dep, ho, hex, hdat, _, hp, _⟩ := dk_of I.hok h
    cases rel with
    | @cons _ q _ _ h1 h2 =>
      cases h2
      obtain ⟨k, u⟩ := q
      obtain ⟨e1, e2⟩ := h1
      cases e1
      obtain ⟨t, rfl⟩ := e2
      cases des with
      | mk l =>
        cases hp with
        | @cons e _ es _ p1 p2 p3 =>
          cases p3
          obtain ⟨tk, ek⟩ := Value.isStrOf_shape (x := Str.ofString "a") (v := e.key) p1
          refine ⟨_, Reads.dict (kvs := [(.str "a", .int 1)]) ho hex.1 hdat (.cons (show Reads s.heap e.key (PyData.str "a") [] from by rw [ek]; exact .str _ _) .nil) (.cons (show Reads s.heap e.val (PyData.int 1) [] from by rw [p2]; exact .int _ _) .nil), fun _ _ hm => ?_⟩
          rcases List.mem_append.mp hm with hm | hm
          · rcases List.mem_cons.mp hm with rfl | hm
            · rw [beq_self_eq_true] at hsys; cases hsys
            · cases hm
          · cases hm
/-- repr(x), x data; nothing under way -/
def rRepr (K : PySem.W.Frag) : List V → Hp → VK → Prop := fun xs H Q => ∃ (v : V) (d : PyData), xs = [v] ∧ Dk K H v d ∧ okData d = true ∧ Q (.str d.shown) H
theorem call_repr (hg : X.A.guards = some []) (hu : X.A.units + 64 < cLine) : CallR X (.builtin "repr") (rRepr X.K) := by
  intro pins s σ H xs us Q I r h
  obtain ⟨v, d, rfl, hd, ho, q⟩ := h
  obtain ⟨u, rfl, rv⟩ := vals1 r
  obtain ⟨h1, h2, h3, h4, h5⟩ := okData.parts ho
  have fits := okData.fits ho
  obtain ⟨as, hr, hsys⟩ := dk_reads I hd rv
  have at_ref : ∀ a : Addr, u = .ref a → wpAny (model X.prog X.w) X.A (call (.builtin "repr") [u]) (EP X pins σ Q) X.xe s := fun a e => by
    subst e
    refine repr_of_reads' hr h3 (fun z => hsys z ?_) hg (by omega) (fun _ _ e => e) (fun h' w tk hk => ⟨.str d.shown, H, I.kept (t' := tk) hk, ⟨w, rfl⟩, q⟩) fits
    rcases h5 with c | c
    · rw [lay_noDict d c] at z; cases z
    · exact c
  cases hd with
  | d0 h => exact at_ref _ rv
  | d1 h => exact at_ref _ rv
  | dp hd =>
    cases hd with
    | lst _ _ => exact at_ref _ rv
    | tup _ _ => exact at_ref _ rv
    | non => cases rv; exact PySem.P.repr_of_none ⟨.str "None", H, I.tok _, ⟨_, rfl⟩, q⟩
    | bl b => cases rv; exact PySem.P.repr_of_bool ⟨.str (if b then "True" else "False"), H, I.tok _, ⟨_, by cases b <;> rfl⟩, by cases b <;> exact q⟩
    | int i =>
      obtain ⟨t, rfl⟩ := rv
      exact PySem.P.repr_of_int (by simpa [PyData.showable] using h3) ⟨.str (toString i), H, I.tok _, ⟨_, rfl⟩, q⟩
    | str x =>
      obtain ⟨t, rfl⟩ := rv
      exact PySem.P.repr_of_str ⟨.str (reprText x), H, I.tok _, ⟨_, rfl⟩, q⟩ fits
end
/-- as FnOk, of the rooms in which nothing guarded is under way -/
structure FnG (P : Program) (w : World) (K : PySem.W.Frag) (mg : Str → Option Value) (base : Heap) (k : Nat) (f : Addr) (fd : FuncData) (ps : List Str) (sp : Sp) : Prop where
  len : ∀ vs H Q E, sp vs H Q E → vs.length = ps.length
  run : ∀ (A : Around) (outer : List Env) (s : Shared) (H : Hp) (args : Args) (us : List Value) (vs : List V) (Q : VK), Room k A → A.guards = some [] → Env0 P w K mg base A outer s H → BindsTo s fd args (ps.zip us) → Vals vs us → sp vs H Q E0 →
    codeAny (model P w) A (.call (.ref f) args) (CR CX0 outer P w H s Q E0) s
section
variable {P : Program} {w : World} {K : PySem.W.Frag} {mg : Str → Option Value} {base : Heap}
theorem fnG_of {x qual : Str} {st : Stmt} {f : Addr} {fd : FuncData} {N ps : List Str} {k : Nat} {sp : Sp} (F : Fun K x qual st f fd) (S : FnScope N ps (defScope st)) (len : ∀ vs H Q E, sp vs H Q E → vs.length = ps.length)
    (hbody : ∀ (cdv : Value) (A : Around) (outer : List Env) (s : Shared) (H : Hp) (vs : List V) (Q : VK), Room k (A.deeper (envOfC qual (defScope st) s.heap.objs.size f cdv)) → (A.deeper (envOfC qual (defScope st) s.heap.objs.size f cdv)).guards = some [] → sp vs H Q E0 →
      ∃ t, PSs (cxOf CX0 P w K mg base N qual (defScope st) f cdv A outer s H E0).nox (defBody st) t ∧ t { nx := fun _ H' => Q .non H', rt := Q } (L2.start N vs) H) : FnG P w K mg base (k + 1) f fd ps sp := by
  obtain ⟨oc, od, kV, doc, pm, an, cdv, ct, osl, rfl, lk, hcd⟩ := F.ex
  refine ⟨len, fun A outer s H args us vs Q hr hg e0 hb r hsp => ?_⟩
  exact run_ofS lk hcd S hr e0 hb r (len _ _ _ _ hsp) fun hr' => by
    obtain ⟨t, h, q⟩ := hbody cdv A outer s H vs Q hr' hg hsp
    exact ⟨t, h.nox, q⟩
theorem FnG.ofOk {k : Nat} {f : Addr} {fd : FuncData} {ps : List Str} {sp : Sp} (F : FnOk P w K mg base CX0 k f fd ps sp) : FnG P w K mg base k f fd ps sp := ⟨F.len, fun A outer s H args us vs Q hr _ e0 hb r h => F.run A outer s H args us vs Q E0 hr e0 hb r h⟩
end
section
variable {X : Cx} {k : Nat} {f : Addr} {fd : FuncData} {ps : List Str} {sp : Sp} {x : Str} {p pos : Pos} {e : Expr} {es : List Expr} {t : TA}
theorem pe_callG (F : FnG X.prog X.w X.K X.mg X.base k f fd ps sp) (hr : Room k X.A) (gd : X.A.guards = some []) (hg : Gl X x) (hm : X.mg x = some (.ref f)) (hk : PySem.W.keepIn X.K (.ref f) = true) (hb : L2.Binds X.K fd ps [])
    (ha : PA X (e :: es) t) (hdb : (x == ("__debug__" : Str)) = false := by decide) (he : starEach (e :: es) X.env = (false, eval e X.env) :: starEach es X.env := by rfl) (hpl : (backTo pos (starEach es X.env)).any (·.1) = false := by rfl) :
    PE X (.Call (.Name x p) (e :: es) [] pos) (tCall sp [] E0 t) := by
  refine ⟨fun pins s σ H Q I h => wpAny_Call_Name_kw (ld_glob I hg hm ?_ hdb)⟩
  refine PySem.W.callWith_K (h₀ := X.base) I.ok.mod.kin hk (thn (ha.run pos pins s σ H _ I h) fun us s1 ⟨vs, H1, I1, r, q⟩ => ⟨I1.kIn, ?_⟩) he hpl
  have q' : sp vs H1 Q E0 := by
    have q0 : sp (vs ++ []) H1 Q E0 := q
    rw [List.append_nil] at q0
    exact q0
  have hl : us.length = ps.length := by rw [← r.length]; exact F.len _ _ _ _ q'
  have bt : BindsTo s1 fd ⟨us, []⟩ (ps.zip us) := by
    have z := hb s1 us I1.kIn (by rw [List.append_nil]; exact hl)
    rw [List.append_nil] at z
    exact z
  refine wpAny_call (codeAny_mono (F.run X.A X.stack s1 H1 ⟨us, []⟩ us vs Q hr gd I1.env0 bt r q') fun r s' hq => ?_)
  cases r with
  | error e => exact (show False from hq).elim
  | ok fl => cases fl with
    | ret u => exact I1.after hq
    | next => exact False.elim hq
    | brk => exact False.elim hq
    | cont => exact False.elim hq
end
/-- what stands in H', without what was a list in H -/
def nl (H H' : Hp) : Hp := fun b => match H b with
  | some (.lst _) => none
  | _ => H' b
theorem nl_not {H H' : Hp} {c : Addr} (h : ∀ xs, H c ≠ some (.lst xs)) : nl H H' c = H' c := by
  unfold nl
  split
  · exact absurd ‹_› (h _)
  · rfl
theorem nl_new {H H' : Hp} {c : Addr} (h : H c = none) : nl H H' c = H' c := nl_not fun xs z => by rw [h] at z; cases z
theorem nl_lst {H H' : Hp} {c : Addr} {xs : List V} (h : H c = some (.lst xs)) : nl H H' c = none := by
  unfold nl
  rw [h]
/-- what is found there was no list -/
theorem nl_out {H H' : Hp} {c : Addr} {o : HO} (h : nl H H' c = some o) : (∀ xs, H c ≠ some (.lst xs)) ∧ H' c = some o := by
  have a : ∀ xs, H c ≠ some (.lst xs) := fun xs z => by rw [nl_lst z] at h; cases h
  exact ⟨a, by rw [nl_not a] at h; exact h⟩
theorem nl_at {H H' : Hp} {p c : Addr} {o : HO} (g : Same (wo H p) (wo H' p)) (h : wo H' p c = some o) (no : ∀ xs, o ≠ .lst xs) : nl H H' c = some o := by
  have ne : c ≠ p := fun z => by rw [z, wo_same] at h; cases h
  rw [nl_not fun xs z => ?_]
  · exact wo_le _ _ h
  · have e := g _ _ (wo_at z ne)
    rw [h] at e
    exact no xs (Option.some.inj e)
theorem nl_wo {H H' : Hp} {p : Addr} (hp : ∃ xs, H p = some (.lst xs)) : Same (nl H H') (wo H' p) := fun b o e => by
  obtain ⟨xs, hp⟩ := hp
  obtain ⟨a, e⟩ := nl_out e
  exact wo_at e fun z => a xs (z ▸ hp)
theorem nl_fresh {H H' : Hp} {p c : Addr} (g : Same (wo H p) (wo H' p)) (h : H' c = none) (ne : c ≠ p) : H c = none := by
  cases e : H c with
  | none => rfl
  | some o =>
    have z := wo_le _ _ (g _ _ (wo_at e ne))
    rw [h] at z
    cases z
theorem nl_mono {H H1 H2 H3 : Hp} {p : Addr} (g : Same (wo H p) (wo H1 p)) (hp : ∃ xs, H1 p = some (.lst xs)) (s : Same H2 H3) : Same (nl H1 H2) (nl H H3) := fun b o e => by
  obtain ⟨ys, hp⟩ := hp
  obtain ⟨a, e⟩ := nl_out e
  have ne : b ≠ p := fun z => a ys (z ▸ hp)
  rw [nl_not fun xs z => a xs (wo_le _ _ (g _ _ (wo_at z ne)))]
  exact s _ _ e
theorem sqT_nl {K : PySem.W.Frag} {H H' : Hp} {p c : Addr} {xs : List V} (g : Same (wo H p) (wo H' p)) (h : SqT K (wo H' p) c xs) : SqT K (nl H H') c xs := by
  rcases h with (h | ⟨o, h⟩) | h
  · exact .inl (.inl (nl_at g h fun _ z => nomatch z))
  · exact .inl (.inr ⟨o, nl_at g h fun _ z => nomatch z⟩)
  · exact .inr h
theorem none_of {H H' : Hp} {c : Addr} (s : Same H H') (h : H' c = none) : H c = none := by
  cases e : H c with
  | none => rfl
  | some o =>
    have z := s _ _ e
    rw [h] at z
    cases z
theorem pot_lst {H : Hp} {p : Addr} {n : Nat} (h : Pot H p n) : ∃ xs, H p = some (.lst xs) := by
  obtain ⟨a, b, c, e, _⟩ := h
  exact ⟨_, e⟩
section
variable {P : Program} {w : World} {K : PySem.W.Frag} {mg : Str → Option Value} {base : Heap}
/-- all but the tables and the pot stay -/
def ExtP (p : Addr) (H H' : Hp) : Prop := ∀ b o, H b = some o → b ≠ p → (∀ ps, o ≠ .tbl ps) → H' b = some o
def CalG (P : Program) (w : World) (K : PySem.W.Frag) (mg : Str → Option Value) (base : Heap) (k : Nat) (x : Str) (ps : List Str) (sp : Sp) : Prop :=
  ∃ (f : Addr) (fd : FuncData), FnG P w K mg base k f fd ps sp ∧ PySem.W.keepIn K (.ref f) = true ∧ L2.Binds K fd ps [] ∧ mg x = some (.ref f)
theorem tabs_wo {T : List (Addr × Str)} {H H' : Hp} {p : Addr} (t : Tabs T H) (hp : ∃ xs, H p = some (.lst xs)) (s : Same (wo H p) (wo H' p)) : Tabs T H' := fun x hx => by
  obtain ⟨ps, h1, h2, h3⟩ := t x hx
  obtain ⟨xs, hl⟩ := hp
  refine ⟨ps, wo_le _ _ (s _ _ (wo_at h1 fun z => by rw [z, hl] at h1; cases h1)), h2, fun pos cv hc => ?_⟩
  obtain ⟨c, e1, e2⟩ := h3 pos cv hc
  exact ⟨c, e1, wo_le _ _ (s _ _ (wo_at e2 fun z => by rw [z, hl] at e2; unfold CodeO at e2; cases e2))⟩
end
/-- a def that may be called by its name -/
def Cal (P : Program) (w : World) (K : PySem.W.Frag) (mg : Str → Option Value) (base : Heap) (CX : CXT) (k : Nat) (x : Str) (ps : List Str) (sp : Sp) : Prop :=
  ∃ (f : Addr) (fd : FuncData), FnOk P w K mg base CX k f fd ps sp ∧ PySem.W.keepIn K (.ref f) = true ∧ L2.Binds K fd ps [] ∧ mg x = some (.ref f)
/-- what never raises passes -/
theorem passX {X : Cx} : Passes (L2.CX X.prog X.w) X E0 := fun _ _ _ _ _ _ _ ⟨_, _, _, _, _, _, _, _, _, _, _, _, h⟩ => h.elim
theorem same_ne {x : V} {Pr : Prop} (e : (!decide (x = x)) = true) : Pr := by simp at e
theorem eq_ne {x y : V} {Pr : Prop} (h : x = y) (e : (!decide (x = y)) = true) : Pr := by
  subst h
  exact same_ne e
/-- data without dicts, of nesting at most k and weight at most m -/
def okN (k m : Nat) (d : PyData) : Prop := d.leavesShort 13 = true ∧ d.weight ≤ m ∧ d.showable = true ∧ d.depth ≤ k ∧ d.canLay0 = true
theorem okN.mono {k m k' m' : Nat} {d : PyData} (h : okN k m d) (hk : k ≤ k') (hm : m ≤ m') : okN k' m' d := ⟨h.1, Nat.le_trans h.2.1 hm, h.2.2.1, Nat.le_trans h.2.2.2.1 hk, h.2.2.2.2⟩
theorem okN.ok {k m : Nat} {d : PyData} (h : okN k m d) (hk : k ≤ 8) (hm : m ≤ 2 ^ 20) : okData d = true := by
  unfold okData
  simp only [Bool.and_eq_true, Bool.or_eq_true, decide_eq_true_eq]
  exact ⟨h.1, Nat.le_trans h.2.1 hm, h.2.2.1, Nat.le_trans h.2.2.2.1 hk, .inl h.2.2.2.2⟩
theorem okN.all {k m : Nat} : ∀ {ds : List PyData}, (∀ d ∈ ds, okN k m d) → PyData.leavesShortAll 13 ds = true ∧ PyData.weightAll ds ≤ (m + 1) * ds.length ∧ PyData.showableAll ds = true ∧ PyData.depthAll ds ≤ k ∧ PyData.canLayAll0 ds = true
  | [], _ => ⟨rfl, Nat.le_refl _, rfl, Nat.zero_le _, rfl⟩
  | d :: ds, h => by
    obtain ⟨i1, i2, i3, i4, i5⟩ := okN.all fun y hy => h y (List.mem_cons_of_mem _ hy)
    obtain ⟨j1, j2, j3, j4, j5⟩ := h d List.mem_cons_self
    refine ⟨?_, ?_, ?_, ?_, ?_⟩
    · simp only [PyData.leavesShortAll, j1, i1, Bool.and_self]
    · simp only [PyData.weightAll, List.length_cons, Nat.mul_add, Nat.mul_one]
      omega
    · simp only [PyData.showableAll, j3, i3, Bool.and_self]
    · simp only [PyData.depthAll]
      omega
    · simp only [PyData.canLayAll0, j5, i5, Bool.and_self]
theorem okN.tup {k m : Nat} {ds : List PyData} (h : ∀ d ∈ ds, okN k m d) (hl : ds.length ≤ 8) : okN (k + 1) (8 * (m + 1)) (.tuple ds) := by
  obtain ⟨i1, i2, i3, i4, i5⟩ := okN.all h
  have : (m + 1) * ds.length ≤ (m + 1) * 8 := Nat.mul_le_mul_left _ hl
  refine ⟨by simpa [PyData.leavesShort] using i1, by simp only [PyData.weight]; omega, by simpa [PyData.showable] using i3, by simp only [PyData.depth]; omega, by simpa [PyData.canLay0] using i5⟩
theorem okN.lst {k m : Nat} {ds : List PyData} (h : ∀ d ∈ ds, okN k m d) (hl : ds.length ≤ 8) : okN (k + 1) (8 * (m + 1)) (.list ds) := by
  obtain ⟨i1, i2, i3, i4, i5⟩ := okN.all h
  have : (m + 1) * ds.length ≤ (m + 1) * 8 := Nat.mul_le_mul_left _ hl
  refine ⟨by simpa [PyData.leavesShort] using i1, by simp only [PyData.weight]; omega, by simpa [PyData.showable] using i3, by simp only [PyData.depth]; omega, by simpa [PyData.canLay0] using i5⟩
theorem okN.int {i : Int} (h0 : -100000 ≤ i) (h1 : i ≤ 1000000) : okN 0 50 (.int i) := by
  have ht : (Str.ofString (toString i)).length ≤ 13 := by
    by_cases c : 0 ≤ i
    · exact Nat.le_trans (toString_length_le (k := 7) c (by decide) (by omega)) (by decide)
    · obtain ⟨n, rfl⟩ : ∃ n : Nat, i = Int.negSucc n := by
        cases i with
        | ofNat n => exact absurd (Int.natCast_nonneg n) c
        | negSucc n => exact ⟨n, rfl⟩
      have hn : (n + 1 : Int) < 10 ^ 6 := by omega
      have e : toString (Int.negSucc n) = "-" ++ toString (n + 1) := rfl
      have t := toString_length_le (v := ((n + 1 : Nat) : Int)) (k := 6) (by omega) (by decide) (by exact_mod_cast hn)
      have len : ∀ a b : String, (Str.ofString (a ++ b)).length = (Str.ofString a).length + (Str.ofString b).length := fun a b => by
        show (Str.ofString (a ++ b)).cps.size = (Str.ofString a).cps.size + (Str.ofString b).cps.size
        rw [Str.ofString_eq_toList, Str.ofString_eq_toList, Str.ofString_eq_toList]
        simp [String.toList_append]
      rw [e, len]
      have h1' : (Str.ofString "-").length = 1 := by decide
      have t' : (Str.ofString (toString (n + 1))).length ≤ 6 := t
      omega
  have hl : i.natAbs.log2 ≤ 20 := by
    by_cases z : i.natAbs = 0
    · rw [z]; decide
    · exact Nat.le_of_lt_succ ((Nat.log2_lt z).mpr (by omega))
  refine ⟨by simp only [PyData.leavesShort, decide_eq_true_eq]; exact ht, ?_, ?_, Nat.le_refl 0, rfl⟩
  · simp only [PyData.weight]
    split <;> omega
  · simp only [PyData.showable, decide_eq_true_eq]
    omega
/-- texts that can be shown -/
def okS (n : Nat) (x : Str) : Prop := x.length ≤ n ∧ ∀ c ∈ x.cps.toList, c < 0x110000
theorem okS.ok {n : Nat} {x : Str} (h : okS n x) (hn : n ≤ 50) : okN 0 50 (.str x) := by
  refine ⟨?_, Nat.le_trans h.1 hn, rfl, Nat.le_refl 0, ?_⟩
  · simp only [PyData.leavesShort, List.all_eq_true, decide_eq_true_eq]
    exact fun c hc => Nat.lt_of_lt_of_le (h.2 c hc) (by decide)
  · simp only [PyData.canLay0, PyData.strOk]
    rw [← Array.all_toList, List.all_eq_true]
    exact fun c hc => decide_eq_true (h.2 c hc)
theorem str_chars (z : String) : ∀ c ∈ (Str.ofString z).cps.toList, c < 0x110000 := fun c hc => by
  rw [Str.ofString_eq_toList] at hc
  simp only [List.toList_toArray, List.mem_map] at hc
  obtain ⟨ch, _, rfl⟩ := hc
  rcases ch.valid with h | ⟨_, h⟩
  · exact Nat.lt_of_lt_of_le h (by decide)
  · exact h
theorem okS.cut {n : Nat} {x : Str} (h : okS n x) (lo hi : Option Int) : okS n (cutS x lo hi) := by
  refine ⟨Nat.le_trans (cutS_length x lo hi) h.1, fun c hc => h.2 c ?_⟩
  have hc : c ∈ ((x.cps.toList.drop (HT.sIx x.length 0 lo)).take (HT.sIx x.length x.length hi - HT.sIx x.length 0 lo)).toArray.toList := hc
  rw [List.toList_toArray] at hc
  exact List.mem_of_mem_drop (List.mem_of_mem_take hc)
theorem okS.cat {n m : Nat} {x y : Str} (h : okS n x) (g : okS m y) : okS (n + m) (x ++ y) := by
  have e : (x ++ y).cps = x.cps ++ y.cps := rfl
  refine ⟨?_, fun c hc => ?_⟩
  · show (x ++ y).cps.size ≤ _
    rw [e, Array.size_append]
    exact Nat.add_le_add h.1 g.1
  · rw [e, Array.toList_append] at hc
    exact (List.mem_append.mp hc).elim (h.2 c) (g.2 c)
theorem sqT_wo {K : PySem.W.Frag} {H : Hp} {c p : Addr} {xs ys : List V} (h : SqT K H c xs) (hp : H p = some (.lst ys)) : SqT K (wo H p) c xs := by
  rcases h with (h | ⟨o, h⟩) | h
  · exact .inl (.inl (wo_at h fun z => by rw [z, hp] at h; cases h))
  · exact .inl (.inr ⟨o, wo_at h fun z => by rw [z, hp] at h; cases h⟩)
  · exact .inr h
theorem catA_one {K : PySem.W.Frag} {H : Hp} {a b : Addr} {xs ys : List V} {Q : VK} (ha : SqT K H a xs) (hb : SqT K H b ys) (hl : xs.length + ys.length ≤ sizeLine) (q : ∀ c H', SqT K H' c (xs ++ ys) → Same H H' → Q (.ref c) H') : rCatA K (.ref a) (.ref b) H Q := by
  refine ⟨a, b, xs, ys, rfl, rfl, ha, hb, hl, fun e => ?_, fun _ e => ?_, fun _ _ p np => q p _ (SqT.of upd_same) (same_upd np)⟩
  · subst e
    exact q b H hb (Same.refl H)
  · subst e
    refine q a H ?_ (Same.refl H)
    rw [List.append_nil]
    exact ha
theorem slice_any {K : PySem.W.Frag} {H : Hp} {a : Addr} {xs : List V} {lo hi : Option Int} {Q : VK} (h : SqT K H a xs) (q : ∀ c H' ys, SqT K H' c ys → (∀ y ∈ ys, y ∈ xs) → ys.length ≤ xs.length → Same H H' → Q (.ref c) H') : rSlA K (.ref a) lo hi H Q :=
  ⟨a, xs, rfl, h, fun _ => q a H xs h (fun y hy => hy) (Nat.le_refl _) (Same.refl H), fun _ p np => q p _ _ (SqT.of upd_same) (fun y hy => List.mem_of_mem_drop (List.mem_of_mem_take hy)) (cutV_length xs lo hi) (same_upd np)⟩
theorem dpAll_app {K : PySem.W.Frag} {H : Hp} : ∀ {xs ys : List V} {ds es : List PyData}, DpAll K H xs ds → DpAll K H ys es → DpAll K H (xs ++ ys) (ds ++ es)
  | [], _, [], _, _, g => g
  | _ :: _, _, _ :: _, _, .cons h1 h2, g => .cons h1 (dpAll_app h2 g)
section
variable {P : Program} {w : World} {K : PySem.W.Frag} {mg : Str → Option Value} {base : Heap}
theorem sqL_extN {H H' : Hp} {c : Addr} {xs : List V} (h : SqL K H c xs) (e : ExtN H H') : SqL K H' c xs := by
  rcases h with (h | ⟨o, h⟩) | h
  · exact .inl (.inl (e _ _ h (fun ps z => by cases z)))
  · exact .inl (.inr ⟨o, e _ _ h (fun ps z => by cases z)⟩)
  · exact .inr h
theorem tabs_upd {T : List (Addr × Str)} {H : Hp} {D : Addr} {xs : List V} {o : HO} (t : Tabs T H) (hD : H D = some (.lst xs)) : Tabs T (upd H D o) := fun x hx => by
  obtain ⟨ps, h1, h2, h3⟩ := t x hx
  refine ⟨ps, by rw [upd_ne (fun z => by rw [z, hD] at h1; cases h1)]; exact h1, h2, fun pos cv hc => ?_⟩
  obtain ⟨c, e1, e2⟩ := h3 pos cv hc
  exact ⟨c, e1, by rw [upd_ne (fun z => by rw [z, hD] at e2; unfold CodeO at e2; cases e2)]; exact e2⟩
end
def lamsE : Expr → List LamD
  | .Lambda p b s _ => [⟨p, b, s⟩]
  | .Subscript o _ _ => lamsE o
  | .Call _ [e] _ _ => lamsE e
  | .List [e] _ => lamsE e
  | _ => []
def lamsS : Stmt → List LamD
  | .Assign _ v _ => lamsE v
  | .Expr v _ => lamsE v
  | _ => []
def bodyOf : Stmt → List Stmt
  | .For _ _ b _ _ => b
  | _ => []
/-- a callee's exception leaves the lambda -/
theorem passL {X : Cx} {A : Around} {outer : List Env} {s : Shared} {H : Hp} {E : XK} {scope : Scope} {f c' : Addr} : Passes (L2.CX X.prog X.w) (lamCx X A outer s H E scope f c') E :=
  passes_call (takes_of rfl rfl rfl rfl) fun _ _ _ _ h => h
section
variable {P : Program} {w : World} {K : PySem.W.Frag} {mg : Str → Option Value} {base : Heap}
theorem sqT_extN {H H' : Hp} {c : Addr} {xs : List V} (h : SqT K H c xs) (e : ExtN H H') : SqT K H' c xs := by
  rcases h with (h | ⟨o, h⟩) | h
  · exact .inl (.inl (e _ _ h (fun ps z => by cases z)))
  · exact .inl (.inr ⟨o, e _ _ h (fun ps z => by cases z)⟩)
  · exact .inr h
mutual
theorem dp_extN {H H' : Hp} (e : ExtN H H') : ∀ (d : PyData) (v : V), Dp K H v d → Dp K H' v d
  | .none, _, h => by cases h; exact .non
  | .bool _, _, h => by cases h; exact .bl _
  | .int _, _, h => by cases h; exact .int _
  | .str _, _, h => by cases h; exact .str _
  | .list ds, _, h => by
    cases h with
    | lst hs ha => exact .lst (sqL_extN hs e) (dpAll_extN e ds _ ha)
  | .tuple ds, _, h => by
    cases h with
    | tup hs ha => exact .tup (sqT_extN hs e) (dpAll_extN e ds _ ha)
  | .dict _, _, h => by cases h
theorem dpAll_extN {H H' : Hp} (e : ExtN H H') : ∀ (ds : List PyData) (vs : List V), DpAll K H vs ds → DpAll K H' vs ds
  | [], _, h => by cases h; exact .nil
  | d :: ds, _, h => by
    cases h with
    | cons h1 h2 => exact .cons (dp_extN e d _ h1) (dpAll_extN e ds _ h2)
end
theorem dk_extN {H H' : Hp} {v : V} {d : PyData} (h : Dk K H v d) (e : ExtN H H') : Dk K H' v d := by
  cases h with
  | dp h => exact .dp (dp_extN e _ _ h)
  | d0 h => exact .d0 (e _ _ h (fun ps z => by cases z))
  | d1 h => exact .d1 (e _ _ h (fun ps z => by cases z))
theorem nl_le {H H' : Hp} : Same (nl H H') H' := fun b o e => (nl_out e).2
theorem none_ext {H H' : Hp} {c : Addr} (e : ExtN H H') (h : H' c = none) : ∀ o, H c = some o → ∃ ps, o = .tbl ps := fun o z => by
  cases o with
  | tbl ps => exact ⟨ps, rfl⟩
  | _ => exact absurd ((e _ _ z (fun ps y => by cases y)).symm.trans h) (fun y => nomatch y)
/-- what stood stays over a new list -/
theorem extN_upd {H H' : Hp} {c : Addr} {o : HO} (e : ExtN H H') (h : ∀ o, H c = some o → ∃ ps, o = .tbl ps) : ExtN H (upd H' c o) := fun b x z nt => by
  rw [upd_ne fun y => ?_]
  · exact e b x z nt
  · obtain ⟨ps, q⟩ := h x (y ▸ z)
    exact nt ps q
theorem extN_comp {H1 H2 H3 : Hp} (e : ExtN H1 H2) (g : ExtN H2 H3) : ExtN H1 H3 := e.trans g
theorem IsLam.updL {X : Cx} {D : LamD} {f c : Addr} {H : Hp} {o : HO} {xs : List V} (h : IsLam X D f H) (hc : H c = some (.lst xs)) : IsLam X D f (upd H c o) := by
  obtain ⟨c', h1, h2⟩ := h
  refine ⟨c', ?_, ?_⟩
  · rw [upd_ne fun z => by rw [z, hc] at h1; unfold LamO at h1; cases h1]
    exact h1
  · rw [upd_ne fun z => by rw [z, hc] at h2; unfold CodeO at h2; cases h2]
    exact h2
theorem bent_old {HM HX H' : Hp} {D p : Addr} {o : HO} (hp : ∃ ys, HM p = some (.lst ys)) (nD : D ≠ p) (s : Same (wo HX p) (wo H' p)) : Same (nl (upd HM D (.lst [])) HX) (nl (upd HM D (.lst [])) (upd H' D o)) := fun b x e => by
  obtain ⟨x1, e⟩ := nl_out e
  have n1 : b ≠ D := fun z => x1 [] (by rw [z, upd_same])
  have n2 : b ≠ p := fun z => by
    obtain ⟨ys, hy⟩ := hp
    exact x1 ys (by rw [z, upd_ne (Ne.symm nD)]; exact hy)
  rw [nl_not x1, upd_ne n1]
  exact wo_le _ _ (s _ _ (wo_at e n2))
theorem bent_new {HM HX H' : Hp} {D p : Addr} {o : HO} {bs : List V} (hD : HX D = some (.lst bs)) (hp : ∃ ys, HX p = some (.lst ys)) (s : Same (wo HM p) (wo HX p)) : Same (nl HX H') (nl (upd HM D (.lst [])) (upd H' D o)) := fun b x e => by
  obtain ⟨x1, e⟩ := nl_out e
  have n1 : b ≠ D := fun z => x1 bs (by rw [z]; exact hD)
  have n2 : b ≠ p := fun z => by
    obtain ⟨ys, hy⟩ := hp
    exact x1 ys (by rw [z]; exact hy)
  rw [nl_not fun ys z => ?_, upd_ne n1]
  · exact e
  · rw [upd_ne n1] at z
    exact x1 ys (wo_le _ _ (s _ _ (wo_at z n2)))
/-- a small value -/
def Atom (x : V) : Prop := (∃ i : Int, x = .int i ∧ -100000 ≤ i ∧ i ≤ 1000000) ∨ (∃ z : Str, x = .str z ∧ okS 20 z) ∨ ∃ b, x = .bl b
theorem Atom.data {H : Hp} {x : V} (h : Atom x) : ∃ d, Dp K H x d ∧ okN 0 50 d := by
  rcases h with ⟨i, rfl, h0, h1⟩ | ⟨z, rfl, hz⟩ | ⟨b, rfl⟩
  · exact ⟨_, .int i, okN.int h0 h1⟩
  · exact ⟨_, .str z, hz.ok (by omega)⟩
  · exact ⟨_, .bl b, rfl, by simp [PyData.weight], rfl, Nat.le_refl 0, rfl⟩
theorem atoms_data {H : Hp} : ∀ {xs : List V}, (∀ x ∈ xs, Atom x) → ∃ ds, DpAll K H xs ds ∧ (∀ d ∈ ds, okN 0 50 d) ∧ ds.length = xs.length
  | [], _ => ⟨[], .nil, fun d hd => (List.not_mem_nil hd).elim, rfl⟩
  | x :: xs, h => by
    obtain ⟨ds, h1, h2, h3⟩ := atoms_data (H := H) fun y hy => h y (List.mem_cons_of_mem _ hy)
    obtain ⟨d, g1, g2⟩ := (h x List.mem_cons_self).data (K := K) (H := H)
    exact ⟨d :: ds, .cons g1 h1, fun e he => (List.mem_cons.mp he).elim (fun z => z ▸ g2) (h2 e), by rw [List.length_cons, List.length_cons, h3]⟩
/-- data that may be shown -/
def Fit (K : PySem.W.Frag) (H : Hp) (x : V) : Prop := ∃ d, Dk K H x d ∧ okData d = true
theorem Fit.same {H H' : Hp} {x : V} (h : Fit K H x) (s : Same H H') : Fit K H' x := by
  obtain ⟨d, h1, h2⟩ := h
  exact ⟨d, Dk.same s h1, h2⟩
theorem Fit.tup {H : Hp} {c : Addr} {xs : List V} (h : SqT K H c xs) (ha : ∀ x ∈ xs, Atom x) (hl : xs.length ≤ 8) : Fit K H (.ref c) := by
  obtain ⟨ds, h1, h2, h3⟩ := atoms_data (K := K) (H := H) ha
  exact ⟨.tuple ds, .dp (.tup h h1), (okN.tup h2 (by omega)).ok (by omega) (by decide)⟩
theorem Fit.lst {H : Hp} {c : Addr} {xs : List V} (h : SqL K H c xs) (ha : ∀ x ∈ xs, Atom x) (hl : xs.length ≤ 8) : Fit K H (.ref c) := by
  obtain ⟨ds, h1, h2, h3⟩ := atoms_data (K := K) (H := H) ha
  exact ⟨.list ds, .dp (.lst h h1), (okN.lst h2 (by omega)).ok (by omega) (by decide)⟩
theorem same_wo_new {H : Hp} {c : Addr} {o : HO} (h : H c = none) : Same H (wo (upd H c o) c) := fun b x e => by
  have ne : b ≠ c := ne_of_none e h
  rw [wo_ne ne, upd_ne ne]
  exact e
/-- a def whose code object is known -/
theorem fnG_code {x qual : Str} {st : Stmt} {f cc : Addr} {fd : FuncData} {N ps : List Str} {k : Nat} {sp : Sp} (F : Fun K x qual st f fd) (hcc : fd.code = .ref cc) (S : FnScope N ps (defScope st)) (len : ∀ vs H Q E, sp vs H Q E → vs.length = ps.length)
    (hbody : ∀ (A : Around) (outer : List Env) (s : Shared) (H : Hp) (vs : List V) (Q : VK), Room k (A.deeper (envOfC qual (defScope st) s.heap.objs.size f (.ref cc))) → (A.deeper (envOfC qual (defScope st) s.heap.objs.size f (.ref cc))).guards = some [] → sp vs H Q E0 →
      ∃ t, PSs (cxOf CX0 P w K mg base N qual (defScope st) f (.ref cc) A outer s H E0).nox (defBody st) t ∧ t { nx := fun _ H' => Q .non H', rt := Q } (L2.start N vs) H) : FnG P w K mg base (k + 1) f fd ps sp := by
  obtain ⟨oc, od, kV, doc, pm, an, cdv, ct, osl, rfl, lk, hcd⟩ := F.ex
  have e : cdv = .ref cc := hcc
  subst e
  refine ⟨len, fun A outer s H args us vs Q hr hg e0 hb r hsp => ?_⟩
  exact run_ofS lk hcd S hr e0 hb r (len _ _ _ _ hsp) fun hr' => by
    obtain ⟨t, h, q⟩ := hbody A outer s H vs Q hr' hg hsp
    exact ⟨t, h.nox, q⟩
end
theorem defFun {K : PySem.W.Frag} {x qual : Str} {st : Stmt} {f : Addr} {fd : FuncData} (F : FunD K x qual (defArgs st) (defBody st) (defScope st) [] [] f fd) : Fun K x qual st f fd := by
  obtain ⟨oc, od, dV, kV, doc, pm, an, cdv, ct, osl, h1, h2, h3, h4, _⟩ := F.ex
  rcases h4 with ⟨_, rfl⟩ | ⟨z, _⟩
  · exact ⟨⟨oc, od, kV, doc, pm, an, cdv, ct, osl, h1, h2, h3⟩, F.kp⟩
  · exact absurd rfl z
/-- a tuple that the top has laid -/
def ktB (K : PySem.W.Frag) (a : Addr) (vs : List V) : Bool := match K.lookup a with
  | some ⟨.type c, _, .seq its _, _⟩ => decide (c = "tuple") && (decide (its.size ≤ 1000) && He.relAll vs its.toList)
  | _ => false
theorem ktB_ok {K : PySem.W.Frag} {a : Addr} {vs : List V} (h : ktB K a vs = true) : KT K a vs := by
  unfold ktB at h
  split at h
  · rename_i c od its n sl ho
    simp only [Bool.and_eq_true, decide_eq_true_eq] at h
    obtain ⟨rfl, h2, h3⟩ := h
    exact ⟨_, its, n, ho, rfl, rfl, Nat.le_trans h2 (by decide), He.relAll_ok h3⟩
  · cases h
/-- an error's class -/
def oexB (K : PySem.W.Frag) (C : Addr) : Bool := match K.lookup C with
  | some ⟨.type c, _, .cls cd, sl⟩ => decide (c = "type") && (match cd.mro, sl.toList with
    | .ref D :: bm, [_, _, _, _, some (.builtin n), _] => decide (D = C) && (decide (n = "ValueError.__new__") && (!cd.hasDel && (cd.hasDict && PySem.HandSPX.refsVE bm)))
    | _, _ => false)
  | _ => false
theorem oexB_ok {K : PySem.W.Frag} {C : Addr} (h : oexB K C = true) : ∃ nm q N bs bm sn sub ab col dd k0 k1 k2 k3 k5, K.lookup C = some (excClassObj nm q C N bs bm true sn sub ab col dd k0 k1 k2 k3 k5 "ValueError.__new__") ∧ PySem.HandSPX.refsVE bm = true := by
  unfold oexB at h
  split at h
  · rename_i c dd cd sl ho
    simp only [Bool.and_eq_true, decide_eq_true_eq] at h
    obtain ⟨rfl, h⟩ := h
    split at h
    · rename_i D bm k0 k1 k2 k3 n k5 hm hs
      simp only [Bool.and_eq_true, decide_eq_true_eq, Bool.not_eq_true'] at h
      obtain ⟨rfl, rfl, h3, h4, h5⟩ := h
      obtain ⟨nm, bs, mro, ns, qn, hd, sn, sub, ab, col, del⟩ := cd
      dsimp only at hm h3 h4
      subst hm h3 h4
      obtain ⟨l⟩ := sl
      dsimp only at hs
      subst hs
      exact ⟨nm, qn, ns, bs, bm, sn, sub, ab, col, dd, k0, k1, k2, k3, k5, ho, h5⟩
    · cases h
  · cases h
/-- all that is asked of an error's class -/
def errB (K : PySem.W.Frag) (C fI CS : Addr) : Bool := oexB K C && (decide (PySem.W.findIn K (.ref C) "__setattr__" = some (some (.builtin "object.__setattr__"))) && (decide (PySem.W.typeIn K (.ref C) = some (.type "type")) && (PySem.W.keepIn K (.ref C) &&
  (decide (PySem.W.findIn K (.ref C) "__init__" = some (some (.ref fI))) && (decide (PySem.W.typeIn K (.ref fI) = some (.type "function")) && (decide (PySem.W.findIn K (.ref C) "value" = some none) && (xfB K C && decide (PySem.W.exmOne K (.ref C) (.ref CS) = some true))))))))
theorem errB_ok {K : PySem.W.Frag} {C fI CS : Addr} (h : errB K C fI CS = true) : ErrC K C fI ∧ XfC K C ∧ PySem.W.exmOne K (.ref C) (.ref CS) = some true := by
  unfold errB at h
  simp only [Bool.and_eq_true, decide_eq_true_eq] at h
  obtain ⟨h1, h2, h3, h4, h5, h6, h7, h8, h9⟩ := h
  have X := xfB_ok h8
  exact ⟨⟨⟨oexB_ok h1, h2, X.exC, h3, h4⟩, h5, h6, h7⟩, X, h9⟩
theorem keys_none {P : Params} {z : Str} : ∀ {l : List DictEntry} {ks : List Str}, l.map He.keyOf = He.keysIn P ks → z ∉ ks → (l.find? (·.key.isStr z) = none) ∧ l.any (·.refKey) = false
  | [], _, _, _ => ⟨rfl, rfl⟩
  | e :: r, [], h, _ => by cases h
  | e :: r, k :: ks, h, nz => by
    have h1 : He.keyOf e :: r.map He.keyOf = some (k, PyData.keyHash P k) :: He.keysIn P ks := h
    injection h1 with h2 h3
    obtain ⟨i1, i2⟩ := keys_none h3 fun y => nz (List.mem_cons_of_mem _ y)
    unfold He.keyOf at h2
    split at h2
    · rename_i x t hk
      obtain ⟨rfl, _⟩ := Prod.mk.inj (Option.some.inj h2)
      have ne : x ≠ z := fun y => nz (y ▸ List.mem_cons_self)
      have e1 : e.key.isStr z = false := by rw [hk]; simpa [Value.isStr] using ne
      have e2 : e.refKey = false := by unfold DictEntry.refKey; rw [hk]
      exact ⟨by rw [List.find?_cons, e1]; exact i1, by rw [List.any_cons, e2, i2]; rfl⟩
    · cases h2
theorem dicW_none {K : PySem.W.Frag} {P : Params} {a : Addr} {ks : List Str} {z : Str} (h : He.dicW K a = some (He.keysIn P ks)) (nz : z ∉ ks) : PySem.W.nsIn K a z = some none := by
  unfold He.dicW at h
  split at h
  · rename_i c es n sl ho
    split at h
    · obtain ⟨e1, e2⟩ := keys_none (Option.some.inj h) nz
      unfold PySem.W.nsIn
      rw [ho]
      show (match es.toList.find? (·.key.isStr z) with | some e => some (some e.val) | none => if es.toList.any (·.refKey) then none else some none) = some none
      rw [e1]
      show (if es.toList.any (·.refKey) = true then none else some none) = some none
      rw [e2]
      rfl
    · cases h
  · cases h
/-- the one table, and the script where the written part has it not -/
def start0 (K : PySem.W.Frag) (Pt a : Addr) (o : Obj) (xs : List V) : Hp := fun b =>
  if b = Pt then some (.tbl #[]) else if b = a then (match K.lookup a with
    | none => some (.frz o (.lst xs))
    | some _ => none) else none
theorem start0_cases {K : PySem.W.Frag} {Pt a b : Addr} {o : Obj} {xs : List V} {u : HO} (h : start0 K Pt a o xs b = some u) : (b = Pt ∧ u = .tbl #[]) ∨ (b = a ∧ K.lookup a = none ∧ u = .frz o (.lst xs)) := by
  unfold start0 at h
  by_cases c : b = Pt
  · rw [if_pos c] at h
    exact .inl ⟨c, (Option.some.inj h).symm⟩
  · rw [if_neg c] at h
    by_cases c2 : b = a
    · rw [if_pos c2] at h
      cases hk : K.lookup a with
      | some x =>
        rw [hk] at h
        cases h
      | none =>
        rw [hk] at h
        exact .inr ⟨c2, rfl, (Option.some.inj h).symm⟩
    · rw [if_neg c2] at h
      cases h
theorem call_top {P : Program} {w : World} {K : PySem.W.Frag} {mg mb : Str → Option Value} {k : Nat} {fa a c Pt : Addr} {fd : FuncData} {x : Str} {sp : Sp} {s : Shared} {us : List Value} {ns : List Int}
    (kin : K.In s.heap) (gl : s.heap.Ns mainGlobals mg) (bl : s.heap.Ns builtinsNs mb) (blb : ∀ y : Str, y ≠ "__name__" → mb y = bootBuiltins y) (nol : s.heap.NoLimit) (gens : s.gens = #[])
    (tab : s.heap.get? Pt = some { cls := .none, data := .fields #[] }) (tabK : K.lookup Pt = none) (cod : PySem.W.CodeHd s.heap c Pt)
    (bmain : ∃ (bm : Addr) (ob : Obj), mg "__builtins__" = some (.ref bm) ∧ bm ≠ builtinsNs ∧ s.heap.get? bm = some ob ∧ ob.cls = .type "module" ∧ ob.dict = some builtinsNs ∧ ob.data = .plain)
    (scr : s.heap.get? a = some { cls := .type "list", data := .seq us.toArray }) (areI : IntsAre us ns) (short : ns.length ≤ sizeLine) (room : Room k callerA)
    (F : ∀ base : Heap, K.In base → base.Ns mainGlobals mg → TabB base mg c Pt → FnG P w K mg base k fa fd [x] sp) (bind : ∀ (s : Shared) (u : Value), BindsTo s fd ⟨[u], []⟩ [(x, u)])
    (keep : ∀ H : Hp, H Pt = some (.tbl #[]) → SqL K H a (ns.map V.int) → sp [.ref a] H (fun v _ => v = .bl true) E0) :
    codeAny (model P w) callerA (.call (.ref fa) ⟨[.ref a], []⟩) (fun r s' => r = .ok (.ret (.bool true)) ∧ OldK s.heap s'.heap ∧ s'.os = s.os ∧ AllBare s'.gens) s := by
  have vals := vals_ints areI
  have same_len := areI.length
  generalize hH : start0 K Pt a { cls := .type "list", data := .seq us.toArray } (ns.map V.int) = H
  have look : ∀ {b : Addr} {u : HO}, H b = some u → (b = Pt ∧ u = .tbl #[]) ∨ (b = a ∧ K.lookup a = none ∧ u = .frz { cls := .type "list", data := .seq us.toArray } (.lst (ns.map V.int))) := fun {b u} e => start0_cases (hH ▸ e)
  have apart : a ≠ Pt := fun z => by
    rw [z, tab] at scr
    exact absurd (congrArg Obj.data (Option.some.inj scr)) (fun y => nomatch y)
  have hPt : H Pt = some (.tbl #[]) := by rw [← hH]; exact if_pos rfl
  have hseq : SqL K H a (ns.map V.int) := by
    cases hk : K.lookup a with
    | some o =>
      have e := (kin a o hk).symm.trans scr
      exact .inr ⟨_, us.toArray, _, by rw [hk, Option.some.inj e], rfl, rfl, rfl, by rw [List.size_toArray, same_len]; exact short, by simpa using vals⟩
    | none =>
      refine .inl (.inr ⟨{ cls := .type "list", data := .seq us.toArray }, ?_⟩)
      rw [← hH]
      unfold start0
      rw [if_neg apart, if_pos rfl, hk]
  have sound : HOk P w H s.heap := fun b u e => by
    rcases look e with ⟨rfl, rfl⟩ | ⟨rfl, _, rfl⟩
    · exact tab
    · exact ⟨scr, by rw [List.length_map]; exact short, us, _, vals, scr⟩
  -- what is no list and no empty record is not tracked
  have out : ∀ {b : Addr} {o : Obj}, s.heap.get? b = some o → (∀ is n, o.data ≠ .seq is n) → o.data ≠ .fields #[] → H b = none := fun {b o} e n1 n2 => by
    cases q : H b with
    | none => rfl
    | some u =>
      rcases look q with ⟨rfl, _⟩ | ⟨rfl, _⟩
      · exact absurd (congrArg Obj.data (Option.some.inj (tab.symm.trans e))).symm n2
      · exact absurd (congrArg Obj.data (Option.some.inj (scr.symm.trans e))).symm (n1 _ _)
  have outD : ∀ {b : Addr} {o : Obj} {es : Array DictEntry} {n : Nat}, s.heap.get? b = some o → o.data = .dict es n → H b = none := fun {b o es n} e d => out e (fun _ _ z => by rw [d] at z; cases z) fun z => by rw [d] at z; cases z
  have dictK : ∀ {b : Addr} {m : Str → Option Value}, s.heap.Ns b m → (hidT s.heap H).Ns b m := fun {b m} hn => by
    obtain ⟨o, es, n, e, d, r⟩ := hn
    exact ⟨o, es, n, hidT_get e (outD e d), d, r⟩
  have kinB : K.In (hidT s.heap H) := fun b o e => hidT_get (kin b o e) (by
    cases q : H b with
    | none => rfl
    | some u =>
      rcases look q with ⟨rfl, _⟩ | ⟨rfl, z, _⟩
      · exact absurd (tabK.symm.trans e) fun y => nomatch y
      · exact absurd (z.symm.trans e) fun y => nomatch y)
  have module : L2.Mod K mg (hidT s.heap H) := by
    obtain ⟨ml, e1, e2⟩ := nol
    exact ⟨kinB, dictK gl, ⟨mb, dictK bl, blb⟩, ml, dictK e1, e2⟩
  have table : TabB (hidT s.heap H) mg c Pt := by
    refine ⟨?_, ?_, fun z => ?_⟩
    · obtain ⟨o, vs, file, tf, flags, tg, inF, text, tt, e1, e2, e3, e4, rest⟩ := cod
      refine ⟨o, vs, file, tf, flags, tg, inF, text, tt, hidT_get e1 (out e1 (fun _ _ y => by rw [e3] at y; cases y) fun y => ?_), e2, e3, e4, rest⟩
      rw [e3] at y
      have y' : vs = #[] := Data.fields.inj y
      rw [y'] at e4
      cases e4
    · obtain ⟨bm, ob, m1, m2, m3, m4, m5, m6⟩ := bmain
      refine ⟨bm, ob, m1, m2, fun y => ?_, fun y => ?_, hidT_get m3 (out m3 (fun _ _ y => by rw [m6] at y; cases y) fun y => by rw [m6] at y; cases y), m4, m5, m6⟩
      · obtain ⟨o, es, n, e, d, _⟩ := gl
        rw [← y, m3] at e
        rw [← Option.some.inj e, m6] at d
        cases d
      · have e := m3.symm.trans (y ▸ tab)
        have d := m6
        rw [Option.some.inj e] at d
        cases d
    · obtain ⟨o, es, n, e, d, _⟩ := gl
      have e' := e.symm.trans (z ▸ tab)
      rw [Option.some.inj e'] at d
      cases d
  have env : Env0 P w K mg (hidT s.heap H) callerA [] s H := ⟨rfl, module, fun b o e => of_hidT e, Nat.le_of_eq (hidT_size _ _), trivial, fun b hb => (List.not_mem_nil hb).elim, sound, .of_eq gens⟩
  refine codeAny_mono ((F _ kinB (dictK gl) table).run callerA [] s H ⟨[.ref a], []⟩ [.ref a] [.ref a] _ room rfl env (bind s (.ref a)) (.cons rfl .nil) (keep H hPt hseq)) fun r s' res => ?_
  match r, res with
  | .ok (.ret u), res =>
    obtain ⟨v, H', same_os, bare, un, sound', rv, ev⟩ := res
    have ev' : v = .bl true := ev
    subst ev'
    obtain rfl : u = Value.bool true := rv
    obtain ⟨more, hm⟩ := un.tbls Pt #[] hPt
    have after : s'.heap.get? Pt = some { cls := .none, data := .fields (#[] ++ more) } := sound' Pt _ hm
    have stays : ∀ b o, b ≠ Pt → s.heap.get? b = some o → s'.heap.get? b = some o := fun b o nb e => by
      cases q : H b with
      | none => exact un.keep b o e q (fun z => (List.not_mem_nil z).elim) (by simp)
      | some u =>
        rcases look q with ⟨z, _⟩ | ⟨rfl, _, rfl⟩
        · exact absurd z nb
        · have g := (sound' b _ (un.frzs b _ _ q)).1
          rw [← Option.some.inj (scr.symm.trans e)]
          exact g
    refine ⟨rfl, ⟨fun b o e => ?_, fun b o e => ?_⟩, same_os, bare⟩
    · by_cases hb : b = Pt
      · subst hb
        obtain rfl := Option.some.inj (tab.symm.trans e)
        refine .inr (.inl ⟨(cod.tab tab).isCodeTable, rfl, #[], more, rfl, ?_⟩)
        rw [after]
      · exact .inl (stays b o hb e)
    · by_cases hb : b = Pt
      · exact ⟨_, by rw [hb]; exact after⟩
      · exact ⟨o, stays b o hb e⟩
  | .ok .next, res => exact False.elim res
  | .ok .brk, res => exact False.elim res
  | .ok .cont, res => exact False.elim res
  | .error e, res => exact False.elim res
theorem FnG.lift {P : Program} {w : World} {K : PySem.W.Frag} {mg : Str → Option Value} {base : Heap} {j k : Nat} {f : Addr} {fd : FuncData} {ps : List Str} {sp : Sp} (F : FnG P w K mg base j f fd ps sp) (h : j ≤ k) : FnG P w K mg base k f fd ps sp :=
  ⟨F.len, fun A outer s H args us vs Q hr => F.run A outer s H args us vs Q (hr.mono h)⟩
end VG

set_option maxRecDepth 100000
set_option maxHeartbeats 8000000
/-! Rules of our own: enumerate of a tuple, keywords alone, count and index of texts, isinstance of a kept error. -/
namespace VG
open PySem PySem.Spec PyProof.Rows L2 LamX
/-! ### enumerate(t) -/
theorem meets_enumB {v : Value} {ob : Obj} {Hh : Heap → Prop} (B : PySem.Begins v ob Hh) :
    Meets (Builtin.«enumerate.__new__» ⟨[.type "enumerate", v], []⟩) (fun _ R s => Hh s.heap ∧
      R (.ok (.ret (.ref (s.heap.push ob).objs.size))) { s with heap := (s.heap.push ob).push { cls := .type "enumerate", data := .fields #[.none, .bool false, .ref s.heap.objs.size, rawInt 0, .none, .none] } }) :=
  .of_wp fun prog w A R s all => by
    obtain ⟨hp, g, d, tk, os⟩ := s; obtain ⟨h1, fin⟩ := all
    have hsub := sub_enumerate
    have walk : ∀ {A' : Around} {E' : Value → Shared → Prop} {Q' : Value → Shared → Prop}, Q' (.ref hp.objs.size) ⟨hp.push ob, g, d, tk, os⟩ → wpAny (model prog w) A' (pyIter v) Q' E' ⟨hp, g, d, tk, os⟩ :=
      fun q => B.iter prog w _ _ ⟨hp, g, d, tk, os⟩ _ h1 q
    wp_walk using walk
    refine wpAny_stack_any fun stk => wpAny_pure ?_
    split
    · rename_i cc _ _ _ _ _
      cases (cc == Value.type "enumerate")
      · wp_walk using walk
        exact ⟨_, rfl, fin⟩
      · wp_walk using walk
        exact ⟨_, rfl, fin⟩
    · wp_walk using walk
      exact ⟨_, rfl, fin⟩
theorem call_enumB {P : Program} {w : World} {A : Around} {E : Value → Shared → Prop} {s : Shared} {v : Value} {ob : Obj} {Hh : Heap → Prop} {Q : Value → Shared → Prop} (B : PySem.Begins v ob Hh) (h1 : Hh s.heap)
    (q : ∀ h', IsEnum h' (s.heap.objs.size + 1) s.heap.objs.size 0 .none → h'.get? s.heap.objs.size = some ob → h'.objs.size = s.heap.objs.size + 2 → (∀ b o, s.heap.get? b = some o → h'.get? b = some o) → Q (.ref (s.heap.objs.size + 1)) { s with heap := h' }) :
    wpAny (model P w) A (call (.type "enumerate") [v]) Q E s := by
  refine callType_new F.called_enumerate (by decide) (F.typeCall_enumerate_1 _) (F.newCall_enumerate_1 _) (fun obj => F.args_object_init_2 obj _) F.entry_enumerate_new (meets_enumB B) ⟨h1, ?_⟩
  have two : (s.heap.push ob).objs.size = s.heap.objs.size + 1 := Heap.size_push ..
  show _ ∧ _
  rw [two]
  have made := Heap.get?_push_size (s.heap.push ob) (o := { cls := .type "enumerate", data := .fields #[.none, .bool false, .ref s.heap.objs.size, rawInt 0, .none, .none] }) rfl
  rw [two] at made
  exact ⟨⟨_, made, rfl⟩, q _ made (Heap.get?_push_of_some _ (Heap.get?_push_size _ B.free)) (by rw [Heap.size_push, two]) fun b o e => Heap.get?_push_of_some _ (Heap.get?_push_of_some _ e)⟩
/-- the tuple at a as it stands at each turn, each item in a new pair -/
def IteT (K : PySem.W.Frag) (a : Addr) : It :=
  ⟨fun i H => ∃ (xs : List V) (x : V), SqT K H a xs ∧ xs[i]? = some x, fun i H v H' => ∃ T x, v = .ref T ∧ H T = none ∧ H' = upd H T (.tup [.int (i : Nat), x]) ∧ ∀ xs, SqT K H a xs → xs[i]? = some x, fun i H => ∃ xs : List V, SqT K H a xs ∧ xs.length ≤ i⟩
theorem enum_not_tup {h : Heap} {e it a : Addr} {c : Int} {old : Value} {its : Array Value} (he : IsEnum h e it c old) (ht : h.IsTuple a its) : e ≠ a := fun z => by
  obtain ⟨o, ho, hc, _⟩ := ht
  rw [← z] at ho
  have e2 := Option.some.inj (he.symm.trans ho)
  rw [← e2] at hc
  have hc' : ("enumerate" : String) = "tuple" := Value.type.inj hc
  exact absurd hc' (by decide)
theorem turn_enumT {P : Program} {w : World} {K : PySem.W.Frag} {elts : List Expr} {kk : Nat} {tpos : Pos} (a e it : Addr) (hai : a ≠ it) :
    Turn P w K (.Tuple elts kk tpos) (IteT K a) [e, it] e (fun i h => (∃ old, IsEnum h e it ((i : Nat) : Int) old) ∧ h.IsTupleIter it a i ∧ e ≠ it) where
  mem := by simp
  obj := fun i h st b hb => by
    obtain ⟨⟨old, he⟩, ⟨o, ho, hc, hd⟩, _⟩ := st
    rcases (show b = e ∨ b = it by simpa using hb) with rfl | rfl
    · exact ⟨_, he, fun v q => nomatch q⟩
    · exact ⟨o, ho, fun v q => by rw [hd] at q; cases q⟩
  keep := fun i h h' st k => ⟨⟨st.1.choose, k e (by simp) _ st.1.choose_spec⟩, st.2.1.at fun o q => k it (by simp) o q, st.2.2⟩
  item := by
    intro X hP hw hK hc i pins s σ H E I hf st hg
    subst hP hw hK
    obtain ⟨⟨old, he⟩, hit, hne⟩ := st
    obtain ⟨xs, x, hq, hx⟩ := hg
    obtain ⟨its, rv, p, hz⟩ := I.tuple hq
    have p' : s.heap.IsTuple a its.toArray := p
    obtain ⟨u, hu, ru⟩ := rv.get hx
    have hea := enum_not_tup he p'
    have hel : e < s.heap.objs.size := Heap.lt_size he
    have hil : it < s.heap.objs.size := by obtain ⟨_, q, _⟩ := hit; exact Heap.lt_size q
    have hlt : i < its.toArray.size := by
      have := (List.getElem?_eq_some_iff.mp hu).1
      simpa using this
    refine wpAny_pyNext_enum_itemD (PySem.Draws.tuple (prog := X.prog) (w := X.w) (A := X.A.in1) (show X.A.in1.handled = none from I.ok.hd hc) it a hai its.toArray) he ⟨hit, p'⟩ hlt hne (by simp [hne, hea]) fun y h' tk hy ho st' hT hsz hk => ?_
    obtain rfl : u = y := by
      have hy' : its.toArray[i]? = some y := hy
      rw [List.getElem?_toArray, hu] at hy'
      exact Option.some.inj hy'
    refine ⟨_, rfl, wpAny_letOwnedTupleGo_enum (s := { s with heap := h', toks := tk + 1 }) ho fun h'' he' sb => ?_⟩
    have hT2 : h''.get? s.heap.objs.size = some { cls := .type "tuple", data := .seq #[.int i tk, u] } := (sb.2 _ (Nat.ne_of_gt hel)).trans hT
    have fresh_ : ObjOk X.prog X.w (upd H s.heap.objs.size (.tup [.int (i : Nat), x])) h'' s.heap.objs.size (.tup [.int (i : Nat), x]) :=
      ⟨by show 2 ≤ sizeLine; decide, [.int i tk, u], .cons ⟨_, rfl⟩ (.cons ru .nil), ⟨_, hT2, rfl, _, rfl⟩⟩
    have I1 : Inv X pins σ (upd H s.heap.objs.size (.tup [.int (i : Nat), x])) { s with heap := h'', toks := tk + 1 } :=
      I.turnedNew (ch := [e, it]) (fun b o hb q => (sb.2 b (fun z => hb (by simp [z]))).trans (hk b o (fun z => hb (by simp [z])) (fun z => hb (by simp [z])) q)) hf (Nat.le_refl _) fresh_
    refine ⟨.ref s.heap.objs.size, _, I1, rfl, ⟨_, x, rfl, I.hok.fresh (Nat.le_refl _), rfl, fun ys hy => by rw [I.tuple_inj hy hq]; exact hx⟩, ⟨⟨u, ?_⟩, st'.1.at fun o q => (sb.2 it (Ne.symm hne)).trans q, hne⟩, fun b hb => ?_⟩
    · rw [show ((i + 1 : Nat) : Int) = (i : Int) + 1 by omega]
      exact he'
    · have hb' : b < s.heap.objs.size := by
        rcases (show b = e ∨ b = it by simpa using hb) with rfl | rfl
        · exact hel
        · exact hil
      rw [upd_ne (Nat.ne_of_lt hb')]
      exact (hf b hb).1
  done := by
    intro X hP hw hK hc i pins s σ H E I hf st hg
    subst hP hw hK
    obtain ⟨⟨old, he⟩, hit, hne⟩ := st
    obtain ⟨xs, hq, hx⟩ := hg
    obtain ⟨its, rv, p, hz⟩ := I.tuple hq
    have p' : s.heap.IsTuple a its.toArray := p
    obtain ⟨f0, f1, f2, f3, f4, f5⟩ := hf it (by simp)
    have hl := rv.length
    have hnone : its.toArray[i]? = none := by simp; omega
    have hT : s.TypeIs (.ref e) "enumerate" := ⟨_, he, rfl⟩
    unfold pyNext
    refine wpAny_bind (wpAny_attempt (wpAny_callSpecial?_slot (name := Str.ofString "__next__") hT F.slot_enumerate_next (wpAny_call_entry F.slot_enumerate_next hT F.entry_enumerate_next ?_ (F.args_enumerate_next_1 _))))
    show wpAny _ _ (field (.ref e) 2 >>= _) _ _ _
    refine wpAny_bind (wpAny_field he rfl (x := .ref it) rfl ?_)
    refine wpAny_bind (PySem.wpAny_nextOf_tuple_end (I.ok.hd hc) hit p' hnone fun h' x eb hx' => ?_)
    obtain ⟨o, ho, hcl⟩ := hx'
    refine wpAny_bind (wpAny_isInstance (T := "StopIteration") (b := true) ⟨o, ho, hcl⟩ isSubtype_stop ?_)
    exact wpAny_pure ⟨rfl, I.turned (t' := s.toks) (fun b o hb q => eb b o hb q) f0 f1 f3 f4 f5⟩
  self := fun A i s Q E st h => wpAny_pyIter_enum st.1.choose_spec h
def iEnumT (K : PySem.W.Frag) (ta : TA) : TI := fun σ H R => ta σ H fun vs H1 => ∃ a xs, vs = [.ref a] ∧ SqT K H1 a xs ∧ R (IteT K a) H1
theorem pi_enumT {X : Cx} {e : Expr} {ta : TA} {p pos tpos : Pos} {elts : List Expr} {kk : Nat} (hg : Gl X "enumerate") (hm : X.mg "enumerate" = none) (ha : PA X [e] ta) (hs : starEach [e] X.env = [(false, eval e X.env)] := by rfl) :
    PI X (.Tuple elts kk tpos) (.Call (.Name "enumerate" p) [e] [] pos) (iEnumT X.K ta) := by
  refine ⟨fun pins s σ H R I h => Call_ (ld_blt I hg hm boot_enumerate (PyProof.Rows.callWith_type1 (thn (ha.run pos pins s σ H _ I h) fun us s1 ⟨vs, H1, I1, r1, a, xs, ex, hq, q⟩ => ?_) hs rfl))⟩
  subst ex
  cases r1 with
  | cons r rr =>
    cases rr
    cases r
    obtain ⟨its, rv, pt, hz⟩ := I1.tuple hq
    have hla : a < s1.heap.objs.size := by obtain ⟨_, z, _⟩ := id pt; exact Heap.lt_size z
    refine call_enumB (PySem.begins_tuple a its.toArray) pt fun h' he hit hsz hk => wpAny_pyIter_enum he ?_
    have I2 : Inv X pins σ H1 { s1 with heap := h' } := I1.kept (t' := s1.toks) hk
    refine ⟨s1.heap.objs.size + 1, [s1.heap.objs.size + 1, s1.heap.objs.size], _, _, H1, rfl, I2, turn_enumT a (s1.heap.objs.size + 1) s1.heap.objs.size (Nat.ne_of_lt hla), ⟨⟨.none, he⟩, ⟨_, hit, rfl, rfl⟩, Nat.succ_ne_self _⟩, fun b hb => ?_, q⟩
    have hle : s1.heap.objs.size ≤ b := by
      rcases (show b = s1.heap.objs.size + 1 ∨ b = s1.heap.objs.size by simpa using hb) with rfl | rfl
      · exact Nat.le_add_right _ _
      · exact Nat.le_refl _
    exact I1.fpOk hle (I1.hok.fresh hle)
/-! ### f(k = v, ..), keywords alone -/
theorem pe_callK0 {X : Cx} {CX : CXT} {k : Nat} {f : Addr} {fd : FuncData} {ps ks : List Str} {sp : Sp} {E : XK} {x : Str} {p pos : Pos} {kws : List Keyword} {tk : TA} {g : List Value → List Value → List Value} {gV : List V → List V → List V}
    (F : FnOk X.prog X.w X.K X.mg X.base CX k f fd ps sp) (hr : Room k X.A) (hg : Gl X x) (hm : X.mg x = some (.ref f)) (hk : PySem.W.keepIn X.K (.ref f) = true) (hb : KBinds X.K fd ps ks g gV) (hx : Passes CX X E) (hkw : PK X kws tk)
    (hall : (backToKw pos (keywordEach kws X.env)).all (·.1.isSome) = true := by rfl) (hks : (backToKw pos (keywordEach kws X.env)).filterMap (·.1) = ks := by rfl) (hdb : (x == ("__debug__" : Str)) = false := by decide)
    (hpl : ((backTo pos (starEach [] X.env)).any (·.1) || (backToKw pos (keywordEach kws X.env)).any (·.1.isNone)) = false := by rfl) :
    PE X (.Call (.Name x p) [] kws pos) (tCallK sp gV E tNil tk) := by
  refine ⟨fun pins s σ H Q I h => wpAny_Call_Name_kw (ld_glob I hg hm ?_ hdb)⟩
  refine PySem.W.callWith_KW0 (h₀ := X.base) I.ok.mod.kin hk hall (thn (hkw.run pos pins s σ H _ I h) fun ws s2 ⟨zs, H2, I2, rz, q2⟩ => ⟨I2.kIn, ?_⟩) hpl
  rw [hks]
  exact run_fnk (us := []) (vs := []) F hr hb hx I2 .nil rz q2
/-! ### xs.count(z), texts -/
theorem eqU_count {z : Str} {t : Tok} : ∀ {us : List Value} {ys : List Str}, Vals (ys.map V.str) us → us.countP (eqU (.str z)) = ys.count z
  | [], [], _ => rfl
  | u :: us, y :: ys, h => by
    cases h with
    | cons r rr =>
      have ih := eqU_count (z := z) (t := t) rr
      obtain ⟨t', rfl⟩ := r
      rw [List.countP_cons, List.count_cons, ih]
      rfl
  | [], _ :: _, h => by cases h
  | _ :: _, [], h => by cases h
def rCntS (K : PySem.W.Frag) : V → List V → Hp → VK → Prop := fun x xs H Q => ∃ (p : Addr) (ys : List Str) (z : Str), x = .ref p ∧ xs = [.str z] ∧ SqL K H p (ys.map V.str) ∧ Q (.int (ys.count z : Nat)) H
theorem mt_countS {X : Cx} : MtR X "list.count" (rCntS X.K) := by
  intro pins s σ H x xs v us Q I rx rxs h
  obtain ⟨p, ys, z, rfl, rfl, hs, q⟩ := h
  cases rx
  obtain ⟨u, rfl, t, rfl⟩ := vals1 rxs
  obtain ⟨its, rv, ⟨⟨cls, dd, data, sl⟩, n, ho, hc, hdn, hd⟩, hlen⟩ := I.list hs
  simp only at hc hd
  subst hc hd
  refine call_meets PySem.F.slot_list_count ⟨_, ho, rfl⟩ PySem.F.entry_list_count (PySem.F.args_list_count_2 _ _) (SeqAt.list_countAt p its.toArray n dd sl (.str z t) (eqU (.str z)))
    ⟨ho, fun w hw => mem_eqAt (x := .str z) ⟨t, rfl⟩ rfl rv (L2.flat_strs ys) w (by simpa using hw), .int (ys.count z : Nat), H, I.tok _, ⟨s.toks, ?_⟩, q⟩
  show Value.int ((its.toArray.toList.countP (eqU (.str z)) : Nat) : Int) s.toks = Value.int ((ys.count z : Nat) : Int) s.toks
  rw [show its.toArray.toList.countP (eqU (.str z)) = ys.count z from eqU_count (t := t) rv]
end VG

set_option maxRecDepth 100000
set_option maxHeartbeats 8000000
/-! isinstance(e, C), e a caught and kept error of an own class, C that class or another one; t.index of flat things. -/
namespace VG
open PySem PySem.Spec PySem.Calls PyProof.Rows L2 LamX
/-- what an error's class tells, so that its instances answer isinstance -/
structure IsC (K : PySem.W.Frag) (D : Addr) : Prop where
  f : XfC K D
  a : PySem.W.findIn K (.ref D) "__class__" = some (some (.builtin "object.__class__"))
  g : PySem.W.specialIn K (.builtin "object.__class__") "__get__" = some (some (.builtin "getset_descriptor.__get__"))
  t : PySem.W.takesIn K (.builtin "object.__class__") = some true
  m : PySem.W.mroIn K D (.type "object") = some true
def isCB (K : PySem.W.Frag) (D : Addr) : Bool := xfB K D && (decide (PySem.W.findIn K (.ref D) "__class__" = some (some (.builtin "object.__class__"))) && (decide (PySem.W.specialIn K (.builtin "object.__class__") "__get__" = some (some (.builtin "getset_descriptor.__get__"))) &&
  (decide (PySem.W.takesIn K (.builtin "object.__class__") = some true) && decide (PySem.W.mroIn K D (.type "object") = some true))))
theorem isCB_ok {K : PySem.W.Frag} {D : Addr} (h : isCB K D = true) : IsC K D := by
  unfold isCB at h
  simp only [Bool.and_eq_true, decide_eq_true_eq] at h
  exact ⟨xfB_ok h.1, h.2.1, h.2.2.1, h.2.2.2.1, h.2.2.2.2⟩
section
variable {K : PySem.W.Frag} {D x : Addr} {ob : Obj} {od : Option Obj}
theorem IsC.cls (C : IsC K D) : ∃ cd, PySem.W.clsIn K D = some cd := by
  obtain ⟨cd, e, _⟩ := PySem.W.any_some C.f.hdC
  exact ⟨cd, e⟩
theorem IsC.bound (C : IsC K D) : PySem.W.findObj K D od "__class__" = some (.bind (.builtin "getset_descriptor.__get__") (.builtin "object.__class__")) := by
  obtain ⟨cd, e⟩ := C.cls
  unfold PySem.W.findObj
  simp only [e, C.a, C.g, C.t, Option.bind_some]
/-- e.__class__ -/
theorem IsC.ask {prog : Program} {w : World} {A : Around} {E : Value → Shared → Prop} {s : Shared} {Q : Option Value → Shared → Prop} (C : IsC K D) (kin : K.In s.heap) (J : PySem.W.InstAt s.heap x ob D od) (q : Q (some (.ref D)) { s with toks := s.toks + 1 }) :
    wpAny (model prog w) A (getAttr? (.ref x) "__class__") Q E s := by
  obtain ⟨hp, gs, dr, tk, os⟩ := s
  have ty := J.type (M := model prog w)
  have below : PySem.W.Looks (model prog w) hp (isInstance (.ref x) (.type "BaseException")) true := ty.andThen (PySem.W.looks_subIn kin C.f.exC)
  have far : (Value.builtin "BaseException.__getattribute__" == Value.builtin "object.__getattribute__") = false := by decide +kernel
  have far2 : (onTheHeap (Value.ref D) && Value.builtin "BaseException.__getattribute__" == Value.builtin "object.__getattribute__") = false := by rw [far]; rfl
  unfold getAttr? getAttrBy? getAttrBy
  refine wpAny_bind (wpAny_mkText (wpAny_bind (wpAny_attempt (wpAny_holding (wpAny_bind (ty.at (wpAny_bind ((PySem.W.looks_findIn (M := model prog w) kin C.f.ga).at ?_))))))))
  show wpAny _ _ (if (onTheHeap (Value.ref D) && Value.builtin "BaseException.__getattribute__" == Value.builtin "object.__getattribute__") = true then _ else _) _ _ _
  rw [far2, if_neg Bool.false_ne_true]
  unfold getAttrByItsOwn hookBefore
  refine wpAny_bind ?_
  rw [if_pos (show onTheHeap (Value.ref D) = true from rfl)]
  refine (PySem.W.looks_findIn (M := model prog w) kin C.f.gg).at (wpAny_bind (wpAny_attempt (wpAny_holding ?_)))
  unfold callGetattribute
  rw [show (false && onTheHeap (Value.builtin "BaseException.__getattribute__")) = false from rfl, if_neg Bool.false_ne_true]
  unfold boundAndCalled
  rw [PySem.F.excAttr_ValueError.ga.bind (.ref x)]
  refine wpAny_bind (wpAny_pure ?_)
  show wpAny _ _ (call (.builtin "BaseException.__getattribute__") [.ref x, .str "__class__" tk]) _ _ _
  refine wpAny_call (codeAny_call_builtin PySem.F.excAttr_ValueError.ga.plain PySem.F.entry_bexc_ga (@PySem.W.check_slot (model prog w) _ _ ⟨hp, gs, dr, tk + 1, os⟩ "BaseException.__getattribute__" "BaseException" "__getattribute__" (.ref x) [.str "__class__" tk] [] _ (by decide +kernel) (by decide +kernel) below (PySem.F.args_bexc_ga (.ref x) (.str "__class__" tk)) ?_))
  unfold Builtin.«object.__getattribute__»
  refine wpAny_bind (wpAny_of_eq (a := ((Value.ref x : Value), [Value.str "__class__" tk])) (by first | rfl | (simp only [slotArgs]; rfl)) (wpAny_bind (wpAny_pure (wpAny_bind (ty.at (wpAny_bind ((PySem.W.looks_find (M := model prog w) kin J C.bound).at ?_)))))))
  show wpAny _ _ (holding [Value.builtin "object.__class__"] (call (.builtin "getset_descriptor.__get__") [.builtin "object.__class__", .ref x, .ref D]) >>= ret) _ _ _
  refine wpAny_bind (wpAny_holding (wpAny_call (PySem.W.class_get (s := ⟨hp, gs, dr, tk + 1, os⟩) (ox := ob) (od := od) kin J C.m (wpAny_pure ?_))))
  show wpAny _ _ (handedOut (.ref D)) _ _ _
  rw [PySem.W.handedOut_of (v := .ref D) rfl]
  first
    | exact wpAny_pure (wpAny_pure q)
    | exact wpAny_pure q
    | exact wpAny_pure (wpAny_bind (wpAny_pure (wpAny_pure q)))
theorem IsC.kit (C : IsC K D) : PySem.W.KitX K (.ref x) (.ref D) (fun h => PySem.W.InstAt h x ob D od) where
  ty := fun _ _ _ J => J.type
  it := fun _ h kin _ => by
    obtain ⟨cd, e⟩ := C.cls
    unfold PySem.W.clsIn at e
    split at e
    · rename_i c1 d1 cd1 sl1 ho
      intro A' Q' E' s' k q
      unfold isType loadHead
      exact wpAny_bind (wpAny_loadPart (k _ _ (kin _ _ ho)) (wpAny_pure q))
    · cases e
  ne := fun h tp dd its n sl kin htp => by
    obtain ⟨cd, e⟩ := C.cls
    refine Bool.eq_false_iff.mpr fun z => ?_
    obtain rfl := Value.ref.inj (beq_iff_eq.mp z)
    unfold PySem.W.clsIn at e
    split at e
    · rename_i c1 d1 cd1 sl1 ho
      have y := (kin _ _ ho).symm.trans htp
      cases y
    · cases e
  ca := fun kin J k => C.ask kin J k
end
/-- isinstance(e, C) -/
def rIsErrB (K : PySem.W.Frag) : List V → Hp → VK → Prop := fun xs H Q => ∃ (a D C d : Addr) (fs : List (Str × V)) (b : Bool), xs = [.ref a, .ref C] ∧ H a = some (ErrO D d a) ∧ H d = some (.xd fs) ∧ IsC K D ∧ PySem.W.kitOne K (.ref D) (.ref C) = some b ∧ Q (.bl b) H
theorem call_isErrB {X : Cx} : CallR X (.builtin "isinstance") (rIsErrB X.K) := by
  intro pp s σ H xs vus Q I r h
  obtain ⟨a, D, C, d, fs, b, rfl, ha, hd, T, e, q⟩ := h
  obtain ⟨u1, u2, rfl, r1, r2⟩ := vals2 r
  cases r1; cases r2
  obtain ⟨oe, fv, h1, hz, hfv⟩ := err_get I ha
  obtain ⟨mA, nsd, hr⟩ := (show ObjOk X.prog X.w H s.heap d (.xd fs) from I.hok d _ hd)
  obtain ⟨odd_, look_, lkd⟩ := lookIn_ns nsd
  have J : PySem.W.InstAt s.heap a oe D (some odd_) := ⟨h1, hz.1, by unfold PySem.W.notCls; rw [hfv] <;> rfl, by rw [hz.2]; exact look_⟩
  exact PySem.W.kia_one T.kit I.kIn J e (fun z => nomatch z) fun tk => ⟨.bl b, H, I.kept (t' := tk) fun _ _ z => z, rfl, q⟩
/-- t.index(y), flat things -/
def rTupIx (K : PySem.W.Frag) : V → List V → Hp → VK → Prop := fun x xs H Q => ∃ (p : Addr) (ys : List V) (y z : V) (j : Nat), x = .ref p ∧ xs = [y] ∧ SqT K H p ys ∧ flatV y = true ∧ ys.all flatV = true ∧ ys[j]? = some z ∧ eqV z y = true ∧ (∀ m z', m < j → ys[m]? = some z' → eqV z' y = false) ∧ Q (.int (j : Nat)) H
theorem mt_tup_indexF {X : Cx} : MtR X "tuple.index" (rTupIx X.K) := by
  intro pins s σ H x xs v us Q I rx rs h
  obtain ⟨p, ys, y, z, j, rfl, rfl, hq, fy, fys, hj, ej, no, q⟩ := h
  cases rx
  obtain ⟨u, rfl, ru⟩ := vals1 rs
  obtain ⟨its, r, ⟨⟨cls, dd, dt, sl⟩, ho, hc, n, hd⟩, hz⟩ := I.tuple hq
  simp only at hc hd
  subst hc hd
  have len := r.length
  have item : ∀ (m : Nat) (hm : m < its.toArray.size) (w : V), ys[m]? = some w → eqU y its.toArray[m] = eqV w y := fun m hm w hw => by
    obtain ⟨u', hu', ru'⟩ := r.get hw
    have e : its.toArray[m] = u' := by
      have := (List.getElem?_eq_some_iff.mp hu').2
      simpa using this
    rw [e, eqU_of ru' (List.all_eq_true.mp fys w (List.mem_of_getElem? hw))]
  have jlt : j < its.toArray.size := by
    have := (List.getElem?_eq_some_iff.mp hj).1
    rw [List.size_toArray]
    omega
  refine call_meets PySem.F.slot_tuple_index ⟨_, ho, rfl⟩ PySem.F.entry_tuple_index (PySem.F.args_tuple_index_2 _ _) (TI.tuple_indexAt p its.toArray n dd sl u (eqU y) j jlt ?_ ?_)
    ⟨ho, fun w hw => mem_eqAt ru fy r fys w (by simpa using hw), ⟨.int (j : Nat), H, I.tok _, ⟨_, rfl⟩, q⟩⟩
  · rw [item j jlt z hj]
    exact ej
  · intro m hm hmj
    have hm' : m < ys.length := by rw [List.size_toArray] at hm; omega
    rw [item m hm ys[m] (List.getElem?_eq_getElem hm')]
    exact no m _ hmj (List.getElem?_eq_getElem hm')
/-- xs.extend(t), t a tuple -/
theorem meets_extT (l : Addr) (its : Array Value) (n : Nat) (b : Addr) (more : Array Value) (n2 : Nat) (dd : Option Addr) (slo : Array (Option Value)) (h0 : ¬(!its.isEmpty && Builtin.List.listTooLong (its.size + more.size)) = true) (h1 : its.size ≤ sizeLine) (h2 : its.size + more.size ≤ sizeLine + 1) :
    Meets (Builtin.«list.extend» ⟨[.ref l, .ref b], []⟩) (fun _ R s => s.heap.get? l = some { cls := .type "list", dict := none, data := .seq its n, slots := #[] } ∧ s.heap.get? b = some { cls := .type "tuple", dict := dd, data := .seq more n2, slots := slo } ∧
      R (.ok (.ret Value.none)) { s with heap := s.heap.update l (Obj.mapSeq fun x => x ++ more), toks := s.toks }) :=
  .of_wp fun prog w A R s all => by
    obtain ⟨hp, gs, dr, tk, os⟩ := s
    obtain ⟨hl, hb, fin⟩ := all
    have k1 := AutoSeq1.idx_int; have k2 := AutoSeq1.sub_tuple_tuple; have k3 := AutoSeq1.sub_list_list; have k4 := AutoSeq1.sub_tuple_list; have k5 := AutoSeq1.sub_list_tuple
    have hz : (its ++ more).size ≤ sizeLine + 1 := by rw [Array.size_append]; exact h2
    wp_walk using (wpAny_updateSeq hl rfl (hz := h1) (_hz' := hz)), AutoSeq1.wpAny_loadPart' hl, AutoSeq1.wpAny_loadPart' hb
    exact ⟨_, rfl, fin⟩
def rExtT (K : PySem.W.Frag) : V → List V → Hp → VK → Prop := fun x vs H Q => ∃ l b xs zs, x = .ref l ∧ vs = [.ref b] ∧ H l = some (.lst xs) ∧ SqT K H b zs ∧ xs.length + zs.length ≤ sizeLine ∧ Q .non (upd H l (.lst (xs ++ zs)))
theorem mt_extT {X : Cx} : MtM X "list.extend" (rExtT X.K) := by
  intro pins s σ H x vs v us Q I rx rv h
  obtain ⟨l, b, xs, zs, rfl, rfl, hH, hB, hz, q⟩ := h
  cases rx
  obtain ⟨u, rfl, ru⟩ := rv.one
  cases ru
  obtain ⟨z, its, n, r, hl, e⟩ := I.lstM hH
  obtain ⟨more, r2, ⟨⟨cls, dd, dt, slo⟩, ho, hc, n2, hd⟩, _⟩ := I.tuple hB
  simp only at hc hd
  subst hc hd
  have l1 := r.length
  have l2 := r2.length
  have room : its.toArray.size + more.toArray.size ≤ sizeLine := by rw [List.size_toArray, List.size_toArray]; omega
  have short : ¬ (!its.toArray.isEmpty && Builtin.List.listTooLong (its.toArray.size + more.toArray.size)) = true := by
    rw [notLongL room, Bool.and_false]
    exact Bool.false_ne_true
  refine call_meets PySem.F.slot_list_extend ⟨_, e, rfl⟩ PySem.F.entry_list_extend (PySem.F.args_list_extend_2 _ _) (meets_extT l its.toArray n b more.toArray n2 dd slo short (by rw [List.size_toArray]; omega) (by omega)) ⟨e, ho, ?_⟩
  refine ⟨.non, _, I.lset (its' := its ++ more) hH e (by simp) (r.append r2) ?_, rfl, q⟩
  rw [List.length_append]
  omega
end VG

set_option maxRecDepth 100000
set_option maxHeartbeats 8000000
/-! Rules of our own: enumerate of a text; d.update(e). -/
namespace VG
open PySem PySem.Spec PyProof.Rows L2 LamX
/-- the text's signs, each in a new pair -/
def IteS (x : Str) : It :=
  ⟨fun i _ => i < x.cps.size, fun i H v H' => ∃ T c, x.cps[i]? = some c ∧ v = .ref T ∧ H T = none ∧ H' = upd H T (.tup [.int (i : Nat), .str ⟨#[c]⟩]), fun i _ => x.cps.size ≤ i⟩
theorem turn_enumS {P : Program} {w : World} {K : PySem.W.Frag} {elts : List Expr} {kk : Nat} {tpos : Pos} (x : Str) (t : Tok) (e it : Addr) :
    Turn P w K (.Tuple elts kk tpos) (IteS x) [e, it] e (fun i h => (∃ old, IsEnum h e it ((i : Nat) : Int) old) ∧ h.IsStrIter it (strIterType x) x t i ∧ e ≠ it) where
  mem := by simp
  obj := fun i h st b hb => by
    obtain ⟨⟨old, he⟩, ⟨o, ho, hc, hd⟩, _⟩ := st
    rcases (show b = e ∨ b = it by simpa using hb) with rfl | rfl
    · exact ⟨_, he, fun v q => nomatch q⟩
    · exact ⟨o, ho, fun v q => by rw [hd] at q; cases q⟩
  keep := fun i h h' st k => ⟨⟨st.1.choose, k e (by simp) _ st.1.choose_spec⟩, (let ⟨o, ho, r⟩ := st.2.1; ⟨o, k it (by simp) o ho, r⟩), st.2.2⟩
  item := by
    intro X hP hw hK hc i pins s σ H E I hf st hg
    subst hP hw hK
    obtain ⟨⟨old, he⟩, hit, hne⟩ := st
    have hel : e < s.heap.objs.size := Heap.lt_size he
    have hil : it < s.heap.objs.size := by obtain ⟨_, q, _⟩ := id hit; exact Heap.lt_size q
    refine wpAny_pyNext_enum_itemD (PySem.Draws.text (prog := X.prog) (w := X.w) (A := X.A.in1) (show X.A.in1.handled = none from I.ok.hd hc) it x t) he hit hg hne (by simp [hne]) fun y h' tk hy ho st' hT hsz hk => ?_
    obtain ⟨c, u, hcx, rfl⟩ := hy
    refine ⟨_, rfl, wpAny_letOwnedTupleGo_enum (s := { s with heap := h', toks := tk + 1 }) ho fun h'' he' sb => ?_⟩
    have hT2 : h''.get? s.heap.objs.size = some { cls := .type "tuple", data := .seq #[.int i tk, .str ⟨#[c]⟩ u] } := (sb.2 _ (Nat.ne_of_gt hel)).trans hT
    have fresh_ : ObjOk X.prog X.w (upd H s.heap.objs.size (.tup [.int (i : Nat), .str ⟨#[c]⟩])) h'' s.heap.objs.size (.tup [.int (i : Nat), .str ⟨#[c]⟩]) :=
      ⟨by show 2 ≤ sizeLine; decide, [.int i tk, .str ⟨#[c]⟩ u], .cons ⟨_, rfl⟩ (.cons ⟨_, rfl⟩ .nil), ⟨_, hT2, rfl, _, rfl⟩⟩
    have I1 : Inv X pins σ (upd H s.heap.objs.size (.tup [.int (i : Nat), .str ⟨#[c]⟩])) { s with heap := h'', toks := tk + 1 } :=
      I.turnedNew (ch := [e, it]) (fun b o hb q => (sb.2 b (fun z => hb (by simp [z]))).trans (hk b o (fun z => hb (by simp [z])) (fun z => hb (by simp [z])) q)) hf (Nat.le_refl _) fresh_
    refine ⟨.ref s.heap.objs.size, _, I1, rfl, ⟨_, c, hcx, rfl, I.hok.fresh (Nat.le_refl _), rfl⟩, ⟨⟨.str ⟨#[c]⟩ u, ?_⟩, (let ⟨o, ho, r⟩ := st'; ⟨o, (sb.2 it (Ne.symm hne)).trans ho, r⟩), hne⟩, fun b hb => ?_⟩
    · rw [show ((i + 1 : Nat) : Int) = (i : Int) + 1 by omega]
      exact he'
    · have hb' : b < s.heap.objs.size := by
        rcases (show b = e ∨ b = it by simpa using hb) with rfl | rfl
        · exact hel
        · exact hil
      rw [upd_ne (Nat.ne_of_lt hb')]
      exact (hf b hb).1
  done := by
    intro X hP hw hK hc i pins s σ H E I hf st hg
    subst hP hw hK
    obtain ⟨⟨old, he⟩, hit, hne⟩ := st
    obtain ⟨f0, f1, f2, f3, f4, f5⟩ := hf it (by simp)
    have hnone : x.cps[i]? = none := Array.getElem?_eq_none hg
    have hT : s.TypeIs (.ref e) "enumerate" := ⟨_, he, rfl⟩
    unfold pyNext
    refine wpAny_bind (wpAny_attempt (wpAny_callSpecial?_slot (name := Str.ofString "__next__") hT F.slot_enumerate_next (wpAny_call_entry F.slot_enumerate_next hT F.entry_enumerate_next ?_ (F.args_enumerate_next_1 _))))
    show wpAny _ _ (field (.ref e) 2 >>= _) _ _ _
    refine wpAny_bind (wpAny_field he rfl (x := .ref it) rfl ?_)
    cases ha : x.cps.all (· < 128)
    · have hit : s.heap.IsStrIter it "str_iterator" x t i := by unfold strIterType at hit; rw [ha] at hit; exact hit
      refine wpAny_bind (wpAny_nextOf_wide_end (I.ok.hd hc) hit hnone fun h' x eb hx' => ?_)
      obtain ⟨o, ho, hcl⟩ := hx'
      refine wpAny_bind (wpAny_isInstance (T := "StopIteration") (b := true) ⟨o, ho, hcl⟩ isSubtype_stop ?_)
      exact wpAny_pure ⟨rfl, I.turned (t' := s.toks) (fun b o hb q => eb b o hb q) f0 f1 f3 f4 f5⟩
    · have hit : s.heap.IsStrIter it "str_ascii_iterator" x t i := by unfold strIterType at hit; rw [ha] at hit; exact hit
      refine wpAny_bind (wpAny_nextOf_ascii_end (I.ok.hd hc) hit hnone fun h' x eb hx' => ?_)
      obtain ⟨o, ho, hcl⟩ := hx'
      refine wpAny_bind (wpAny_isInstance (T := "StopIteration") (b := true) ⟨o, ho, hcl⟩ isSubtype_stop ?_)
      exact wpAny_pure ⟨rfl, I.turned (t' := s.toks) (fun b o hb q => eb b o hb q) f0 f1 f3 f4 f5⟩
  self := fun A i s Q E st h => wpAny_pyIter_enum st.1.choose_spec h
def iEnumS (ta : TA) : TI := fun σ H R => ta σ H fun vs H1 => ∃ x : Str, vs = [.str x] ∧ R (IteS x) H1
theorem pi_enumS {X : Cx} {e : Expr} {ta : TA} {p pos tpos : Pos} {elts : List Expr} {kk : Nat} (hg : Gl X "enumerate") (hm : X.mg "enumerate" = none) (ha : PA X [e] ta) (hs : starEach [e] X.env = [(false, eval e X.env)] := by rfl) :
    PI X (.Tuple elts kk tpos) (.Call (.Name "enumerate" p) [e] [] pos) (iEnumS ta) := by
  refine ⟨fun pins s σ H R I h => Call_ (ld_blt I hg hm boot_enumerate (PyProof.Rows.callWith_type1 (thn (ha.run pos pins s σ H _ I h) fun us s1 ⟨vs, H1, I1, r1, x, ex, q⟩ => ?_) hs rfl))⟩
  subst ex
  cases r1 with
  | cons r rr =>
    cases rr
    obtain ⟨t, rfl⟩ := r
    refine call_enumB (PySem.begins_text x t) trivial fun h' he hit hsz hk => wpAny_pyIter_enum he ?_
    have I2 : Inv X pins σ H1 { s1 with heap := h' } := I1.kept (t' := s1.toks) hk
    refine ⟨s1.heap.objs.size + 1, [s1.heap.objs.size + 1, s1.heap.objs.size], _, _, H1, rfl, I2, turn_enumS x t (s1.heap.objs.size + 1) s1.heap.objs.size, ⟨⟨.none, he⟩, ⟨_, hit, rfl, rfl⟩, Nat.succ_ne_self _⟩, fun b hb => ?_, q⟩
    have hle : s1.heap.objs.size ≤ b := by
      rcases (show b = s1.heap.objs.size + 1 ∨ b = s1.heap.objs.size by simpa using hb) with rfl | rfl
      · exact Nat.le_add_right _ _
      · exact Nat.le_refl _
    exact I1.fpOk hle (I1.hok.fresh hle)
section
variable {X : Cx}
def rUpdate : V → List V → Hp → VK → Prop := fun x vs H Q => ∃ (a b : Addr) (kvs more : List (Key × V)), x = .ref a ∧ vs = [.ref b] ∧ a ≠ b ∧ H a = some (.dK kvs) ∧ H b = some (.dK more) ∧ kvs.length + more.length ≤ sizeLine ∧ Q .non (upd H a (.dK (mergeK kvs more)))
theorem mt_update : MtM X "dict.update" rUpdate := by
  intro pins s σ H x vs v us Q I rx rv h
  obtain ⟨a, b, kvs, more, rfl, rfl, hne, ha, hb, hz, q⟩ := h
  cases rx
  cases rv with
  | cons r1 r2 =>
    cases r2
    cases r1
    obtain ⟨z, hd, ws, rel, dd⟩ := dk_of I.hok ha
    obtain ⟨z2, hd2, ws2, rel2, dd2⟩ := dk_of I.hok hb
    have hz' : ws.length + ws2.length ≤ sizeLine := by rw [← rel.length, ← rel2.length]; exact hz
    refine call_meetsIn PySem.F.slot_dict_update dd.typeIs PySem.F.entry_dict_update (PySem.F.args_dict_update_2 _ _) (meets_dict_update (mixKind X.prog X.w) a b hne hd2) ⟨ws, ws2, dd, dd2, hz', fun h' dd' _ sb => ?_⟩
    have he : ∃ q, h'.get? a = some q := let ⟨q, _, _, hq, _⟩ := dd'; ⟨q, hq⟩
    refine ⟨.non, _, d_write (t' := s.toks) I (by rw [ha]; exact True.intro) sb he (dk_new ?_ hd (KV.merge rel2 rel) dd'), rfl, q⟩
    exact Nat.le_trans (length_mergeK more kvs) hz
end
end VG

set_option maxRecDepth 100000
set_option maxHeartbeats 4000000
/-! enumerate(xs, start=k), walked. -/
namespace VG
open PySem PySem.Spec PyProof.Rows L2 LamX
section
variable {M : Model} {A : Around} {E : Value → Shared → Prop} {s : Shared} {env : Env}
theorem evalArgs_kwT {f : Value} {x : Sem Value} {rest : List (Bool × Sem Value)} {keywords : List (Option Str × Sem Value)} {Q : Args → Shared → Prop} (hall : keywords.all (·.1.isSome) = true)
    (h : wpAny M A (spliced ((false, x) :: rest)) (fun vs s₁ => wpAny M A (evalAll (keywords.map (·.2))) (fun kvs s₂ => Q ⟨vs, (keywords.filterMap (·.1)).zip kvs⟩ s₂) E s₁) E s) :
    wpAny M A (evalArgs f true ((false, x) :: rest) keywords) Q E s := evalArgs_kwB hall h
theorem callWith_typeK {pos : Pos} {T : String} {e : Expr} {rest : List Expr} {kws : List Keyword} {Q : Value → Shared → Prop}
    (h : wpAny M A (spliced (backTo pos (starEach (e :: rest) env))) (fun vs s₁ => wpAny M A (evalAll ((backToKw pos (keywordEach kws env)).map (·.2)))
      (fun kvs s₂ => wpAny M A (call (.type T) vs (((backToKw pos (keywordEach kws env)).filterMap (·.1)).zip kvs)) Q E s₂) E s₁) E s)
    (he : backTo pos (starEach (e :: rest) env) = (false, eval e env) :: backTo pos (starEach rest env))
    (hplain : ((backTo pos (starEach (e :: rest) env)).any (·.1) || (backToKw pos (keywordEach kws env)).any (·.1.isNone)) = false)
    (hall : (backToKw pos (keywordEach kws env)).all (·.1.isSome) = true) :
    wpAny M A (callWith pos (.type T) [] (backTo pos (starEach (e :: rest) env)) (backToKw pos (keywordEach kws env))) Q E s := by
  unfold callWith
  have h2 : wpAny M A (evalArgs (.type T) true (backTo pos (starEach (e :: rest) env)) (backToKw pos (keywordEach kws env))) (fun a s₁ => wpAny M A (call (.type T) ([] ++ a.pos) a.kw) Q E s₁) E s := by
    rw [he] at h ⊢
    exact evalArgs_kwT hall h
  refine wpAny_bind (wpAny_holding (wpAny_mono h2 (fun a s₁ h₁ => wpAny_bind (wpAny_standAt ?_)) fun _ _ x => x))
  simp only [hplain]
  refine wpAny_bind (wpAny_pure ?_)
  exact wpAny_bind (wpAny_mono h₁ (fun r s₂ hr => wpAny_bind (wpAny_holding (wpAny_point (wpAny_pure hr)))) fun _ _ x => x)
end
/-- the list at a as it stands at each turn, counted from k₀ on -/
def IteK (K : PySem.W.Frag) (a : Addr) (k₀ : Int) : It :=
  ⟨fun i H => ∃ (xs : List V) (x : V), SqL K H a xs ∧ xs[i]? = some x, fun i H v H' => ∃ T x, v = .ref T ∧ H T = none ∧ H' = upd H T (.tup [.int (k₀ + (i : Nat)), x]) ∧ ∀ xs, SqL K H a xs → xs[i]? = some x, fun i H => ∃ xs : List V, SqL K H a xs ∧ xs.length ≤ i⟩
theorem enum_not_list {h : Heap} {e it a : Addr} {c : Int} {old : Value} {its : Array Value} (he : IsEnum h e it c old) (ht : h.IsList a its) : e ≠ a := fun z => by
  obtain ⟨o, ho, hc, _⟩ := ht
  rw [← z] at ho
  have e2 := Option.some.inj (he.symm.trans ho)
  rw [← e2] at hc
  have hc' : ("enumerate" : String) = "list" := Value.type.inj hc
  exact absurd hc' (by decide)
theorem turn_enumK {P : Program} {w : World} {K : PySem.W.Frag} {elts : List Expr} {kk : Nat} {tpos : Pos} (a e it : Addr) (k₀ : Int) (hai : a ≠ it) :
    Turn P w K (.Tuple elts kk tpos) (IteK K a k₀) [e, it] e (fun i h => (∃ old, IsEnum h e it (k₀ + (i : Nat)) old) ∧ h.IsListIter it a i ∧ e ≠ it) where
  mem := by simp
  obj := fun i h st b hb => by
    obtain ⟨⟨old, he⟩, ⟨o, ho, hc, hd⟩, _⟩ := st
    rcases (show b = e ∨ b = it by simpa using hb) with rfl | rfl
    · exact ⟨_, he, fun v q => nomatch q⟩
    · exact ⟨o, ho, fun v q => by rw [hd] at q; cases q⟩
  keep := fun i h h' st k => let ⟨⟨old, he⟩, hi, hne⟩ := st; ⟨⟨old, k e (by simp) _ he⟩, hi.at fun o q => k it (by simp) o q, hne⟩
  item := by
    intro X hP hw hK hc i pins s σ H E I hf st hg
    subst hP hw hK
    obtain ⟨⟨old, he⟩, hit, hne⟩ := st
    obtain ⟨xs, x, hq, hx⟩ := hg
    obtain ⟨its, rv, p, hz⟩ := I.list hq
    obtain ⟨u, hu, ru⟩ := rv.get hx
    have hel : e < s.heap.objs.size := Heap.lt_size he
    have hil : it < s.heap.objs.size := by obtain ⟨_, q, _⟩ := hit; exact Heap.lt_size q
    have hea := enum_not_list he p.isList
    have hlt : i < its.toArray.size := by
      have := (List.getElem?_eq_some_iff.mp hu).1
      simpa using this
    refine wpAny_pyNext_enum_itemC (PySem.Draws.list (prog := X.prog) (w := X.w) (A := X.A.in1) (show X.A.in1.handled = none from I.ok.hd hc) it a hai its.toArray) he ⟨hit, p.isList⟩ hlt hne (by simp [hne, hea]) fun y h' tk hy ho st' hT hsz hk => ?_
    obtain rfl : u = y := by
      have hy' : its.toArray[i]? = some y := hy
      rw [List.getElem?_toArray, hu] at hy'
      exact Option.some.inj hy'
    refine ⟨_, rfl, wpAny_letOwnedTupleGo_enum (s := { s with heap := h', toks := tk + 1 }) ho fun h'' he' sb => ?_⟩
    have hT2 : h''.get? s.heap.objs.size = some { cls := .type "tuple", data := .seq #[.int (k₀ + (i : Nat)) tk, u] } := (sb.2 _ (Nat.ne_of_gt hel)).trans hT
    have fresh_ : ObjOk X.prog X.w (upd H s.heap.objs.size (.tup [.int (k₀ + (i : Nat)), x])) h'' s.heap.objs.size (.tup [.int (k₀ + (i : Nat)), x]) :=
      ⟨by show 2 ≤ sizeLine; decide, [.int (k₀ + (i : Nat)) tk, u], .cons ⟨_, rfl⟩ (.cons ru .nil), ⟨_, hT2, rfl, _, rfl⟩⟩
    have I1 : Inv X pins σ (upd H s.heap.objs.size (.tup [.int (k₀ + (i : Nat)), x])) { s with heap := h'', toks := tk + 1 } :=
      I.turnedNew (ch := [e, it]) (fun b o hb q => (sb.2 b (fun z => hb (by simp [z]))).trans (hk b o (fun z => hb (by simp [z])) (fun z => hb (by simp [z])) q)) hf (Nat.le_refl _) fresh_
    refine ⟨.ref s.heap.objs.size, _, I1, rfl, ⟨_, x, rfl, I.hok.fresh (Nat.le_refl _), rfl, fun ys hy => by rw [I.list_inj hy hq]; exact hx⟩, ⟨⟨u, ?_⟩, st'.1.at fun o q => (sb.2 it (Ne.symm hne)).trans q, hne⟩, fun b hb => ?_⟩
    · rw [show k₀ + ((i + 1 : Nat) : Int) = k₀ + (i : Nat) + 1 by omega]
      exact he'
    · have hb' : b < s.heap.objs.size := by
        rcases (show b = e ∨ b = it by simpa using hb) with rfl | rfl
        · exact hel
        · exact hil
      rw [upd_ne (Nat.ne_of_lt hb')]
      exact (hf b hb).1
  done := by
    intro X hP hw hK hc i pins s σ H E I hf st hg
    subst hP hw hK
    obtain ⟨⟨old, he⟩, hit, hne⟩ := st
    obtain ⟨xs, hq, hx⟩ := hg
    obtain ⟨its, rv, p, hz⟩ := I.list hq
    obtain ⟨f0, f1, f2, f3, f4, f5⟩ := hf it (by simp)
    have hl := rv.length
    have hnone : its.toArray[i]? = none := by simp; omega
    have hT : s.TypeIs (.ref e) "enumerate" := ⟨_, he, rfl⟩
    unfold pyNext
    refine wpAny_bind (wpAny_attempt (wpAny_callSpecial?_slot (name := Str.ofString "__next__") hT F.slot_enumerate_next (wpAny_call_entry F.slot_enumerate_next hT F.entry_enumerate_next ?_ (F.args_enumerate_next_1 _))))
    show wpAny _ _ (field (.ref e) 2 >>= _) _ _ _
    refine wpAny_bind (wpAny_field he rfl (x := .ref it) rfl ?_)
    refine wpAny_bind (PySem.wpAny_nextOf_list_end (I.ok.hd hc) hit p.isList hnone fun h' x eb hx' => ?_)
    obtain ⟨o, ho, hcl⟩ := hx'
    refine wpAny_bind (wpAny_isInstance (T := "StopIteration") (b := true) ⟨o, ho, hcl⟩ isSubtype_stop ?_)
    exact wpAny_pure ⟨rfl, I.turned (t' := s.toks) (fun b o hb q => eb b o hb q) f0 f1 f3 f4 f5⟩
  self := fun A i s Q E st h => let ⟨⟨_, he⟩, _⟩ := st; wpAny_pyIter_enum he h
def iEnumK (K : PySem.W.Frag) (ta tk : TA) : TI := fun σ H R => ta σ H fun vs H1 => ∃ a, vs = [.ref a] ∧ tk σ H1 fun zs H2 => ∃ k xs, zs = [.int k] ∧ SqL K H2 a xs ∧ -1000 ≤ k ∧ k ≤ 1000 ∧ R (IteK K a k) H2
theorem pi_enumK {X : Cx} {e : Expr} {ta tk : TA} {kws : List Keyword} {p pos tpos : Pos} {elts : List Expr} {kk : Nat} (hg : Gl X "enumerate") (hm : X.mg "enumerate" = none) (ha : PA X [e] ta) (hkw : PK X kws tk)
    (hs : backTo pos (starEach [e] X.env) = (false, eval e X.env) :: backTo pos (starEach [] X.env) := by rfl)
    (hpl : ((backTo pos (starEach [e] X.env)).any (·.1) || (backToKw pos (keywordEach kws X.env)).any (·.1.isNone)) = false := by rfl)
    (hall : (backToKw pos (keywordEach kws X.env)).all (·.1.isSome) = true := by rfl) (hks : (backToKw pos (keywordEach kws X.env)).filterMap (·.1) = [Str.ofString "start"] := by rfl) :
    PI X (.Tuple elts kk tpos) (.Call (.Name "enumerate" p) [e] kws pos) (iEnumK X.K ta tk) := by
  refine ⟨fun pins s σ H R I h => wpAny_Call_Name_kw (ld_blt I hg hm boot_enumerate (callWith_typeK (thn (ha.run pos pins s σ H _ I h) fun us s1 ⟨vs, H1, I1, r1, a, ex, q1⟩ => ?_) hs hpl hall))⟩
  subst ex
  cases r1 with
  | cons r rr =>
    cases rr
    cases r
    refine thn (hkw.run pos pins s1 σ H1 _ I1 q1) fun ws s2 ⟨zs, H2, I2, rz, k, xs, ez, hq, k0, k1, q⟩ => ?_
    subst ez
    rw [hks]
    cases rz with
    | cons rk rr =>
      cases rr
      obtain ⟨t, rfl⟩ := rk
      obtain ⟨its, rv, p', hz⟩ := I2.list hq
      have hla : a < s2.heap.objs.size := by obtain ⟨_, z, _⟩ := id p'.isList; exact Heap.lt_size z
      refine enum_begins_start (PySem.begins_list a its.toArray) p'.isList (by omega) (by omega) fun h' he hit hsz hk => wpAny_pyIter_enum he ?_
      have I3 : Inv X pins σ H2 { s2 with heap := h' } := I2.kept (t' := s2.toks) hk
      refine ⟨s2.heap.objs.size + 1, [s2.heap.objs.size + 1, s2.heap.objs.size], _, _, H2, rfl, I3, turn_enumK a (s2.heap.objs.size + 1) s2.heap.objs.size k (Nat.ne_of_lt hla), ⟨⟨.none, by rw [show k + ((0 : Nat) : Int) = k by omega]; exact he⟩, ⟨_, hit, rfl, rfl⟩, Nat.succ_ne_self _⟩, fun b hb => ?_, q⟩
      have hle : s2.heap.objs.size ≤ b := by
        rcases (show b = s2.heap.objs.size + 1 ∨ b = s2.heap.objs.size by simpa using hb) with rfl | rfl
        · exact Nat.le_add_right _ _
        · exact Nat.le_refl _
      exact I2.fpOk hle (I2.hok.fresh hle)
end VG

set_option maxRecDepth 100000
set_option maxHeartbeats 4000000
/-! A dict made by a comprehension over anything that yields n things. -/
namespace VG
open PySem PySem.Spec PyProof.Rows L2 LamX
theorem dc_any {J : It} {n : Nat} {g : TG} {tt : TT} {tk tv : TE} {vs : List Nat} {σ : L2.St} {H1 : Hp} {D : Addr} {Qd : Hp → Prop} (Pv : Nat → Hp → Prop) (h0 : Pv 0 (upd H1 D (.dK []))) (hgo : ∀ i H, i < n → Pv i H → J.go i H) (hst : ∀ H, Pv n H → J.stop n H)
    (hs : ∀ i x H H', i < n → Pv i H → J.yld i H x H' → g x (wipe σ vs) H' fun σ2 H2 => wipe σ2 vs = wipe σ vs ∧ tt σ2 H2 fun b H3 =>
      if b = true then tk σ2 H3 fun y H4 => tv σ2 H4 fun z H5 => ∃ kvs k, y = kV k ∧ H5 D = some (.dK kvs) ∧ kvs.length < sizeLine ∧ Pv (i + 1) (upd H5 D (.dK (putK kvs k z))) else Pv (i + 1) H3) (hd : ∀ H, Pv n H → Qd H) :
    ∃ W : Nat → Nat → Hp → Prop, (∃ m, W 0 m (upd H1 D (.dK []))) ∧ ∀ i m H, W i m H →
      (J.stop i H ∧ Qd H) ∨ (J.go i H ∧ ∃ Nx : Hp → Prop, (∀ H', Nx H' → ∃ m', m' < m ∧ W (i + 1) m' H') ∧ ∀ x H', J.yld i H x H' → g x (wipe σ vs) H' fun σ2 H2 => wipe σ2 vs = wipe σ vs ∧ tt σ2 H2 fun b H3 =>
        if b = true then tk σ2 H3 fun y H4 => tv σ2 H4 fun z H5 => ∃ kvs k, y = kV k ∧ H5 D = some (.dK kvs) ∧ kvs.length < sizeLine ∧ Nx (upd H5 D (.dK (putK kvs k z))) else Nx H3) := by
  refine ⟨fun i m H => i + m = n ∧ Pv i H, ⟨n, Nat.zero_add n, h0⟩, ?_⟩
  rintro i m H ⟨e, p⟩
  by_cases c : i < n
  · exact .inr ⟨hgo i H c p, Pv (i + 1), fun H' q => ⟨m - 1, by omega, by omega, q⟩, fun x H' y => hs i x H H' c p y⟩
  · obtain rfl : i = n := by omega
    exact .inl ⟨hst H p, hd H p⟩
/-! ### a value whose making leaves a token: what stands behind it may ask for one -/
section
variable {X : Cx} {a e o : Expr} {es : List Expr} {ta te to : TE} {tas : TA} {rest : List Stmt} {u : TS}
def PEG (X : Cx) (e : Expr) (te : TE) : Prop := ∀ (pins : List (Addr × Obj)) (s : Shared) (σ : L2.St) (H : Hp) (Q : VK), Inv X pins σ H s → te σ H Q →
  wpAny (model X.prog X.w) X.A (eval e X.env) (fun v s' => 1 ≤ s'.toks ∧ EP X pins σ Q v s') X.xe s
/-- a op 'text' -/
theorem peg_opC {op : Operator} {r : R2} {y : Str} {j : Nat} {p pos : Pos} (ho : OpR X (binaryOp op) r) (ha : PE X a ta) : PEG X (.BinOp a op (.Constant (.str y) j p) pos) (tOp r ta (tC (.str y))) := by
  intro pins s σ H Q I h
  refine wpAny_BinOp (thn (ha.run pins s σ H _ I h) fun v s1 ⟨x, H1, I1, r1, q1⟩ => Calls.Constant_str ?_)
  refine wpAny_mono (PySem.wpAny_toks (ho pins { s1 with toks := s1.toks + 1 } σ H1 x (.str y) v (.str y s1.toks) Q (I1.tok _) r1 ⟨_, rfl⟩ q1)) (fun v2 s2 q => ⟨?_, q.2⟩) fun _ _ z => z.2
  have hk : s1.toks + 1 ≤ s2.toks := q.1
  omega
theorem pag_cons (ha : PEG X e te) (hr : PAT X es tas) (hs : starEach (e :: es) X.env = (false, eval e X.env) :: starEach es X.env := by rfl) : PA X (e :: es) (tCons te tas) := by
  refine ⟨fun pos pins s σ H Q I h => ?_⟩
  rw [hs]
  show wpAny _ _ (spliced ((false, eval e X.env) :: backTo pos (starEach es X.env))) _ _ s
  refine Calls.spliced_cons (wpAny_mono (ha pins s σ H _ I h) (fun v s1 q => ?_) fun _ _ z => z)
  obtain ⟨hk, x, H1, I1, r1, q1⟩ := q
  exact thn (hr pos pins s1 σ H1 _ hk I1 q1) fun us s2 ⟨xs, H2, I2, r2, q2⟩ => ⟨x :: xs, H2, I2, .cons r1 r2, q2⟩
theorem patg_cons (ha : PE X e te) (hr : PAT X es tas) (hs : starEach (e :: es) X.env = (false, eval e X.env) :: starEach es X.env := by rfl) : PAT X (e :: es) (tCons te tas) := pat_cons (fun pins s σ H Q _ I q => ha.run pins s σ H Q I q) hr hs
/-- 'text'.m(e) -/
theorem peg_m1 {id : String} {name z : Str} {j : Nat} {p apos pos : Pos} {r : V → List V → Hp → VK → Prop} (slot : Slot "str" name id) (ty : typeOf (.builtin id) = pure (.type "method_descriptor")) (rule : MtR X id r) (he : PE X e te)
    (hs : starEach [e] X.env = [(false, eval e X.env)] := by rfl) (hbase : attributeBase (.Constant (.str z) j p) name X.env (eval (.Constant (.str z) j p) X.env) = eval (.Constant (.str z) j p) X.env := by rfl) (hline : (apos.endLine == pos.line) = true := by rfl) :
    PEG X (.Call (.Attribute (.Constant (.str z) j p) name apos) [e] [] pos) (tM1 r (tC (.str z)) te) := by
  intro pins s σ H Q I h
  obtain ⟨_, h⟩ := h
  refine PySem.Call_method1 hbase hs hline (Calls.Constant_str ?_)
  refine ⟨"str", _, F.plainAttrs_str, slot, ty, typeIs_str _ _ _, (fun _ e => nomatch e), Calls.callWith_builtin rfl (Calls.evalArgs_plain (Calls.spliced_cons ?_))⟩
  refine wpAny_mono (PySem.wpAny_toks (he.run pins { s with toks := s.toks + 1 } σ H _ (I.tok _) h)) (fun u s2 q => ?_) fun _ _ z => z.2
  obtain ⟨hk, y, H2, I2, r2, q2⟩ := q
  refine Calls.spliced_nil (wpAny_mono (PySem.wpAny_toks (rule pins s2 σ H2 (.str z) [y] (.str z s.toks) [u] Q I2 ⟨_, rfl⟩ (.cons r2 .nil) q2)) (fun v3 s3 q => ⟨?_, q.2⟩) fun _ _ z => z.2)
  have h1 : s.toks + 1 ≤ s2.toks := hk
  have h2 := q.1
  omega
theorem pssg_set {i : Nat} {x : Str} {pos' pos : Pos} (hN : X.N.Nodup) (hi : X.N[i]? = some x) (hx : Loc X.env.scope x) (he : PEG X e te) (h2 : PSsT X rest u)
    (hs : swapsWith e (some (.Name x pos')) pos.line X.env = pure false := by rfl) (hf : X.fn x = true ∨ X.env.scope.names.lookup x = some .local := by first | exact .inl rfl | exact .inr rfl | assumption) :
    PSs X (.Assign [.Name x pos'] e pos :: rest) (tSeq (tAsg te (gName i)) u) := by
  refine ⟨fun pins s σ H D I h => ?_⟩
  refine wpAny_execs_cons (wpAny_Assign_Name (wpAny_mono (he pins s σ H _ I h) (fun v s1 q => ?_) fun _ _ z => z) hs)
  obtain ⟨hk, y, H1, I1, r1, q1⟩ := q
  refine wpAny_mono (PySem.wpAny_toks (store_ok (v := y) (u := v) (Q := fun _ s2 => Inv X pins (σ.set i (some y)) H1 s2) I1 hN hi hx r1 (fun _ I2 => I2) hf)) (fun _ s2 q => ?_) fun _ _ z => z.2
  exact h2 pins s2 _ H1 D (Nat.le_trans hk q.1) q.2 q1
end
section
variable {X : Cx}
theorem vals_at : ∀ {xs : List V} {us : List Value}, xs.length = us.length → (∀ (j : Nat) (v : Value), us[j]? = some v → ∃ x, xs[j]? = some x ∧ RelV x v) → Vals xs us
  | [], [], _, _ => .nil
  | x :: xs, u :: us, hl, h => by
    obtain ⟨y, e, r⟩ := h 0 u rfl
    obtain rfl : x = y := Option.some.inj e
    exact .cons r (vals_at (by simpa using hl) fun j v e => h (j + 1) v (by simpa using e))
  | [], _ :: _, hl, _ => by simp at hl
  | _ :: _, [], hl, _ => by simp at hl
/-- list(text): its signs, one by one -/
def signs (x : Str) : List Str := x.cps.toList.map fun c => ⟨#[c]⟩
def rListS : List V → Hp → VK → Prop := fun xs H Q => ∃ x : Str, xs = [.str x] ∧ x.length ≤ sizeLine ∧ ∀ p, H p = none → Q (.ref p) (upd H p (.lst ((signs x).map V.str)))
theorem call_listS {X : Cx} (hc : X.calm = true) : CallR X (.type "list") rListS := by
  intro pins s σ H xs us Q I r h
  obtain ⟨x, rfl, hz, q⟩ := h
  obtain ⟨u, rfl, rv⟩ := vals1 r
  obtain ⟨t, rfl⟩ := rv
  refine PySem.call_list_str (I.ok.hd hc) x t (fun h' tk acc' c' k ho hi => ?_) hz
  have lenE : acc'.toList.length = x.cps.toList.length := by rw [Array.length_toList, Array.length_toList, hi.1]
  have new : ObjOk X.prog X.w (upd H s.heap.objs.size (.lst ((signs x).map V.str))) h' s.heap.objs.size (.lst ((signs x).map V.str)) := by
    refine ⟨by rw [List.length_map, signs, List.length_map]; exact hz, acc'.toList, c', vals_at ?_ (fun j v e => ?_), by rw [Array.toArray_toList]; exact ho⟩
    · rw [List.length_map, signs, List.length_map, lenE]
    · obtain ⟨c, u, e1, rfl⟩ := hi.2 j v (by rw [← Array.getElem?_toList]; exact e)
      refine ⟨.str ⟨#[c]⟩, ?_, ⟨u, rfl⟩⟩
      rw [signs, List.getElem?_map, List.getElem?_map, Array.getElem?_toList, e1]
      rfl
  exact ⟨.ref _, _, I.laid (t' := tk) k (Nat.le_refl _) new, rfl, q _ (I.hok.fresh (Nat.le_refl _))⟩
end
end VG

set_option maxRecDepth 100000
set_option maxHeartbeats 4000000
/-! Sets of whole numbers made of a tuple, ranges as values. -/
namespace VG
open PySem PySem.Spec PyProof.Rows L2 LamX
mutual
/-- no list or tuple in it has more than sixty-four parts -/
def slim : PyData → Bool
  | .list ds => decide (ds.length ≤ 64) && slimAll ds
  | .tuple ds => decide (ds.length ≤ 64) && slimAll ds
  | _ => true
def slimAll : List PyData → Bool
  | [] => true
  | d :: ds => slim d && slimAll ds
end
theorem val_any {t : TE} {σ : L2.St} {H : Hp} {Q : VK} (Pv : V → Hp → Prop) (h : ∀ R : VK, (∀ v H', Pv v H' → R v H') → t σ H R) (q : ∀ v H', Pv v H' → Q v H') : t σ H Q := h _ q
theorem yesT {σ : L2.St} {H : Hp} {F G : Hp → Prop} (h : F H) : tYes σ H (fun b H3 => if b = true then F H3 else G H3) := by
  show (if true = true then F H else G H)
  rw [if_pos rfl]
  exact h
theorem sub_len {l : List Int} : ∀ {ns : List Int}, l.Nodup → (∀ x ∈ l, x ∈ ns) → l.length ≤ ns.length := by
  induction l with
  | nil => exact fun _ _ => Nat.zero_le _
  | cons a r ih =>
    intro ns nd h
    obtain ⟨h1, h2⟩ := List.nodup_cons.mp nd
    have ha := h a (List.mem_cons_self ..)
    have := ih (ns := ns.erase a) h2 fun x hx => (List.mem_erase_of_ne (by rintro rfl; exact h1 hx)).mpr (h x (List.mem_cons_of_mem _ hx))
    rw [List.length_erase_of_mem ha] at this
    have : 0 < ns.length := List.length_pos_of_mem ha
    rw [List.length_cons]
    omega
theorem set_count {l ns : List Int} (nd : l.Nodup) (h : ∀ k, k ∈ l ↔ k ∈ ns) : l.length ≤ ns.length ∧ (l.length < ns.length ↔ ¬ ns.Nodup) := by
  refine ⟨sub_len nd fun x hx => (h x).mp hx, fun hl hn => ?_, fun hn => ?_⟩
  · have := sub_len hn fun x hx => (h x).mpr hx
    omega
  · obtain ⟨a, ha⟩ : ∃ a, ¬ ns.count a ≤ 1 := Classical.byContradiction fun c => hn (List.nodup_iff_count.mpr fun a => Classical.byContradiction fun d => c ⟨a, d⟩)
    have h2 : a ∈ ns := List.count_pos_iff.mp (by omega)
    have h3 : 0 < (ns.erase a).count a := by rw [List.count_erase_self]; omega
    have := sub_len (l := l) (ns := ns.erase a) nd fun x hx => by
      by_cases e : x = a
      · rw [e]; exact List.count_pos_iff.mp h3
      · exact (List.mem_erase_of_ne e).mpr ((h x).mp hx)
    rw [List.length_erase_of_mem h2] at this
    have : 0 < ns.length := List.length_pos_of_mem h2
    omega
section
variable {X : Cx}
def rLenK (K : PySem.W.Frag) : List V → Hp → VK → Prop := fun xs H Q => ∃ p ys, xs = [.ref p] ∧ (SqL K H p ys ∨ SqT K H p ys) ∧ Q (.int (ys.length : Nat)) H
def rJoinK (K : PySem.W.Frag) : V → List V → Hp → VK → Prop := fun x xs H Q => ∃ a p, ∃ ys : List Str, x = .str a ∧ xs = [.ref p] ∧ (SqL K H p (ys.map V.str) ∨ SqT K H p (ys.map V.str)) ∧ (ys.map (·.length)).sum + ys.length * a.length ≤ 16777216 ∧ Q (.str (Txt.join a ys)) H
/-- set(t) of a tuple of ints -/
def rSetT (K : PySem.W.Frag) (w : World) : List V → Hp → VK → Prop := fun xs H Q => ∃ (l : Addr) (ns : List Int), xs = [.ref l] ∧ SqT K H l (ns.map V.int) ∧ ns.length ≤ 4000 ∧
  ∀ (a : Addr) (c : Nat) (H' : Hp), H a = none → Same H H' → H' a = some (SetO w a (fun k => decide (k ∈ ns)) c) → c ≤ ns.length → (c < ns.length ↔ ¬ ns.Nodup) → (∀ L : List Int, (∀ k ∈ ns, k ∈ L) → c ≤ L.length) → Q (.ref a) H'
theorem call_setT (hc : X.calm = true) : CallR X (.type "set") (rSetT X.K X.w) := by
  intro pins s σ H xs us Q I r h
  obtain ⟨l, ns, rfl, hq, hl, q⟩ := h
  obtain ⟨u, rfl, rx⟩ := vals1 r
  cases rx
  obtain ⟨its, rv, p, hz⟩ := I.tuple hq
  refine call_set_tupI ns (I.ok.hd hc) p (by simpa using RZ.intsAre_vals rv) (by unfold scanBound; omega) fun h' tk c hS hcl hk => ?_
  obtain ⟨o, es, ep, t, ho, hex, hd, hg, hnd, hm, hb, hf, hn, r1, r2⟩ := id hS
  have hcnt := set_count hnd fun k => (hm k).symm.trans (decide_eq_true_iff)
  rw [List.length_map, Array.length_toList, hn] at hcnt
  refine ⟨.ref _, _, I.laid (t' := tk) (o := SetO X.w s.heap.objs.size (fun k => decide (k ∈ ns)) c) hk (Nat.le_refl _) (setO_new hS), rfl, q _ c _ (I.hok.fresh (Nat.le_refl _)) (same_upd (I.hok.fresh (Nat.le_refl _))) upd_same hcnt.1 hcnt.2 fun L hL => ?_⟩
  have h3 := sub_len hnd (ns := L) fun x hx => hL x (of_decide_eq_true ((hm x).mpr hx))
  rw [List.length_map, Array.length_toList, hn] at h3
  exact h3
/-- len(s) of a set of ints -/
theorem call_lenSO : CallR X (.builtin "len") (fun xs H Q => ∃ (a : Addr) (S : Int → Bool) (n : Nat), xs = [.ref a] ∧ H a = some (SetO X.w a S n) ∧ Q (.int (n : Nat)) H) := by
  intro pins s σ H xs us Q I r h
  obtain ⟨a, S, n, rfl, ha, q⟩ := h
  obtain ⟨u, rfl, rx⟩ := vals1 r
  cases rx
  obtain ⟨o, es, ep, t, ho, hex, hd, hg, hnd, hm, hb, hf, hn, r1, r2⟩ := setO_get I ha
  have hsb : scanBound < 2 ^ 63 := by unfold scanBound; decide
  exact call_len_set ho hex hd hf (by omega) ⟨.int (n : Nat), H, I.tok _, ⟨_, by rw [hn]⟩, q⟩
/-- range(n) as a value -/
theorem cr_range1 : CallR X (.type "range") (fun vs H Q => ∃ j, vs = [V.int j] ∧ ∀ p, H p = none → Q (.ref p) (upd H p (.rng 0 j))) := by
  intro pins s σ H vs us Q I r h
  obtain ⟨j, rfl, q⟩ := h
  obtain ⟨u1, rfl, ri⟩ := vals1 r
  obtain ⟨t, rfl⟩ := ri
  refine call_range_1 ⟨.ref s.heap.objs.size, upd H s.heap.objs.size (.rng 0 j), I.laid (t' := s.toks + 2) (fun b o e => Heap.get?_push_of_some _ e) (Nat.le_refl _) ?_, rfl, q _ (I.hok.fresh (Nat.le_refl _))⟩
  exact ⟨_, t, _, Heap.get?_push_size _ rfl⟩
/-- len(r) of a range -/
theorem call_lenR : CallR X (.builtin "len") (fun xs H Q => ∃ (a : Addr) (n : Nat), xs = [.ref a] ∧ H a = some (.rng 0 (n : Nat)) ∧ n ≤ 1000 ∧ Q (.int (n : Nat)) H) := by
  intro pins s σ H xs us Q I r h
  obtain ⟨a, n, rfl, ha, hn, q⟩ := h
  obtain ⟨u, rfl, rx⟩ := vals1 r
  cases rx
  obtain ⟨t1, t2, t3, ho⟩ := I.hok a _ ha
  refine call_len_range (n := n) ho ?_ (by omega) ?_
  · rw [rangeSize_one]
    split <;> omega
  · exact ⟨.int (n : Nat), H, I.tok _, ⟨_, rfl⟩, q⟩
/-- a range that stands, walked -/
def iRngV (te : TE) : TI := fun σ H R => te σ H fun x H1 => ∃ (a : Addr) (n : Nat), x = .ref a ∧ H1 a = some (.rng 0 (n : Nat)) ∧ n ≤ 1000 ∧ R (Itr 0 n) H1
theorem pi_rngV {tg e : Expr} {te : TE} (he : PE X e te) : PI X tg e (iRngV te) := by
  refine ⟨fun pins s σ H R I h => ?_⟩
  refine thn (he.run pins s σ H _ I h) fun v s1 ⟨x, H1, I1, r1, a, n, e, ha, hn, q⟩ => ?_
  subst e
  cases r1
  obtain ⟨t1, t2, t3, ho⟩ := I1.hok a _ ha
  refine wpAny_pyIter_range ho (small_one (by omega) (by omega) (by omega) (by omega)) ?_
  refine ⟨s1.heap.objs.size, [s1.heap.objs.size], _, _, H1, rfl, I1.kept (t' := s1.toks) fun b o e => Heap.get?_push_of_some _ e, turn_range _ 0 n, ?_, fun b hb => ?_, q⟩
  · have e2 : ((n : Nat) : Int) - ((0 : Nat) : Int) = Builtin.Range.rangeSize 0 (n : Nat) 1 := by rw [rangeSize_one]; split <;> omega
    show IsRangeIter _ _ (0 + ((0 : Nat) : Int) * 1) (((n : Nat) : Int) - ((0 : Nat) : Int)) 1
    rw [e2]
    exact Heap.get?_push_size _ rfl
  · have e : b = s1.heap.objs.size := by simpa using hb
    subst e
    exact I1.fpOk (Nat.le_refl _) (I1.hok.fresh (Nat.le_refl _))
end
end VG

set_option maxRecDepth 100000
set_option maxHeartbeats 4000000
/-! t[::-1] of a tuple: some of what stands in it. -/
namespace VG
open PySem PySem.Spec PyProof.Rows L2 HT LamX
theorem vals_pick {xs : List V} {its : List Value} (r : Vals xs its) (f : Nat → Nat) : ∀ ks : List Nat, ∃ ys : List V, Vals ys (ks.filterMap fun k => its.toArray[f k]?) ∧ (∀ y ∈ ys, y ∈ xs) ∧ ys.length ≤ ks.length
  | [] => ⟨[], .nil, fun y hy => (List.not_mem_nil hy).elim, Nat.le_refl 0⟩
  | k :: ks => by
    obtain ⟨ys, h1, h2, h3⟩ := vals_pick r f ks
    cases e : its[f k]? with
    | none => exact ⟨ys, by simpa [e] using h1, h2, Nat.le_succ_of_le h3⟩
    | some u =>
      have hl : f k < xs.length := by rw [r.length]; exact (List.getElem?_eq_some_iff.mp e).1
      obtain ⟨u', hu', ru⟩ := r.get (List.getElem?_eq_getElem hl)
      rw [e] at hu'
      cases hu'
      refine ⟨xs[f k] :: ys, by simpa [e] using Paired.cons ru h1, fun y hy => ?_, Nat.succ_le_succ h3⟩
      rcases List.mem_cons.mp hy with rfl | hy
      · exact List.getElem_mem hl
      · exact h2 y hy
section
variable {P : Program} {w : World} {A : Around} {E : Value → Shared → Prop} {s : Shared}
theorem tup_rev {t sl : Addr} {items : Array Value} {vs : Value} {Q : Value → Shared → Prop} (ht : IsTup s.heap t items) (hs : s.heap.IsSliceOf sl .none .none vs) (ps : IsPart vs (some (-1)))
    (h : Q (.ref s.heap.objs.size) { s with heap := s.heap.push { cls := .type "tuple", data := .seq ((List.range items.size).filterMap fun (k : Nat) => items[(((items.size : Int) - 1) + (k : Int) * (-1)).toNat]?).toArray } })
    (hsz : items.size ≤ sizeLine) : wpAny (model P w) A (getItem (.ref t) (.ref sl)) Q E s := by
  obtain ⟨os, hos, hcs, hds⟩ := id hs
  have T : s.TypeIs (.ref sl) "slice" := ⟨os, hos, hcs⟩
  have hz : sizeOk (.seq ((List.range items.size).filterMap fun (k : Nat) => items[(((items.size : Int) - 1) + (k : Int) * (-1)).toNat]?).toArray) := by
    show _ ≤ sizeLine
    rw [List.size_toArray]
    exact Nat.le_trans (List.length_filterMap_le _ _) (by rw [List.length_range]; exact hsz)
  unfold getItem
  try with_reducible refine wpAny_holding ?_
  first | refine wpAny_bind (wpAny_pure ?_) | skip
  refine wpAny_bind (wpAny_sequenceKey ht.typeIs (by decide) (wpAny_bind (wpAny_callSpecial?_slot (name := Str.ofString "__getitem__") ht.typeIs PyProof.Rows.slot_tuple_getitem (wpAny_call_entry PyProof.Rows.slot_tuple_getitem ht.typeIs PyProof.Rows.entry_tuple_getitem ?_ (PyProof.Rows.args_tuple_getitem _ _)))))
  show wpAny _ _ (Builtin.Tuple.tupleItemsOf (.ref t) >>= _) _ E s
  refine wpAny_bind (tupleItemsOf_ ht (wpAny_bind (wpAny_typeOf T ?_)))
  rw [if_pos (by decide)]
  refine wpAny_bind ?_
  unfold Builtin.Slice.sliceApplied; unfold Builtin.Slice.sliceFields
  refine wpAny_bind (wpAny_bind (wpAny_field hos hds (x := .none) rfl (wpAny_bind (wpAny_field hos hds (x := .none) rfl (wpAny_bind (wpAny_field hos hds (x := vs) rfl (wpAny_pure ?_)))))))
  refine wpAny_bind (slicePart_ ps ?_)
  show wpAny _ _ (if ((-1 : Int) == 0) = true then _ else _) _ E s
  rw [if_neg (by decide)]
  refine wpAny_bind (slicePart_ .none (wpAny_bind (slicePart_ .none (wpAny_bind (wpAny_pure ?_)))))
  show wpAny _ _ (match Builtin.Slice.sliceAdjust none none (-1) (items.size : Int) with | (lo, hi) => pure (lo, (-1 : Int), Builtin.Slice.slicePlaces lo hi (-1))) _ E s
  have ea : Builtin.Slice.sliceAdjust none none (-1) (items.size : Int) = ((items.size : Int) - 1, -1) := by
    unfold Builtin.Slice.sliceAdjust
    simp
  have ep : Builtin.Slice.slicePlaces ((items.size : Int) - 1) (-1) (-1) = items.size := by
    unfold Builtin.Slice.slicePlaces
    simp
    omega
  rw [ea]
  dsimp only
  rw [ep]
  refine wpAny_pure ?_
  dsimp only
  rw [if_neg (by simp)]
  first
    | exact wpAny_bind (m := Builtin.Tuple.tupleExact _) (wpAny_newObj_type (wpAny_pure ⟨_, rfl, wpAny_pure h⟩) hz)
    | exact wpAny_bind (m := Builtin.Tuple.tupleExact _) (wpAny_newObj_type (wpAny_bind (wpAny_pure (wpAny_pure ⟨_, rfl, wpAny_pure h⟩))) hz)
    | exact wpAny_bind (wpAny_bind (m := Builtin.Tuple.tupleExact _) (wpAny_newObj_type (wpAny_pure (wpAny_pure ⟨_, rfl, wpAny_pure h⟩)) hz))
    | exact wpAny_bind (wpAny_bind (m := Builtin.Tuple.tupleExact _) (wpAny_newObj_type (wpAny_pure ⟨_, rfl, wpAny_pure h⟩) hz))
end
section
variable {X : Cx}
/-- t[::-1]: some of its own items, no more than it has -/
def tRevT (K : PySem.W.Frag) (te : TE) : TE := fun σ H Q => te σ H fun x H1 => ∃ a xs, x = .ref a ∧ SqT K H1 a xs ∧ ∀ ys p, (∀ y ∈ ys, y ∈ xs) → ys.length ≤ xs.length → H1 p = none → Q (.ref p) (upd H1 p (.tup ys))
theorem pe_revT {e : Expr} {te : TE} {k : Nat} {p1 p2 p3 pos : Pos} (he : PE X e te) : PE X (.Subscript e (.Slice none none (some (.UnaryOp .USub (.Constant (.int 1) k p1) p2)) p3) pos) (tRevT X.K te) := by
  refine ⟨fun pins s σ H Q I h => Subscript_ (thn (he.run pins s σ H _ I h) fun v s1 ⟨x, H1, I1, r1, a, xs, ex, hx, q⟩ => ?_)⟩
  subst ex
  cases r1
  have hst : PO X (some (.UnaryOp .USub (.Constant (.int 1) k p1) p2)) (tPart (tUn (rU fun i => .int (-i)) (tC (.int 1)))) := po_some (pe_un un_neg pe_int)
  refine wpAny_Slice (thn (po_none.run pins s1 σ H1 (fun o H2 => o = none ∧ H2 = H1) I1 ⟨rfl, rfl⟩) fun vl s2 ⟨l, H2, I2, pl, el, e2⟩ => ?_)
  subst el e2
  refine thn (po_none.run pins s2 σ H2 (fun o H3 => o = none ∧ H3 = H2) I2 ⟨rfl, rfl⟩) fun vu s3 ⟨u, H3, I3, pu, eu, e3⟩ => ?_
  subst eu e3
  refine thn (hst.run pins s3 σ H3 (fun o H4 => o = some (-1) ∧ H4 = H3) I3 ⟨1, rfl, -1, rfl, rfl, rfl⟩) fun vs s4 ⟨o, H4, I4, ps, eo, e4⟩ => ?_
  subst eo e4
  cases pl; cases pu
  have I5 : Inv X pins σ H4 { s4 with heap := s4.heap.push { cls := .type "slice", data := .fields #[.none, .none, vs] } } := I4.kept (t' := s4.toks) fun b ob q => Heap.get?_push_of_some _ q
  obtain ⟨its, r, ht, hz⟩ := I5.tuple hx
  have hlen := r.length
  obtain ⟨ys, y1, y2, y3⟩ := vals_pick r (fun k => (((its.toArray.size : Int) - 1) + (k : Int) * (-1)).toNat) (List.range its.toArray.size)
  rw [List.length_range, List.size_toArray, ← hlen] at y3
  show wpAny (model X.prog X.w) X.A (subscriptTail e (.Slice none none (some (.UnaryOp .USub (.Constant (.int 1) k p1) p2)) p3) (.ref a) (.ref s4.heap.objs.size)) (EP X pins σ Q) X.xe { s4 with heap := s4.heap.push { cls := .type "slice", data := .fields #[.none, .none, vs] } }
  refine tail_any (ops := [.ref a, .ref s4.heap.objs.size]) (IsTup.typeIs ht) (PyProof.Rows.slot_tuple_getitem.lookup) ?_ (by with_unfolding_all rfl)
  refine tup_rev ht (Heap.IsSliceOf.new _ _ _ vs) ps ?_ (by rw [List.size_toArray, ← hlen]; exact hz)
  refine ⟨.ref _, _, I5.laid (t' := s4.toks) (o := .tup ys) (fun b ob q => Heap.get?_push_of_some _ q) (Nat.le_refl _) ?_, rfl, q ys _ y2 y3 (I5.hok.fresh (Nat.le_refl _))⟩
  exact ⟨Nat.le_trans y3 hz, _, y1, IsTup.new _ _⟩
end
end VG

set_option maxRecDepth 100000
set_option maxHeartbeats 2000000
/-! zip of a tuple and a list, walked. -/
namespace VG
open PySem PySem.Spec PyProof.Rows L2 RZ
section
variable {P : Program} {w : World} {A : Around} {E : Value → Shared → Prop} {s : Shared} {la lb ja jb : Addr} {xs ys : Array Value} {zp pI pO : Addr}
/-- an iterator at j: its n-th state, kept while what it stands on is kept; its items -/
structure Steps (P : Program) (w : World) (j : Addr) (own : List Addr) (J : Nat → Heap → Prop) (xs : Array Value) : Prop where
  keep : ∀ {n : Nat} {h h' : Heap}, J n h → (∀ c ∈ own, ∀ o, h.get? c = some o → h'.get? c = some o) → J n h'
  item : ∀ {A : Around} {E : Value → Shared → Prop} {s : Shared} {n : Nat} {x : Value} {Q : Value → Shared → Prop}, J n s.heap → xs[n]? = some x → (∀ h', J (n + 1) h' → Heap.SameBut j s.heap h' → Q x { s with heap := h' }) →
    wpAny (model P w) A (Builtin.SmallTypes.nextOf (.ref j)) Q E s
  stop : ∀ {A : Around} {E : Value → Shared → Prop} {s : Shared} {n : Nat} {Q : Value → Shared → Prop}, A.handled = none → J n s.heap → xs[n]? = none →
    (∀ h' e, Heap.ExtBut j s.heap h' → (∃ o, h'.get? e = some o ∧ o.cls = .type "StopIteration") → E (.ref e) { s with heap := h' }) → wpAny (model P w) A (Builtin.SmallTypes.nextOf (.ref j)) Q E s
theorem steps_tup (hne : la ≠ ja) : Steps P w ja [ja, la] (fun n h => h.IsTupleIter ja la n ∧ h.IsTuple la xs) xs where
  keep := fun {n h h'} ⟨p, q⟩ k => ⟨p.at (k ja (by simp)), by obtain ⟨o, ho, r⟩ := q; exact ⟨o, k la (by simp) o ho, r⟩⟩
  item := fun {A E s n x Q} ⟨p, q⟩ hx h => nextOf_tuple_item p q hx fun h' p' sb => h h' ⟨p', by obtain ⟨o, ho, r⟩ := q; exact ⟨o, (sb.2 la hne).trans ho, r⟩⟩ sb
  stop := fun {A E s n Q} hh ⟨p, q⟩ hx h => nextOf_tuple_end hh p q hx h
theorem steps_lst (hne : lb ≠ jb) : Steps P w jb [jb, lb] (fun n h => h.IsListIter jb lb n ∧ h.IsList lb ys) ys where
  keep := fun {n h h'} ⟨p, q⟩ k => ⟨by obtain ⟨o, ho, r⟩ := p; exact ⟨o, k jb (by simp) o ho, r⟩, by obtain ⟨o, ho, r⟩ := q; exact ⟨o, k lb (by simp) o ho, r⟩⟩
  item := fun {A E s n x Q} ⟨p, q⟩ hx h => wpAny_nextOf_list_item p q hx fun h' p' sb => h h' ⟨p', by obtain ⟨o, ho, r⟩ := q; exact ⟨o, (sb.2 lb hne).trans ho, r⟩⟩ sb
  stop := fun {A E s n Q} hh ⟨p, q⟩ hx h => wpAny_nextOf_list_end hh p q hx h
variable {oa ob : List Addr} {J1 J2 : Nat → Heap → Prop} {n : Nat} {a b x y : Value}
/-- what stands apart from the zip -/
structure Off (zp pI pO ja jb : Addr) (oa ob : List Addr) : Prop where
  pz : pI ≠ zp ∧ pO ≠ zp ∧ ja ≠ zp ∧ jb ≠ zp
  pp : pI ≠ pO ∧ pI ≠ ja ∧ pI ≠ jb ∧ pO ≠ ja ∧ pO ≠ jb ∧ ja ≠ jb
  oa_ : ∀ c ∈ oa, c ≠ zp ∧ c ≠ pO ∧ c ≠ jb
  ob_ : ∀ c ∈ ob, c ≠ zp ∧ c ≠ pO ∧ c ≠ ja
theorem zm_item {Q : Value → Shared → Prop} (S1 : Steps P w ja oa J1 xs) (S2 : Steps P w jb ob J2 ys) (D : Off zp pI pO ja jb oa ob) (hz : IsZip s.heap zp pI pO .none) (hI : IsPair s.heap pI (.ref ja) (.ref jb)) (hO : IsPair s.heap pO a b)
    (h1 : J1 n s.heap) (h2 : J2 n s.heap) (hx : xs[n]? = some x) (hy : ys[n]? = some y)
    (q : ∀ h', IsZip h' zp pI pO (rawInt s.heap.objs.size) → IsPair h' pO x y → J1 (n + 1) h' → J2 (n + 1) h' → IsPair h' s.heap.objs.size x y → h'.objs.size = s.heap.objs.size + 1 →
      (∀ c o, c ≠ zp → c ≠ pO → c ≠ ja → c ≠ jb → s.heap.get? c = some o → h'.get? c = some o) → Q (.ref s.heap.objs.size) { s with heap := h' }) :
    wpAny (model P w) A (Builtin.«zip.__next__» ⟨[.ref zp], []⟩) (fun fin s' => ∃ v, fin = .done (.ret v) ∧ Q v s') E s := by
  obtain ⟨z1, z2, z3, z4⟩ := D.pz
  obtain ⟨p1, p2, p3, p4, p5, p6⟩ := D.pp
  show wpAny _ _ (field (.ref zp) 2 >>= _) _ E s
  refine wpAny_bind (wpAny_field hz rfl (x := .bool false) rfl ?_)
  show wpAny _ _ (field (.ref zp) 3 >>= _) _ E s
  refine wpAny_bind (wpAny_field hz rfl (x := .ref pI) rfl (wpAny_bind (wpAny_seqItems hI rfl ?_)))
  show wpAny _ _ (Builtin.SmallTypes.ownedTupleIsFree (.ref zp) >>= _) _ E s
  refine wpAny_bind ?_; unfold Builtin.SmallTypes.ownedTupleIsFree
  refine wpAny_bind (wpAny_field hz rfl (x := .none) rfl (wpAny_pure ?_)); simp only [if_true]
  refine wpAny_bind (wpAny_rule (wpAny_bind (wpAny_field hz rfl (x := .ref pO) rfl (wpAny_bind (wpAny_setField_rec hz (by simp) fun g1 hz1 b1 => ?_)))))
  replace hz1 : IsZip g1 zp pI pO .ellipsis := hz1
  refine wpAny_bind ?_; simp only [List.zipIdx_cons, List.zipIdx_nil, List.forIn_cons, List.forIn_nil]
  -- the first
  refine wpAny_bind (wpAny_bind (wpAny_onRaise ?_))
  show wpAny _ _ (Builtin.SmallTypes.nextOf (.ref ja) >>= _) _ _ _
  refine wpAny_bind (S1.item (s := { s with heap := g1 }) (S1.keep h1 fun c hc o e => (b1.2 c (D.oa_ c hc).1).trans e) hx fun g2 k1 b2 => wpAny_pure ?_)
  have hO2 : IsPair g2 pO a b := (b2.2 _ p4).trans ((b1.2 _ z2).trans hO)
  refine wpAny_bind (wpAny_seqItems hO2 rfl (wpAny_bind (wpAny_updateSeq_pair hO2 fun g3 hO3 b3 => ?_)))
  replace hO3 : IsPair g3 pO x b := hO3
  refine wpAny_bind (wpAny_letGo (wpAny_pure ?_))
  -- the second
  refine wpAny_bind (wpAny_bind (wpAny_onRaise ?_))
  show wpAny _ _ (Builtin.SmallTypes.nextOf (.ref jb) >>= _) _ _ _
  refine wpAny_bind (S2.item (s := { s with heap := g3 }) (S2.keep h2 fun c hc o e => (b3.2 c (D.ob_ c hc).2.1).trans ((b2.2 c (D.ob_ c hc).2.2).trans ((b1.2 c (D.ob_ c hc).1).trans e))) hy fun g4 k2 b4 => wpAny_pure ?_)
  have hO4 : IsPair g4 pO x b := (b4.2 _ p5).trans hO3
  refine wpAny_bind (wpAny_seqItems hO4 rfl (wpAny_bind (wpAny_updateSeq_pair hO4 fun g5 hO5 b5 => ?_)))
  replace hO5 : IsPair g5 pO x y := hO5
  refine wpAny_bind (wpAny_letGo (wpAny_pure (wpAny_pure ?_)))
  refine wpAny_bind (wpAny_seqItems hO5 rfl (wpAny_bind (wpAny_newTuple ?_)))
  have gs : g5.objs.size = s.heap.objs.size := by rw [b5.1, b4.1, b3.1, b2.1, b1.1]
  have hz5 : IsZip g5 zp pI pO .ellipsis := (b5.2 _ z2.symm).trans ((b4.2 _ z4.symm).trans ((b3.2 _ z2.symm).trans ((b2.2 _ z3.symm).trans hz1)))
  have k5 : ∀ c o, c ≠ zp → c ≠ pO → c ≠ ja → c ≠ jb → s.heap.get? c = some o → g5.get? c = some o := fun c o c1 c2 c3 c4 e => (b5.2 _ c2).trans ((b4.2 _ c4).trans ((b3.2 _ c2).trans ((b2.2 _ c3).trans ((b1.2 _ c1).trans e))))
  have m1 : J1 (n + 1) g5 := S1.keep k1 fun c hc o e => (b5.2 c (D.oa_ c hc).2.1).trans ((b4.2 c (D.oa_ c hc).2.2).trans ((b3.2 c (D.oa_ c hc).2.1).trans e))
  have m2 : J2 (n + 1) g5 := S2.keep k2 fun c hc o e => (b5.2 c (D.ob_ c hc).2.1).trans e
  have zlt : zp < g5.objs.size := Heap.lt_size hz5
  show wpAny _ _ (Builtin.SmallTypes.ownedTupleHandOut (.ref zp) (.ref g5.objs.size) >>= _) _ _ _
  refine wpAny_bind ?_; unfold Builtin.SmallTypes.ownedTupleHandOut
  have hz6 : IsZip (g5.push { cls := .type "tuple", data := .seq #[x, y] }) zp pI pO .ellipsis := Heap.get?_push_of_some _ hz5
  refine wpAny_bind (wpAny_setField_rec hz6 (by simp) fun g7 hz7 b7 => ?_)
  replace hz7 : IsZip g7 zp pI pO (rawInt g5.objs.size) := hz7
  refine wpAny_setField_rec hz7 (by simp) fun g8 hz8 b8 => ?_
  replace hz8 : IsZip g8 zp pI pO (rawInt g5.objs.size) := hz8
  have up : ∀ c o, c ≠ zp → g5.get? c = some o → g8.get? c = some o := fun c o c1 e => (b8.2 _ c1).trans ((b7.2 _ c1).trans (Heap.get?_push_of_some _ e))
  have new : IsPair g8 g5.objs.size x y := (b8.2 _ (Nat.ne_of_gt zlt)).trans ((b7.2 _ (Nat.ne_of_gt zlt)).trans (Heap.get?_push_size _ rfl))
  have size8 : g8.objs.size = g5.objs.size + 1 := by rw [b8.1, b7.1]; exact Heap.size_push ..
  rw [gs] at hz8 new size8
  refine wpAny_pure ⟨_, rfl, ?_⟩; show Q (.ref g5.objs.size) _; rw [gs]
  exact q g8 hz8 (up _ _ z2 hO5) (S1.keep m1 fun c hc o e => up c o (D.oa_ c hc).1 e) (S2.keep m2 fun c hc o e => up c o (D.ob_ c hc).1 e) new size8 fun c o c1 c2 c3 c4 e => up c o c1 (k5 c o c1 c2 c3 c4 e)
theorem zm_end {Q : Fin → Shared → Prop} (hh : A.handled = none) (S1 : Steps P w ja oa J1 xs) (S2 : Steps P w jb ob J2 ys) (D : Off zp pI pO ja jb oa ob) (hz : IsZip s.heap zp pI pO .none) (hI : IsPair s.heap pI (.ref ja) (.ref jb)) (hO : IsPair s.heap pO a b)
    (h1 : J1 n s.heap) (h2 : J2 n s.heap) (out : xs[n]? = none ∨ ys[n]? = none)
    (q : ∀ h' e, (∀ c o, c ≠ zp → c ≠ pO → c ≠ ja → c ≠ jb → s.heap.get? c = some o → h'.get? c = some o) → (∃ o, h'.get? e = some o ∧ o.cls = .type "StopIteration") → E (.ref e) { s with heap := h' }) :
    wpAny (model P w) A (Builtin.«zip.__next__» ⟨[.ref zp], []⟩) Q E s := by
  obtain ⟨z1, z2, z3, z4⟩ := D.pz
  obtain ⟨p1, p2, p3, p4, p5, p6⟩ := D.pp
  show wpAny _ _ (field (.ref zp) 2 >>= _) _ E s
  refine wpAny_bind (wpAny_field hz rfl (x := .bool false) rfl ?_)
  show wpAny _ _ (field (.ref zp) 3 >>= _) _ E s
  refine wpAny_bind (wpAny_field hz rfl (x := .ref pI) rfl (wpAny_bind (wpAny_seqItems hI rfl ?_)))
  show wpAny _ _ (Builtin.SmallTypes.ownedTupleIsFree (.ref zp) >>= _) _ E s
  refine wpAny_bind ?_; unfold Builtin.SmallTypes.ownedTupleIsFree
  refine wpAny_bind (wpAny_field hz rfl (x := .none) rfl (wpAny_pure ?_)); simp only [if_true]
  refine wpAny_bind (wpAny_rule (wpAny_bind (wpAny_field hz rfl (x := .ref pO) rfl (wpAny_bind (wpAny_setField_rec hz (by simp) fun g1 hz1 b1 => ?_)))))
  replace hz1 : IsZip g1 zp pI pO .ellipsis := hz1
  refine wpAny_bind ?_; simp only [List.zipIdx_cons, List.zipIdx_nil, List.forIn_cons, List.forIn_nil]
  refine wpAny_bind (wpAny_bind (wpAny_onRaise ?_))
  show wpAny _ _ (Builtin.SmallTypes.nextOf (.ref ja) >>= _) _ _ _
  have m1 : J1 n g1 := S1.keep h1 fun c hc o e => (b1.2 c (D.oa_ c hc).1).trans e
  cases hx : xs[n]? with
  | none =>
    refine wpAny_bind (S1.stop (s := { s with heap := g1 }) hh m1 hx fun g2 e b2 he => ?_)
    obtain ⟨oe, hoe, hce⟩ := he
    have hz2 : IsZip g2 zp pI pO .ellipsis := b2 _ _ z3.symm hz1
    have ez : e ≠ zp := fun v => by subst v; rw [hz2] at hoe; cases hoe; simp at hce
    exact wpAny_setField_rec hz2 (by simp) fun g3 _ b3 => q g3 e (fun c o c1 _ c3 _ v => (b3.2 _ c1).trans (b2 _ _ c3 ((b1.2 _ c1).trans v))) ⟨oe, (b3.2 _ ez).trans hoe, hce⟩
  | some x =>
    have hy : ys[n]? = none := out.elim (fun v => by rw [hx] at v; cases v) id
    refine wpAny_bind (S1.item (s := { s with heap := g1 }) m1 hx fun g2 k1 b2 => wpAny_pure ?_)
    have hO2 : IsPair g2 pO a b := (b2.2 _ p4).trans ((b1.2 _ z2).trans hO)
    refine wpAny_bind (wpAny_seqItems hO2 rfl (wpAny_bind (wpAny_updateSeq_pair hO2 fun g3 hO3 b3 => wpAny_bind (wpAny_letGo (wpAny_pure ?_)))))
    refine wpAny_bind (wpAny_bind (wpAny_onRaise ?_))
    show wpAny _ _ (Builtin.SmallTypes.nextOf (.ref jb) >>= _) _ _ _
    refine wpAny_bind (S2.stop (s := { s with heap := g3 }) hh (S2.keep h2 fun c hc o e => (b3.2 c (D.ob_ c hc).2.1).trans ((b2.2 c (D.ob_ c hc).2.2).trans ((b1.2 c (D.ob_ c hc).1).trans e))) hy fun g4 e b4 he => ?_)
    obtain ⟨oe, hoe, hce⟩ := he
    have hz4 : IsZip g4 zp pI pO .ellipsis := b4 _ _ z4.symm ((b3.2 _ z2.symm).trans ((b2.2 _ z3.symm).trans hz1))
    have ez : e ≠ zp := fun v => by subst v; rw [hz4] at hoe; cases hoe; simp at hce
    exact wpAny_setField_rec hz4 (by simp) fun g5 _ b5 => q g5 e (fun c o c1 c2 c3 c4 v => (b5.2 _ c1).trans (b4 _ _ c4 ((b3.2 _ c2).trans ((b2.2 _ c3).trans ((b1.2 _ c1).trans v))))) ⟨oe, (b5.2 _ ez).trans hoe, hce⟩
theorem next_item {Q : Option Value → Shared → Prop} (S1 : Steps P w ja oa J1 xs) (S2 : Steps P w jb ob J2 ys) (D : Off zp pI pO ja jb oa ob) (hz : IsZip s.heap zp pI pO .none) (hI : IsPair s.heap pI (.ref ja) (.ref jb)) (hO : IsPair s.heap pO a b)
    (h1 : J1 n s.heap) (h2 : J2 n s.heap) (hx : xs[n]? = some x) (hy : ys[n]? = some y)
    (q : ∀ h', IsZip h' zp pI pO (rawInt s.heap.objs.size) → IsPair h' pO x y → J1 (n + 1) h' → J2 (n + 1) h' → IsPair h' s.heap.objs.size x y → h'.objs.size = s.heap.objs.size + 1 →
      (∀ c o, c ≠ zp → c ≠ pO → c ≠ ja → c ≠ jb → s.heap.get? c = some o → h'.get? c = some o) → Q (some (.ref s.heap.objs.size)) { s with heap := h' }) : wpAny (model P w) A (pyNext (.ref zp)) Q E s := by
  have T : s.TypeIs (.ref zp) "zip" := ⟨_, hz, rfl⟩
  unfold pyNext
  exact wpAny_bind (wpAny_attempt (wpAny_callSpecial?_slot (name := Str.ofString "__next__") T PySem.F.slot_zip_next (wpAny_call_entry PySem.F.slot_zip_next T PySem.F.entry_zip_next (zm_item S1 S2 D hz hI hO h1 h2 hx hy fun h' a1 a2 a3 a4 a5 a6 a7 => wpAny_pure (q h' a1 a2 a3 a4 a5 a6 a7)) (PySem.F.args_zip_next_1 _))))
theorem next_end {Q : Option Value → Shared → Prop} (hh : A.handled = none) (S1 : Steps P w ja oa J1 xs) (S2 : Steps P w jb ob J2 ys) (D : Off zp pI pO ja jb oa ob) (hz : IsZip s.heap zp pI pO .none) (hI : IsPair s.heap pI (.ref ja) (.ref jb)) (hO : IsPair s.heap pO a b)
    (h1 : J1 n s.heap) (h2 : J2 n s.heap) (out : xs[n]? = none ∨ ys[n]? = none) (q : ∀ h', (∀ c o, c ≠ zp → c ≠ pO → c ≠ ja → c ≠ jb → s.heap.get? c = some o → h'.get? c = some o) → Q none { s with heap := h' }) : wpAny (model P w) A (pyNext (.ref zp)) Q E s := by
  have T : s.TypeIs (.ref zp) "zip" := ⟨_, hz, rfl⟩
  unfold pyNext
  refine wpAny_bind (wpAny_attempt (wpAny_callSpecial?_slot (name := Str.ofString "__next__") T PySem.F.slot_zip_next (wpAny_call_entry PySem.F.slot_zip_next T PySem.F.entry_zip_next (zm_end hh S1 S2 D hz hI hO h1 h2 out fun h' e hk he => ?_) (PySem.F.args_zip_next_1 _))))
  obtain ⟨o, ho, hc⟩ := he
  exact wpAny_bind (wpAny_isInstance (T := "StopIteration") (b := true) ⟨o, ho, hc⟩ isSubtype_stop (wpAny_pure (q _ hk)))
end
/-- pairs of a tuple's and a list's items -/
def ItzM (K : PySem.W.Frag) (a b : Addr) : It :=
  ⟨fun i H => ∃ (xs ys : List V) (x y : V), SqT K H a xs ∧ SqL K H b ys ∧ xs[i]? = some x ∧ ys[i]? = some y,
    fun i H v H' => ∃ T x y, v = .ref T ∧ H T = none ∧ H' = upd H T (.tup [x, y]) ∧ (∀ xs, SqT K H a xs → xs[i]? = some x) ∧ ∀ ys, SqL K H b ys → ys[i]? = some y,
    fun i H => ∃ xs ys : List V, SqT K H a xs ∧ SqL K H b ys ∧ (xs.length ≤ i ∨ ys.length ≤ i)⟩
def iZipM (K : PySem.W.Frag) (ta : TA) : TI := fun σ H R => ta σ H fun vs H1 => ∃ a b xs ys, vs = [.ref a, .ref b] ∧ SqT K H1 a xs ∧ SqL K H1 b ys ∧ R (ItzM K a b) H1
theorem off_of {zp pI pO ja jb a b : Addr} (D : ZipApart zp pI pO ja jb a b) : Off zp pI pO ja jb [ja, a] [jb, b] where
  pz := ⟨D.TIz, D.TOz, D.i1z, D.i2z⟩
  pp := ⟨D.TITO, D.TIi1, D.TIi2, D.TOi1, D.TOi2, D.i12⟩
  oa_ := fun c hc => by
    rcases List.mem_cons.mp hc with rfl | h
    · exact ⟨D.i1z, D.TOi1.symm, D.i12⟩
    · obtain rfl := List.mem_singleton.mp h; exact ⟨D.l1z, D.l1TO, D.l1i2⟩
  ob_ := fun c hc => by
    rcases List.mem_cons.mp hc with rfl | h
    · exact ⟨D.i2z, D.TOi2.symm, D.i12.symm⟩
    · obtain rfl := List.mem_singleton.mp h; exact ⟨D.l2z, D.l2TO, D.l2i1⟩
theorem turn_zipM {P : Program} {w : World} {K : PySem.W.Frag} {elts : List Expr} {kk : Nat} {tpos : Pos} {a b zp pI pO ja jb : Addr} (D : ZipApart zp pI pO ja jb a b) :
    Turn P w K (.Tuple elts kk tpos) (ItzM K a b) [zp, pI, pO, ja, jb] zp (fun i h => IsZip h zp pI pO .none ∧ IsPair h pI (.ref ja) (.ref jb) ∧ (∃ x y, IsPair h pO x y) ∧ h.IsTupleIter ja a i ∧ h.IsListIter jb b i) where
  mem := by simp
  obj := fun i h st c hc => by
    obtain ⟨f1, f2, ⟨x, y, f3⟩, ⟨o1, e1, _, d1⟩, ⟨o2, e2, _, d2⟩⟩ := st
    simp only [List.mem_cons, List.not_mem_nil, or_false] at hc
    rcases hc with rfl | rfl | rfl | rfl | rfl
    · exact ⟨_, f1, fun v q => nomatch q⟩
    · exact ⟨_, f2, fun v q => nomatch q⟩
    · exact ⟨_, f3, fun v q => nomatch q⟩
    · exact ⟨o1, e1, fun v q => by rw [d1] at q; cases q⟩
    · exact ⟨o2, e2, fun v q => by rw [d2] at q; cases q⟩
  keep := fun i h h' st k => by
    obtain ⟨f1, f2, ⟨x, y, f3⟩, g1, g2⟩ := st
    exact ⟨k zp (by simp) _ f1, k pI (by simp) _ f2, ⟨x, y, k pO (by simp) _ f3⟩, g1.at fun o q => k ja (by simp) o q, g2.at fun o q => k jb (by simp) o q⟩
  item := by
    intro X eP eW eK calm_ i pins s σ H E Iv fresh_ stt goes
    subst eP eW eK
    obtain ⟨f1, f2, ⟨x0, y0, f3⟩, g1, g2⟩ := stt
    obtain ⟨xs, ys, x, y, qx, qy, atx, aty⟩ := goes
    obtain ⟨ia, va, pa, _⟩ := Iv.tuple qx
    obtain ⟨ib, vb, pb, _⟩ := Iv.list qy
    obtain ⟨u, hu, ru⟩ := va.get atx
    obtain ⟨u2, hu2, ru2⟩ := vb.get aty
    have zl : zp < s.heap.objs.size := Heap.lt_size f1
    refine next_item (steps_tup D.l1i1) (steps_lst D.l2i2) (off_of D) f1 f2 f3 ⟨g1, pa⟩ ⟨g2, pb.isList⟩ (x := u) (y := u2) (by simpa using hu) (by simpa using hu2) fun h' z' o' k1 k2 hT hsz kk => ?_
    refine ⟨_, rfl, wpAny_letOwnedTupleGo_zip (s := { s with heap := h' }) z' fun h'' z'' sb => ?_⟩
    have hT2 : h''.get? s.heap.objs.size = some { cls := .type "tuple", data := .seq #[u, u2] } := (sb.2 _ (Nat.ne_of_gt zl)).trans hT
    have new : ObjOk X.prog X.w (upd H s.heap.objs.size (.tup [x, y])) h'' s.heap.objs.size (.tup [x, y]) := ⟨by show 2 ≤ sizeLine; decide, [u, u2], .cons ru (.cons ru2 .nil), ⟨_, hT2, rfl, _, rfl⟩⟩
    have I1 : Inv X pins σ (upd H s.heap.objs.size (.tup [x, y])) { s with heap := h'' } := Iv.turnedNew (t' := s.toks) (ch := [zp, pI, pO, ja, jb]) (fun c o hb q => (sb.2 c (fun q' => hb (by simp [q']))).trans (kk c o (fun q' => hb (by simp [q'])) (fun q' => hb (by simp [q'])) (fun q' => hb (by simp [q'])) (fun q' => hb (by simp [q'])) q)) fresh_ (Nat.le_refl _) new
    refine ⟨.ref s.heap.objs.size, _, I1, rfl, ⟨_, x, y, rfl, Iv.hok.fresh (Nat.le_refl _), rfl, fun l hl => by rw [Iv.tuple_inj hl qx]; exact atx, fun l hl => by rw [Iv.list_inj hl qy]; exact aty⟩, ⟨z'', ?_, ⟨u, u2, ?_⟩, ?_, ?_⟩, fun c hcm => ?_⟩
    · exact (sb.2 _ D.TIz).trans (kk _ _ D.TIz D.TITO D.TIi1 D.TIi2 f2)
    · exact (sb.2 _ D.TOz).trans o'
    · exact k1.1.at fun o q => (sb.2 _ D.i1z).trans q
    · exact k2.1.at fun o q => (sb.2 _ D.i2z).trans q
    · have hlt : c < s.heap.objs.size := by
        simp only [List.mem_cons, List.not_mem_nil, or_false] at hcm
        rcases hcm with rfl | rfl | rfl | rfl | rfl
        · exact zl
        · exact Heap.lt_size f2
        · exact Heap.lt_size f3
        · obtain ⟨_, e1, _⟩ := g1; exact Heap.lt_size e1
        · obtain ⟨_, e2, _⟩ := g2; exact Heap.lt_size e2
      rw [upd_ne (Nat.ne_of_lt hlt)]
      exact (fresh_ c hcm).1
  done := by
    intro X eP eW eK calm_ i pins s σ H E Iv fresh_ stt goes
    subst eP eW eK
    obtain ⟨f1, f2, ⟨x0, y0, f3⟩, g1, g2⟩ := stt
    obtain ⟨xs, ys, qx, qy, ends⟩ := goes
    obtain ⟨ia, va, pa, _⟩ := Iv.tuple qx
    obtain ⟨ib, vb, pb, _⟩ := Iv.list qy
    have la_ := va.length
    have lb_ := vb.length
    have out : ia.toArray[i]? = none ∨ ib.toArray[i]? = none := ends.imp (fun q => by simp; omega) (fun q => by simp; omega)
    exact next_end (Iv.ok.hd calm_) (steps_tup D.l1i1) (steps_lst D.l2i2) (off_of D) f1 f2 f3 ⟨g1, pa⟩ ⟨g2, pb.isList⟩ out fun h' kk => ⟨rfl, Iv.turnedL (t' := s.toks) (ch := [zp, pI, pO, ja, jb]) (fun c o hb q =>
      kk c o (fun q' => hb (by simp [q'])) (fun q' => hb (by simp [q'])) (fun q' => hb (by simp [q'])) (fun q' => hb (by simp [q'])) q) fresh_⟩
  self := fun A i s Q E stt h => wpAny_pyIter_zip stt.1 h
abbrev zm1 (h : Heap) (a : Addr) : Heap := h.push { cls := .type "tuple_iterator", data := .fields #[.ref a, .int 0 0] }
abbrev zm2 (h : Heap) (a b : Addr) : Heap := (zm1 h a).push { cls := .type "list_iterator", data := .fields #[.ref b, .int 0 0] }
abbrev zm3 (h : Heap) (a b : Addr) : Heap := (zm2 h a b).push { cls := .type "tuple", data := .seq #[.ref h.objs.size, .ref (zm1 h a).objs.size] }
abbrev zm4 (h : Heap) (a b : Addr) : Heap := (zm3 h a b).push { cls := .type "tuple", data := .seq #[.none, .none] }
abbrev zm5 (h : Heap) (a b : Addr) : Heap := (zm4 h a b).push { cls := .type "zip", data := .fields #[.none, .bool false, .bool false, .ref (zm2 h a b).objs.size, .ref (zm3 h a b).objs.size] }
theorem meets_zipM (a b : Addr) (xs ys : Array Value) : Meets (Builtin.«zip.__new__» ⟨[.type "zip", .ref a, .ref b], []⟩) (fun _ R s => s.heap.IsTuple a xs ∧ s.heap.IsList b ys ∧ R (.ok (.ret (.ref (zm4 s.heap a b).objs.size))) { s with heap := zm5 s.heap a b }) :=
  .of_wp fun prog w A R s h => by
    obtain ⟨hp, g, d, tk, os⟩ := s; obtain ⟨ha, hb, h⟩ := h
    have hsub := sub_zip
    have fa : Heap.IsTuple (Shared.heap ⟨hp, g, d, tk, os⟩) a xs := ha
    have fb : Heap.IsList (Shared.heap ⟨hp.push { cls := .type "tuple_iterator", data := .fields #[.ref a, .int 0 0] }, g, d, tk, os⟩) b ys := by obtain ⟨o, ho, r⟩ := hb; exact ⟨o, Heap.get?_push_of_some _ ho, r⟩
    wp_walk using wpAny_pyIter_tuple fa, wpAny_pyIter_list fb
    exact ⟨_, rfl, h⟩
theorem pi_zipM {X : Cx} {e e2 : Expr} {ta : TA} {p pos tpos : Pos} {elts : List Expr} {kk : Nat} (hg : Gl X "zip") (hm : X.mg "zip" = none) (ha : PA X [e, e2] ta)
    (hs : starEach [e, e2] X.env = (false, eval e X.env) :: starEach [e2] X.env := by rfl) (hpl : (backTo pos (starEach [e2] X.env)).any (·.1) = false := by rfl) :
    PI X (.Tuple elts kk tpos) (.Call (.Name "zip" p) [e, e2] [] pos) (iZipM X.K ta) := by
  refine ⟨fun pins s σ H R I h => ?_⟩
  refine Call_ (ld_blt I hg hm PyProof.Rows.boot_zip (PyProof.Rows.callWith_type1 (thn (ha.run pos pins s σ H _ I h) fun us s1 ⟨vs, H1, I1, r1, a, b, xs, ys, ex, hqx, hqy, q⟩ => ?_) hs hpl))
  subst ex
  obtain ⟨ua, ub, rfl, ra, rb⟩ : ∃ ua ub, us = [ua, ub] ∧ RelV (.ref a) ua ∧ RelV (.ref b) ub := by
    cases r1 with
    | cons r rr => cases rr with | cons r' rr => cases rr; exact ⟨_, _, rfl, r, r'⟩
  cases ra; cases rb
  have fresh5 : ∀ c, c ∈ [s1.heap.objs.size + 4, s1.heap.objs.size + 2, s1.heap.objs.size + 3, s1.heap.objs.size, s1.heap.objs.size + 1] → FpOk X pins H1 c := fun c hcm => by
    have hle : s1.heap.objs.size ≤ c := by
      simp only [List.mem_cons, List.not_mem_nil, or_false] at hcm
      omega
    exact I1.fpOk hle (I1.hok.fresh hle)
  obtain ⟨its, rv, p1, _⟩ := I1.tuple hqx
  obtain ⟨its2, rv2, p2, _⟩ := I1.list hqy
  obtain ⟨o1, ho1, _⟩ := id p1
  refine callType_new PySem.F.called_zip (by decide) (PySem.F.typeCall_zip_2 _ _) (PySem.F.newCall_zip_2 _ _) (fun obj => PySem.F.args_object_init_3 obj _ _) PySem.F.entry_zip_new (meets_zipM a b its.toArray its2.toArray) ⟨p1, p2.isList, ?_⟩
  have k : ∀ c o, s1.heap.get? c = some o → (zm5 s1.heap a b).get? c = some o := fun c o x => Heap.get?_push_of_some _ (Heap.get?_push_of_some _ (Heap.get?_push_of_some _ (Heap.get?_push_of_some _ (Heap.get?_push_of_some _ x))))
  have z1 : (zm1 s1.heap a).objs.size = s1.heap.objs.size + 1 := Heap.size_push ..
  have z2 : (zm2 s1.heap a b).objs.size = s1.heap.objs.size + 2 := by rw [Heap.size_push, z1]
  have z3 : (zm3 s1.heap a b).objs.size = s1.heap.objs.size + 3 := by rw [Heap.size_push, z2]
  have z4 : (zm4 s1.heap a b).objs.size = s1.heap.objs.size + 4 := by rw [Heap.size_push, z3]
  have c5 : (zm5 s1.heap a b).get? (zm4 s1.heap a b).objs.size = some _ := Heap.get?_push_size _ rfl
  have c4 : (zm5 s1.heap a b).get? (zm3 s1.heap a b).objs.size = some _ := Heap.get?_push_of_some _ (Heap.get?_push_size _ rfl)
  have c3 : (zm5 s1.heap a b).get? (zm2 s1.heap a b).objs.size = some _ := Heap.get?_push_of_some _ (Heap.get?_push_of_some _ (Heap.get?_push_size _ rfl))
  have c2 : (zm5 s1.heap a b).get? (zm1 s1.heap a).objs.size = some _ := Heap.get?_push_of_some _ (Heap.get?_push_of_some _ (Heap.get?_push_of_some _ (Heap.get?_push_size _ rfl)))
  have c1 : (zm5 s1.heap a b).get? s1.heap.objs.size = some _ := Heap.get?_push_of_some _ (Heap.get?_push_of_some _ (Heap.get?_push_of_some _ (Heap.get?_push_of_some _ (Heap.get?_push_size _ rfl))))
  show _ ∧ _
  rw [z2, z3, z4] at c5
  rw [z1, z2] at c3
  rw [z3] at c4
  rw [z1] at c2
  rw [z4]
  refine ⟨⟨_, c5, rfl⟩, wpAny_pyIter_zip c5 ?_⟩
  exact ⟨s1.heap.objs.size + 4, [s1.heap.objs.size + 4, s1.heap.objs.size + 2, s1.heap.objs.size + 3, s1.heap.objs.size, s1.heap.objs.size + 1], _, _, H1, rfl, I1.kept (t' := s1.toks) k, turn_zipM (PySem.W.ktu_apart s1.heap.objs.size a b (Heap.lt_size ho1) p2.lt), ⟨c5, c3, ⟨_, _, c4⟩, ⟨_, c1, rfl, rfl⟩, ⟨_, c2, rfl, rfl⟩⟩, fresh5, q⟩
end VG

set_option maxRecDepth 100000
set_option maxHeartbeats 4000000
/-! a dict is not a text; a value is told from a text. -/
namespace PySem.SeqAt
open AutoSeq1 (wpAny_loadPart')
open MeetsSeq
section
theorem dict_eq_declines_str (l : Addr) (es : Array DictEntry) (n : Nat) (dd : Option Addr) (sl : Array (Option Value)) (b : Str) (u : Tok) :
    Meets (Builtin.«dict.__eq__» ⟨[.ref l, .str b u], []⟩) (fun _ R s => s.heap.get? l = some { cls := .type "dict", dict := dd, data := .dict es n, slots := sl } ∧ R (.ok (.ret .notImplemented)) s) :=
  .of_wp fun prog w A R s h => by obtain ⟨hp, g, d, tk, os⟩ := s; obtain ⟨hl, h⟩ := h; have f1 := F.sub_str_dict; wp_walk using wpAny_loadPart' hl; exact ⟨_, rfl, h⟩
theorem str_eq_declines_dict (b : Str) (u : Tok) (l : Addr) (es : Array DictEntry) (n : Nat) (dd : Option Addr) (sl : Array (Option Value)) :
    Meets (Builtin.«str.__eq__» ⟨[.str b u, .ref l], []⟩) (fun _ R s => s.heap.get? l = some { cls := .type "dict", dict := dd, data := .dict es n, slots := sl } ∧ R (.ok (.ret .notImplemented)) s) :=
  .of_wp fun prog w A R s h => by obtain ⟨hp, g, d, tk, os⟩ := s; obtain ⟨hl, h⟩ := h; wp_walk using wpAny_loadPart' hl, wpAny_load hl; exact ⟨_, rfl, h⟩
end
end PySem.SeqAt
namespace PySem.SeqAt
open AutoSeq1 (wpAny_loadPart')
open MeetsSeq
section
variable {A : Around} {s : Shared}
theorem RcAt.dict_str {l : Addr} {es : Array DictEntry} {n : Nat} {dd : Option Addr} {sl : Array (Option Value)} (b : Str) (u : Tok) (ho : s.heap.get? l = some { cls := .type "dict", dict := dd, data := .dict es n, slots := sl }) (hu : A.units < cLine) : RcAt A s (.ref l) (.str b u) false := fun prog w E Q h => by
  exact rc_eq_decline_or (k := false) ⟨_, ho, rfl⟩ (typeIs_str s b u) (by decide) F.sub_str_dict F.slot_dict_eq F.slot_str_eq_refl
    (fun _ hq => call_meets F.slot_dict_eq ⟨_, ho, rfl⟩ F.entry_dict_eq (F.args_dict_eq_2 _ _) (dict_eq_declines_str l es n dd sl b u) ⟨ho, hq⟩)
    (fun _ hq => call_meets F.slot_str_eq_refl (typeIs_str s b u) F.entry_str_eq (F.args_str_eq_2 _ _) (str_eq_declines_dict b u l es n dd sl) ⟨ho, hq⟩)
    (fun _ hq => wpAny_of_eq (rfl : isSame (.ref l) (.str b u) = pure false) hq) (.inr hu) h
end
end PySem.SeqAt
theorem L2.Room.u65 {k : Nat} {A : PySem.Around} (r : L2.Room k A) : A.units + 65 < PySem.cLine := by have := r.un; omega
namespace VG
open PySem PySem.Spec PyProof.Rows L2 LamX
def isS (d : PyData) (z : Str) : Bool := match d with
  | .str x => decide (x = z)
  | _ => false
theorem eqv_isS {d : PyData} {z : Str} : PyData.eqv d (.str z) = isS d z := by
  cases d with
  | str x =>
    show (x == z) = decide (x = z)
    rw [Bool.eq_iff_iff, beq_iff_eq, decide_eq_true_eq]
  | none => rfl
  | bool _ => rfl
  | int _ => rfl
  | list _ => rfl
  | tuple _ => rfl
  | dict _ => rfl
/-- a value of any kind beside a text -/
def eltOk (d : PyData) : Prop := isDict d = true ∨ SeqAt.shaped d = true
def rEqS (K : PySem.W.Frag) : R2 := fun x y H Q => ∃ d z, Dk K H x d ∧ y = .str z ∧ eltOk d ∧ SeqAt.shaped (.str z) = true ∧ Q (.bl (isS d z)) H
theorem op_eqS {X : Cx} (hu : X.A.units + 64 < cLine) : OpR X (compareOp .Eq) (rEqS X.K) := by
  intro pins s σ H x y v u Q I rx ry h
  obtain ⟨d, z, hd, rfl, ok, sz, q⟩ := h
  obtain ⟨t, rfl⟩ := ry
  have hu1 : X.A.units < cLine := by omega
  cases hd with
  | dp hd =>
    obtain ⟨as, r1⟩ := Dp.reads I d x v hd rx
    have sd : SeqAt.shaped d = true := ok.resolve_left fun c => by cases hd <;> cases c
    refine SeqAt.compareEq_shaped r1 (Reads.str z t) sd sz hu ⟨.bl _, H, I, rfl, ?_⟩
    rw [eqv_isS]
    exact q
  | @d0 a h =>
    cases rx
    obtain ⟨_, hsys, ws, rel, od, des, dep, ho, hex, hdat, _⟩ := dk_of I.hok h
    obtain ⟨cls, dd, data, sl⟩ := od
    have h1 := hex.1
    simp only at h1 hdat
    subst h1 hdat
    exact SeqAt.RcAt.dict_str z t ho hu1 _ _ _ _ ⟨.bl _, H, I, rfl, q⟩
  | @d1 a h =>
    cases rx
    obtain ⟨_, hsys, ws, rel, od, des, dep, ho, hex, hdat, _⟩ := dk_of I.hok h
    obtain ⟨cls, dd, data, sl⟩ := od
    have h1 := hex.1
    simp only at h1 hdat
    subst h1 hdat
    exact SeqAt.RcAt.dict_str z t ho hu1 _ _ _ _ ⟨.bl _, H, I, rfl, q⟩
/-- a dict of the top: its keys in their order -/
def KKeys (K : PySem.W.Frag) (w : World) (d : Addr) (zs : List Str) : Prop := ∃ es n, K.lookup d = some ⟨.type "dict", none, .dict es n, #[]⟩ ∧ (d == sysModules) = false ∧ es.toList.map He.keyOf = He.keysIn w.params zs
theorem kKeys_of {K : PySem.W.Frag} {w : World} {a : Addr} {ks : List Str} (h : He.dicW K a = some (He.keysIn w.params ks)) : KKeys K w a ks := by
  obtain ⟨es, n, D⟩ := He.dicW_ok h
  refine ⟨es, n, D.at_, D.low, ?_⟩
  unfold He.dicW at h
  rw [D.at_] at h
  simp only [D.low] at h
  exact Option.some.inj h
def ItKd (zs : List Str) : It := ⟨fun i _ => i < zs.length, fun i H x H' => H' = H ∧ ∃ z, zs[i]? = some z ∧ x = .str z, fun i _ => zs.length ≤ i⟩
theorem turn_kd {P : Program} {w : World} {K : PySem.W.Frag} {tg : Expr} {d : Addr} {zs : List Str} (it : Addr) {es : Array DictEntry} {n : Nat} (hl : K.lookup d = some ⟨.type "dict", none, .dict es n, #[]⟩) (hk : es.toList.map He.keyOf = He.keysIn w.params zs) : Turn P w K tg (ItKd zs) [it] it (fun i h => h.IsKeyIter it d i es.size n) where
  mem := by simp
  obj := fun i h st b hb => by
    have e : b = it := by simpa using hb
    subst e
    obtain ⟨oi, e, c, dd⟩ := st
    exact ⟨oi, e, fun v z => by rw [dd] at z; cases z⟩
  keep := fun i h h' st k => st.at fun oi e => k it (by simp) oi e
  item := by
    intro X hP hw hK hc i pins s σ H E I hf st hg
    subst hP hw hK
    obtain ⟨f0, f1, f2, f3, f4, f5⟩ := hf it (by simp)
    have hgd := I.kIn d _ hl
    have hlen : es.toList.length = zs.length := by
      have := congrArg List.length hk
      rwa [List.length_map, He.keysIn, List.length_map] at this
    have hi : i < zs.length := hg
    have hie : i < es.toList.length := by omega
    have hx : es[i]? = some es.toList[i] := by rw [← Array.getElem?_toList]; exact List.getElem?_eq_getElem hie
    have hz : He.keyOf es.toList[i] = some (zs[i], PyData.keyHash X.w.params zs[i]) := by
      have e1 : (es.toList.map He.keyOf)[i]? = (He.keysIn X.w.params zs)[i]? := by rw [hk]
      rw [List.getElem?_map, List.getElem?_eq_getElem hie, He.keysIn, List.getElem?_map, List.getElem?_eq_getElem hi] at e1
      exact Option.some.inj e1
    obtain ⟨t, ht⟩ : ∃ t, es.toList[i].key = .str zs[i] t := by
      unfold He.keyOf at hz
      split at hz
      · rename_i x t q
        obtain ⟨h5, h6⟩ := Prod.mk.inj (Option.some.inj hz)
        exact ⟨t, by rw [q, h5]⟩
      · cases hz
    refine next_key_item st hgd rfl rfl hx fun h' st' sb => ?_
    have I1 : Inv X pins σ H { s with heap := h' } := I.turned (t' := s.toks) (fun b ob hb e => (sb.2 b hb).trans e) f0 f1 f3 f4 f5
    obtain ⟨oi, e, c, dd⟩ := id st'
    exact ⟨_, rfl, go_of (s := { s with heap := h' }) e c dd (by decide) ⟨.str zs[i], H, I1, by rw [ht]; exact ⟨t, rfl⟩, ⟨rfl, _, List.getElem?_eq_getElem hi, rfl⟩, st', fun b hb => (hf b hb).1⟩⟩
  done := by
    intro X hP hw hK hc i pins s σ H E I hf st hg
    subst hP hw hK
    obtain ⟨f0, f1, f2, f3, f4, f5⟩ := hf it (by simp)
    have hlen : es.toList.length = zs.length := by
      have := congrArg List.length hk
      rwa [List.length_map, He.keysIn, List.length_map] at this
    have hi : zs.length ≤ i := hg
    exact next_key_end (I.ok.hd hc) st (I.kIn d _ hl) rfl rfl (by rw [← Array.length_toList]; omega) fun h' eb => ⟨rfl, I.turned (t' := s.toks) (fun b ob hb e => eb b ob hb e) f0 f1 f3 f4 f5⟩
  self := fun A i s Q E st h => wpAny_pyIter_keyiter st h
def iKeysW (K : PySem.W.Frag) (w : World) (td : TE) : TI := fun σ H R => td σ H fun x H1 => ∃ d zs, x = .ref d ∧ KKeys K w d zs ∧ R (ItKd zs) H1
theorem pi_keysW {X : Cx} {tg e : Expr} {td : TE} (he : PE X e td) : PI X tg e (iKeysW X.K X.w td) := by
  refine ⟨fun pins s σ H R I h => ?_⟩
  refine thn (he.run pins s σ H _ I h) fun u s1 ⟨x, H1, I1, rx, d, zs, ex, ⟨es, n, hl, hs, hk⟩, q⟩ => ?_
  subst ex
  obtain rfl : u = Value.ref d := rx
  exact iter_keys hs (I1.kIn d _ hl) ⟨rfl, rfl, rfl⟩ rfl (pi_one (tk := s1.toks) I1 _ (turn_kd _ hl hk) ⟨_, Heap.get?_push_size _ rfl, rfl, rfl⟩ q)
theorem for_keysW {zs : List Str} {g : TG} {tb : TS} {D : Ends} {σ : L2.St} {H : Hp} (Pv : Nat → L2.St → Hp → Prop) (h0 : Pv 0 σ H)
    (hs : ∀ i z σ H, zs[i]? = some z → Pv i σ H → g (.str z) σ H fun σ2 H2 => tb { D with nx := Pv (i + 1), ct := Pv (i + 1), bk := D.nx } σ2 H2) (hd : ∀ σ H, Pv zs.length σ H → D.nx σ H) :
    ∃ W : Nat → Nat → L2.St → Hp → Prop, (∃ m, W 0 m σ H) ∧ ∀ i m σ H, W i m σ H →
      ((ItKd zs).stop i H ∧ D.nx σ H) ∨ ((ItKd zs).go i H ∧ ∃ N : L2.St → Hp → Prop, (∀ σ' H', N σ' H' → ∃ m', m' < m ∧ W (i + 1) m' σ' H') ∧ ∀ x H', (ItKd zs).yld i H x H' → g x σ H' fun σ2 H2 => tb { D with nx := N, ct := N, bk := D.nx } σ2 H2) :=
  for_any Pv h0 (fun i _ _ h _ => h) (fun _ _ _ => Nat.le_refl _) (fun i x σ H H' _ p ⟨e, z, hz, ex⟩ => by subst e ex; exact hs i z σ H' hz p) hd
/-- data, or a tuple of texts with one thing of any kind among them -/
inductive Dq (K : PySem.W.Frag) (H : Hp) : V → PyData → Prop
  | dk {v : V} {d : PyData} : Dk K H v d → okData d = true → Dq K H v d
  | one {a : Addr} {A B : List Str} {v : V} {d : PyData} : SqT K H a (A.map V.str ++ v :: B.map V.str) → Dk K H v d → okData d = true → (∀ z ∈ A ++ B, SeqAt.shaped (.str z) = true) → Dq K H (.ref a) (.tuple (A.map .str ++ d :: B.map .str))
theorem Dq.same {K : PySem.W.Frag} {H H' : Hp} (e : Same H H') {d : PyData} {v : V} (h : Dq K H v d) : Dq K H' v d := by
  cases h with
  | dk h o => exact .dk (Dk.same e h) o
  | one h1 h2 o c => exact .one (Same.seqT e h1) (Dk.same e h2) o c
theorem reads_strs {h : Heap} : ∀ {A : List Str} {us : List Value}, Vals (A.map V.str) us → ReadsAll h us (A.map .str) []
  | [], _, r => by cases r; exact .nil
  | z :: A, _, r => by
    cases r with
    | cons r1 r2 =>
      obtain ⟨t, rfl⟩ := r1
      exact ReadsAll.cons (as := []) (bs := []) (Reads.str z t) (reads_strs r2)
theorem reads_one {h : Heap} {v : V} {d : PyData} {B : List Str} {Pa : List Addr → Prop} (hv : ∀ u, RelV v u → ∃ as, Reads h u d as ∧ Pa as) : ∀ {A : List Str} {us : List Value}, Vals (A.map V.str ++ v :: B.map V.str) us → ∃ as, ReadsAll h us (A.map .str ++ d :: B.map .str) as ∧ Pa as
  | [], _, r => by
    cases r with
    | cons r1 r2 =>
      obtain ⟨as, h1, h2⟩ := hv _ r1
      refine ⟨as, ?_, h2⟩
      have := ReadsAll.cons h1 (reads_strs (h := h) r2)
      rwa [List.append_nil] at this
  | z :: A, _, r => by
    cases r with
    | cons r1 r2 =>
      obtain ⟨t, rfl⟩ := r1
      obtain ⟨as, h1, h2⟩ := reads_one hv r2
      exact ⟨as, ReadsAll.cons (as := []) (Reads.str z t) h1, h2⟩
theorem has_one {d : PyData} {B : List Str} : ∀ {A : List Str}, PyData.hasDictAll (A.map .str ++ d :: B.map .str) = d.hasDict
  | [] => by
    show (d.hasDict || PyData.hasDictAll (B.map .str)) = _
    have : PyData.hasDictAll (B.map .str) = false := by
      induction B with
      | nil => simp [PyData.hasDictAll]
      | cons z B ih => simp [PyData.hasDictAll, PyData.hasDict, ih]
    rw [this, Bool.or_false]
  | z :: A => by
    show (PyData.hasDict (.str z) || PyData.hasDictAll (A.map .str ++ d :: B.map .str)) = _
    rw [has_one]
    simp [PyData.hasDict]
def okQ (d : PyData) : Bool := d.leavesShort 13 && (decide (d.weight ≤ 2 ^ 20) && (d.showable && decide (d.depth ≤ 8)))
/-- repr of these -/
def rReprQ (K : PySem.W.Frag) : List V → Hp → VK → Prop := fun xs H Q => ∃ (v : V) (d : PyData), xs = [v] ∧ Dq K H v d ∧ okQ d = true ∧ Q (.str d.shown) H
theorem call_reprQ {X : Cx} (hg : X.A.guards = some []) (hu : X.A.units + 64 < cLine) : CallR X (.builtin "repr") (rReprQ X.K) := by
  intro pins s σ H xs us Q I r h
  obtain ⟨v, d, rfl, hd, ho, q⟩ := h
  cases hd with
  | dk hd ok => exact call_repr hg hu pins s σ H _ _ _ I r ⟨v, d, rfl, hd, ok, q⟩
  | @one a A B v d hs hd ok _ =>
    obtain ⟨u, rfl, rv⟩ := vals1 r
    cases rv
    unfold okQ at ho
    simp only [Bool.and_eq_true, decide_eq_true_eq] at ho
    obtain ⟨h1, h2, h3, h4⟩ := ho
    obtain ⟨its, rvs, ⟨o, hoa, hc, n, hdat⟩, _⟩ := I.tuple hs
    obtain ⟨as, hr, hsys⟩ := reads_one (h := s.heap) (Pa := fun as => d.hasDict = true → sysModules ∉ as) (fun u ru => by
      obtain ⟨as, r1, r2⟩ := dk_reads I hd ru
      refine ⟨as, r1, fun z => r2 z ?_⟩
      rcases (okData.parts ok).2.2.2.2 with c | c
      · rw [lay_noDict d c] at z; cases z
      · exact c) rvs
    have hr2 : Reads s.heap (.ref a) (.tuple (A.map .str ++ d :: B.map .str)) as := Reads.tuple hoa hc hdat (by simpa using hr)
    have fits : (PyData.tuple (A.map .str ++ d :: B.map .str)).shown.length ≤ sizeLine := PyData.shown_fits (B := 13) (by decide) (by decide) h1 h2
    refine repr_of_reads' hr2 h3 (fun z => hsys ?_) hg (by omega) (fun _ _ e => e) (fun h' w tk hk => ⟨.str _, H, I.kept (t' := tk) hk, ⟨w, rfl⟩, q⟩) fits
    rw [← has_one (d := d) (B := B) (A := A)]
    simpa only [PyData.hasDict] using z
/-- a value of data among texts -/
def inS (d : PyData) (ls : List Str) : Bool := match d with
  | .str x => decide (x ∈ ls)
  | _ => false
theorem any_inS {d : PyData} : ∀ {ls : List Str}, ((ls.map PyData.str).any fun z => PyData.eqv z d) = inS d ls
  | [] => by cases d <;> simp [inS]
  | z :: ls => by
    rw [List.map_cons, List.any_cons, any_inS]
    cases d with
    | str x =>
      show ((z == x) || decide (x ∈ ls)) = decide (x ∈ z :: ls)
      rw [Bool.eq_iff_iff, Bool.or_eq_true, beq_iff_eq, decide_eq_true_eq, decide_eq_true_eq, List.mem_cons]
      constructor
      · rintro (h | h)
        · exact .inl h.symm
        · exact .inr h
      · rintro (h | h)
        · exact .inl h.symm
        · exact .inr h
    | none => rfl
    | bool _ => rfl
    | int _ => rfl
    | list _ => rfl
    | tuple _ => rfl
    | dict _ => rfl
def rInDT (K : PySem.W.Frag) (neg : Bool) : R2 := fun x y H Q => ∃ d ls a, Dp K H x d ∧ y = .ref a ∧ SqT K H a (ls.map V.str) ∧ SeqAt.shaped d = true ∧ PyData.canLayAll0 (ls.map .str) = true ∧ Q (.bl (if neg then !inS d ls else inS d ls)) H
theorem room_inDT {A : Around} {d : PyData} (sd : SeqAt.shaped d = true) (hu : A.units + 65 < cLine) : A.units + 1 + d.depth < cLine := by
  have h := SeqAt.shaped.eq_1 d ▸ sd
  rw [Bool.and_eq_true, decide_eq_true_eq] at h
  omega
theorem op_inDT {X : Cx} (hu : X.A.units + 65 < cLine) : OpR X (compareOp .In) (rInDT X.K false) := by
  intro pins s σ H x y v u Q I rx ry h
  obtain ⟨d, ls, a, hd, rfl, hs, sd, sl, q⟩ := h
  cases ry
  obtain ⟨as, r1⟩ := Dp.reads I d x v hd rx
  obtain ⟨its, rvs, ⟨o, hoa, hc, n, hdat⟩, _⟩ := I.tuple hs
  have r2 : Reads s.heap (.ref a) (.tuple (ls.map .str)) [] := Reads.tuple hoa hc hdat (by simpa using reads_strs rvs)
  refine SeqAt.in_tuple_reads r2 r1 sl (SeqAt.canLay_of_shaped sd) (room_in_shaped sd hu) ⟨.bl _, H, I, rfl, ?_⟩
  rw [any_inS]
  exact q
theorem op_notInDT {X : Cx} (hu : X.A.units + 65 < cLine) : OpR X (compareOp .NotIn) (rInDT X.K true) := by
  intro pins s σ H x y v u Q I rx ry h
  obtain ⟨d, ls, a, hd, rfl, hs, sd, sl, q⟩ := h
  cases ry
  obtain ⟨as, r1⟩ := Dp.reads I d x v hd rx
  obtain ⟨its, rvs, ⟨o, hoa, hc, n, hdat⟩, _⟩ := I.tuple hs
  have r2 : Reads s.heap (.ref a) (.tuple (ls.map .str)) [] := Reads.tuple hoa hc hdat (by simpa using reads_strs rvs)
  refine SeqAt.notIn_tuple_reads r2 r1 sl (SeqAt.canLay_of_shaped sd) (room_in_shaped sd hu) ⟨.bl _, H, I, rfl, ?_⟩
  rw [any_inS]
  exact q
end VG

set_option maxRecDepth 100000
/-! k00, the mathematics: rows and their words, as the program and as the law reckon them. -/
namespace K26
open PySem

/-- each row's name, its least word, how many registers, its greatest N -/
def shapes : List (Str × Int × Nat × Option Int) := [
  ("set", 4096, 1, some 511), ("high", 8192, 1, some 255), ("copy", 12288, 2, none), ("add", 12289, 2, none), ("sub", 12290, 2, none), ("mul", 12291, 2, none),
  ("div", 12292, 2, none), ("rem", 12293, 2, none), ("and", 12294, 2, none), ("or", 12295, 2, none), ("xor", 12296, 2, none), ("shl", 12297, 2, none), ("shr", 12298, 2, none),
  ("load", 16384, 2, some 63), ("store", 20480, 2, some 63), ("jump", 24576, 0, some 255), ("zero", 28672, 1, some 255), ("some", 32768, 1, some 255), ("less", 36864, 2, none),
  ("same", 40960, 2, none), ("link", 45056, 1, some 255), ("go", 49152, 1, none), ("call", 53248, 0, some 15), ("trap", 57344, 0, some 255)]
def reck : List Str := ["copy", "add", "sub", "mul", "div", "rem", "and", "or", "xor", "shl", "shr"]
def names : List (Option Str) := [none, some "set", some "high", none, some "load", some "store", some "jump", some "zero", some "some", some "less", some "same", some "link", some "go", some "call", some "trap", none]
def nameOf (w : Int) : Option Str := if w / 4096 = 3 then (if w % 64 < 11 then some (reck.getD (w % 64).toNat "") else none) else names.getD (w / 4096).toNat none
/-- the parts of what stands above the least word -/
def parts (many : Nat) (r : Int) : List Int × Int := match many with
  | 0 => ([], r)
  | 1 => ([r / 512], r % 512)
  | _ => ([r / 512, r % 512 / 64], r % 512 % 64)
def rowWith (nm : Str) (s : Int × Nat × Option Int) (w : Int) : Option (Str × List Int) :=
  let p := parts s.2.1 (w - s.1)
  match s.2.2 with
  | none => if p.2 = 0 then some (nm, p.1) else none
  | some m => if p.2 ≤ m then some (nm, p.1 ++ [p.2]) else none
/-- the row that a word tells, as the program finds it -/
def pRow (w : Int) : Option (Str × List Int) := match nameOf w with
  | none => none
  | some nm => match shapes.lookup nm with
    | none => none
    | some s => rowWith nm s w
/-- the greatest value of each part -/
def bnds (s : Int × Nat × Option Int) : List Int := List.replicate s.2.1 7 ++ s.2.2.toList
def okParts : List Int → List Int → Bool
  | [], [] => true
  | a :: as, b :: bs => (decide (0 ≤ a) && decide (a ≤ b)) && okParts as bs
  | _, _ => false
def IsRow (nm : Str) (ps : List Int) : Prop := ∃ s, shapes.lookup nm = some s ∧ okParts ps (bnds s) = true
def wSum (ps : List Int) (n : Nat) : Int := match n, ps with
  | 0, _ => 0
  | 1, a :: _ => a * 512
  | _, a :: b :: _ => a * 512 + b * 64
  | _, _ => 0
def wordWith (s : Int × Nat × Option Int) (ps : List Int) : Int := s.1 + wSum ps s.2.1 + (match s.2.2 with | none => 0 | some _ => ps.getLastD 0)
def wordOf (nm : Str) (ps : List Int) : Int := match shapes.lookup nm with
  | none => 0
  | some s => wordWith s ps

theorem mem_of_lookup {α : Type} : ∀ {l : List (Str × α)} {k : Str} {v : α}, l.lookup k = some v → (k, v) ∈ l
  | [], _, _, h => by simp [List.lookup] at h
  | (a, b) :: l, k, v, h => by
    unfold List.lookup at h
    cases e : k == a with
    | true =>
      rw [e] at h
      have e1 : k = a := by simpa using e
      have e2 : b = v := Option.some.inj h
      rw [e1, e2]
      exact List.mem_cons_self
    | false =>
      rw [e] at h
      exact List.mem_cons_of_mem _ (mem_of_lookup h)
/-- all 24 of them -/
theorem lookup_all (Q : Str → (Int × Nat × Option Int) → Prop) (h : ∀ p ∈ shapes, Q p.1 p.2) {nm : Str} {s : Int × Nat × Option Int} (e : shapes.lookup nm = some s) : Q nm s := h (nm, s) (mem_of_lookup e)
theorem ok1 {ps : List Int} {a : Int} (h : okParts ps [a] = true) : ∃ x, ps = [x] ∧ 0 ≤ x ∧ x ≤ a := by
  match ps, h with
  | [x], h => simp [okParts] at h; exact ⟨x, rfl, h.1, h.2⟩
  | _ :: _ :: _, h => simp [okParts] at h
theorem ok2 {ps : List Int} {a b : Int} (h : okParts ps [a, b] = true) : ∃ x y, ps = [x, y] ∧ 0 ≤ x ∧ x ≤ a ∧ 0 ≤ y ∧ y ≤ b := by
  match ps, h with
  | [x, y], h => simp [okParts] at h; exact ⟨x, y, rfl, h.1.1, h.1.2, h.2.1, h.2.2⟩
  | [_], h => simp [okParts] at h
  | _ :: _ :: _ :: _, h => simp [okParts] at h
theorem ok3 {ps : List Int} {a b c : Int} (h : okParts ps [a, b, c] = true) : ∃ x y z, ps = [x, y, z] ∧ 0 ≤ x ∧ x ≤ a ∧ 0 ≤ y ∧ y ≤ b ∧ 0 ≤ z ∧ z ≤ c := by
  match ps, h with
  | [x, y, z], h => simp [okParts] at h; exact ⟨x, y, z, rfl, h.1.1, h.1.2, h.2.1.1, h.2.1.2, h.2.2.1, h.2.2.2⟩
  | [_], h => simp [okParts] at h
  | [_, _], h => simp [okParts] at h
  | _ :: _ :: _ :: _ :: _, h => simp [okParts] at h

theorem nameOf_g {w g : Int} (hg : w / 4096 = g) (h3 : g ≠ 3) : nameOf w = names.getD g.toNat none := by
  unfold nameOf
  rw [hg, if_neg h3]
theorem nameOf_3 {w n : Int} (hg : w / 4096 = 3) (hn : w % 64 = n) (h : n < 11) : nameOf w = some (reck.getD n.toNat "") := by
  unfold nameOf
  rw [hg, if_pos rfl, hn, if_pos h]
theorem pRow_of {w : Int} {nm : Str} {s : Int × Nat × Option Int} (h1 : nameOf w = some nm) (h2 : shapes.lookup nm = some s) : pRow w = rowWith nm s w := by
  unfold pRow
  rw [h1]
  simp only
  rw [h2]

/-- the three kinds of shapes -/
inductive Kind : Str → Int → Nat → Option Int → Prop
  | grp (nm : Str) (g : Nat) (many : Nat) (most b : Int) : b = 4096 * (g : Int) → g ≠ 3 → 0 < g → g < 15 → names.getD g none = some nm → many ≤ 2 → 0 ≤ most → most < (if many = 0 then 4096 else if many = 1 then 512 else 64) → Kind nm b many (some most)
  | bare (nm : Str) (g : Nat) (many : Nat) (b : Int) : b = 4096 * (g : Int) → g ≠ 3 → 0 < g → g < 15 → names.getD g none = some nm → 1 ≤ many → many ≤ 2 → Kind nm b many none
  | rck (nm : Str) (n : Nat) (b : Int) : b = 12288 + (n : Int) → n < 11 → reck.getD n "" = nm → Kind nm b 2 none
theorem kinds : ∀ p ∈ shapes, Kind p.1 p.2.1 p.2.2.1 p.2.2.2 := by
  intro p hp
  simp only [shapes, List.mem_cons, List.not_mem_nil, or_false] at hp
  rcases hp with rfl | rfl | rfl | rfl | rfl | rfl | rfl | rfl | rfl | rfl | rfl | rfl | rfl | rfl | rfl | rfl | rfl | rfl | rfl | rfl | rfl | rfl | rfl | rfl
  · exact .grp _ 1 _ _ _ rfl (by decide) (by decide) (by decide) rfl (by decide) (by decide) (by decide)
  · exact .grp _ 2 _ _ _ rfl (by decide) (by decide) (by decide) rfl (by decide) (by decide) (by decide)
  · exact .rck _ 0 _ rfl (by decide) rfl
  · exact .rck _ 1 _ rfl (by decide) rfl
  · exact .rck _ 2 _ rfl (by decide) rfl
  · exact .rck _ 3 _ rfl (by decide) rfl
  · exact .rck _ 4 _ rfl (by decide) rfl
  · exact .rck _ 5 _ rfl (by decide) rfl
  · exact .rck _ 6 _ rfl (by decide) rfl
  · exact .rck _ 7 _ rfl (by decide) rfl
  · exact .rck _ 8 _ rfl (by decide) rfl
  · exact .rck _ 9 _ rfl (by decide) rfl
  · exact .rck _ 10 _ rfl (by decide) rfl
  · exact .grp _ 4 _ _ _ rfl (by decide) (by decide) (by decide) rfl (by decide) (by decide) (by decide)
  · exact .grp _ 5 _ _ _ rfl (by decide) (by decide) (by decide) rfl (by decide) (by decide) (by decide)
  · exact .grp _ 6 _ _ _ rfl (by decide) (by decide) (by decide) rfl (by decide) (by decide) (by decide)
  · exact .grp _ 7 _ _ _ rfl (by decide) (by decide) (by decide) rfl (by decide) (by decide) (by decide)
  · exact .grp _ 8 _ _ _ rfl (by decide) (by decide) (by decide) rfl (by decide) (by decide) (by decide)
  · exact .bare _ 9 _ _ rfl (by decide) (by decide) (by decide) rfl (by decide) (by decide)
  · exact .bare _ 10 _ _ rfl (by decide) (by decide) (by decide) rfl (by decide) (by decide)
  · exact .grp _ 11 _ _ _ rfl (by decide) (by decide) (by decide) rfl (by decide) (by decide) (by decide)
  · exact .bare _ 12 _ _ rfl (by decide) (by decide) (by decide) rfl (by decide) (by decide)
  · exact .grp _ 13 _ _ _ rfl (by decide) (by decide) (by decide) rfl (by decide) (by decide) (by decide)
  · exact .grp _ 14 _ _ _ rfl (by decide) (by decide) (by decide) rfl (by decide) (by decide) (by decide)
theorem rep0 : List.replicate 0 (7 : Int) = [] := rfl
theorem rep1 : List.replicate 1 (7 : Int) = [7] := rfl
theorem rep2 : List.replicate 2 (7 : Int) = [7, 7] := rfl
/-- a row's word is a word, and tells it -/
theorem word_row {nm : Str} {ps : List Int} (h : IsRow nm ps) : 0 ≤ wordOf nm ps ∧ wordOf nm ps ≤ 65535 ∧ pRow (wordOf nm ps) = some (nm, ps) := by
  obtain ⟨s, hs, ho⟩ := h
  have e : wordOf nm ps = wordWith s ps := by unfold wordOf; rw [hs]
  rw [e]
  have K : Kind nm s.1 s.2.1 s.2.2 := lookup_all (fun nm s => Kind nm s.1 s.2.1 s.2.2) kinds hs
  obtain ⟨b, many, most⟩ := s
  simp only [bnds] at ho
  cases K with
  | grp g _ m _ hb h3 h0 h15 hn h2 hm hm2 =>
    subst hb
    simp only at h2
    have hg3 : (g : Int) ≠ 3 := by omega
    match many, h2 with
    | 0, _ =>
      rw [rep0] at ho
      obtain ⟨x, rfl, hx, hx2⟩ := ok1 ho
      simp only [↓reduceIte] at hm2
      have ew : wordWith (4096 * (g : Int), 0, some m) [x] = 4096 * (g : Int) + x := by simp [wordWith, wSum]
      rw [ew]
      refine ⟨by omega, by omega, ?_⟩
      rw [pRow_of ((nameOf_g (g := g) (by omega) hg3).trans hn) hs]
      simp only [rowWith, parts]
      have e1 : 4096 * (g : Int) + x - 4096 * g = x := by omega
      rw [e1, if_pos hx2]
      rfl
    | 1, _ =>
      rw [rep1] at ho
      obtain ⟨x, y, rfl, hx, hx2, hy, hy2⟩ := ok2 ho
      have hm2 : m < 512 := hm2
      have ew : wordWith (4096 * (g : Int), 1, some m) [x, y] = 4096 * (g : Int) + x * 512 + y := by simp [wordWith, wSum]
      rw [ew]
      refine ⟨by omega, by omega, ?_⟩
      rw [pRow_of ((nameOf_g (g := g) (by omega) hg3).trans hn) hs]
      simp only [rowWith, parts]
      have e1 : (4096 * (g : Int) + x * 512 + y - 4096 * g) / 512 = x := by omega
      have e2 : (4096 * (g : Int) + x * 512 + y - 4096 * g) % 512 = y := by omega
      rw [e1, e2, if_pos hy2]
      rfl
    | 2, _ =>
      rw [rep2] at ho
      obtain ⟨x, y, z, rfl, hx, hx2, hy, hy2, hz, hz2⟩ := ok3 ho
      have hm2 : m < 64 := hm2
      have ew : wordWith (4096 * (g : Int), 2, some m) [x, y, z] = 4096 * (g : Int) + (x * 512 + y * 64) + z := by simp [wordWith, wSum]
      rw [ew]
      refine ⟨by omega, by omega, ?_⟩
      rw [pRow_of ((nameOf_g (g := g) (by omega) hg3).trans hn) hs]
      simp only [rowWith, parts]
      have e1 : (4096 * (g : Int) + (x * 512 + y * 64) + z - 4096 * g) / 512 = x := by omega
      have e2 : (4096 * (g : Int) + (x * 512 + y * 64) + z - 4096 * g) % 512 / 64 = y := by omega
      have e3 : (4096 * (g : Int) + (x * 512 + y * 64) + z - 4096 * g) % 512 % 64 = z := by omega
      rw [e1, e2, e3, if_pos hz2]
      rfl
  | bare g _ _ hb h3 h0 h15 hn h1 h2 =>
    subst hb
    simp only at h1 h2
    have hg3 : (g : Int) ≠ 3 := by omega
    match many, h1, h2 with
    | 1, _, _ =>
      rw [rep1] at ho
      obtain ⟨x, rfl, hx, hx2⟩ := ok1 (by simpa using ho)
      have ew : wordWith (4096 * (g : Int), 1, none) [x] = 4096 * (g : Int) + x * 512 := by simp [wordWith, wSum]
      rw [ew]
      refine ⟨by omega, by omega, ?_⟩
      rw [pRow_of ((nameOf_g (g := g) (by omega) hg3).trans hn) hs]
      simp only [rowWith, parts]
      have e1 : (4096 * (g : Int) + x * 512 - 4096 * g) / 512 = x := by omega
      have e2 : (4096 * (g : Int) + x * 512 - 4096 * g) % 512 = 0 := by omega
      rw [e1, e2, if_pos rfl]
    | 2, _, _ =>
      rw [rep2] at ho
      obtain ⟨x, y, rfl, hx, hx2, hy, hy2⟩ := ok2 (by simpa using ho)
      have ew : wordWith (4096 * (g : Int), 2, none) [x, y] = 4096 * (g : Int) + (x * 512 + y * 64) := by simp [wordWith, wSum]
      rw [ew]
      refine ⟨by omega, by omega, ?_⟩
      rw [pRow_of ((nameOf_g (g := g) (by omega) hg3).trans hn) hs]
      simp only [rowWith, parts]
      have e1 : (4096 * (g : Int) + (x * 512 + y * 64) - 4096 * g) / 512 = x := by omega
      have e2 : (4096 * (g : Int) + (x * 512 + y * 64) - 4096 * g) % 512 / 64 = y := by omega
      have e3 : (4096 * (g : Int) + (x * 512 + y * 64) - 4096 * g) % 512 % 64 = 0 := by omega
      rw [e1, e2, e3, if_pos rfl]
  | rck n _ hb hn hr =>
    subst hb
    rw [rep2] at ho
    obtain ⟨x, y, rfl, hx, hx2, hy, hy2⟩ := ok2 (by simpa using ho)
    have ew : wordWith (12288 + (n : Int), 2, none) [x, y] = 12288 + (n : Int) + (x * 512 + y * 64) := by simp [wordWith, wSum]
    rw [ew]
    refine ⟨by omega, by omega, ?_⟩
    rw [pRow_of ((nameOf_3 (n := n) (by omega) (by omega) (by omega)).trans (congrArg some hr)) hs]
    simp only [rowWith, parts]
    have e1 : (12288 + (n : Int) + (x * 512 + y * 64) - (12288 + n)) / 512 = x := by omega
    have e2 : (12288 + (n : Int) + (x * 512 + y * 64) - (12288 + n)) % 512 / 64 = y := by omega
    have e3 : (12288 + (n : Int) + (x * 512 + y * 64) - (12288 + n)) % 512 % 64 = 0 := by omega
    rw [e1, e2, e3, if_pos rfl]
end K26

set_option maxRecDepth 100000
/-! k00, the mathematics, further: what the law reckons is what the program reckons. -/
namespace K26
open PySem
def lnames : List Str := ["", "set", "high", "", "load", "store", "jump", "zero", "some", "less", "same", "link", "go", "call", "trap", ""]
def lName (w : Int) : Str := if w / 4096 = 3 ∧ w % 64 < 11 then reck.getD (w % 64).toNat "" else lnames.getD (w / 4096).toNat ""
def lims : List (Str × Int) := [("jump", 256), ("call", 16), ("trap", 256)]
def lRowWith (nm : Str) (w : Int) : Option (Str × List Int) :=
  if nm ∈ reck then some (nm, [w / 512 % 8, w / 64 % 8])
  else if nm ∈ (["load", "store"] : List Str) then some (nm, [w / 512 % 8, w / 64 % 8, w % 64])
  else if nm ∈ (["less", "same"] : List Str) then (if w % 64 = 0 then some (nm, [w / 512 % 8, w / 64 % 8]) else none)
  else if nm = "go" then (if w % 512 = 0 then some (nm, [w / 512 % 8]) else none)
  else if nm ∈ (["jump", "call", "trap"] : List Str) then (if w % 4096 < (lims.lookup nm).getD 0 then some (nm, [w % 4096]) else none)
  else if nm = "" ∨ (nm ≠ "set" ∧ 255 < w % 512) then none
  else some (nm, [w / 512 % 8, w % 512])
def lRow (w : Int) : Option (Str × List Int) := lRowWith (lName w) w

theorem one_eq {α : Type} {c d : Prop} [Decidable c] [Decidable d] {a b : α} (h : c ↔ d) (e : c → a = b) {o : α} : (if c then a else o) = (if d then b else o) := by
  by_cases k : c
  · rw [if_pos k, if_pos (h.mp k), e k]
  · rw [if_neg k, if_neg (fun z => k (h.mpr z))]
theorem l3 {nm : Str} {a b c x y z : Int} (h1 : a = x) (h2 : b = y) (h3 : c = z) : some (nm, [a, b, c]) = some (nm, [x, y, z]) := by rw [h1, h2, h3]
theorem l2 {nm : Str} {a b x y : Int} (h1 : a = x) (h2 : b = y) : some (nm, [a, b]) = some (nm, [x, y]) := by rw [h1, h2]
theorem l1 {nm : Str} {a x : Int} (h1 : a = x) : some (nm, [a]) = some (nm, [x]) := by rw [h1]

theorem row_load {nm : Str} {w b : Int} (h1 : nm ∉ reck) (h2 : nm ∈ (["load", "store"] : List Str)) (g : Int) (hg : w / 4096 = g) (hb : b = 4096 * g) : rowWith nm (b, 2, some 63) w = lRowWith nm w := by
  unfold lRowWith
  rw [if_neg h1, if_pos h2]
  simp only [rowWith, parts]
  rw [if_pos (by omega)]
  exact l3 (by omega) (by omega) (by omega)
theorem row_less {nm : Str} {w b : Int} (h1 : nm ∉ reck) (h2 : nm ∉ (["load", "store"] : List Str)) (h3 : nm ∈ (["less", "same"] : List Str)) (g : Int) (hg : w / 4096 = g) (hb : b = 4096 * g) : rowWith nm (b, 2, none) w = lRowWith nm w := by
  unfold lRowWith
  rw [if_neg h1, if_neg h2, if_pos h3]
  simp only [rowWith, parts]
  exact one_eq (by omega) fun _ => l2 (by omega) (by omega)
theorem row_go {nm : Str} {w b : Int} (h1 : nm ∉ reck) (h2 : nm ∉ (["load", "store"] : List Str)) (h3 : nm ∉ (["less", "same"] : List Str)) (h4 : nm = "go") (g : Int) (hg : w / 4096 = g) (hb : b = 4096 * g) : rowWith nm (b, 1, none) w = lRowWith nm w := by
  unfold lRowWith
  rw [if_neg h1, if_neg h2, if_neg h3, if_pos h4]
  simp only [rowWith, parts]
  exact one_eq (by omega) fun _ => l1 (by omega)
theorem row_jump {nm : Str} {w b m : Int} (h1 : nm ∉ reck) (h2 : nm ∉ (["load", "store"] : List Str)) (h3 : nm ∉ (["less", "same"] : List Str)) (h4 : nm ≠ "go") (h5 : nm ∈ (["jump", "call", "trap"] : List Str)) (hm : (lims.lookup nm).getD 0 = m + 1)
    (g : Int) (hg : w / 4096 = g) (hb : b = 4096 * g) : rowWith nm (b, 0, some m) w = lRowWith nm w := by
  unfold lRowWith
  rw [if_neg h1, if_neg h2, if_neg h3, if_neg h4, if_pos h5, hm]
  simp only [rowWith, parts]
  exact one_eq (by omega) fun _ => l1 (by omega)
theorem row_high {nm : Str} {w b : Int} (h1 : nm ∉ reck) (h2 : nm ∉ (["load", "store"] : List Str)) (h3 : nm ∉ (["less", "same"] : List Str)) (h4 : nm ≠ "go") (h5 : nm ∉ (["jump", "call", "trap"] : List Str)) (h6 : nm ≠ "") (h7 : nm ≠ "set")
    (g : Int) (hg : w / 4096 = g) (hb : b = 4096 * g) : rowWith nm (b, 1, some 255) w = lRowWith nm w := by
  unfold lRowWith
  rw [if_neg h1, if_neg h2, if_neg h3, if_neg h4, if_neg h5]
  simp only [rowWith, parts]
  by_cases c : w % 512 ≤ 255
  · rw [if_pos (by omega), if_neg (by rintro (z | z); exact h6 z; omega)]
    exact l2 (by omega) (by omega)
  · rw [if_neg (by omega), if_pos (.inr ⟨h7, by omega⟩)]
theorem row_set {w : Int} (hg : w / 4096 = 1) : rowWith "set" (4096, 1, some 511) w = lRowWith "set" w := by
  unfold lRowWith
  rw [if_neg (by decide), if_neg (by decide), if_neg (by decide), if_neg (by decide), if_neg (by decide), if_neg (by rintro (z | z); exact absurd z (by decide); exact absurd rfl z.1)]
  simp only [rowWith, parts]
  rw [if_pos (by omega)]
  exact l2 (by omega) (by omega)
theorem row_reck {nm : Str} {w b n : Int} (h1 : nm ∈ reck) (hg : w / 4096 = 3) (hn : w % 64 = n) (hb : b = 12288 + n) : rowWith nm (b, 2, none) w = lRowWith nm w := by
  unfold lRowWith
  rw [if_pos h1]
  simp only [rowWith, parts]
  have h0 : 0 ≤ w % 64 := by omega
  rw [if_pos (by omega)]
  exact l2 (by omega) (by omega)
theorem lRow_none {w : Int} (h : lName w = "") : lRow w = none := by
  unfold lRow
  rw [h]
  unfold lRowWith
  rw [if_neg (by decide), if_neg (by decide), if_neg (by decide), if_neg (by decide), if_neg (by decide), if_pos (.inl rfl)]
theorem lName_g {w g : Int} (hg : w / 4096 = g) (h3 : ¬ (g = 3 ∧ w % 64 < 11)) : lName w = lnames.getD g.toNat "" := by
  unfold lName
  rw [hg, if_neg h3]
theorem lName_3 {w n : Int} (hg : w / 4096 = 3) (hn : w % 64 = n) (h : n < 11) : lName w = reck.getD n.toNat "" := by
  unfold lName
  rw [hg, hn, if_pos ⟨rfl, h⟩]
theorem row_law {w : Int} (h0 : 0 ≤ w) (h1 : w ≤ 65535) : pRow w = lRow w := by
  have hc : w / 4096 = 0 ∨ w / 4096 = 1 ∨ w / 4096 = 2 ∨ w / 4096 = 3 ∨ w / 4096 = 4 ∨ w / 4096 = 5 ∨ w / 4096 = 6 ∨ w / 4096 = 7 ∨ w / 4096 = 8 ∨ w / 4096 = 9 ∨ w / 4096 = 10 ∨ w / 4096 = 11 ∨ w / 4096 = 12 ∨ w / 4096 = 13 ∨ w / 4096 = 14 ∨ w / 4096 = 15 := by omega
  have go : ∀ {g : Int} {nm : Str} {s : Int × Nat × Option Int}, w / 4096 = g → g ≠ 3 → names.getD g.toNat none = some nm → lnames.getD g.toNat "" = nm → shapes.lookup nm = some s → rowWith nm s w = lRowWith nm w → pRow w = lRow w := fun {g nm s} hg h3 e1 e2 e3 e => by
    rw [pRow_of ((nameOf_g hg h3).trans e1) e3, e]
    unfold lRow
    rw [lName_g hg (fun z => h3 z.1), e2]
  have no : ∀ {g : Int}, w / 4096 = g → g ≠ 3 → names.getD g.toNat none = none → lnames.getD g.toNat "" = "" → pRow w = lRow w := fun {g} hg h3 e1 e2 => by
    rw [lRow_none ((lName_g hg (fun z => h3 z.1)).trans e2)]
    unfold pRow
    rw [(nameOf_g hg h3).trans e1]
  rcases hc with g | g | g | g | g | g | g | g | g | g | g | g | g | g | g | g
  · exact no g (by decide) rfl rfl
  · exact go g (by decide) rfl rfl rfl (row_set g)
  · exact go g (by decide) rfl rfl rfl (row_high (by decide) (by decide) (by decide) (by decide) (by decide) (by decide) (by decide) _ g rfl)
  · have hn : w % 64 = 0 ∨ w % 64 = 1 ∨ w % 64 = 2 ∨ w % 64 = 3 ∨ w % 64 = 4 ∨ w % 64 = 5 ∨ w % 64 = 6 ∨ w % 64 = 7 ∨ w % 64 = 8 ∨ w % 64 = 9 ∨ w % 64 = 10 ∨ 11 ≤ w % 64 := by omega
    have go3 : ∀ {n : Int} {nm : Str} {b : Int}, w % 64 = n → n < 11 → reck.getD n.toNat "" = nm → nm ∈ reck → shapes.lookup nm = some (b, 2, none) → b = 12288 + n → pRow w = lRow w := fun {n nm b} hn h e1 e2 e3 e => by
      rw [pRow_of ((nameOf_3 g hn h).trans (congrArg some e1)) e3, row_reck e2 g hn e]
      unfold lRow
      rw [lName_3 g hn h, e1]
    rcases hn with n | n | n | n | n | n | n | n | n | n | n | n
    · exact go3 n (by decide) rfl (by decide) rfl rfl
    · exact go3 n (by decide) rfl (by decide) rfl rfl
    · exact go3 n (by decide) rfl (by decide) rfl rfl
    · exact go3 n (by decide) rfl (by decide) rfl rfl
    · exact go3 n (by decide) rfl (by decide) rfl rfl
    · exact go3 n (by decide) rfl (by decide) rfl rfl
    · exact go3 n (by decide) rfl (by decide) rfl rfl
    · exact go3 n (by decide) rfl (by decide) rfl rfl
    · exact go3 n (by decide) rfl (by decide) rfl rfl
    · exact go3 n (by decide) rfl (by decide) rfl rfl
    · exact go3 n (by decide) rfl (by decide) rfl rfl
    · rw [lRow_none ((lName_g g (fun z => by omega)).trans rfl)]
      have e : nameOf w = none := by
        unfold nameOf
        rw [if_pos g, if_neg (by omega)]
      unfold pRow
      rw [e]
  · exact go g (by decide) rfl rfl rfl (row_load (by decide) (by decide) _ g rfl)
  · exact go g (by decide) rfl rfl rfl (row_load (by decide) (by decide) _ g rfl)
  · exact go g (by decide) rfl rfl rfl (row_jump (by decide) (by decide) (by decide) (by decide) (by decide) rfl _ g rfl)
  · exact go g (by decide) rfl rfl rfl (row_high (by decide) (by decide) (by decide) (by decide) (by decide) (by decide) (by decide) _ g rfl)
  · exact go g (by decide) rfl rfl rfl (row_high (by decide) (by decide) (by decide) (by decide) (by decide) (by decide) (by decide) _ g rfl)
  · exact go g (by decide) rfl rfl rfl (row_less (by decide) (by decide) (by decide) _ g rfl)
  · exact go g (by decide) rfl rfl rfl (row_less (by decide) (by decide) (by decide) _ g rfl)
  · exact go g (by decide) rfl rfl rfl (row_high (by decide) (by decide) (by decide) (by decide) (by decide) (by decide) (by decide) _ g rfl)
  · exact go g (by decide) rfl rfl rfl (row_go (by decide) (by decide) (by decide) (by decide) _ g rfl)
  · exact go g (by decide) rfl rfl rfl (row_jump (by decide) (by decide) (by decide) (by decide) (by decide) rfl _ g rfl)
  · exact go g (by decide) rfl rfl rfl (row_jump (by decide) (by decide) (by decide) (by decide) (by decide) rfl _ g rfl)
  · exact no g (by decide) rfl rfl
/-- a word stands less than 4096 above the least word of its row -/
theorem near {w : Int} {nm : Str} {s : Int × Nat × Option Int} (h0 : 0 ≤ w) (h1 : w ≤ 65535) (e : nameOf w = some nm) (e2 : shapes.lookup nm = some s) : 0 ≤ w - s.1 ∧ w - s.1 < 4096 := by
  have hc : w / 4096 = 0 ∨ w / 4096 = 1 ∨ w / 4096 = 2 ∨ w / 4096 = 3 ∨ w / 4096 = 4 ∨ w / 4096 = 5 ∨ w / 4096 = 6 ∨ w / 4096 = 7 ∨ w / 4096 = 8 ∨ w / 4096 = 9 ∨ w / 4096 = 10 ∨ w / 4096 = 11 ∨ w / 4096 = 12 ∨ w / 4096 = 13 ∨ w / 4096 = 14 ∨ w / 4096 = 15 := by omega
  have go : ∀ {g : Int} {nm' : Str} {s' : Int × Nat × Option Int}, w / 4096 = g → g ≠ 3 → names.getD g.toNat none = some nm' → shapes.lookup nm' = some s' → s'.1 = 4096 * g → 0 ≤ w - s.1 ∧ w - s.1 < 4096 := fun {g nm' s'} hg h3 e1 e3 hb => by
    have q : some nm' = some nm := e1.symm.trans ((nameOf_g hg h3).symm.trans e)
    cases q
    have q2 : s' = s := Option.some.inj (e3.symm.trans e2)
    subst q2
    omega
  have no : ∀ {g : Int}, w / 4096 = g → g ≠ 3 → names.getD g.toNat none = none → 0 ≤ w - s.1 ∧ w - s.1 < 4096 := fun {g} hg h3 e1 => by
    rw [nameOf_g hg h3, e1] at e
    cases e
  rcases hc with g | g | g | g | g | g | g | g | g | g | g | g | g | g | g | g
  · exact no g (by decide) rfl
  · exact go g (by decide) rfl rfl rfl
  · exact go g (by decide) rfl rfl rfl
  · have hn : w % 64 = 0 ∨ w % 64 = 1 ∨ w % 64 = 2 ∨ w % 64 = 3 ∨ w % 64 = 4 ∨ w % 64 = 5 ∨ w % 64 = 6 ∨ w % 64 = 7 ∨ w % 64 = 8 ∨ w % 64 = 9 ∨ w % 64 = 10 ∨ 11 ≤ w % 64 := by omega
    have go3 : ∀ {n : Int} {nm' : Str} {s' : Int × Nat × Option Int}, w % 64 = n → n < 11 → reck.getD n.toNat "" = nm' → shapes.lookup nm' = some s' → s'.1 = 12288 + n → 0 ≤ w - s.1 ∧ w - s.1 < 4096 := fun {n nm' s'} hn h e1 e3 hb => by
      have q : some nm' = some nm := (congrArg some e1).symm.trans ((nameOf_3 g hn h).symm.trans e)
      cases q
      have q2 : s' = s := Option.some.inj (e3.symm.trans e2)
      subst q2
      omega
    rcases hn with n | n | n | n | n | n | n | n | n | n | n | n
    · exact go3 n (by decide) rfl rfl rfl
    · exact go3 n (by decide) rfl rfl rfl
    · exact go3 n (by decide) rfl rfl rfl
    · exact go3 n (by decide) rfl rfl rfl
    · exact go3 n (by decide) rfl rfl rfl
    · exact go3 n (by decide) rfl rfl rfl
    · exact go3 n (by decide) rfl rfl rfl
    · exact go3 n (by decide) rfl rfl rfl
    · exact go3 n (by decide) rfl rfl rfl
    · exact go3 n (by decide) rfl rfl rfl
    · exact go3 n (by decide) rfl rfl rfl
    · have e' : nameOf w = none := by
        unfold nameOf
        rw [if_pos g, if_neg (by omega)]
      rw [e'] at e
      cases e
  · exact go g (by decide) rfl rfl rfl
  · exact go g (by decide) rfl rfl rfl
  · exact go g (by decide) rfl rfl rfl
  · exact go g (by decide) rfl rfl rfl
  · exact go g (by decide) rfl rfl rfl
  · exact go g (by decide) rfl rfl rfl
  · exact go g (by decide) rfl rfl rfl
  · exact go g (by decide) rfl rfl rfl
  · exact go g (by decide) rfl rfl rfl
  · exact go g (by decide) rfl rfl rfl
  · exact go g (by decide) rfl rfl rfl
  · exact no g (by decide) rfl
theorem many2 : ∀ p ∈ shapes, p.2.2.1 ≤ 2 ∧ ∀ m, p.2.2.2 = some m → 0 ≤ m := by decide
theorem ok_mk1 {x a : Int} (h : 0 ≤ x) (h2 : x ≤ a) : okParts [x] [a] = true := by simp [okParts, h, h2]
theorem ok_mk2 {x a y b : Int} (h : 0 ≤ x) (h2 : x ≤ a) (h3 : 0 ≤ y) (h4 : y ≤ b) : okParts [x, y] [a, b] = true := by simp [okParts, h, h2, h3, h4]
theorem ok_mk3 {x a y b z c : Int} (h : 0 ≤ x) (h2 : x ≤ a) (h3 : 0 ≤ y) (h4 : y ≤ b) (h5 : 0 ≤ z) (h6 : z ≤ c) : okParts [x, y, z] [a, b, c] = true := by simp [okParts, h, h2, h3, h4, h5, h6]
theorem rowWith_back {nm nm' : Str} {b : Int} {many : Nat} {most : Option Int} {ps : List Int} {w : Int} (hm : many ≤ 2) (h0 : 0 ≤ w - b) (h1 : w - b < 4096) (h : rowWith nm (b, many, most) w = some (nm', ps)) :
    nm = nm' ∧ okParts ps (bnds (b, many, most)) = true ∧ wordWith (b, many, most) ps = w := by
  match many, hm, most, h with
  | 0, _, none, h =>
    simp only [rowWith, parts] at h
    split at h
    · cases h
      refine ⟨rfl, rfl, ?_⟩
      simp only [wordWith, wSum]
      omega
    · cases h
  | 0, _, some m, h =>
    simp only [rowWith, parts] at h
    split at h
    · cases h
      refine ⟨rfl, ok_mk1 h0 (by assumption), ?_⟩
      show b + 0 + (w - b) = w
      omega
    · cases h
  | 1, _, none, h =>
    simp only [rowWith, parts] at h
    split at h
    · cases h
      refine ⟨rfl, ok_mk1 (by omega) (by omega), ?_⟩
      simp only [wordWith, wSum]
      omega
    · cases h
  | 1, _, some m, h =>
    simp only [rowWith, parts] at h
    split at h
    · cases h
      refine ⟨rfl, ok_mk2 (by omega) (by omega) (by omega) (by assumption), ?_⟩
      simp only [wordWith, wSum, List.cons_append, List.nil_append, List.getLastD, List.getLast]
      omega
    · cases h
  | 2, _, none, h =>
    simp only [rowWith, parts] at h
    split at h
    · cases h
      refine ⟨rfl, ok_mk2 (by omega) (by omega) (by omega) (by omega), ?_⟩
      simp only [wordWith, wSum]
      omega
    · cases h
  | 2, _, some m, h =>
    simp only [rowWith, parts] at h
    split at h
    · cases h
      refine ⟨rfl, ok_mk3 (by omega) (by omega) (by omega) (by omega) (by omega) (by assumption), ?_⟩
      simp only [wordWith, wSum, List.cons_append, List.nil_append, List.getLastD, List.getLast]
      omega
    · cases h
/-- what a word tells is a row, and its word leads back -/
theorem row_word {w : Int} {nm : Str} {ps : List Int} (h0 : 0 ≤ w) (h1 : w ≤ 65535) (h : pRow w = some (nm, ps)) : IsRow nm ps ∧ wordOf nm ps = w := by
  unfold pRow at h
  cases e : nameOf w with
  | none => rw [e] at h; cases h
  | some nm' =>
    rw [e] at h
    simp only at h
    cases e2 : shapes.lookup nm' with
    | none => rw [e2] at h; cases h
    | some s =>
      rw [e2] at h
      have h : rowWith nm' s w = some (nm, ps) := h
      obtain ⟨n0, n1⟩ := near h0 h1 e e2
      have hm := (many2 _ (mem_of_lookup e2)).1
      obtain ⟨b, many, most⟩ := s
      obtain ⟨q1, q2, q3⟩ := rowWith_back hm n0 n1 h
      subst q1
      refine ⟨⟨_, e2, q2⟩, ?_⟩
      unfold wordOf
      rw [e2]
      exact q3
/-! ### the law's own word -/
def lnames1 : List Str := ["set", "high", "", "load", "store", "jump", "zero", "some", "less", "same", "link", "go", "call", "trap"]
def lWord (nm : Str) (ps : List Int) : Int :=
  if nm ∈ reck then 12288 + 512 * ps.getD 0 0 + 64 * ps.getD 1 0 + (reck.idxOf nm : Nat)
  else
    let b : Int := 4096 * ((lnames1.idxOf nm : Nat) + 1)
    if nm ∈ (["jump", "call", "trap"] : List Str) then b + ps.getD 0 0
    else if nm ∈ (["load", "store"] : List Str) then b + 512 * ps.getD 0 0 + 64 * ps.getD 1 0 + ps.getD 2 0
    else if nm ∈ (["less", "same"] : List Str) then b + 512 * ps.getD 0 0 + 64 * ps.getD 1 0
    else b + 512 * ps.getD 0 0 + (if nm = "go" then 0 else ps.getD 1 0)
theorem lw_reck {nm : Str} {b : Int} {n : Nat} (h : nm ∈ reck) (hi : reck.idxOf nm = n) (hb : b = 12288 + (n : Int)) (ps : List Int) (ho : okParts ps (bnds (b, 2, none)) = true) : lWord nm ps = wordWith (b, 2, none) ps := by
  obtain ⟨x, y, rfl, _⟩ := ok2 (show okParts ps [7, 7] = true from ho)
  unfold lWord
  rw [if_pos h, hi]
  show 12288 + 512 * x + 64 * y + (n : Int) = b + (x * 512 + y * 64) + 0
  omega
theorem lw_jump {nm : Str} {b m : Int} {n : Nat} (h : nm ∉ reck) (h2 : nm ∈ (["jump", "call", "trap"] : List Str)) (hi : lnames1.idxOf nm = n) (hb : b = 4096 * ((n : Int) + 1)) (ps : List Int) (ho : okParts ps (bnds (b, 0, some m)) = true) : lWord nm ps = wordWith (b, 0, some m) ps := by
  obtain ⟨x, rfl, _⟩ := ok1 (show okParts ps [m] = true from ho)
  unfold lWord
  rw [if_neg h, hi]
  simp only
  rw [if_pos h2]
  show 4096 * ((n : Int) + 1) + x = b + 0 + x
  omega
theorem lw_load {nm : Str} {b m : Int} {n : Nat} (h : nm ∉ reck) (h2 : nm ∉ (["jump", "call", "trap"] : List Str)) (h3 : nm ∈ (["load", "store"] : List Str)) (hi : lnames1.idxOf nm = n) (hb : b = 4096 * ((n : Int) + 1)) (ps : List Int) (ho : okParts ps (bnds (b, 2, some m)) = true) :
    lWord nm ps = wordWith (b, 2, some m) ps := by
  obtain ⟨x, y, z, rfl, _⟩ := ok3 (show okParts ps [7, 7, m] = true from ho)
  unfold lWord
  rw [if_neg h, hi]
  simp only
  rw [if_neg h2, if_pos h3]
  show 4096 * ((n : Int) + 1) + 512 * x + 64 * y + z = b + (x * 512 + y * 64) + z
  omega
theorem lw_less {nm : Str} {b : Int} {n : Nat} (h : nm ∉ reck) (h2 : nm ∉ (["jump", "call", "trap"] : List Str)) (h3 : nm ∉ (["load", "store"] : List Str)) (h4 : nm ∈ (["less", "same"] : List Str)) (hi : lnames1.idxOf nm = n) (hb : b = 4096 * ((n : Int) + 1)) (ps : List Int)
    (ho : okParts ps (bnds (b, 2, none)) = true) : lWord nm ps = wordWith (b, 2, none) ps := by
  obtain ⟨x, y, rfl, _⟩ := ok2 (show okParts ps [7, 7] = true from ho)
  unfold lWord
  rw [if_neg h, hi]
  simp only
  rw [if_neg h2, if_neg h3, if_pos h4]
  show 4096 * ((n : Int) + 1) + 512 * x + 64 * y = b + (x * 512 + y * 64) + 0
  omega
theorem lw_go {nm : Str} {b : Int} {n : Nat} (h : nm ∉ reck) (h2 : nm ∉ (["jump", "call", "trap"] : List Str)) (h3 : nm ∉ (["load", "store"] : List Str)) (h4 : nm ∉ (["less", "same"] : List Str)) (h5 : nm = "go") (hi : lnames1.idxOf nm = n) (hb : b = 4096 * ((n : Int) + 1)) (ps : List Int)
    (ho : okParts ps (bnds (b, 1, none)) = true) : lWord nm ps = wordWith (b, 1, none) ps := by
  obtain ⟨x, rfl, _⟩ := ok1 (show okParts ps [7] = true from ho)
  unfold lWord
  rw [if_neg h, hi]
  simp only
  rw [if_neg h2, if_neg h3, if_neg h4, if_pos h5]
  show 4096 * ((n : Int) + 1) + 512 * x + 0 = b + (x * 512) + 0
  omega
theorem lw_set {nm : Str} {b m : Int} {n : Nat} (h : nm ∉ reck) (h2 : nm ∉ (["jump", "call", "trap"] : List Str)) (h3 : nm ∉ (["load", "store"] : List Str)) (h4 : nm ∉ (["less", "same"] : List Str)) (h5 : nm ≠ "go") (hi : lnames1.idxOf nm = n) (hb : b = 4096 * ((n : Int) + 1)) (ps : List Int)
    (ho : okParts ps (bnds (b, 1, some m)) = true) : lWord nm ps = wordWith (b, 1, some m) ps := by
  obtain ⟨x, y, rfl, _⟩ := ok2 (show okParts ps [7, m] = true from ho)
  unfold lWord
  rw [if_neg h, hi]
  simp only
  rw [if_neg h2, if_neg h3, if_neg h4, if_neg h5]
  show 4096 * ((n : Int) + 1) + 512 * x + y = b + (x * 512) + y
  omega
theorem lWord_all : ∀ p ∈ shapes, ∀ ps : List Int, okParts ps (bnds p.2) = true → lWord p.1 ps = wordWith p.2 ps := by
  intro p hp
  simp only [shapes, List.mem_cons, List.not_mem_nil, or_false] at hp
  rcases hp with rfl | rfl | rfl | rfl | rfl | rfl | rfl | rfl | rfl | rfl | rfl | rfl | rfl | rfl | rfl | rfl | rfl | rfl | rfl | rfl | rfl | rfl | rfl | rfl
  · exact lw_set (by decide) (by decide) (by decide) (by decide) (by decide) rfl rfl
  · exact lw_set (by decide) (by decide) (by decide) (by decide) (by decide) rfl rfl
  · exact lw_reck (by decide) rfl rfl
  · exact lw_reck (by decide) rfl rfl
  · exact lw_reck (by decide) rfl rfl
  · exact lw_reck (by decide) rfl rfl
  · exact lw_reck (by decide) rfl rfl
  · exact lw_reck (by decide) rfl rfl
  · exact lw_reck (by decide) rfl rfl
  · exact lw_reck (by decide) rfl rfl
  · exact lw_reck (by decide) rfl rfl
  · exact lw_reck (by decide) rfl rfl
  · exact lw_reck (by decide) rfl rfl
  · exact lw_load (by decide) (by decide) (by decide) rfl rfl
  · exact lw_load (by decide) (by decide) (by decide) rfl rfl
  · exact lw_jump (by decide) (by decide) rfl rfl
  · exact lw_set (by decide) (by decide) (by decide) (by decide) (by decide) rfl rfl
  · exact lw_set (by decide) (by decide) (by decide) (by decide) (by decide) rfl rfl
  · exact lw_less (by decide) (by decide) (by decide) (by decide) rfl rfl
  · exact lw_less (by decide) (by decide) (by decide) (by decide) rfl rfl
  · exact lw_set (by decide) (by decide) (by decide) (by decide) (by decide) rfl rfl
  · exact lw_go (by decide) (by decide) (by decide) (by decide) (by decide) rfl rfl
  · exact lw_jump (by decide) (by decide) rfl rfl
  · exact lw_jump (by decide) (by decide) rfl rfl
theorem lWord_eq {nm : Str} {ps : List Int} (h : IsRow nm ps) : lWord nm ps = wordOf nm ps := by
  obtain ⟨s, hs, ho⟩ := h
  unfold wordOf
  rw [hs]
  exact lWord_all (nm, s) (mem_of_lookup hs) ps ho
/-! ### texts -/
def sizes : List (Str × List Int) := [("set", [8, 512]), ("high", [8, 256]), ("load", [8, 8, 64]), ("store", [8, 8, 64]), ("jump", [256]), ("zero", [8, 256]), ("some", [8, 256]), ("less", [8, 8]), ("same", [8, 8]), ("link", [8, 256]), ("go", [8]), ("call", [16]), ("trap", [256]),
  ("copy", [8, 8]), ("add", [8, 8]), ("sub", [8, 8]), ("mul", [8, 8]), ("div", [8, 8]), ("rem", [8, 8]), ("and", [8, 8]), ("or", [8, 8]), ("xor", [8, 8]), ("shl", [8, 8]), ("shr", [8, 8])]
def pWords (nm : Str) (many : Nat) (ps : List Int) : List Str := nm :: ((ps.take many).map fun n => Str.ofString "r" ++ ((toString n : String) : Str)) ++ (ps.drop many).map fun n => ((toString n : String) : Str)
def lWords (nm : Str) (zs ps : List Int) : List Str := nm :: (ps.zip zs).map fun p => if p.2 = 8 then Str.ofString "r" ++ ((toString p.1 : String) : Str) else ((toString p.1 : String) : Str)
theorem sizes_all : ∀ p ∈ shapes, sizes.lookup p.1 = some ((bnds p.2).map (· + 1)) := by decide
theorem sizes_none : ∀ nm : Str, shapes.lookup nm = none → sizes.lookup nm = none := by
  intro nm h
  cases e : sizes.lookup nm with
  | none => rfl
  | some z =>
    have hm : (nm, z) ∈ sizes := mem_of_lookup e
    have hall : ∀ p ∈ sizes, (shapes.lookup p.1).isSome = true := by decide
    have := hall _ hm
    rw [h] at this
    cases this
theorem words_all : ∀ p ∈ shapes, ∀ ps : List Int, okParts ps (bnds p.2) = true → pWords p.1 p.2.2.1 ps = lWords p.1 ((bnds p.2).map (· + 1)) ps := by
  intro p hp
  simp only [shapes, List.mem_cons, List.not_mem_nil, or_false] at hp
  rcases hp with rfl | rfl | rfl | rfl | rfl | rfl | rfl | rfl | rfl | rfl | rfl | rfl | rfl | rfl | rfl | rfl | rfl | rfl | rfl | rfl | rfl | rfl | rfl | rfl
  all_goals
    intro ps ho
    first
      | (obtain ⟨x, y, z, rfl, _⟩ := ok3 (show okParts ps [7, 7, _] = true from ho); rfl)
      | (obtain ⟨x, y, rfl, _⟩ := ok2 (show okParts ps [7, _] = true from ho); rfl)
      | (obtain ⟨x, rfl, _⟩ := ok1 (show okParts ps [_] = true from ho); rfl)
end K26

set_option maxRecDepth 100000
set_option maxHeartbeats 8000000
/-! K26: the text by places; what laws share. -/
namespace K26
open PySem PySem.Spec PyProof.Rows L2 LamX VG
def topS (i : Nat) : Stmt := PySem.Challenge.pw_clankernel_k26_faults_and_their_messages.main.body.getD i (.Pass ⟨0, 0, 0, 0⟩)
abbrev sWithin : Stmt := topS 1
abbrev sIsWord : Stmt := topS 2
abbrev sIsAddress : Stmt := topS 3
abbrev sIsTupleOf : Stmt := topS 4
abbrev sIsWordTuple : Stmt := topS 5
abbrev sCoreError : Stmt := topS 7
abbrev sIsLetters : Stmt := topS 15
abbrev sRowOf : Stmt := topS 21
abbrev sNameOf : Stmt := topS 22
abbrev sFirst : Stmt := topS 26
abbrev sWords : Stmt := topS 27
abbrev sFaultOf : Stmt := topS 28
abbrev sDoor : Stmt := topS 29
abbrev sBehind : Stmt := topS 30
abbrev sIsAccesses : Stmt := topS 31
abbrev sIsAccess : Stmt := topS 32
abbrev sCheckFault : Stmt := topS 33
abbrev sIsFault : Stmt := topS 34
abbrev sComes : Stmt := topS 35
abbrev sFaultWith : Stmt := topS 36
abbrev sPot : Stmt := topS 38
abbrev sTake : Stmt := topS 39
abbrev sIsInt : Stmt := topS 40
abbrev sCellRow : Stmt := topS 41
abbrev sOf : Stmt := topS 42
abbrev sSome : Stmt := topS 43
abbrev sOdd : Stmt := topS 44
abbrev sBent : Stmt := topS 45
abbrev sHeard : Stmt := topS 46
abbrev sCells : Stmt := topS 47
abbrev sAllLetters : Stmt := topS 48
abbrev sAreLetters : Stmt := topS 49
abbrev sAreAccesses : Stmt := topS 50
abbrev sFaultDue : Stmt := topS 51
abbrev sCode : Stmt := topS 52
abbrev sPlaceDue : Stmt := topS 53
abbrev sDrawnFault : Stmt := topS 54
abbrev sDrawnPlace : Stmt := topS 55
abbrev sRefusals : Stmt := topS 56
abbrev sFaultRight : Stmt := topS 57
abbrev sAreWords : Stmt := topS 58
abbrev sToldWords : Stmt := topS 59
abbrev sValues : Stmt := topS 60
abbrev sValueRight : Stmt := topS 61
abbrev sRight : Stmt := topS 62
abbrev sLaw : Stmt := topS 63
theorem scWithin : FnScope ["value", "low", "high"] ["value", "low", "high"] (defScope sWithin) := ⟨rfl, rfl, rfl, by decide +kernel, rfl, by decide +kernel, by decide +kernel⟩
section
variable {P : Program} {w : World} {K : PySem.W.Frag} {mg : Str → Option Value} {base : Heap}
def spWithin (K : PySem.W.Frag) : Sp := fun vs H Q _ => ∃ (v : V) (d : PyData) (lo hi : Int), vs = [v, .int lo, .int hi] ∧ Dk K H v d ∧ Q (.bl (isW d lo hi)) H
theorem ok_within {f : Addr} {fd : FuncData} {k : Nat} (F : Fun K "is_within" "is_within" sWithin f fd) (mt : mg "type" = none) (mi : mg "int" = none) : FnOk P w K mg base CX0 (k + 1) f fd ["value", "low", "high"] (spWithin K) := by
  refine F.ok scWithin (fun vs H Q E h => ?_) (fun cdv A outer s H vs Q E hr h => ?_)
  · obtain ⟨v, d, lo, hi, rfl, _⟩ := h
    rfl
  · obtain ⟨v, d, lo, hi, rfl, hd, q⟩ := h
    refine ⟨_, pss_one (ps_ret (pe_and (pe_cmpR op_isTyB (pe_callTy call_type1 (by rfl) mt (by decide +kernel) (pa_cons (pv 0) pa_nil)) (pe_bltn (v := .ty "int") (by rfl) mi (by decide +kernel) rfl) (nomark _))
      (pe_one (pe_chain op_le op_le (pv 1) (pv 0) (pv 2))))), ?_⟩
    refine ⟨v, rfl, v, tyName d, rfl, hd.ty, _, _, rfl, rfl, _, rfl, ?_⟩
    cases hd with
    | d0 h => exact iteF q
    | d1 h => exact iteF q
    | dp hd =>
      cases hd with
      | non => exact iteF q
      | bl b => exact iteF q
      | str x => exact iteF q
      | lst hs _ => exact iteF q
      | tup hs _ => exact iteF q
      | int i =>
        refine iteT ?_
        refine ⟨_, rfl, _, rfl, lo, i, rfl, rfl, _, rfl, ?_⟩
        by_cases c : lo ≤ i
        · rw [decide_eq_true c]
          refine iteT ⟨_, rfl, i, hi, rfl, rfl, ?_⟩
          have e : isW (.int i) lo hi = decide (i ≤ hi) := by simp [isW, c]
          rw [e] at q
          exact q
        · rw [decide_eq_false c]
          have e : isW (.int i) lo hi = false := by simp [isW, c]
          rw [e] at q
          exact iteF q
end
theorem scIsWord : FnScope ["value"] ["value"] (defScope sIsWord) := ⟨rfl, rfl, rfl, by decide +kernel, rfl, by decide +kernel, by decide +kernel⟩
section
variable {P : Program} {w : World} {K : PySem.W.Frag} {mg : Str → Option Value} {base : Heap}
def spIsWord (K : PySem.W.Frag) : Sp := fun vs H Q _ => ∃ (v : V) (d : PyData), vs = [v] ∧ Dk K H v d ∧ Q (.bl (isW d 0 65535)) H
theorem ok_isWord {f f1 : Addr} {fd fd1 : FuncData} {k : Nat} (F : Fun K "is_word" "is_word" sIsWord f fd) (F1 : Fun K "is_within" "is_within" sWithin f1 fd1) (b1 : Binds K fd1 ["value", "low", "high"] []) (g1 : mg "is_within" = some (.ref f1)) (mt : mg "type" = none) (mi : mg "int" = none) :
    FnOk P w K mg base CX0 (k + 2) f fd ["value"] (spIsWord K) := by
  have G : FnOk P w K mg base CX0 (k + 1) f1 fd1 ["value", "low", "high"] (spWithin K) := ok_within F1 mt mi
  refine F.ok scIsWord (fun vs H Q E h => ?_) (fun cdv A outer s H vs Q E hr h => ?_)
  · obtain ⟨v, d, rfl, _⟩ := h
    rfl
  · obtain ⟨v, d, rfl, hd, q⟩ := h
    refine ⟨_, pss_one (ps_ret (pe_call G hr (by rfl) g1 F1.kp b1 .nil pass0 (pa_cons (pv 0) (pa_cons pe_int (pa_cons pe_int pa_nil))))), ?_⟩
    exact ⟨v, rfl, v, d, 0, 65535, rfl, hd, q⟩
end
abbrev sInit : Stmt := inClass (topS 7) 0
theorem scInit : FnScope ["self", "value"] ["self", "value"] (defScope sInit) := ⟨rfl, rfl, rfl, by decide +kernel, rfl, by decide +kernel, by decide +kernel⟩
section
variable {P : Program} {w : World} {K : PySem.W.Frag} {mg : Str → Option Value} {base : Heap}
theorem ok_init {f : Addr} {fd : FuncData} {k : Nat} (F : Fun K "__init__" "CoreError.__init__" sInit f fd) : FnOk P w K mg base CX0 (k + 1) f fd ["self", "value"] (spInit K) := by
  refine F.ok scInit (fun vs H Q E h => ?_) (fun cdv A outer s H vs Q E hr h => ?_)
  · obtain ⟨a, C, v, rfl, _⟩ := h
    rfl
  · obtain ⟨a, C, v, rfl, ha, T, hn, q⟩ := h
    refine ⟨_, pss_one (ps_ost (pv 0) (pv 1)), ?_⟩
    exact ⟨v, rfl, .ref a, rfl, a, C, rfl, T, hn, .inl ⟨ha, fun dx n ne => q dx n ne⟩⟩
end
section
variable {X : Cx}
theorem ps_err {W : WX} {x : Str} {C fI : Addr} {fd : FuncData} {k : Nat} {e : Expr} {te : TE} {p pos pos2 : Pos} (hc : X.calm = true) (T : ErrC X.K C fI) (F : Fun X.K "__init__" "CoreError.__init__" sInit fI fd) (b : Binds X.K fd ["self", "value"] []) (hr : Room (k + 2) X.A) (tk : Takes X W)
    (hg : Gl X x) (hm : X.mg x = some (.ref C)) (he : PE X e te) (hdb : (x == ("__debug__" : Str)) = false := by decide) (hs : starEach (e :: []) X.env = (false, eval e X.env) :: starEach [] X.env := by rfl) :
    PS X (.Raise (some (.Call (.Name x p) [e] [] pos)) none pos2) (tErr X.K C W te) := by
  have G : FnOk X.prog X.w X.K X.mg X.base CX0 (k + 1) fI fd ["self", "value"] (spInit X.K) := ok_init F
  have R := ps_raise (pos := pos2) hc tk (pmk_oex (p := p) (pos := pos) (sp := spInit X.K) T.oex T.iC T.tI G hr b .nil pass0 hg hm (pa_cons he pa_nil hs) hdb hs)
  exact ⟨fun pins s σ H D I h => R.run pins s σ H D I h⟩
end
theorem scTake : FnScope ["pot", "upto", "digit", "prime", "blend"] ["pot", "upto"] (defScope sTake) := ⟨rfl, rfl, rfl, by decide +kernel, rfl, by decide +kernel, by decide +kernel⟩
theorem scPot : FnScope ["script", "place", "cell", "own", "small"] ["script", "place"] (defScope sPot) := ⟨rfl, rfl, rfl, by decide +kernel, rfl, by decide +kernel, by decide +kernel⟩
theorem scOf : FnScope ["pot", "some"] ["pot", "some"] (defScope sOf) := ⟨rfl, rfl, rfl, by decide +kernel, rfl, by decide +kernel, by decide +kernel⟩
theorem scCells : FnScope ["script", "most"] ["script", "most"] (defScope sCells) := ⟨rfl, rfl, rfl, by decide +kernel, rfl, by decide +kernel, by decide +kernel⟩
section
variable {P : Program} {w : World} {K : PySem.W.Frag} {mg : Str → Option Value} {base : Heap}
def spTake : Sp := fun vs H Q _ => ∃ (p : Addr) (u : Int) (n : Nat), vs = [.ref p, .int u] ∧ 0 < u ∧ u < 1000000 ∧ Pot H p n ∧ n < 1000000 ∧ ∀ d H', 0 ≤ d → d < u → Pot H' p (n + 1) → Same (wo H p) (wo H' p) → Q (.int d) H'
theorem ok_take {f : Addr} {fd : FuncData} {k : Nat} (F : Fun K "_law_take" "_law_take" sTake f fd) (mi : mg "int" = none) : FnOk P w K mg base CX0 (k + 1) f fd ["pot", "upto"] spTake := by
  refine F.ok scTake (fun vs H Q E h => ?_) (fun cdv A outer s H vs Q E hr h => ?_)
  · obtain ⟨p, u, n, rfl, _⟩ := h
    rfl
  · obtain ⟨p, u, n, rfl, hu0, hu1, ⟨a, b, c, hp, hb0, hb1, hc0, hc1⟩, hn, q⟩ := h
    refine ⟨_, pss_cons (ps_if (pt_cmpR op_gt (pe_ix ix_list (pv 0) pe_int (fun _ _ => rfl)) pe_int (nomark _))
        (pss_cons (ps_set (i := 2) scTake.nd rfl (.inl rfl) (pe_op op_mod (pe_callTy call_int1 (by rfl) mi (by decide +kernel) (pa_cons (pe_ix ix_list (pv 0) pe_int (fun _ _ => rfl)) pa_nil)) (pv 1)))
        (pss_cons (ps_asg (pe_op op_fdiv (pe_ix ix_list (pv 0) pe_int (fun _ _ => rfl)) (pv 1)) (pg_sub (pv 0) pe_int set_list))
        (pss_one (ps_ret (pv 2))))) pss_nil)
      (pss_cons (ps_asg (pe_op op_add (pe_ix ix_list (pv 0) pe_int (fun _ _ => rfl)) pe_int) (pg_sub (pv 0) pe_int set_list))
      (pss_cons (ps_set (i := 3) scTake.nd rfl (.inl rfl) (pe_ix ix_list (pe_lst (pa_cons pe_int (pa_cons pe_int (pa_cons pe_int (pa_cons pe_int (pa_cons pe_int pa_nil)))))) (pe_op op_mod (pe_callTy call_int1 (by rfl) mi (by decide +kernel) (pa_cons (pe_ix ix_list (pv 0) pe_int (fun _ _ => rfl)) pa_nil)) pe_int) (fun _ _ => rfl)))
      (pss_cons (ps_set (i := 4) scTake.nd rfl (.inl rfl) (pe_op op_mod (pe_callTy call_int1 (by rfl) mi (by decide +kernel) (pa_cons (pe_op op_pow (pe_callTy call_int1 (by rfl) mi (by decide +kernel) (pa_cons
          (pe_op op_add (pe_op op_add (pe_ix ix_list (pv 0) pe_int (fun _ _ => rfl)) (pe_op op_mul (pe_op op_mul pe_int (pe_ix ix_list (pv 0) pe_int (fun _ _ => rfl))) (pe_ix ix_list (pv 0) pe_int (fun _ _ => rfl)))) pe_int) pa_nil)) pe_int) pa_nil)) (pv 3)))
      (pss_cons (ps_set (i := 4) scTake.nd rfl (.inl rfl) (pe_op op_mod (pe_callTy call_int1 (by rfl) mi (by decide +kernel) (pa_cons (pe_op op_mul (pv 4)
          (pe_op op_add (pe_op op_mod (pe_callTy call_int1 (by rfl) mi (by decide +kernel) (pa_cons (pv 4) pa_nil)) pe_int) (pe_op op_mul pe_int (pe_ix ix_list (pv 0) pe_int (fun _ _ => rfl))))) pa_nil)) pe_int))
      (pss_one (ps_ret (pe_op op_mod (pe_callTy call_int1 (by rfl) mi (by decide +kernel) (pa_cons (pe_op op_fdiv (pv 4) pe_int) pa_nil)) (pv 1)))))))), ?_⟩
    have i0 : ∀ {x y z : Int}, atI [V.int x, V.int y, V.int z] 0 = some (.int x) := at_of (j := 0) rfl rfl
    have i1 : ∀ {x y z : Int}, atI [V.int x, V.int y, V.int z] 1 = some (.int y) := at_of (j := 1) rfl rfl
    have i2 : ∀ {x y z : Int}, atI [V.int x, V.int y, V.int z] 2 = some (.int z) := at_of (j := 2) rfl rfl
    refine ⟨.ref p, rfl, p, _, 0, _, rfl, rfl, SqL.of hp, i0, a, 0, rfl, rfl, _, rfl, ite2 (fun e => ?_) (fun e => ?_)⟩
    · have ha : 0 < a := of_decide_eq_true e
      refine ⟨.ref p, rfl, p, _, 0, _, rfl, rfl, SqL.of hp, i0, .inl ⟨a, rfl, _, rfl, a, u, rfl, rfl, hu0, ?_⟩⟩
      refine ⟨.ref p, rfl, p, _, 0, _, rfl, rfl, SqL.of hp, i0, _, rfl, a, u, rfl, rfl, ⟨hu0, by omega⟩, ?_⟩
      refine ⟨.ref p, rfl, p, _, 0, 0, rfl, rfl, hp, rfl, _, rfl, ?_⟩
      refine q (a % u) _ (Int.emod_nonneg _ (by omega)) (Int.emod_lt_of_pos _ hu0) ⟨a / u, b, c, upd_same, hb0, hb1, hc0, by omega⟩ ?_
      rw [wo_upd]
      exact Same.refl _
    · refine ⟨.ref p, rfl, p, _, 2, _, rfl, rfl, SqL.of hp, i2, c, 1, rfl, rfl, ?_⟩
      refine ⟨.ref p, rfl, p, _, 2, 2, rfl, rfl, hp, rfl, ?_⟩
      have hp2 : upd H p (.lst ([V.int a, .int b, .int c].set 2 (.int (c + 1)))) p = some (.lst [.int a, .int b, .int (c + 1)]) := upd_same
      refine ⟨by show 5 ≤ sizeLine; decide, fun l nl => ?_⟩
      have hpl : p ≠ l := ne_of_none hp2 nl
      have hp3 : upd (upd H p (.lst ([V.int a, .int b, .int c].set 2 (.int (c + 1))))) l (.lst [.int 2147483647, .int 2147483629, .int 2147483587, .int 2147483579, .int 2147483563]) p = some (.lst [.int a, .int b, .int (c + 1)]) := by rw [upd_ne hpl]; exact hp2
      have hprime : ∃ pr : Int, atI [V.int 2147483647, .int 2147483629, .int 2147483587, .int 2147483579, .int 2147483563] ((c + 1) % 5) = some (.int pr) ∧ 0 < pr ∧ pr < 2147483648 := by
        have h5 : (c + 1) % 5 = 0 ∨ (c + 1) % 5 = 1 ∨ (c + 1) % 5 = 2 ∨ (c + 1) % 5 = 3 ∨ (c + 1) % 5 = 4 := by omega
        rcases h5 with h | h | h | h | h <;> rw [h]
        · exact ⟨_, at_of (j := 0) rfl rfl, by decide, by decide⟩
        · exact ⟨_, at_of (j := 1) rfl rfl, by decide, by decide⟩
        · exact ⟨_, at_of (j := 2) rfl rfl, by decide, by decide⟩
        · exact ⟨_, at_of (j := 3) rfl rfl, by decide, by decide⟩
        · exact ⟨_, at_of (j := 4) rfl rfl, by decide, by decide⟩
      obtain ⟨pr, hpr, pr0, pr1⟩ := hprime
      refine ⟨.ref p, rfl, p, _, 2, _, rfl, rfl, SqL.of hp3, i2, .inl ⟨c + 1, rfl, c + 1, 5, rfl, rfl, (by show (0 : Int) < 5; decide), ?_⟩⟩
      refine ⟨l, _, (c + 1) % 5, .int pr, rfl, rfl, SqL.of upd_same, hpr, ?_⟩
      -- blend
      refine ⟨.ref p, rfl, p, _, 1, _, rfl, rfl, SqL.of hp3, i1, .ref p, rfl, p, _, 2, _, rfl, rfl, SqL.of hp3, i2, 108207, c + 1, rfl, rfl, .inl ⟨by decide, by decide⟩, ?_⟩
      have hcc : 0 ≤ 108207 * (c + 1) ∧ 108207 * (c + 1) ≤ 108207 * 1000000 := by omega
      refine ⟨.ref p, rfl, p, _, 2, _, rfl, rfl, SqL.of hp3, i2, 108207 * (c + 1), c + 1, rfl, rfl, .inl ⟨by omega, by omega⟩, ?_⟩
      have hsq : 0 ≤ 108207 * (c + 1) * (c + 1) ∧ 108207 * (c + 1) * (c + 1) ≤ 108207 * 1000000 * 1000000 := ⟨Int.mul_nonneg hcc.1 (by omega), Int.mul_le_mul hcc.2 (by omega) (by omega) (by omega)⟩
      refine ⟨b, 108207 * (c + 1) * (c + 1), rfl, rfl, b + 108207 * (c + 1) * (c + 1), 1878, rfl, rfl, .inl ⟨_, rfl, ?_⟩⟩
      refine ⟨_, 3, rfl, rfl, ⟨by decide, by decide, by omega⟩, .inl ⟨_, rfl, _, rfl, _, pr, rfl, rfl, pr0, ?_⟩⟩
      generalize hz : (b + 108207 * (c + 1) * (c + 1) + 1878) ^ (3 : Int).toNat = z
      have hm1 : 0 ≤ z % pr := Int.emod_nonneg _ (by omega)
      have hm2 : z % pr < pr := Int.emod_lt_of_pos _ pr0
      refine ⟨_, rfl, _, rfl, .inl ⟨_, rfl, _, 12529, rfl, rfl, (by show (0 : Int) < 12529; decide), ?_⟩⟩
      refine ⟨.ref p, rfl, p, _, 2, _, rfl, rfl, SqL.of hp3, i2, 428, c + 1, rfl, rfl, .inl ⟨by decide, by decide⟩, _, _, rfl, rfl, ?_⟩
      refine ⟨z % pr, _, rfl, rfl, .inl ⟨by omega, by omega⟩, .inl ⟨_, rfl, _, 2305843009213693907, rfl, rfl, (by show (0 : Int) < 2305843009213693907; decide), ?_⟩⟩
      refine ⟨_, rfl, _, 167, rfl, rfl, ⟨by decide, by decide⟩, .inl ⟨_, rfl, _, rfl, _, u, rfl, rfl, hu0, ?_⟩⟩
      refine q _ _ (Int.emod_nonneg _ (by omega)) (Int.emod_lt_of_pos _ hu0) ⟨a, b, c + 1, hp3, hb0, hb1, by omega, by omega⟩ fun x o e => ?_
      have hx : x ≠ p := fun z => by
        rw [z, wo_same] at e
        cases e
      rw [wo_ne hx] at e ⊢
      have nl2 := nl
      rw [upd_ne hpl.symm] at nl2
      rw [upd_ne (fun z => by rw [z, nl2] at e; cases e), upd_ne hx]
      exact e
/-- some[..]: any item of it -/
def spOf (K : PySem.W.Frag) : Sp := fun vs H Q _ => ∃ (p l : Addr) (xs : List V) (n : Nat), vs = [.ref p, .ref l] ∧ SqL K (wo H p) l xs ∧ xs ≠ [] ∧ xs.length ≤ 1000 ∧ Pot H p n ∧ n < 1000000 ∧ ∀ x ∈ xs, ∀ H', Pot H' p (n + 1) → Same (wo H p) (wo H' p) → Q x H'
theorem ok_of {f f1 : Addr} {fd fd1 : FuncData} {k : Nat} (F : Fun K "_law_of" "_law_of" sOf f fd) (G1 : FnOk P w K mg base CX0 (k + 1) f1 fd1 ["pot", "upto"] spTake) (k1 : PySem.W.keepIn K (.ref f1) = true) (b1 : Binds K fd1 ["pot", "upto"] []) (g1 : mg "_law_take" = some (.ref f1)) (ml : mg "len" = none) :
    FnOk P w K mg base CX0 (k + 2) f fd ["pot", "some"] (spOf K) := by
  refine F.ok scOf (fun vs H Q E h => ?_) (fun cdv A outer s H vs Q E hr h => ?_)
  · obtain ⟨p, l, xs, n, rfl, _⟩ := h
    rfl
  · obtain ⟨p, l, xs, n, rfl, hl, hne, hlen, hp, hn, q⟩ := h
    refine ⟨_, pss_one (ps_ret (pe_ix ix_list (pv 1) (pe_call G1 hr (by rfl) g1 k1 b1 .nil pass0 (pa_cons (pv 0) (pa_cons (pe_callB call_len_seq (by rfl) ml PySem.boot_len (pa_cons (pv 1) pa_nil)) pa_nil))) (fun _ _ => rfl))), ?_⟩
    have h0 : 0 < xs.length := List.length_pos_iff.mpr hne
    refine ⟨.ref l, rfl, .ref p, rfl, .ref l, rfl, l, xs, rfl, .inl (wo_le.seq hl), ?_⟩
    refine ⟨p, (xs.length : Nat), n, rfl, by omega, by omega, hp, hn, fun d H' d0 d1 hp' s' => ?_⟩
    have ed : d = ((d.toNat : Nat) : Int) := by omega
    have hd : d.toNat < xs.length := by omega
    exact ⟨l, xs, d, xs[d.toNat], rfl, rfl, wo_le.seq (s'.seq hl), at_of ed (List.getElem?_eq_getElem hd), q _ (List.getElem_mem hd) H' hp' s'⟩
end
section
variable {P : Program} {w : World} {K : PySem.W.Frag} {mg : Str → Option Value} {base : Heap}
/-- the cells: [0], or [0, 1] -/
def spCells (K : PySem.W.Frag) : Sp := fun vs H Q _ => ∃ (a : Addr) (ns : List Int), vs = [.ref a, .int 1] ∧ SqL K H a (ns.map V.int) ∧ ns.length ≤ 63 ∧ ∀ (q : Addr) (m : Nat), m ≤ 1 → H q = none → Q (.ref q) (upd H q (.lst ((List.range m).map fun i => V.int (i : Nat))))
theorem ok_cells {f : Addr} {fd : FuncData} {k : Nat} (F : Fun K "_law_cells" "_law_cells" sCells f fd) (ml : mg "list" = none) (mr : mg "range" = none) (mx : mg "max" = none) (mn : mg "min" = none) (me : mg "len" = none) : FnOk P w K mg base CX0 (k + 1) f fd ["script", "most"] (spCells K) := by
  refine F.ok scCells (fun vs H Q E h => ?_) (fun cdv A outer s H vs Q E hr h => ?_)
  · obtain ⟨a, ns, rfl, _⟩ := h
    rfl
  · obtain ⟨a, ns, rfl, hs, hn, q⟩ := h
    refine ⟨_, pss_one (ps_ret (pe_listRg rfl (by rfl) ml (prg_1 (by rfl) mr (pe_callB (call_max2 rfl) (by rfl) mx (by decide +kernel) (pa_cons pe_int (pa_cons (pe_callB (call_min2 rfl) (by rfl) mn (by decide +kernel) (pa_cons (pv 1) (pa_cons (pe_callB call_len_seq (by rfl) me PySem.boot_len (pa_cons (pv 0) pa_nil)) pa_nil))) pa_nil)))))), ?_⟩
    refine ⟨_, rfl, .ref a, rfl, a, _, rfl, .inl hs, 1, _, rfl, 1, _, rfl, _, rfl, ?_⟩
    have key : ∀ x : Int, 0 ≤ x → x ≤ 1 → RgOk 0 x ∧ ∀ q_1, H q_1 = none → Q (.ref q_1) (upd H q_1 (.lst (rgV 0 x))) := fun x h0 h2 => by
      refine ⟨RgOk.of_le (by omega) (by omega) (by omega) (by omega), fun p hp => ?_⟩
      have e : rgV 0 x = (List.range x.toNat).map fun i => V.int (i : Nat) := by
        unfold rgV
        rw [Int.sub_zero]
        simp
      rw [e]
      exact q p x.toNat (by omega) hp
    have l63 : ((((ns.map V.int).length : Nat)) : Int) ≥ 0 := Int.natCast_nonneg _
    refine key _ ?_ ?_ <;> split <;> (try split) <;> omega
/-- a new pot of a cell -/
def spPot (K : PySem.W.Frag) : Sp := fun vs H Q _ => ∃ (a : Addr) (ns : List Int) (i : Nat), vs = [.ref a, .int (i : Nat)] ∧ SqL K H a (ns.map V.int) ∧ ns.length ≤ 63 ∧ i ≤ 2 ∧ ∀ (q : Addr) (H' : Hp), H q = none → Same H H' → Pot H' q 0 → Q (.ref q) H'
theorem ok_pot {f : Addr} {fd : FuncData} {k : Nat} (F : Fun K "_law_pot" "_law_pot" sPot f fd) (ml : mg "len" = none) (ms : mg "sum" = none) (mi : mg "int" = none) (ma : mg "abs" = none) : FnOk P w K mg base CX0 (k + 1) f fd ["script", "place"] (spPot K) := by
  refine F.ok scPot (fun vs H Q E h => ?_) (fun cdv A outer s H vs Q E hr h => ?_)
  · obtain ⟨a, ns, i, rfl, _⟩ := h
    rfl
  · obtain ⟨a, ns, i, rfl, hs, hn, hi, q⟩ := h
    refine ⟨_, pss_cons (ps_set (i := 2) scPot.nd rfl (.inl rfl) (pe_ifExp (pt_cmpR op_lt (pv 1) (pe_callB call_len_seq (by rfl) ml PySem.boot_len (pa_cons (pv 0) pa_nil)) (nomark _)) (pe_ix ix_list (pv 0) (pv 1) (fun _ _ => rfl))
        (pe_op op_add (pe_op op_add (pe_op op_mod (pe_callB (cr_sum rfl) (by rfl) ms (by decide +kernel) (pa_cons (pe_slice sl_list (pv 0) po_none (po_some pe_int)) pa_nil)) pe_int) (pe_op op_mul pe_int (pv 1))) pe_int)))
      (pss_cons (ps_set (i := 3) scPot.nd rfl (.inl rfl) (pe_op op_mul (pe_op op_mod (pe_callTy call_int1 (by rfl) mi (by decide +kernel) (pa_cons (pe_callB call_abs (by rfl) ma (by decide +kernel) (pa_cons (pv 2) pa_nil)) pa_nil)) (pe_op op_powB (pe_op op_pow pe_int pe_int) pe_int))
        (pe_callTy call_int1 (by rfl) mi (by decide +kernel) (pa_cons (pe_cmpR op_ge (pe_callB call_abs (by rfl) ma (by decide +kernel) (pa_cons (pv 2) pa_nil)) (pe_op op_pow pe_int pe_int) (nomark _)) pa_nil))))
      (pss_cons (ps_set (i := 4) scPot.nd rfl (.inl rfl) (pe_op op_mod (pe_callTy call_int1 (by rfl) mi (by decide +kernel) (pa_cons (pv 2) pa_nil)) pe_int))
      (pss_one (ps_ret (pe_lst (pa_cons (pv 3) (pa_cons (pe_op op_mod (pe_callTy call_int1 (by rfl) mi (by decide +kernel) (pa_cons (pe_op op_add (pe_op op_add (pe_op op_mul (pv 4) pe_int) (pe_op op_mul (pe_op op_mul pe_int (pv 1)) (pv 1))) pe_int) pa_nil)) pe_int) (pa_cons pe_int pa_nil)))))))), ?_⟩
    refine st_seq (st_setH (PV := fun v H' => ∃ c : Int, v = .int c ∧ Same H H') (fun Q1 q1 => ?_) ?_)
    · refine ⟨_, rfl, .ref a, rfl, a, _, rfl, .inl hs, (i : Nat), ((ns.map V.int).length : Nat), rfl, rfl, _, rfl, ite2 (fun e => ?_) (fun e => ?_)⟩
      · have hlt : i < (ns.map V.int).length := by
          have := of_decide_eq_true e
          omega
        have hlt2 : i < ns.length := by rw [List.length_map] at hlt; exact hlt
        refine ⟨.ref a, rfl, _, rfl, a, _, (i : Nat), .int ns[i], rfl, rfl, hs, at_of rfl (by rw [List.getElem?_map, List.getElem?_eq_getElem hlt2]; rfl), ?_⟩
        exact q1 _ _ ⟨_, rfl, Same.refl H⟩
      · refine ⟨.ref a, rfl, ?_⟩
        unfold tNoPart
        refine ⟨((1 : Nat) : Int), rfl, a, _, rfl, hs, fun l nl => ?_⟩
        have e1 : cutV (ns.map V.int) none (some ((1 : Nat) : Int)) = (ns.take 1).map V.int := by rw [cut_take, List.map_take]
        refine ⟨l, ns.take 1, rfl, SqL.of (by rw [upd_same, ← e1]), ?_⟩
        refine ⟨_, 1000003, rfl, rfl, (by show (0 : Int) < 1000003; decide), _, rfl, 2069, (i : Nat), rfl, rfl, .inl ⟨by decide, by decide⟩, _, _, rfl, rfl, _, 843, rfl, rfl, ?_⟩
        exact q1 _ _ ⟨_, rfl, same_upd nl⟩
    rintro v H1 ⟨c, rfl, s1⟩
    refine ⟨_, rfl, c, rfl, .inl ⟨_, rfl, 10, 60, rfl, rfl, ⟨by decide, by decide, by decide⟩, _, 5, rfl, rfl, ⟨by decide, by decide +kernel⟩, _, _, rfl, rfl, (by show (0 : Int) < _; decide +kernel), ?_⟩⟩
    refine ⟨_, rfl, c, rfl, 10, 18, rfl, rfl, ⟨by decide, by decide, by decide⟩, _, _, rfl, rfl, .inr ⟨_, rfl, _, _, rfl, rfl, .inr ?_, ?_⟩⟩
    · exact (by decide : ∀ z : Bool, -(2 ^ 64) < (if z = true then (1 : Int) else 0) ∧ (if z = true then (1 : Int) else 0) < 2 ^ 64) _
    refine ⟨_, rfl, .inl ⟨c, rfl, c, 2305843009213693951, rfl, rfl, (by show (0 : Int) < 2305843009213693951; decide), ?_⟩⟩
    refine ⟨_, rfl, _, rfl, _, 85939, rfl, rfl, .inr ⟨by decide, by decide⟩, _, rfl, 12487, (i : Nat), rfl, rfl, .inl ⟨by decide, by decide⟩, _, rfl, _, (i : Nat), rfl, rfl, .inr ⟨by omega, by omega⟩, ?_⟩
    refine ⟨_, _, rfl, rfl, _, 1054, rfl, rfl, .inl ⟨_, rfl, _, 2305843009213693921, rfl, rfl, (by show (0 : Int) < 2305843009213693921; decide), ?_⟩⟩
    refine ⟨by show 3 ≤ sizeLine; decide, fun p hp => ?_⟩
    refine q p _ (s1.free hp) (s1.trans (same_upd hp)) ⟨_, _, 0, upd_same, Int.emod_nonneg _ (by decide), ?_, by decide, by decide⟩
    have := Int.emod_lt_of_pos (c % 2305843009213693951 * 85939 + 12487 * (i : Int) * (i : Int) + 1054) (show (0 : Int) < 2305843009213693921 by decide)
    omega
end
theorem scSome : FnScope ["pot", "pool", "many", "left", "found", "lap"] ["pot", "pool", "many"] (defScope sSome) := ⟨rfl, rfl, rfl, by decide +kernel, rfl, by decide +kernel, by decide +kernel⟩
section
variable {P : Program} {w : World} {K : PySem.W.Frag} {mg : Str → Option Value} {base : Heap}
/-- so many of a pool -/
def spSome (K : PySem.W.Frag) : Sp := fun vs H Q _ => ∃ (p l : Addr) (xs : List V) (m n : Nat), vs = [.ref p, .ref l, .int (m : Nat)] ∧ SqL K (wo H p) l xs ∧ m ≤ xs.length ∧ xs.length ≤ 1000 ∧ Pot H p n ∧ n + m < 1000000 ∧
  ∀ H' q ys, Pot H' p (n + m) → Same (wo H p) (wo H' p) → wo H' p q = some (.lst ys) → ys.length = m → (∀ y ∈ ys, y ∈ xs) → Q (.ref q) H'
theorem ok_some {f f1 : Addr} {fd fd1 : FuncData} {k : Nat} (F : Fun K "_law_some" "_law_some" sSome f fd) (G1 : FnOk P w K mg base CX0 (k + 1) f1 fd1 ["pot", "upto"] spTake) (k1 : PySem.W.keepIn K (.ref f1) = true) (b1 : Binds K fd1 ["pot", "upto"] []) (g1 : mg "_law_take" = some (.ref f1))
    (ml : mg "list" = none) (mr : mg "range" = none) (me : mg "len" = none) : FnOk P w K mg base CX0 (k + 2) f fd ["pot", "pool", "many"] (spSome K) := by
  refine F.ok scSome (fun vs H Q E h => ?_) (fun cdv A outer s H vs Q E hr h => ?_)
  · obtain ⟨p, l, xs, m, n, rfl, _⟩ := h
    rfl
  · obtain ⟨p, l, xs, m, n, rfl, hl, hm, hlen, hp, hn, q⟩ := h
    refine ⟨_, pss_cons (ps_par (i := 3) (j := 4) (by rfl) scSome.nd rfl rfl (by decide) rfl rfl (pa_cons (pe_callTy call_list_of (by rfl) ml (by decide +kernel) (pa_cons (pv 1) pa_nil)) (pa_cons (pe_lst pa_nil) pa_nil)) (by rfl))
      (pss_cons (ps_for PassesOwn.never rfl (pi_range1 (by rfl) mr (pa_cons (pv 2) pa_nil)) (pg_name (i := 5) scSome.nd rfl (.inl rfl))
        (pss_one (ps_expr (pe_bm PySem.F.plainAttrs_list PySem.F.slot_list_append PySem.F.type_list_append mt_append (pv 4) (pa_cons (pe_bm PySem.F.plainAttrs_list PySem.F.slot_list_pop PySem.F.type_list_pop mt_popAt (pv 3) (pa_cons
          (pe_call G1 hr (by rfl) g1 k1 b1 .nil pass0 (pa_cons (pv 0) (pa_cons (pe_callB call_len_seq (by rfl) me PySem.boot_len (pa_cons (pv 3) pa_nil)) pa_nil))) pa_nil)) pa_nil)))))
      (pss_one (ps_ret (pv 4)))), ?_⟩
    refine ⟨.ref l, rfl, l, xs, rfl, .inl (wo_le.seq hl), fun L nL => ?_⟩
    have s1 := same_upd (o := .lst xs) nL
    refine ⟨Nat.zero_le _, fun Fo nF => ⟨.ref L, .ref Fo, rfl, ?_⟩⟩
    have s2 := s1.trans (same_upd (o := .lst []) nF)
    have nF0 : H Fo = none := s1.free nF
    obtain ⟨pa, pb, pc, epp, _⟩ := id hp
    have pL : L ≠ p := (ne_of_none epp nL).symm
    have pF : Fo ≠ p := (ne_of_none epp nF0).symm
    have LF : L ≠ Fo := ne_of_none upd_same nF
    refine ⟨_, rfl, (m : Nat), rfl, by omega, by omega, for_range (n := m) (fun i σ H' => ∃ y5 ls fs, σ = [some (.ref p), some (.ref l), some (.int (m : Nat)), some (.ref L), some (.ref Fo), y5] ∧ Pot H' p (n + i) ∧ Same (wo H p) (wo H' p) ∧
      H' L = some (.lst ls) ∧ H' Fo = some (.lst fs) ∧ ls.length = xs.length - i ∧ fs.length = i ∧ (∀ y ∈ ls, y ∈ xs) ∧ ∀ y ∈ fs, y ∈ xs) ⟨none, xs, [], rfl, hp.same s2, wo_same_of s2, ?_, upd_same, by omega, rfl, fun y h => h, fun y h => by cases h⟩ (fun i σ H' hi hP => ?_) fun σ H' hP => ?_⟩
    · rw [upd_ne LF]
      exact upd_same
    · obtain ⟨y5, ls, fs, rfl, hp', sm, hL, hF, ll, lf, al, af⟩ := hP
      refine ⟨.ref Fo, rfl, .inl ⟨rfl, _, SqL.of hF⟩, .ref L, rfl, .inl ⟨rfl, _, SqL.of hL⟩, .ref p, rfl, .ref L, rfl, L, ls, rfl, .inl (SqL.of hL), ?_⟩
      refine ⟨p, (ls.length : Nat), n + i, rfl, by omega, by omega, hp', by omega, fun d H2 d0 d1 hp2 sd => ?_⟩
      have hL2 : H2 L = some (.lst ls) := wo_le _ _ (sd _ _ (wo_at hL pL))
      have hF2 : H2 Fo = some (.lst fs) := wo_le _ _ (sd _ _ (wo_at hF pF))
      have hd : d.toNat < ls.length := by omega
      have eix : ixN ls.length d = some d.toNat := by
        unfold ixN
        rw [if_pos d0, if_pos d1]
      refine ⟨L, ls, d, d.toNat, ls[d.toNat], rfl, rfl, hL2, by omega, by omega, (ixN_seq eix).1, List.getElem?_eq_getElem hd, ?_⟩
      refine ⟨Fo, _, _, rfl, rfl, (by rw [upd_ne LF.symm]; exact hF2), small1000 (by omega), ?_⟩
      refine ⟨_, ls.eraseIdx d.toNat, fs ++ [ls[d.toNat]], rfl, ?_, wo_updNew (wo_updNew (sm.trans sd) nL) nF0, ?_, upd_same, ?_, ?_, ?_, ?_⟩
      · obtain ⟨a1, b1', c1, e1, r1⟩ := hp2
        exact ⟨a1, b1', c1, (by rw [upd_ne pF.symm, upd_ne pL.symm]; exact e1), r1⟩
      · rw [upd_ne LF]
        exact upd_same
      · rw [List.length_eraseIdx, if_pos hd]
        omega
      · rw [List.length_append, lf]
        rfl
      · exact fun y hy => al y (List.mem_of_mem_eraseIdx hy)
      · intro y hy
        rcases List.mem_append.mp hy with h | h
        · exact af y h
        · rw [List.mem_singleton.mp h]
          exact al _ (List.getElem_mem hd)
    · obtain ⟨y5, ls, fs, rfl, hp', sm, hL, hF, ll, lf, al, af⟩ := hP
      exact ⟨_, rfl, q H' Fo fs hp' sm (wo_at hF pF) lf af⟩
end
section
variable {X : Cx} {pins : List (Addr × Obj)} {σ : L2.St} {H : Hp} {s : Shared}
theorem scHeard : FnScope ["call", "caught", "back", "error"] ["call"] (defScope sHeard) := ⟨rfl, rfl, rfl, by decide +kernel, rfl, by decide +kernel, by decide +kernel⟩
theorem pe_heard {ι : Type} {D : ι → LamD} {tb : ι → XK → TE} {te : TE} {g CS : Addr} {fd : FuncData} {e : Expr} {k : Nat} {p pos : Pos} (F : Fun X.K "_law_heard" "_law_heard" sHeard g fd) (b : L2.Binds X.K fd ["call"] []) (hg : Gl X "_law_heard") (hm : X.mg "_law_heard" = some (.ref g))
    (gS : X.mg "CoreError" = some (.ref CS)) (hr : Room (k + 2) X.A) (he : PE X e te) (L : ∀ j, LamS X.env.scope (D j).scope)
    (hbind : ∀ (j : ι) (pm cv ctv : Value), bindArgs (PySem.W.kla_fn "<lambda>" (X.env.qual ++ "<lambda>") (D j).params (D j).body (D j).scope (cloFrom X.env.cells (D j).scope.names []) pm cv ctv) ⟨[], []⟩ = pure [])
    (hbody : ∀ (j : ι) (A : Around) (outer : List Env) (s : Shared) (H : Hp) (E : XK) (f c' : Addr), Room k (A.deeper (lamEnv X (D j).scope s.heap.objs.size f c')) → PE (lamCx X A outer s H E (D j).scope f c') (D j).body (tb j E))
    (hs : starEach [e] X.env = (false, eval e X.env) :: starEach [] X.env := by rfl) (hpl : (backTo pos (starEach [] X.env)).any (·.1) = false := by rfl) :
    PE X (.Call (.Name "_law_heard" p) [e] [] pos) (tHeard X CS D tb te) := by
  obtain ⟨oc, od, kV, doc, pm, an, cdv, ct, osl, rfl, lk, hcd⟩ := F.ex
  refine ⟨fun pins s σ H Q I h => wpAny_Call_Name_kw (ld_glob I hg hm ?_ (by decide))⟩
  refine PySem.W.callWith_K (h₀ := X.base) I.ok.mod.kin F.kp ?_ hs hpl
  rw [hs] at *
  refine Calls.spliced_cons (thn (he.run pins s σ H _ I h) fun u s1 ⟨v, H1, I1, r1, j, f, ev, hl, th⟩ => Calls.spliced_nil ⟨I1.kIn, ?_⟩)
  subst ev
  obtain rfl : u = Value.ref f := r1
  have rc : codeAny (model X.prog X.w) X.A (.call (.ref g) ⟨[.ref f], []⟩) (CR CX0 X.stack X.prog X.w H1 s1 Q (fun _ _ _ => False)) s1 := by
    refine run_ofS (N := ["call", "caught", "back", "error"]) (ps := ["call"]) (us := [.ref f]) (vs := [.ref f]) lk hcd scHeard hr I1.env0 (b s1 [.ref f] I1.kIn rfl) (.cons rfl .nil) rfl fun hr' => ?_
    have hge : (defScope sHeard).names.lookup (Str.ofString "CoreError") = some NameKind.globalImplicit := by decide +kernel
    refine ⟨_, PSs.nox (pss_cons (ps_asg (pe_tup (pa_cons pe_non (pa_cons pe_non pa_nil))) (pg_tup (by rfl) (pgs_cons (pg_name (i := 1) scHeard.nd rfl (.inl rfl)) (pgs_cons (pg_name (i := 2) scHeard.nd rfl (.inl rfl)) pgs_nil))))
      (pss_cons (ps_heard (c := .ref CS) (i := 3) rfl rfl scHeard.nd rfl rfl ⟨hge, by decide, .inl gS⟩
        (fun W pn xe tk _ => pss_one (ps_set (i := 2) scHeard.nd rfl (.inl rfl) (pe_actT (CXg := CX0) (Eg := fun _ _ _ => False) (i := 0) I1 (L j) (hbind j) tk hr' (fun A outer s H E c' hr2 => hbody j A outer s H E f c' hr2) rfl (.inl rfl))))
        (fun a oe cls d pn _ _ => pss_one (ps_set (i := 1) scHeard.nd rfl (.inl rfl) (pv 3))))
      (pss_one (ps_ret (pe_tup (pa_cons (pv 1) (pa_cons (pv 2) pa_nil))))))), ?_⟩
    refine ⟨by show 2 ≤ sizeLine; decide, fun pn nn => ⟨pn, [.non, .non], rfl, SqT.of upd_same, rfl, .non, [.non], rfl, .non, [], rfl, rfl, rfl, hl.ext (ExtN.of (same_upd nn)), th _ (same_upd nn) _ _ (fun cls d H' hE => ?_) fun v H' hB => ?_⟩⟩
    · obtain ⟨h1, C, dd, h2, h3, h4⟩ := hE
      refine ⟨h1, C, dd, h2, h3, fun a na => ?_⟩
      exact ⟨_, rfl, fun na2 => ⟨_, rfl, _, rfl, by show 2 ≤ sizeLine; decide, fun p hp => h4 a p na hp⟩⟩
    · exact ⟨_, rfl, _, rfl, by show 2 ≤ sizeLine; decide, fun p hp => hB p hp⟩
  refine wpAny_call (codeAny_mono rc fun r s2 hq => ?_)
  cases r with
  | error e => exact (show False from hq).elim
  | ok fl => cases fl with
    | ret u => exact I1.after hq
    | next => exact False.elim hq
    | brk => exact False.elim hq
    | cont => exact False.elim hq
end
theorem scIsInt : FnScope ["value", "low", "high"] ["value", "low", "high"] (defScope sIsInt) := ⟨rfl, rfl, rfl, by decide +kernel, rfl, by decide +kernel, by decide +kernel⟩
section
variable {P : Program} {w : World} {K : PySem.W.Frag} {mg : Str → Option Value} {base : Heap}
theorem ok_isInt {f : Addr} {fd : FuncData} {k : Nat} (F : Fun K "_law_is_int" "_law_is_int" sIsInt f fd) (ms : mg "isinstance" = none) (mi : mg "int" = none) (mb : mg "bool" = none) : FnOk P w K mg base CX0 (k + 1) f fd ["value", "low", "high"] (spWithin K) := by
  refine F.ok scIsInt (fun vs H Q E h => ?_) (fun cdv A outer s H vs Q E hr h => ?_)
  · obtain ⟨v, d, lo, hi, rfl, _⟩ := h
    rfl
  · obtain ⟨v, d, lo, hi, rfl, hd, q⟩ := h
    refine ⟨_, pss_one (ps_ret (pe_and (pe_callB call_isi (by rfl) ms (by decide +kernel) (pa_cons (pv 0) (pa_cons (pe_bltn (v := .ty "int") (by rfl) mi (by decide +kernel) rfl) pa_nil)))
      (pe_and (pe_not (pe_callB call_isi (by rfl) ms (by decide +kernel) (pa_cons (pv 0) (pa_cons (pe_bltn (v := .ty "bool") (by rfl) mb (by decide +kernel) rfl) pa_nil))))
      (pe_one (pe_chain op_le op_le (pv 1) (pv 0) (pv 2)))))), ?_⟩
    have ty := hd.tyx
    refine ⟨v, rfl, ?_⟩
    cases d with
    | none => exact ⟨v, .ty "int", .type "NoneType", .type "int", false, rfl, .ty "int", ty, (kit_ty (show kitB "NoneType" "int" = some false by decide +kernel)), _, rfl, iteF q⟩
    | str x => exact ⟨v, .ty "int", .type "str", .type "int", false, rfl, .ty "int", ty, (kit_ty (show kitB "str" "int" = some false by decide +kernel)), _, rfl, iteF q⟩
    | list _ => exact ⟨v, .ty "int", .type "list", .type "int", false, rfl, .ty "int", ty, (kit_ty (show kitB "list" "int" = some false by decide +kernel)), _, rfl, iteF q⟩
    | tuple _ => exact ⟨v, .ty "int", .type "tuple", .type "int", false, rfl, .ty "int", ty, (kit_ty (show kitB "tuple" "int" = some false by decide +kernel)), _, rfl, iteF q⟩
    | dict _ => exact ⟨v, .ty "int", .type "dict", .type "int", false, rfl, .ty "int", ty, (kit_ty (show kitB "dict" "int" = some false by decide +kernel)), _, rfl, iteF q⟩
    | bool b => exact ⟨v, .ty "int", .type "bool", .type "int", true, rfl, .ty "int", ty, (kit_ty (show kitB "bool" "int" = some true by decide +kernel)), _, rfl, iteT ⟨v, rfl, v, .ty "bool", .type "bool", .type "bool", true, rfl, .ty "bool", ty, (kit_ty (show kitB "bool" "bool" = some true by decide +kernel)), _, rfl, _, rfl, iteF q⟩⟩
    | int i =>
      obtain rfl := dk_int hd
      refine ⟨.int i, .ty "int", .type "int", .type "int", true, rfl, .ty "int", ty, (kit_ty (show kitB "int" "int" = some true by decide +kernel)), _, rfl, iteT ⟨.int i, rfl, .int i, .ty "bool", .type "int", .type "bool", false, rfl, .ty "bool", ty, (kit_ty (show kitB "int" "bool" = some false by decide +kernel)), _, rfl, _, rfl, iteT ?_⟩⟩
      refine ⟨_, rfl, _, rfl, lo, i, rfl, rfl, _, rfl, ?_⟩
      by_cases c : lo ≤ i
      · rw [decide_eq_true c]
        refine iteT ⟨_, rfl, i, hi, rfl, rfl, ?_⟩
        have e : isW (.int i) lo hi = decide (i ≤ hi) := by simp [isW, c]
        rw [e] at q
        exact q
      · rw [decide_eq_false c]
        have e : isW (.int i) lo hi = false := by simp [isW, c]
        rw [e] at q
        exact iteF q
end
theorem scOdd : FnScope ["pot", "some"] ["pot"] (defScope sOdd) := ⟨rfl, rfl, rfl, by decide +kernel, rfl, by decide +kernel, by decide +kernel⟩
section
variable {P : Program} {w : World} {K : PySem.W.Frag} {mg : Str → Option Value} {base : Heap}
/-- any value may come: data, apart from the pot -/
def okOdd (d : PyData) : Bool := okData d && (slim d && (decide (d.weight ≤ 400) && decide (d.depth ≤ 2)))
def spOdd (K : PySem.W.Frag) : Sp := fun vs H Q _ => ∃ (p : Addr) (n : Nat), vs = [.ref p] ∧ Pot H p n ∧ n < 1000000 ∧ ∀ v d H', Pot H' p (n + 1) → Same (wo H p) (wo H' p) → Dk K (nl H H') v d → okOdd d = true → Q v H'
theorem ok_odd {f f1 : Addr} {fd fd1 : FuncData} {k : Nat} (F : Fun K "_law_odd" "_law_odd" sOdd f fd) (G1 : FnOk P w K mg base CX0 (k + 2) f1 fd1 ["pot", "some"] (spOf K)) (k1 : PySem.W.keepIn K (.ref f1) = true) (b1 : Binds K fd1 ["pot", "some"] []) (g1 : mg "_law_of" = some (.ref f1)) :
    FnOk P w K mg base CX0 (k + 3) f fd ["pot"] (spOdd K) := by
  refine F.ok scOdd (fun vs H Q E h => ?_) (fun cdv A outer s H vs Q E hr h => ?_)
  · obtain ⟨p, n, rfl, _⟩ := h
    rfl
  · obtain ⟨p, n, rfl, hp, hn, q⟩ := h
    refine ⟨_, pss_cons (ps_set (i := 1) scOdd.nd rfl (.inl rfl) (pe_lst (pa_cons pe_non (pa_cons pe_bl (pa_cons pe_bl (pa_cons pe_int (pa_cons pe_int (pa_cons (pe_un un_neg pe_int) (pa_cons pe_int (pa_cons (pe_op op_pow pe_int pe_int) (pa_cons pe_str (pa_cons pe_str (pa_cons pe_str (pa_cons pe_str (pa_cons pe_str (pa_cons pe_str
        (pa_cons (pe_tup pa_nil) (pa_cons (pe_lst pa_nil) (pa_cons pe_dnewK (pa_cons (pe_tup (pa_cons pe_int pa_nil)) (pa_cons (pe_tup (pa_cons pe_int (pa_cons pe_int pa_nil))) pa_nil)))))))))))))))))))))
      (pss_cons (ps_set (i := 1) scOdd.nd rfl (.inl rfl) (pe_op op_cat (pv 1) (pe_lst (pa_cons (pe_tup (pa_cons pe_int (pa_cons pe_int pa_nil))) (pa_cons (pe_tup (pa_cons (pe_tup pa_nil) pa_nil)) (pa_cons (pe_lst (pa_cons pe_int pa_nil)) (pa_cons (pe_tup (pa_cons pe_non pa_nil))
        (pa_cons (pe_disp (pps_cons pe_str pe_int pps_nil) (by rfl) (by rfl) (fun z => by cases z) (by decide)) (pa_cons (pe_tup (pa_cons pe_bl pa_nil)) (pa_cons pe_str (pa_cons pe_str (pa_cons (pe_tup (pa_cons pe_str pa_nil)) (pa_cons pe_int (pa_cons pe_int (pa_cons pe_int (pa_cons (pe_tup (pa_cons pe_int (pa_cons pe_int pa_nil))) pa_nil))))))))))))))))
      (pss_one (ps_ret (pe_call G1 hr (by rfl) g1 k1 b1 .nil pass0 (pa_cons (pv 0) (pa_cons (pv 1) pa_nil)))))), ?_⟩
    have hpp := hp
    obtain ⟨pa, pb, pc, hpe, _⟩ := hpp
    have p0 : Same H H := Same.refl H
    refine ⟨1, rfl, ?_⟩
    refine ⟨10, 8, rfl, rfl, (by unfold CPow; decide), ?_⟩
    refine ⟨by show 0 ≤ sizeLine; decide, fun c1 nc1 => ?_⟩
    have ec1 : c1 ≠ p := fun z => by have hz := p0 _ _ hpe; rw [← z] at hz; exact absurd (nc1.symm.trans hz) (fun y => nomatch y)
    have sc1 := same_upd (o := .tup []) nc1
    have pc1 := p0.trans sc1
    refine ⟨by show 0 ≤ sizeLine; decide, fun c2 nc2 => ?_⟩
    have ec2 : c2 ≠ p := fun z => by have hz := pc1 _ _ hpe; rw [← z] at hz; exact absurd (nc2.symm.trans hz) (fun y => nomatch y)
    have sc2 := same_upd (o := .lst []) nc2
    have pc2 := pc1.trans sc2
    refine fun c3 nc3 => ?_
    have ec3 : c3 ≠ p := fun z => by have hz := pc2 _ _ hpe; rw [← z] at hz; exact absurd (nc3.symm.trans hz) (fun y => nomatch y)
    have sc3 := same_upd (o := .dK []) nc3
    have pc3 := pc2.trans sc3
    refine ⟨by show 1 ≤ sizeLine; decide, fun c4 nc4 => ?_⟩
    have ec4 : c4 ≠ p := fun z => by have hz := pc3 _ _ hpe; rw [← z] at hz; exact absurd (nc4.symm.trans hz) (fun y => nomatch y)
    have sc4 := same_upd (o := .tup [V.int 0]) nc4
    have pc4 := pc3.trans sc4
    refine ⟨by show 2 ≤ sizeLine; decide, fun c5 nc5 => ?_⟩
    have ec5 : c5 ≠ p := fun z => by have hz := pc4 _ _ hpe; rw [← z] at hz; exact absurd (nc5.symm.trans hz) (fun y => nomatch y)
    have sc5 := same_upd (o := .tup [V.int 0, .int 1]) nc5
    have pc5 := pc4.trans sc5
    refine ⟨by show 19 ≤ sizeLine; decide, fun l1 nl1 => ?_⟩
    have el1 : l1 ≠ p := fun z => by have hz := pc5 _ _ hpe; rw [← z] at hz; exact absurd (nl1.symm.trans hz) (fun y => nomatch y)
    have sl1 := same_upd (o := .lst [V.non, .bl true, .bl false, .int 0, .int 1, .int (-1), .int 7, .int (10 ^ 8), .str "", .str "r", .str "rw", .str "wr", .str "x", .str "set r0 1", .ref c1, .ref c2, .ref c3, .ref c4, .ref c5]) nl1
    have pl1 := pc5.trans sl1
    refine ⟨_, rfl, ?_⟩
    refine ⟨by show 2 ≤ sizeLine; decide, fun d1 nd1 => ?_⟩
    have ed1 : d1 ≠ p := fun z => by have hz := pl1 _ _ hpe; rw [← z] at hz; exact absurd (nd1.symm.trans hz) (fun y => nomatch y)
    have sd1 := same_upd (o := .tup [V.int 1, .int 0]) nd1
    have pd1 := pl1.trans sd1
    refine ⟨by show 0 ≤ sizeLine; decide, fun d2 nd2 => ?_⟩
    have ed2 : d2 ≠ p := fun z => by have hz := pd1 _ _ hpe; rw [← z] at hz; exact absurd (nd2.symm.trans hz) (fun y => nomatch y)
    have sd2 := same_upd (o := .tup []) nd2
    have pd2 := pd1.trans sd2
    refine ⟨by show 1 ≤ sizeLine; decide, fun d3 nd3 => ?_⟩
    have ed3 : d3 ≠ p := fun z => by have hz := pd2 _ _ hpe; rw [← z] at hz; exact absurd (nd3.symm.trans hz) (fun y => nomatch y)
    have sd3 := same_upd (o := .tup [V.ref d2]) nd3
    have pd3 := pd2.trans sd3
    refine ⟨by show 1 ≤ sizeLine; decide, fun d4 nd4 => ?_⟩
    have ed4 : d4 ≠ p := fun z => by have hz := pd3 _ _ hpe; rw [← z] at hz; exact absurd (nd4.symm.trans hz) (fun y => nomatch y)
    have sd4 := same_upd (o := .lst [V.int 0]) nd4
    have pd4 := pd3.trans sd4
    refine ⟨by show 1 ≤ sizeLine; decide, fun d5 nd5 => ?_⟩
    have ed5 : d5 ≠ p := fun z => by have hz := pd4 _ _ hpe; rw [← z] at hz; exact absurd (nd5.symm.trans hz) (fun y => nomatch y)
    have sd5 := same_upd (o := .tup [V.non]) nd5
    have pd5 := pd4.trans sd5
    refine fun d6 nd6 => ⟨upd_same, [(.inr "a", .int 1)], rfl, by decide, ?_⟩
    have ed6 : d6 ≠ p := fun z => by have hz := pd5 _ _ hpe; rw [← z] at hz; exact absurd (nd6.symm.trans hz) (fun y => nomatch y)
    have sd6 := Same.updNew (o := .dK (mergeK [] [((.inr "a" : Key), V.int 1)])) (same_upd (o := .dK []) nd6) nd6
    have pd6 := pd5.trans sd6
    refine ⟨by show 1 ≤ sizeLine; decide, fun d7 nd7 => ?_⟩
    have ed7 : d7 ≠ p := fun z => by have hz := pd6 _ _ hpe; rw [← z] at hz; exact absurd (nd7.symm.trans hz) (fun y => nomatch y)
    have sd7 := same_upd (o := .tup [V.bl true]) nd7
    have pd7 := pd6.trans sd7
    refine ⟨by show 1 ≤ sizeLine; decide, fun d9 nd9 => ?_⟩
    have ed9 : d9 ≠ p := fun z => by have hz := pd7 _ _ hpe; rw [← z] at hz; exact absurd (nd9.symm.trans hz) (fun y => nomatch y)
    have sd9 := same_upd (o := .tup [V.str "r"]) nd9
    have pd9 := pd7.trans sd9
    refine ⟨by show 2 ≤ sizeLine; decide, fun d10 nd10 => ?_⟩
    have ed10 : d10 ≠ p := fun z => by have hz := pd9 _ _ hpe; rw [← z] at hz; exact absurd (nd10.symm.trans hz) (fun y => nomatch y)
    have sd10 := same_upd (o := .tup [V.int 0, .int 16]) nd10
    have pd10 := pd9.trans sd10
    refine ⟨by show 13 ≤ sizeLine; decide, fun l2 nl2 => ?_⟩
    have el2 : l2 ≠ p := fun z => by have hz := pd10 _ _ hpe; rw [← z] at hz; exact absurd (nl2.symm.trans hz) (fun y => nomatch y)
    have sl2 := same_upd (o := .lst [V.ref d1, .ref d3, .ref d4, .ref d5, .ref d6, .ref d7, .str "any", .str "reply", .ref d9, .int 65535, .int 65536, .int 256, .ref d10]) nl2
    have pl2 := pd10.trans sl2
    refine ⟨l1, l2, [V.non, .bl true, .bl false, .int 0, .int 1, .int (-1), .int 7, .int (10 ^ 8), .str "", .str "r", .str "rw", .str "wr", .str "x", .str "set r0 1", .ref c1, .ref c2, .ref c3, .ref c4, .ref c5], [V.ref d1, .ref d3, .ref d4, .ref d5, .ref d6, .ref d7, .str "any", .str "reply", .ref d9, .int 65535, .int 65536, .int 256, .ref d10], rfl, rfl, (((((((((sd1.trans sd2).trans sd3).trans sd4).trans sd5).trans sd6).trans sd7).trans sd9).trans sd10).trans sl2) _ _ upd_same, upd_same, (by show 32 ≤ sizeLine; decide), fun l3 nl3 => ?_⟩
    have el3 : l3 ≠ p := fun z => by have hz := pl2 _ _ hpe; rw [← z] at hz; exact absurd (nl3.symm.trans hz) (fun y => nomatch y)
    have sl3 := same_upd (o := .lst ([V.non, .bl true, .bl false, .int 0, .int 1, .int (-1), .int 7, .int (10 ^ 8), .str "", .str "r", .str "rw", .str "wr", .str "x", .str "set r0 1", .ref c1, .ref c2, .ref c3, .ref c4, .ref c5] ++ [V.ref d1, .ref d3, .ref d4, .ref d5, .ref d6, .ref d7, .str "any", .str "reply", .ref d9, .int 65535, .int 65536, .int 256, .ref d10])) nl3
    have pl3 := pl2.trans sl3
    have fc1 := wo_at ((((((((((((((((sc2.trans sc3).trans sc4).trans sc5).trans sl1).trans sd1).trans sd2).trans sd3).trans sd4).trans sd5).trans sd6).trans sd7).trans sd9).trans sd10).trans sl2).trans sl3) _ _ upd_same) ec1
    have fc2 := wo_at (((((((((((((((sc3.trans sc4).trans sc5).trans sl1).trans sd1).trans sd2).trans sd3).trans sd4).trans sd5).trans sd6).trans sd7).trans sd9).trans sd10).trans sl2).trans sl3) _ _ upd_same) ec2
    have fc3 := wo_at ((((((((((((((sc4.trans sc5).trans sl1).trans sd1).trans sd2).trans sd3).trans sd4).trans sd5).trans sd6).trans sd7).trans sd9).trans sd10).trans sl2).trans sl3) _ _ upd_same) ec3
    have fc4 := wo_at (((((((((((((sc5.trans sl1).trans sd1).trans sd2).trans sd3).trans sd4).trans sd5).trans sd6).trans sd7).trans sd9).trans sd10).trans sl2).trans sl3) _ _ upd_same) ec4
    have fc5 := wo_at ((((((((((((sl1.trans sd1).trans sd2).trans sd3).trans sd4).trans sd5).trans sd6).trans sd7).trans sd9).trans sd10).trans sl2).trans sl3) _ _ upd_same) ec5
    have fl1 := wo_at (((((((((((sd1.trans sd2).trans sd3).trans sd4).trans sd5).trans sd6).trans sd7).trans sd9).trans sd10).trans sl2).trans sl3) _ _ upd_same) el1
    have fd1 := wo_at ((((((((((sd2.trans sd3).trans sd4).trans sd5).trans sd6).trans sd7).trans sd9).trans sd10).trans sl2).trans sl3) _ _ upd_same) ed1
    have fd2 := wo_at (((((((((sd3.trans sd4).trans sd5).trans sd6).trans sd7).trans sd9).trans sd10).trans sl2).trans sl3) _ _ upd_same) ed2
    have fd3 := wo_at ((((((((sd4.trans sd5).trans sd6).trans sd7).trans sd9).trans sd10).trans sl2).trans sl3) _ _ upd_same) ed3
    have fd4 := wo_at (((((((sd5.trans sd6).trans sd7).trans sd9).trans sd10).trans sl2).trans sl3) _ _ upd_same) ed4
    have fd5 := wo_at ((((((sd6.trans sd7).trans sd9).trans sd10).trans sl2).trans sl3) _ _ upd_same) ed5
    have fd6 := wo_at (((((sd7.trans sd9).trans sd10).trans sl2).trans sl3) _ _ upd_same) ed6
    have fd7 := wo_at ((((sd9.trans sd10).trans sl2).trans sl3) _ _ upd_same) ed7
    have fd9 := wo_at (((sd10.trans sl2).trans sl3) _ _ upd_same) ed9
    have fd10 := wo_at ((sl2.trans sl3) _ _ upd_same) ed10
    have fl2 := wo_at (sl3 _ _ upd_same) el2
    have pot := hp.same pl3
    have woS : Same (wo H p) (wo _ p) := wo_same_of pl3
    refine ⟨_, rfl, _, rfl, p, l3, _, n, rfl, SqL.of (wo_at upd_same el3), by simp, by show 32 ≤ 1000; decide, pot, hn, fun x hx H' hp' s' => ?_⟩
    have qq := fun v d => q v d H' hp' (woS.trans s')
    have gg := woS.trans s'
    simp only [List.cons_append, List.nil_append, List.mem_cons, List.not_mem_nil, or_false] at hx
    rcases hx with rfl | rfl | rfl | rfl | rfl | rfl | rfl | rfl | rfl | rfl | rfl | rfl | rfl | rfl | rfl | rfl | rfl | rfl | rfl | rfl | rfl | rfl | rfl | rfl | rfl | rfl | rfl | rfl | rfl | rfl | rfl | rfl
    · exact qq _ (.none) (.dp .non) (by decide +kernel)
    · exact qq _ (.bool true) (.dp (.bl _)) (by decide +kernel)
    · exact qq _ (.bool false) (.dp (.bl _)) (by decide +kernel)
    · exact qq _ (.int 0) (.dp (.int _)) (by decide +kernel)
    · exact qq _ (.int 1) (.dp (.int _)) (by decide +kernel)
    · exact qq _ (.int (-1)) (.dp (.int _)) (by decide +kernel)
    · exact qq _ (.int 7) (.dp (.int _)) (by decide +kernel)
    · exact qq _ (.int (10 ^ 8)) (.dp (.int _)) (by decide +kernel)
    · exact qq _ (.str "") (.dp (.str _)) (by decide +kernel)
    · exact qq _ (.str "r") (.dp (.str _)) (by decide +kernel)
    · exact qq _ (.str "rw") (.dp (.str _)) (by decide +kernel)
    · exact qq _ (.str "wr") (.dp (.str _)) (by decide +kernel)
    · exact qq _ (.str "x") (.dp (.str _)) (by decide +kernel)
    · exact qq _ (.str "set r0 1") (.dp (.str _)) (by decide +kernel)
    · exact qq _ (.tuple []) (.dp (.tup (SqT.of (nl_at gg (s' _ _ fc1) fun _ z => nomatch z)) .nil)) (by decide +kernel)
    · exact qq _ (.list []) (.dp (.lst (SqL.of ((nl_new (none_of pc1 nc2)).trans (wo_le _ _ (s' _ _ fc2)))) .nil)) (by decide +kernel)
    · exact qq _ (.dict []) (.d0 (nl_at gg (s' _ _ fc3) fun _ z => nomatch z)) (by decide +kernel)
    · exact qq _ (.tuple [.int 0]) (.dp (.tup (SqT.of (nl_at gg (s' _ _ fc4) fun _ z => nomatch z)) (.cons (.int 0) .nil))) (by decide +kernel)
    · exact qq _ (.tuple [.int 0, .int 1]) (.dp (.tup (SqT.of (nl_at gg (s' _ _ fc5) fun _ z => nomatch z)) (.cons (.int 0) (.cons (.int 1) .nil)))) (by decide +kernel)
    · exact qq _ (.tuple [.int 1, .int 0]) (.dp (.tup (SqT.of (nl_at gg (s' _ _ fd1) fun _ z => nomatch z)) (.cons (.int 1) (.cons (.int 0) .nil)))) (by decide +kernel)
    · exact qq _ (.tuple [.tuple []]) (.dp (.tup (SqT.of (nl_at gg (s' _ _ fd3) fun _ z => nomatch z)) (.cons (.tup (SqT.of (nl_at gg (s' _ _ fd2) fun _ z => nomatch z)) .nil) .nil))) (by decide +kernel)
    · exact qq _ (.list [.int 0]) (.dp (.lst (SqL.of ((nl_new (none_of pd3 nd4)).trans (wo_le _ _ (s' _ _ fd4)))) (.cons (.int 0) .nil))) (by decide +kernel)
    · exact qq _ (.tuple [.none]) (.dp (.tup (SqT.of (nl_at gg (s' _ _ fd5) fun _ z => nomatch z)) (.cons .non .nil))) (by decide +kernel)
    · exact qq _ (.dict [(.str "a", .int 1)]) (.d1 (nl_at gg (s' _ _ fd6) fun _ z => nomatch z)) (by decide +kernel)
    · exact qq _ (.tuple [.bool true]) (.dp (.tup (SqT.of (nl_at gg (s' _ _ fd7) fun _ z => nomatch z)) (.cons (.bl true) .nil))) (by decide +kernel)
    · exact qq _ (.str "any") (.dp (.str _)) (by decide +kernel)
    · exact qq _ (.str "reply") (.dp (.str _)) (by decide +kernel)
    · exact qq _ (.tuple [.str "r"]) (.dp (.tup (SqT.of (nl_at gg (s' _ _ fd9) fun _ z => nomatch z)) (.cons (.str "r") .nil))) (by decide +kernel)
    · exact qq _ (.int 65535) (.dp (.int _)) (by decide +kernel)
    · exact qq _ (.int 65536) (.dp (.int _)) (by decide +kernel)
    · exact qq _ (.int 256) (.dp (.int _)) (by decide +kernel)
    · exact qq _ (.tuple [.int 0, .int 16]) (.dp (.tup (SqT.of (nl_at gg (s' _ _ fd10) fun _ z => nomatch z)) (.cons (.int 0) (.cons (.int 16) .nil)))) (by decide +kernel)
end
end K26

set_option maxRecDepth 100000
set_option maxHeartbeats 4000000
/-! k26: the row of a word, the program's and the law's (as for k00). -/
namespace K26
open PySem PySem.Spec PyProof.Rows L2 LamX VG
theorem scNameOf : FnScope ["word", "group", "number"] ["word"] (defScope sNameOf) := ⟨rfl, rfl, rfl, by decide +kernel, rfl, by decide +kernel, by decide +kernel⟩
theorem scRowOf : FnScope ["word", "name", "base", "many", "most", "rest", "numbers", "weight"] ["word"] (defScope sRowOf) := ⟨rfl, rfl, rfl, by decide +kernel, rfl, by decide +kernel, by decide +kernel⟩
theorem scCellRow : FnScope ["word", "kind", "one", "other", "rest", "names", "codes", "name"] ["word"] (defScope sCellRow) := ⟨rfl, rfl, rfl, by decide +kernel, rfl, by decide +kernel, by decide +kernel⟩
theorem inV_strs (x : Str) : ∀ l : List Str, inV (.str x) (l.map V.str) = decide (x ∈ l)
  | [] => rfl
  | y :: l => by
    have ih := inV_strs x l
    unfold inV at ih ⊢
    rw [List.map_cons, List.any_cons, ih]
    show ((y == x) || _) = _
    by_cases h : y = x
    · subst h
      simp
    · have h' : ¬ x = y := fun z => h z.symm
      simp [h, h']
theorem flat_strs (l : List Str) : (l.map V.str).all flatV = true := by
  induction l with
  | nil => rfl
  | cons a l ih =>
    rw [List.map_cons, List.all_cons, ih]
    rfl
def optS : Option Str → V
  | none => .non
  | some x => .str x
section
variable {P : Program} {w : World} {K : PySem.W.Frag} {mg : Str → Option Value} {base : Heap}
def spNameOf : Sp := fun vs H Q _ => ∃ w : Int, vs = [.int w] ∧ 0 ≤ w ∧ w ≤ 65535 ∧ Q (optS (nameOf w)) H
theorem ok_nameOf {f aN aR : Addr} {fd : FuncData} {k : Nat} (F : Fun K "_name_of" "_name_of" sNameOf f fd) (gN : mg "NAMES" = some (.ref aN)) (gR : mg "RECKONED" = some (.ref aR)) (tN : KT K aN (names.map optS)) (tR : KT K aR (reck.map V.str)) (ml : mg "len" = none) :
    FnOk P w K mg base CX0 (k + 1) f fd ["word"] spNameOf := by
  refine F.ok scNameOf (fun vs H Q E h => ?_) (fun cdv A outer s H vs Q E hr h => ?_)
  · obtain ⟨v, rfl, _⟩ := h
    rfl
  · obtain ⟨w, rfl, h0, h1, q⟩ := h
    refine ⟨_, pss_cons (ps_set (i := 1) scNameOf.nd rfl (.inl rfl) (pe_op op_fdiv (pv 0) pe_int))
      (pss_cons (ps_if (pt_cmpR op_ne (pv 1) pe_int (nomark _)) (pss_one (ps_ret (pe_ix ix_tup (pgr (by rfl) gN) (pv 1) (fun _ _ => rfl)))) pss_nil)
      (pss_cons (ps_set (i := 2) scNameOf.nd rfl (.inl rfl) (pe_op op_mod (pv 0) pe_int))
      (pss_one (ps_ret (pe_ifExp (pt_cmpR op_lt (pv 2) (pe_callB call_len_seq (by rfl) ml PySem.boot_len (pa_cons (pgr (by rfl) gR) pa_nil)) (nomark _))
        (pe_ix ix_tup (pgr (by rfl) gR) (pv 2) (fun _ _ => rfl)) pe_non))))), ?_⟩
    refine ⟨_, rfl, w, 4096, rfl, rfl, ⟨by decide, by decide⟩, ?_⟩
    refine ⟨_, rfl, rfl, _, rfl, ?_⟩
    by_cases c : w / 4096 = 3
    · have e : decide (V.int (w / 4096) = V.int 3) = true := decide_eq_true (by rw [c])
      rw [e]
      refine iteF ?_
      refine ⟨_, rfl, w, 64, rfl, rfl, (by show (0 : Int) < 64; decide), ?_⟩
      refine ⟨_, rfl, aR, reck.map V.str, rfl, .inr tR.sq, w % 64, 11, rfl, rfl, _, rfl, ?_⟩
      by_cases c2 : w % 64 < 11
      · rw [decide_eq_true c2]
        have ew : w % 64 = (((w % 64).toNat : Nat) : Int) := by omega
        have hl : (w % 64).toNat < reck.length := by show (w % 64).toNat < 11; omega
        refine iteT ⟨_, rfl, aR, reck.map V.str, w % 64, _, rfl, rfl, tR.sq, at_of ew (v := .str (reck.getD (w % 64).toNat "")) ?_, ?_⟩
        · rw [List.getElem?_map, List.getElem?_eq_getElem hl, List.getD_eq_getElem?_getD, List.getElem?_eq_getElem hl]
          rfl
        · have en : nameOf w = some (reck.getD (w % 64).toNat "") := by
            unfold nameOf
            rw [if_pos c, if_pos c2]
          rw [en] at q
          exact q
      · rw [decide_eq_false c2]
        have en : nameOf w = none := by
          unfold nameOf
          rw [if_pos c, if_neg c2]
        rw [en] at q
        exact iteF q
    · have e : decide (V.int (w / 4096) = V.int 3) = false := decide_eq_false fun z => c (V.int.inj z)
      rw [e]
      have ew : w / 4096 = (((w / 4096).toNat : Nat) : Int) := by omega
      have hl : (w / 4096).toNat < names.length := by show (w / 4096).toNat < 16; omega
      refine iteT ⟨_, rfl, aN, names.map optS, w / 4096, _, rfl, rfl, tN.sq, at_of ew (v := optS (names.getD (w / 4096).toNat none)) ?_, ?_⟩
      · rw [List.getElem?_map, List.getElem?_eq_getElem hl, List.getD_eq_getElem?_getD, List.getElem?_eq_getElem hl]
        rfl
      · have en : nameOf w = names.getD (w / 4096).toNat none := by
          unfold nameOf
          rw [if_neg c]
        rw [en] at q
        exact q
end
/-- the table of rows as it stands in the written part -/
structure ShT (K : PySem.W.Frag) (w : World) (d : Addr) : Prop where
  dict : ∃ es n, KDict K w d es n
  no : ∀ z, shapes.lookup z = none → PySem.W.nsIn K d z = some none
  yes : ∀ z s, shapes.lookup z = some s → ∃ t, PySem.W.nsIn K d z = some (some (.ref t)) ∧ KT K t [.int s.1, .int (s.2.1 : Nat), match s.2.2 with | none => .non | some m => .int m]
def optI : Option Int → V
  | none => .non
  | some m => .int m
theorem ShT.get {K : PySem.W.Frag} {w : World} {d : Addr} (T : ShT K w d) {z : Str} {s : Int × Nat × Option Int} (h : shapes.lookup z = some s) : ∃ t, KDct K w d z (.ref t) ∧ KT K t [.int s.1, .int (s.2.1 : Nat), optI s.2.2] := by
  obtain ⟨es, n, D⟩ := T.dict
  obtain ⟨t, h1, h2⟩ := T.yes z s h
  refine ⟨t, ⟨es, n, .ref t, D.at_, D.lit, h1, rfl⟩, ?_⟩
  obtain ⟨b, many, most⟩ := s
  cases most <;> exact h2
theorem cut_take (xs : List V) (j : Nat) : cutV xs none (some (j : Int)) = xs.take j := by
  unfold cutV
  rw [HT.sIx_none, HT.sIx_nat, List.drop_zero, Nat.sub_zero]
  by_cases h : j ≤ xs.length
  · rw [Nat.min_eq_left h]
  · rw [Nat.min_eq_right (by omega), List.take_of_length_le (Nat.le_refl _), List.take_of_length_le (by omega)]
/-- t[:j] of a written tuple -/
theorem slice_to {K : PySem.W.Frag} {H : Hp} {a : Addr} {xs : List V} {j : Nat} {Q : VK} (h : SqT K H a xs) (q : ∀ p H', SqT K H' p (xs.take j) → Same H H' → Q (.ref p) H') : rSlA K (.ref a) none (some (j : Int)) H Q := by
  refine ⟨a, xs, rfl, h, fun hw => q a H ?_ (Same.refl H), fun _ p hp => q p _ ?_ (same_upd hp)⟩
  · have e : xs.length ≤ j := by
      have := hw.2
      rw [HT.sIx_nat] at this
      omega
    rw [List.take_of_length_le e]
    exact h
  · rw [cut_take]
    exact SqT.of upd_same
def weights : List V := [.int 512, .int 64]
theorem parts_len (m : Nat) (r : Int) (h : m ≤ 2) : (parts m r).1.length = m := by
  match m, h with
  | 0, _ => rfl
  | 1, _ => rfl
  | 2, _ => rfl
theorem names_all : ∀ o ∈ names, (match o with | none => true | some nm => (shapes.lookup nm).isSome) = true := by decide
theorem reck_all : ∀ nm ∈ reck, (shapes.lookup nm).isSome = true := by decide
theorem nameOf_shape {x : Int} {nm : Str} (h : nameOf x = some nm) : ∃ s, shapes.lookup nm = some s := by
  refine Option.isSome_iff_exists.mp ?_
  unfold nameOf at h
  split at h
  · split at h
    · rename_i h3 h11
      have hl : (x % 64).toNat < reck.length := by show (x % 64).toNat < 11; omega
      rw [List.getD_eq_getElem?_getD, List.getElem?_eq_getElem hl] at h
      have e := Option.some.inj h
      have e : reck[(x % 64).toNat] = nm := e
      rw [← e]
      exact reck_all _ (List.getElem_mem hl)
    · cases h
  · rw [List.getD_eq_getElem?_getD] at h
    cases e : names[(x / 4096).toNat]? with
    | none => rw [e] at h; cases h
    | some o =>
      rw [e] at h
      have h : o = some nm := h
      have hm := names_all o (List.mem_of_getElem? e)
      rw [h] at hm
      exact hm
theorem parts_succ {many i : Nat} {r : Int} {v : V} (hi : (weights.take many)[i]? = some v) : ∃ j : Int, v = .int j ∧ 0 < j ∧ j < 1000 ∧ parts (i + 1) r = ((parts i r).1 ++ [(parts i r).2 / j], (parts i r).2 % j) := by
  have hw : weights[i]? = some v := by
    rw [List.getElem?_take] at hi
    split at hi
    · exact hi
    · cases hi
  match i, hw with
  | 0, h => cases h; exact ⟨512, rfl, by decide, by decide, rfl⟩
  | 1, h => cases h; exact ⟨64, rfl, by decide, by decide, rfl⟩
  | _ + 2, h => cases h
section
variable {P : Program} {w : World} {K : PySem.W.Frag} {mg : Str → Option Value} {base : Heap}
theorem sqT_upd {H : Hp} {a p : Addr} {xs ys : List V} {o : HO} (h : SqT K H a xs) (hp : H p = some (.lst ys)) : SqT K (upd H p o) a xs := by
  rcases h with (h | ⟨u, h⟩) | h
  · exact .inl (.inl (by rw [upd_ne (ne_of h hp (by intro z; cases z))]; exact h))
  · exact .inl (.inr ⟨u, by rw [upd_ne (ne_of h hp (by intro z; cases z))]; exact h⟩)
  · exact .inr h
def spRowOf (K : PySem.W.Frag) (C : Addr) : Sp := fun vs H Q E => ∃ (v : V) (d : PyData), vs = [v] ∧ Dk K H v d ∧
  (∀ x : Int, d = .int x → 0 ≤ x → x ≤ 65535 → ∀ H', Same H H' → (pRow x = none → Q .non H') ∧ ∀ nm ps a, pRow x = some (nm, ps) → H' a = some (.tup (.str nm :: ps.map V.int)) → H a = none → Q (.ref a) H') ∧
  (isW d 0 65535 = false → ∀ dd, H dd = none → E (.ref C) (some dd) (upd H dd (.xd [("value", v)])))
theorem scRowOfNd : (["word", "name", "base", "many", "most", "rest", "numbers", "weight"] : List Str).Nodup := scRowOf.nd
theorem ok_rowOf {f f1 f2 fI C aS aW : Addr} {fd fd1 fd2 fdI : FuncData} {k : Nat} (F : Fun K "row_of" "row_of" sRowOf f fd)
    (G1 : FnOk P w K mg base CX0 (k + 2) f1 fd1 ["value"] (spIsWord K)) (k1 : PySem.W.keepIn K (.ref f1) = true) (b1 : Binds K fd1 ["value"] []) (g1 : mg "is_word" = some (.ref f1))
    (G2 : FnOk P w K mg base CX0 (k + 1) f2 fd2 ["word"] spNameOf) (k2 : PySem.W.keepIn K (.ref f2) = true) (b2 : Binds K fd2 ["word"] []) (g2 : mg "_name_of" = some (.ref f2))
    (T : ErrC K C fI) (FI : Fun K "__init__" "CoreError.__init__" sInit fI fdI) (bI : Binds K fdI ["self", "value"] []) (gC : mg "BadWord" = some (.ref C))
    (gS : mg "SHAPES" = some (.ref aS)) (tS : ShT K w aS) (gW : mg "WEIGHTS" = some (.ref aW)) (tW : KT K aW weights) : FnOk P w K mg base (L2.CX P w) (k + 3) f fd ["word"] (spRowOf K C) := by
  refine F.okX scRowOf (fun vs H Q E h => ?_) (fun cdv A outer s H vs Q E hr h => ?_)
  · obtain ⟨v, d, rfl, _⟩ := h
    rfl
  · obtain ⟨v, d, rfl, hd, qi, qe⟩ := h
    refine ⟨_, pss_cons (ps_if (pt_not (pt_val (pe_call G1 hr (by rfl) g1 k1 b1 .nil pass0 (pa_cons (pv 0) pa_nil)))) (pss_one (ps_err rfl T FI bI (k := k) hr (takes_of rfl rfl rfl rfl) (by rfl) gC (pv 0))) pss_nil) (PSs.nox
      (pss_cons (ps_set (i := 1) scRowOf.nd rfl (.inl rfl) (pe_call G2 (hr.mono (by omega)) (by rfl) g2 k2 b2 .nil pass0 (pa_cons (pv 0) pa_nil)))
      (pss_cons (ps_if (pt_cmpR op_isN (pv 1) pe_non (nomark _)) (pss_one (ps_ret pe_non)) pss_nil)
      (pss_cons (ps_asg (pe_ix ix_kdict (pgr (by rfl) gS) (pv 1) (fun _ _ => rfl)) (pg_tup (by rfl) (pgs_cons (pg_name (i := 2) scRowOf.nd rfl (.inl rfl)) (pgs_cons (pg_name (i := 3) scRowOf.nd rfl (.inl rfl)) (pgs_cons (pg_name (i := 4) scRowOf.nd rfl (.inl rfl)) pgs_nil)))))
      (pss_cons (ps_set (i := 5) scRowOf.nd rfl (.inl rfl) (pe_op op_sub (pv 0) (pv 2)))
      (pss_cons (ps_set (i := 6) scRowOf.nd rfl (.inl rfl) (pe_lst pa_nil))
      (pss_cons (ps_for PassesOwn.never rfl (pi_tup (pe_slice sl_tupA (pgr (by rfl) gW) po_none (po_some (pv 3)))) (pg_name (i := 7) scRowOf.nd rfl (.inl rfl))
        (pss_cons (ps_expr (pe_bm PySem.F.plainAttrs_list PySem.F.slot_list_append PySem.F.type_list_append mt_append (pv 6) (pa_cons (pe_op op_fdiv (pv 5) (pv 7)) pa_nil)))
        (pss_one (ps_set (i := 5) scRowOf.nd rfl (.inl rfl) (pe_op op_mod (pv 5) (pv 7))))))
      (pss_cons (ps_if (pt_cmpR op_isN (pv 4) pe_non (nomark _))
        (pss_one (ps_ret (pe_ifExp (pt_cmpR op_eq (pv 5) pe_int (nomark _)) (pe_tup (pa_cons (pv 1) (StX.pa_star (pv 6) pa_nil))) pe_non))) pss_nil)
      (pss_one (ps_ret (pe_ifExp (pt_cmpR op_le (pv 5) (pv 4) (nomark _)) (pe_tup (pa_cons (pv 1) (StX.pa_star (pv 6) (pa_cons (pv 5) pa_nil)))) pe_non))))))))))), ?_⟩
    -- is_word(word)
    refine ⟨v, rfl, v, d, rfl, hd, isW d 0 65535, rfl, ?_⟩
    cases hw : isW d 0 65535 with
    | false => exact iteT ⟨v, rfl, need_ok T fun dd n => qe hw dd n⟩
    | true =>
      refine iteF ?_
      obtain ⟨x, rfl, h0, h1⟩ := isW_int hw
      obtain rfl := dk_int hd
      refine ⟨_, rfl, x, rfl, h0, h1, ?_⟩
      -- name is None
      refine ⟨_, rfl, rfl, _, rfl, ?_⟩
      cases hn : nameOf x with
      | none =>
        refine iteT ?_
        refine (qi x rfl h0 h1 H (Same.refl H)).1 ?_
        unfold pRow
        rw [hn]
      | some nm =>
        refine iteF ?_
        obtain ⟨sh, hsh⟩ := nameOf_shape hn
        obtain ⟨t, kd, kt⟩ := tS.get hsh
        have hp_ : pRow x = rowWith nm sh x := pRow_of hn hsh
        have hm := (many2 _ (mem_of_lookup hsh)).1
        obtain ⟨b, many, most⟩ := sh
        simp only at kt hm hp_
        refine ⟨_, rfl, aS, nm, .ref t, rfl, rfl, kd, ?_⟩
        refine ⟨t, _, rfl, kt.sq, rfl, _, _, rfl, _, _, rfl, _, _, rfl, rfl, ?_⟩
        refine ⟨_, rfl, _, rfl, x, b, rfl, rfl, ?_⟩
        refine ⟨Nat.zero_le _, fun np nn => ?_⟩
        have s1 := same_upd (o := .lst []) nn
        refine ⟨_, rfl, (many : Nat), rfl, slice_to tW.sq fun pw H2 hpw s2 => ?_⟩
        have hlen : (weights.take many).length = many := by
          rw [List.length_take]
          show min many 2 = many
          omega
        refine ⟨pw, rfl, ⟨_, hpw⟩, for_tup (xs := weights.take many) (fun i σ H' => ∃ y7, σ = [some (.int x), some (.str nm), some (.int b), some (.int (many : Nat)), some (optI most), some (.int (parts i (x - b)).2), some (.ref np), y7] ∧
          H' np = some (.lst ((parts i (x - b)).1.map V.int)) ∧ Same H H' ∧ SqT K H' pw (weights.take many)) ⟨none, rfl, s2 _ _ upd_same, s1.trans s2, hpw⟩ (fun i σ H' _ hp => ?_) (fun i v σ H' hv hp => ?_) fun σ H' hp => ?_⟩
        · obtain ⟨_, _, _, _, h⟩ := hp
          exact h
        · obtain ⟨y7, rfl, hnp, sm, hq⟩ := hp
          obtain ⟨j, rfl, j0, j1, ep⟩ := parts_succ (r := x - b) hv
          have hi2 : i < 2 := by
            have := (List.getElem?_eq_some_iff.mp hv).1
            omega
          have hl : (parts i (x - b)).1.length ≤ 2 := by rw [parts_len i _ (by omega)]; omega
          refine ⟨.ref np, rfl, .inl ⟨rfl, _, SqL.of hnp⟩, _, rfl, _, rfl, _, j, rfl, rfl, ⟨j0, by omega⟩, np, _, _, rfl, rfl, hnp, small1000 (by rw [List.length_map]; omega), ?_⟩
          refine ⟨_, rfl, _, rfl, _, j, rfl, rfl, j0, some (.int j), ?_, ?_, Same.updNew sm nn, sqT_upd hq hnp⟩
          · rw [ep]
            rfl
          · rw [upd_same, ep, List.map_append]
            rfl
        · obtain ⟨y7, rfl, hnp, sm, hq⟩ := hp
          rw [hlen] at hnp
          rw [hlen]
          have hl : (parts many (x - b)).1.length ≤ 2 := by rw [parts_len many _ hm]; omega
          refine ⟨_, rfl, rfl, _, rfl, ?_⟩
          have tail : ∀ (zs : List V), zs.length ≤ 1 → (V.str nm :: (((parts many (x - b)).1.map V.int) ++ zs)).length ≤ sizeLine := fun zs hz => by
            rw [List.length_cons, List.length_append, List.length_map]
            exact Nat.le_of_lt (small1000 (by omega))
          have fin : ∀ (ps : List Int) (p : Addr), rowWith nm (b, many, most) x = some (nm, ps) → H' p = none → Q (.ref p) (upd H' p (.tup (V.str nm :: ps.map V.int))) := fun ps p e hp =>
            (qi x rfl h0 h1 _ (sm.trans (same_upd hp))).2 nm ps p (hp_ ▸ e) upd_same (sm.free hp)
          have bad : rowWith nm (b, many, most) x = none → Q .non H' := fun e => (qi x rfl h0 h1 _ sm).1 (hp_ ▸ e)
          cases most with
          | none =>
            refine iteT ?_
            refine ⟨_, rfl, rfl, _, rfl, ite2 (fun e => ?_) (fun e => ?_)⟩
            · have e0 : (parts many (x - b)).2 = 0 := V.int.inj (of_decide_eq_true e)
              refine ⟨_, rfl, _, rfl, np, _, rfl, .inr (SqL.of hnp), tail [] (by simp), fun p hp => ?_⟩
              rw [List.append_nil]
              exact fin _ p (by simp only [rowWith]; rw [if_pos e0]) hp
            · have e0 : ¬ (parts many (x - b)).2 = 0 := fun z => e (decide_eq_true (congrArg V.int z))
              exact bad (by simp only [rowWith]; rw [if_neg e0])
          | some m =>
            refine iteF ?_
            refine ⟨_, rfl, _, rfl, _, m, rfl, rfl, _, rfl, ite2 (fun e => ?_) (fun e => ?_)⟩
            · have e0 := of_decide_eq_true e
              refine ⟨_, rfl, _, rfl, np, _, rfl, .inr (SqL.of hnp), _, rfl, tail [_] (by simp), fun p hp => ?_⟩
              have e2 : ((parts many (x - b)).1.map V.int ++ [V.int (parts many (x - b)).2]) = ((parts many (x - b)).1 ++ [(parts many (x - b)).2]).map V.int := by rw [List.map_append]; rfl
              have q := fin ((parts many (x - b)).1 ++ [(parts many (x - b)).2]) p (by simp only [rowWith]; rw [if_pos e0]) hp
              rw [← e2] at q
              exact q
            · have e0 : ¬ (parts many (x - b)).2 ≤ m := fun z => e (decide_eq_true z)
              exact bad (by simp only [rowWith]; rw [if_neg e0])
end
theorem lim_get {nm : Str} (h : nm ∈ (["jump", "call", "trap"] : List Str)) : ∃ m : Int, valV (mergeK [] [(Sum.inr "jump", V.int 256), (Sum.inr "call", V.int 16), (Sum.inr "trap", V.int 256)]) (Sum.inr nm) = some (.int m) ∧ (lims.lookup nm).getD 0 = m := by
  simp only [List.mem_cons, List.not_mem_nil, or_false] at h
  rcases h with rfl | rfl | rfl
  · exact ⟨256, by decide +kernel, rfl⟩
  · exact ⟨16, by decide +kernel, rfl⟩
  · exact ⟨256, by decide +kernel, rfl⟩
theorem dget_of {H : Hp} {a : Addr} {kvs : List (Key × V)} {k : Key} {r : Option V} (h : H a = some (.dK kvs)) (e : valV kvs k = r) : DGet H a (kV k) r := .inl ⟨kvs, k, .inl h, rfl, e.symm⟩
theorem seq_val {te : TE} {g : TG} {rest : TS} {D : Ends} {σ : L2.St} {H : Hp} {PV : V → Hp → Prop} (h : ValH te σ H PV) (q : ∀ v H', PV v H' → g v σ H' (fun σ2 H2 => rest D σ2 H2)) : tSeq (tAsg te g) rest D σ H := h _ fun v H' p => q v H' p
section
variable {P : Program} {w : World} {K : PySem.W.Frag} {mg : Str → Option Value} {base : Heap}
def spCellRow : Sp := fun vs H Q _ => ∃ x : Int, vs = [.int x] ∧ 0 ≤ x ∧ x ≤ 65535 ∧ ∀ H', Same H H' → (lRow x = none → Q .non H') ∧ ∀ nm ps a, lRow x = some (nm, ps) → H' a = some (.tup (.str nm :: ps.map V.int)) → H a = none → Q (.ref a) H'
theorem ok_cellRow {f : Addr} {fd : FuncData} {k : Nat} (F : Fun K "_law_cell_row" "_law_cell_row" sCellRow f fd) : FnOk P w K mg base CX0 (k + 1) f fd ["word"] spCellRow := by
  refine F.ok scCellRow (fun vs H Q E h => ?_) (fun cdv A outer s H vs Q E hr h => ?_)
  · obtain ⟨x, rfl, _⟩ := h
    rfl
  · obtain ⟨x, rfl, h0, h1, q⟩ := h
    refine ⟨_, pss_cons (ps_par3 (i := 1) (j := 2) (l := 3) (by rfl) scCellRow.nd rfl rfl rfl (by decide) (by decide) (by decide) rfl rfl rfl (pa_cons (pe_op op_fdiv (pv 0) pe_int) (pa_cons (pe_op op_mod (pe_op op_fdiv (pv 0) pe_int) pe_int) (pa_cons (pe_op op_mod (pe_op op_fdiv (pv 0) pe_int) pe_int) pa_nil))) (by rfl))
      (pss_cons (ps_set (i := 4) scCellRow.nd rfl (.inl rfl) (pe_op op_mod (pv 0) pe_int))
      (pss_cons (ps_set (i := 5) scCellRow.nd rfl (.inl rfl) (pe_lst (pa_cons pe_str (pa_cons pe_str (pa_cons pe_str (pa_cons pe_str (pa_cons pe_str (pa_cons pe_str (pa_cons pe_str (pa_cons pe_str (pa_cons pe_str (pa_cons pe_str (pa_cons pe_str (pa_cons pe_str (pa_cons pe_str (pa_cons pe_str pa_nil))))))))))))))))
      (pss_cons (ps_set (i := 5) scCellRow.nd rfl (.inl rfl) (pe_op op_cat (pv 5) (pe_lst (pa_cons pe_str (pa_cons pe_str pa_nil)))))
      (pss_cons (ps_set (i := 6) scCellRow.nd rfl (.inl rfl) (pe_lst (pa_cons pe_str (pa_cons pe_str (pa_cons pe_str (pa_cons pe_str (pa_cons pe_str (pa_cons pe_str (pa_cons pe_str (pa_cons pe_str (pa_cons pe_str (pa_cons pe_str (pa_cons pe_str pa_nil)))))))))))))
      (pss_cons (ps_set (i := 7) scCellRow.nd rfl (.inl rfl) (pe_ifExp (PW.pt (pw_and (pt_cmpR op_eq (pv 1) pe_int (nomark _)) (pw_and1 (pt_cmpR op_lt (pv 4) pe_int (nomark _))))) (pe_ix ix_list (pv 6) (pv 4) (fun _ _ => rfl)) (pe_ix ix_list (pv 5) (pv 1) (fun _ _ => rfl))))
      (pss_cons (ps_if (pt_cmpR op_in_seq (pv 7) (pv 6) (by rfl)) (pss_one (ps_ret (pe_tup (pa_cons (pv 7) (pa_cons (pv 2) (pa_cons (pv 3) pa_nil)))))) pss_nil)
      (pss_cons (ps_if (pt_cmpR op_in_seq (pv 7) (pe_tup (pa_cons pe_str (pa_cons pe_str pa_nil))) (by rfl)) (pss_one (ps_ret (pe_tup (pa_cons (pv 7) (pa_cons (pv 2) (pa_cons (pv 3) (pa_cons (pv 4) pa_nil))))))) pss_nil)
      (pss_cons (ps_if (pt_cmpR op_in_seq (pv 7) (pe_tup (pa_cons pe_str (pa_cons pe_str pa_nil))) (by rfl)) (pss_one (ps_ret (pe_ifExp (pt_cmpR op_eq (pv 4) pe_int (nomark _)) (pe_tup (pa_cons (pv 7) (pa_cons (pv 2) (pa_cons (pv 3) pa_nil)))) pe_non))) pss_nil)
      (pss_cons (ps_if (pt_cmpR op_eq (pv 7) pe_str (nomark _)) (pss_one (ps_ret (pe_ifExp (pt_cmpR op_eq (pe_op op_mod (pv 0) pe_int) pe_int (nomark _)) (pe_tup (pa_cons (pv 7) (pa_cons (pv 2) pa_nil))) pe_non))) pss_nil)
      (pss_cons (ps_if (pt_cmpR op_in_seq (pv 7) (pe_tup (pa_cons pe_str (pa_cons pe_str (pa_cons pe_str pa_nil)))) (by rfl)) (pss_one (ps_ret (pe_ifExp (pt_cmpR op_lt (pe_op op_mod (pv 0) pe_int) (pe_dget (hu_of hr) (pe_disp (pps_cons pe_str pe_int (pps_cons pe_str pe_int (pps_cons pe_str pe_int pps_nil))) (by rfl) (by rfl) (fun z => by cases z) (by decide)) (pv 7) (fun _ _ => rfl)) (nomark _)) (pe_tup (pa_cons (pv 7) (pa_cons (pe_op op_mod (pv 0) pe_int) pa_nil))) pe_non))) pss_nil)
      (pss_cons (ps_if (PW.pt (pw_or (pt_cmpR op_eq (pv 7) pe_str (nomark _)) (pw_or1 (PW.pt (pw_and (pt_cmpR op_ne (pv 7) pe_str (nomark _)) (pw_and1 (pt_cmpR op_gt (pe_op op_mod (pv 0) pe_int) pe_int (nomark _)))))))) (pss_one (ps_ret pe_non)) pss_nil)
      (pss_one (ps_ret (pe_tup (pa_cons (pv 7) (pa_cons (pv 2) (pa_cons (pe_op op_mod (pv 0) pe_int) pa_nil))))))))))))))))), ?_⟩
    have p512 : (0 : Int) < 512 := by decide
    refine ⟨_, rfl, x, 4096, rfl, rfl, ⟨by decide, by decide⟩, _, rfl, x, 512, rfl, rfl, ⟨by decide, by decide⟩, _, 8, rfl, rfl, (by show (0 : Int) < 8; decide), _, rfl, x, 64, rfl, rfl, ⟨by decide, by decide⟩, _, 8, rfl, rfl, (by show (0 : Int) < 8; decide), _, _, _, rfl, ?_⟩
    refine ⟨_, rfl, x, 64, rfl, rfl, (by show (0 : Int) < 64; decide), ?_⟩
    refine ⟨by show 14 ≤ sizeLine; decide, fun c1 n1 => ?_⟩
    have s1 := same_upd (o := .lst ((lnames.take 14).map V.str)) n1
    refine ⟨_, rfl, by show 2 ≤ sizeLine; decide, fun c2 n2 => ⟨c1, c2, _, _, rfl, rfl, (by rw [upd_ne (ne_of_none upd_same n2)]; exact upd_same), upd_same, by show 14 + 2 ≤ sizeLine; decide, fun c3 n3 => ?_⟩⟩
    have s2 := same_upd (o := .lst ((lnames.drop 14).map V.str)) n2
    have s3 := same_upd (o := .lst (lnames.map V.str)) n3
    refine ⟨by show 11 ≤ sizeLine; decide, fun c4 n4 => ?_⟩
    have s4 := same_upd (o := .lst (reck.map V.str)) n4
    have sm := ((s1.trans s2).trans s3).trans s4
    have h3 : SqL K (upd (upd (upd (upd H c1 (.lst ((lnames.take 14).map V.str))) c2 (.lst ((lnames.drop 14).map V.str))) c3 (.lst (lnames.map V.str))) c4 (.lst (reck.map V.str))) c3 (lnames.map V.str) := SqL.of (s4 _ _ upd_same)
    have h4 : SqL K (upd (upd (upd (upd H c1 (.lst ((lnames.take 14).map V.str))) c2 (.lst ((lnames.drop 14).map V.str))) c3 (.lst (lnames.map V.str))) c4 (.lst (reck.map V.str))) c4 (reck.map V.str) := SqL.of upd_same
    have q4 := fun H' (s : Same _ H') => q H' (sm.trans s)
    dsimp only [gName]
    refine (seq_val (PV := fun v H' => v = .str (lName x) ∧ Same (upd (upd (upd (upd H c1 (.lst ((lnames.take 14).map V.str))) c2 (.lst ((lnames.drop 14).map V.str))) c3 (.lst (lnames.map V.str))) c4 (.lst (reck.map V.str))) H') (fun Q1 q1 => ?_) ?_)
    · have l16 : (x / 4096).toNat < lnames.length := by show (x / 4096).toNat < 16; omega
      have names_ : tOp (rIxL K) (tVar 5) (tVar 1) [some (.int x), some (.int (x / 4096)), some (.int (x / 512 % 8)), some (.int (x / 64 % 8)), some (.int (x % 64)), some (.ref c3), some (.ref c4), none] _ (fun v H' => v = .str (lnames.getD (x / 4096).toNat "") ∧ Same _ H') := ⟨_, rfl, _, rfl, c3, _, x / 4096, _, rfl, rfl, h3, at_of (show x / 4096 = (((x / 4096).toNat : Nat) : Int) by omega) (by rw [List.getElem?_map, List.getElem?_eq_getElem l16]; rfl), (by rw [List.getD_eq_getElem?_getD, List.getElem?_eq_getElem l16]; rfl), Same.refl _⟩
      refine ⟨_, rfl, rfl, _, rfl, ?_⟩
      by_cases c : x / 4096 = 3
      · rw [decide_eq_true (congrArg V.int c)]
        refine iteT ⟨_, rfl, _, 11, rfl, rfl, _, rfl, ?_⟩
        by_cases c2' : x % 64 < 11
        · rw [decide_eq_true c2']
          have hl : (x % 64).toNat < reck.length := by show (x % 64).toNat < 11; omega
          refine iteT ⟨_, rfl, _, rfl, c4, _, x % 64, _, rfl, rfl, h4, at_of (show x % 64 = (((x % 64).toNat : Nat) : Int) by omega) (by rw [List.getElem?_map, List.getElem?_eq_getElem hl]; rfl), ?_⟩
          refine q1 _ _ ⟨?_, Same.refl _⟩
          unfold lName
          rw [if_pos ⟨c, c2'⟩, List.getD_eq_getElem?_getD, List.getElem?_eq_getElem hl]
          rfl
        · rw [decide_eq_false c2']
          refine iteF ⟨_, rfl, _, rfl, c3, _, x / 4096, _, rfl, rfl, h3, at_of (show x / 4096 = (((x / 4096).toNat : Nat) : Int) by omega) (by rw [List.getElem?_map, List.getElem?_eq_getElem l16]; rfl), ?_⟩
          refine q1 _ _ ⟨?_, Same.refl _⟩
          unfold lName
          rw [if_neg (fun z => c2' z.2), List.getD_eq_getElem?_getD, List.getElem?_eq_getElem l16]
          rfl
      · rw [decide_eq_false (fun z => c (V.int.inj z))]
        refine iteF (iteF ⟨_, rfl, _, rfl, c3, _, x / 4096, _, rfl, rfl, h3, at_of (show x / 4096 = (((x / 4096).toNat : Nat) : Int) by omega) (by rw [List.getElem?_map, List.getElem?_eq_getElem l16]; rfl), ?_⟩)
        refine q1 _ _ ⟨?_, Same.refl _⟩
        unfold lName
        rw [if_neg (fun z => c z.1), List.getD_eq_getElem?_getD, List.getElem?_eq_getElem l16]
        rfl
    rintro v H5 ⟨rfl, s5⟩
    have h6 := s5.seq h4
    have el : lRow x = lRowWith (lName x) x := rfl
    have q5 := fun H' (s : Same H5 H') => q4 H' (s5.trans s)
    rw [el] at q5
    generalize lName x = nm at q5 ⊢
    have fin : ∀ (ps : List Int) (H' : Hp) (p : Addr), lRowWith nm x = some (nm, ps) → Same H5 H' → H' p = none → Q (.ref p) (upd H' p (.tup (.str nm :: ps.map V.int))) := fun ps H' p e s hp =>
      (q5 _ (s.trans (same_upd hp))).2 nm ps p e upd_same ((sm.trans (s5.trans s)).free hp)
    have bad : ∀ H', lRowWith nm x = none → Same H5 H' → Q .non H' := fun H' e s => (q5 H' s).1 e
    have yes : ∀ l : List Str, inV (.str nm) (l.map V.str) = true → nm ∈ l := fun l e => by
      rw [inV_strs] at e
      exact of_decide_eq_true e
    have no : ∀ l : List Str, ¬ inV (.str nm) (l.map V.str) = true → nm ∉ l := fun l e z => e (by rw [inV_strs]; exact decide_eq_true z)
    unfold lRowWith at fin bad
    refine ⟨_, rfl, _, rfl, c4, _, rfl, .inl h6, rfl, flat_strs reck, _, rfl, ite2 (fun e => ?_) (fun e => ?_)⟩
    · have hm := yes reck e
      refine ⟨_, rfl, _, rfl, _, rfl, by show 3 ≤ sizeLine; decide, fun p hp => ?_⟩
      exact fin [x / 512 % 8, x / 64 % 8] _ p (by rw [if_pos hm]) (Same.refl _) hp
    have k1 := no reck e
    refine ⟨_, rfl, by show 2 ≤ sizeLine; decide, fun t1 nt1 => ⟨t1, (["load", "store"] : List Str).map V.str, rfl, .inr (SqT.of upd_same), rfl, rfl, _, rfl, ?_⟩⟩
    have st1 := same_upd (o := .tup ((["load", "store"] : List Str).map V.str)) nt1
    refine ite2 (fun e => ?_) (fun e => ?_)
    · have hm := yes ["load", "store"] e
      refine ⟨_, rfl, _, rfl, _, rfl, _, rfl, by show 4 ≤ sizeLine; decide, fun p hp => ?_⟩
      exact fin [x / 512 % 8, x / 64 % 8, x % 64] _ p (by rw [if_neg k1, if_pos hm]) st1 hp
    have k2 := no ["load", "store"] e
    refine ⟨_, rfl, by show 2 ≤ sizeLine; decide, fun t2 nt2 => ⟨t2, (["less", "same"] : List Str).map V.str, rfl, .inr (SqT.of upd_same), rfl, rfl, _, rfl, ?_⟩⟩
    have st2 := st1.trans (same_upd (o := .tup ((["less", "same"] : List Str).map V.str)) nt2)
    refine ite2 (fun e => ?_) (fun e => ?_)
    · have hm := yes ["less", "same"] e
      refine ⟨_, rfl, rfl, _, rfl, ite2 (fun e2 => ?_) (fun e2 => ?_)⟩
      · have z0 : x % 64 = 0 := V.int.inj (of_decide_eq_true e2)
        refine ⟨_, rfl, _, rfl, _, rfl, by show 3 ≤ sizeLine; decide, fun p hp => ?_⟩
        exact fin [x / 512 % 8, x / 64 % 8] _ p (by rw [if_neg k1, if_neg k2, if_pos hm, if_pos z0]) st2 hp
      · have z0 : ¬ x % 64 = 0 := fun z => e2 (decide_eq_true (congrArg V.int z))
        exact bad _ (by rw [if_neg k1, if_neg k2, if_pos hm, if_neg z0]) st2
    have k3 := no ["less", "same"] e
    refine ⟨_, rfl, rfl, _, rfl, ite2 (fun e => ?_) (fun e => ?_)⟩
    · have hm : nm = "go" := V.str.inj (of_decide_eq_true e)
      refine ⟨_, rfl, x, 512, rfl, rfl, (by show (0 : Int) < 512; decide), rfl, _, rfl, ite2 (fun e2 => ?_) (fun e2 => ?_)⟩
      · have z0 : x % 512 = 0 := V.int.inj (of_decide_eq_true e2)
        refine ⟨_, rfl, _, rfl, by show 2 ≤ sizeLine; decide, fun p hp => ?_⟩
        exact fin [x / 512 % 8] _ p (by rw [if_neg k1, if_neg k2, if_neg k3, if_pos hm, if_pos z0]) st2 hp
      · have z0 : ¬ x % 512 = 0 := fun z => e2 (decide_eq_true (congrArg V.int z))
        exact bad _ (by rw [if_neg k1, if_neg k2, if_neg k3, if_pos hm, if_neg z0]) st2
    have k4 : ¬ nm = "go" := fun z => e (decide_eq_true (congrArg V.str z))
    refine ⟨_, rfl, by show 3 ≤ sizeLine; decide, fun t3 nt3 => ⟨t3, (["jump", "call", "trap"] : List Str).map V.str, rfl, .inr (SqT.of upd_same), rfl, rfl, _, rfl, ?_⟩⟩
    have st3 := st2.trans (same_upd (o := .tup ((["jump", "call", "trap"] : List Str).map V.str)) nt3)
    refine ite2 (fun e => ?_) (fun e => ?_)
    · have hm := yes ["jump", "call", "trap"] e
      obtain ⟨m, gm, em⟩ := lim_get hm
      refine ⟨_, rfl, x, 4096, rfl, rfl, (by show (0 : Int) < 4096; decide), fun d nd => ⟨upd_same, [(Sum.inr "jump", V.int 256), (Sum.inr "call", V.int 16), (Sum.inr "trap", V.int 256)], rfl, by decide, _, rfl, d, .int m, rfl, ?_, _, m, rfl, rfl, _, rfl, ?_⟩⟩
      · exact dget_of (k := Sum.inr nm) upd_same gm
      have st4 := Same.updNew (o := .dK (mergeK [] [(Sum.inr "jump", V.int 256), (Sum.inr "call", V.int 16), (Sum.inr "trap", V.int 256)])) (st3.trans (same_upd (o := .dK []) nd)) (st3.free nd)
      refine ite2 (fun e2 => ?_) (fun e2 => ?_)
      · have z0 : x % 4096 < m := of_decide_eq_true e2
        refine ⟨_, rfl, _, rfl, x, 4096, rfl, rfl, (by show (0 : Int) < 4096; decide), by show 2 ≤ sizeLine; decide, fun p hp => ?_⟩
        exact fin [x % 4096] _ p (by rw [if_neg k1, if_neg k2, if_neg k3, if_neg k4, if_pos hm, em, if_pos z0]) st4 hp
      · have z0 : ¬ x % 4096 < m := fun z => e2 (decide_eq_true z)
        exact bad _ (by rw [if_neg k1, if_neg k2, if_neg k3, if_neg k4, if_pos hm, em, if_neg z0]) st4
    have k5 := no ["jump", "call", "trap"] e
    have last : ¬ (nm = "" ∨ (nm ≠ "set" ∧ 255 < x % 512)) → ∀ H' p, Same H5 H' → H' p = none → Q (.ref p) (upd H' p (.tup [.str nm, .int (x / 512 % 8), .int (x % 512)])) := fun z H' p s hp =>
      fin [x / 512 % 8, x % 512] H' p (by rw [if_neg k1, if_neg k2, if_neg k3, if_neg k4, if_neg k5, if_neg z]) s hp
    have none_ : (nm = "" ∨ (nm ≠ "set" ∧ 255 < x % 512)) → ∀ H', Same H5 H' → Q .non H' := fun z H' s => bad H' (by rw [if_neg k1, if_neg k2, if_neg k3, if_neg k4, if_neg k5, if_pos z]) s
    refine ⟨_, rfl, rfl, _, rfl, ite2 (fun e => ?_) (fun e => ?_)⟩
    · exact iteT (none_ (.inl (V.str.inj (of_decide_eq_true e))) _ st3)
    have n0 : ¬ nm = "" := fun z => e (decide_eq_true (congrArg V.str z))
    have end_ : ¬ (nm ≠ "set" ∧ 255 < x % 512) → tTup (tCons (tVar 7) (tCons (tVar 2) (tCons (tOp (rI (fun _ j => 0 < j) fun i j => .int (i % j)) (tVar 0) (tC (.int 512))) tNil))) [some (.int x), some (.int (x / 4096)), some (.int (x / 512 % 8)), some (.int (x / 64 % 8)), some (.int (x % 64)), some (.ref c3), some (.ref c4), some (.str nm)] _ Q := fun z =>
      ⟨_, rfl, _, rfl, _, rfl, x, 512, rfl, rfl, (by show (0 : Int) < 512; decide), by show 3 ≤ sizeLine; decide, fun p hp => last (fun y => y.elim n0 z) _ p st3 hp⟩
    refine ⟨_, rfl, rfl, _, rfl, ?_⟩
    by_cases c : nm = "set"
    · rw [decide_eq_true (congrArg V.str c)]
      exact iteF (iteF (end_ (fun z => z.1 c)))
    · rw [decide_eq_false (fun z => c (V.str.inj z))]
      refine iteT ⟨_, rfl, x, 512, rfl, rfl, (by show (0 : Int) < 512; decide), _, 255, rfl, rfl, _, rfl, ?_⟩
      by_cases c2 : 255 < x % 512
      · rw [decide_eq_true c2]
        exact iteT (none_ (.inr ⟨c, c2⟩) _ st3)
      · rw [decide_eq_false c2]
        exact iteF (end_ (fun z => c2 z.2))
end
end K26

set_option maxRecDepth 100000
set_option maxHeartbeats 4000000
/-! k26: small looks of the program. -/
namespace K26
open PySem PySem.Spec PyProof.Rows L2 LamX VG TL
theorem scIsAddress : FnScope ["value"] ["value"] (defScope sIsAddress) := ⟨rfl, rfl, rfl, by decide +kernel, rfl, by decide +kernel, by decide +kernel⟩
theorem scIsTupleOf : FnScope ["value", "many"] ["value", "many"] (defScope sIsTupleOf) := ⟨rfl, rfl, rfl, by decide +kernel, rfl, by decide +kernel, by decide +kernel⟩
theorem scIsWordTuple : FnScope ["value", "many", "word"] ["value", "many"] (defScope sIsWordTuple) := ⟨rfl, rfl, rfl, by decide +kernel, rfl, by decide +kernel, by decide +kernel⟩
theorem scIsLetters : FnScope ["value"] ["value"] (defScope sIsLetters) := ⟨rfl, rfl, rfl, by decide +kernel, rfl, by decide +kernel, by decide +kernel⟩
theorem scIsAccess : FnScope ["value", "letters"] ["value", "letters"] (defScope sIsAccess) := ⟨rfl, rfl, rfl, by decide +kernel, rfl, by decide +kernel, by decide +kernel⟩
theorem scIsAccesses : FnScope ["value"] ["value"] (defScope sIsAccesses) := ⟨rfl, rfl, rfl, by decide +kernel, rfl, by decide +kernel, by decide +kernel⟩
theorem at0 {z : V} {zs : List V} : atI (z :: zs) 0 = some z := at_of (j := 0) rfl rfl
theorem at1 {y z : V} {zs : List V} : atI (y :: z :: zs) 1 = some z := at_of (j := 1) rfl rfl
theorem at2 {x y z : V} {zs : List V} : atI (x :: y :: z :: zs) 2 = some z := at_of (j := 2) rfl rfl
theorem at3 {w x y z : V} {zs : List V} : atI (w :: x :: y :: z :: zs) 3 = some z := at_of (j := 3) rfl rfl
theorem sl {m : Nat} (h : m ≤ 1000) : m ≤ sizeLine := Nat.le_of_lt (small1000 h)
theorem iteD {p A B : Prop} [Decidable p] (h : p) (a : A) : if decide p = true then A else B := by rw [if_pos (decide_eq_true h)]; exact a
theorem iteE {p A B : Prop} [Decidable p] (h : ¬ p) (b : B) : if decide p = true then A else B := by rw [if_neg (by rw [decide_eq_false h]; exact Bool.false_ne_true)]; exact b
theorem iteB {b : Bool} {A B : Prop} (h : b = true) (a : A) : if b = true then A else B := by rw [if_pos h]; exact a
theorem iteC {b : Bool} {A B : Prop} (h : b = false) (a : B) : if b = true then A else B := by rw [if_neg (by rw [h]; exact Bool.false_ne_true)]; exact a
theorem iteNE {p A B : Prop} [Decidable p] (h : ¬ p) (a : A) : if (!decide p) = true then A else B := by rw [if_pos (by rw [decide_eq_false h]; rfl)]; exact a
def FewD (d : PyData) : Prop := ∀ ds, d = .tuple ds → ds.length ≤ 2000000
theorem shaped_str (z : Str) (h : ∀ c ∈ z.cps.toList, c < 0x110000) : SeqAt.shaped (.str z) = true := by
  unfold SeqAt.shaped
  have : PyData.canLay0 (.str z) = true := by
    simp only [PyData.canLay0, PyData.strOk]
    rw [← Array.all_toList, List.all_eq_true]
    exact fun c hc => decide_eq_true (h c hc)
  rw [this]
  rfl
theorem shaped_lit (z : String) : SeqAt.shaped (.str (Str.ofString z)) = true := shaped_str _ (str_chars z)
theorem canLay_mem : ∀ {ds : List PyData}, PyData.canLayAll0 ds = true → ∀ d ∈ ds, d.canLay0 = true
  | [], _, d, hd => by cases hd
  | x :: ds, h, d, hd => by
    simp only [PyData.canLayAll0, Bool.and_eq_true] at h
    rcases List.mem_cons.mp hd with rfl | hd
    · exact h.1
    · exact canLay_mem h.2 d hd
theorem depth_mem : ∀ {ds : List PyData} {m : Nat}, PyData.depthAll ds ≤ m → ∀ d ∈ ds, d.depth ≤ m
  | [], _, _, d, hd => by cases hd
  | x :: ds, m, h, d, hd => by
    simp only [PyData.depthAll] at h
    rcases List.mem_cons.mp hd with rfl | hd
    · omega
    · exact depth_mem (ds := ds) (by omega) d hd
theorem weight_len : ∀ ds : List PyData, ds.length ≤ PyData.weightAll ds
  | [] => Nat.zero_le _
  | x :: ds => by
    have := weight_len ds
    simp only [PyData.weightAll, List.length_cons]
    omega
theorem weight_mem : ∀ {ds : List PyData}, ∀ d ∈ ds, d.weight ≤ PyData.weightAll ds
  | [], d, hd => by cases hd
  | x :: ds, d, hd => by
    simp only [PyData.weightAll]
    rcases List.mem_cons.mp hd with rfl | hd
    · omega
    · have := weight_mem d hd
      omega
/-- what is data of a tuple can be compared, and is not long -/
theorem okT_el {ds : List PyData} (h : okData (.tuple ds) = true) : ds.length ≤ 1048576 ∧ ∀ d ∈ ds, SeqAt.shaped d = true ∧ FewD d := by
  obtain ⟨_, hw, _, hdp, hl⟩ := okData.parts h
  have hw' : PyData.weightAll ds ≤ 2 ^ 20 := hw
  have hl' : PyData.canLayAll0 ds = true := hl.resolve_right fun z => by cases z
  have hdp' : PyData.depthAll ds ≤ 8 := by
    simp only [PyData.depth] at hdp
    omega
  have h1 := weight_len ds
  refine ⟨by omega, fun d hd => ⟨?_, fun es e => ?_⟩⟩
  · unfold SeqAt.shaped
    rw [canLay_mem hl' d hd, decide_eq_true (by have := depth_mem hdp' d hd; omega)]
    rfl
  · subst e
    have h2 := weight_mem _ hd
    have h3 : PyData.weight (.tuple es) = PyData.weightAll es := by simp only [PyData.weight]
    have h4 := weight_len es
    omega
theorem shaped_parts {ds : List PyData} (h : SeqAt.shaped (.tuple ds) = true) : ∀ d ∈ ds, SeqAt.shaped d = true := fun d hd => by
  unfold SeqAt.shaped at h ⊢
  rw [Bool.and_eq_true, decide_eq_true_eq] at h
  obtain ⟨h1, h2⟩ := h
  have h1' : PyData.canLayAll0 ds = true := by simpa only [PyData.canLay0] using h1
  have h2' : PyData.depthAll ds ≤ 63 := by
    simp only [PyData.depth] at h2
    omega
  rw [canLay_mem h1' d hd, decide_eq_true (by have := depth_mem h2' d hd; omega)]
  rfl
theorem okT_two {ds : List PyData} (h : okData (.tuple ds) = true) : ∀ d ∈ ds, ∀ es, d = .tuple es → ∀ e ∈ es, SeqAt.shaped e = true := fun d hd es e => by
  subst e
  exact shaped_parts ((okT_el h).2 _ hd).1
theorem dpAll_len {K : PySem.W.Frag} {H : Hp} : ∀ {xs : List V} {ds : List PyData}, DpAll K H xs ds → xs.length = ds.length
  | [], _, h => by cases h; rfl
  | _ :: _, _, h => by
    cases h with
    | cons _ h2 => rw [List.length_cons, List.length_cons, dpAll_len h2]
theorem dpAll_get {K : PySem.W.Frag} {H : Hp} : ∀ {xs : List V} {ds : List PyData}, DpAll K H xs ds → ∀ {i : Nat} {x : V}, xs[i]? = some x → Dp K H x (ds.getD i .none)
  | [], _, _, _, _, e => by simp at e
  | _ :: _, _, h, 0, _, e => by
    cases h with
    | cons h1 _ => cases e; exact h1
  | _ :: _, _, h, i + 1, _, e => by
    cases h with
    | cons _ h2 => exact dpAll_get h2 (i := i) e
theorem dpAll_two {K : PySem.W.Frag} {H : Hp} {xs : List V} {d1 d2 : PyData} (h : DpAll K H xs [d1, d2]) : ∃ x1 x2, xs = [x1, x2] ∧ Dp K H x1 d1 ∧ Dp K H x2 d2 := by
  cases h with
  | cons h1 h => cases h with
    | cons h2 h => cases h; exact ⟨_, _, rfl, h1, h2⟩
theorem dpAll_one {K : PySem.W.Frag} {H : Hp} {xs : List V} {d1 : PyData} (h : DpAll K H xs [d1]) : ∃ x1, xs = [x1] ∧ Dp K H x1 d1 := by
  cases h with
  | cons h1 h => cases h; exact ⟨_, rfl, h1⟩
theorem dpAll_three {K : PySem.W.Frag} {H : Hp} {xs : List V} {d1 d2 d3 : PyData} (h : DpAll K H xs [d1, d2, d3]) : ∃ x1 x2 x3, xs = [x1, x2, x3] ∧ Dp K H x1 d1 ∧ Dp K H x2 d2 ∧ Dp K H x3 d3 := by
  cases h with
  | cons h1 h => cases h with
    | cons h2 h => cases h with
      | cons h3 h => cases h; exact ⟨_, _, _, rfl, h1, h2, h3⟩
theorem dk_tup {K : PySem.W.Frag} {H : Hp} {v : V} {ds : List PyData} (h : Dk K H v (.tuple ds)) : ∃ a xs, v = .ref a ∧ SqT K H a xs ∧ DpAll K H xs ds := by
  cases h with
  | dp h => cases h with
    | tup hs ha => exact ⟨_, _, rfl, hs, ha⟩
/-- of what kind, and of how many parts -/
def Tq (K : PySem.W.Frag) (H : Hp) (v : V) (d : PyData) : Prop := TyB K H v (tyName d) ∧ ∀ ds, d = .tuple ds → ∃ a xs, v = .ref a ∧ SqT K H a xs ∧ xs.length = ds.length
theorem dk_tq {K : PySem.W.Frag} {H : Hp} {v : V} {d : PyData} (h : Dk K H v d) : Tq K H v d := ⟨h.ty, fun ds e => by
  subst e
  obtain ⟨a, xs, e, hs, ha⟩ := dk_tup h
  exact ⟨a, xs, e, hs, dpAll_len ha⟩⟩
theorem dq_tq {K : PySem.W.Frag} {H : Hp} {v : V} {d : PyData} (h : Dq K H v d) : Tq K H v d := by
  cases h with
  | dk h _ => exact dk_tq h
  | one hs h _ _ => exact ⟨.tup hs, fun ds e => by cases e; exact ⟨_, _, rfl, hs, by simp⟩⟩
theorem dq_parts {K : PySem.W.Frag} {H : Hp} {v : V} {ds : List PyData} (h : Dq K H v (.tuple ds)) : ∃ a xs, v = .ref a ∧ SqT K H a xs ∧ xs.length = ds.length ∧ ∀ i x, xs[i]? = some x → Dk K H x (ds.getD i .none) ∧ eltOk (ds.getD i .none) := by
  generalize e : PyData.tuple ds = d at h
  cases h with
  | dk h ok =>
    subst e
    obtain ⟨a, xs, rfl, hs, ha⟩ := dk_tup h
    refine ⟨a, xs, rfl, hs, dpAll_len ha, fun i x hx => ⟨.dp (dpAll_get ha hx), .inr ((okT_el ok).2 _ ?_).1⟩⟩
    have hi := (List.getElem?_eq_some_iff.mp hx).1
    rw [dpAll_len ha] at hi
    rw [List.getD_eq_getElem?_getD, List.getElem?_eq_getElem hi]
    exact List.getElem_mem hi
  | @one a A B v d hs hd ok hc =>
    cases e
    refine ⟨a, _, rfl, hs, by simp, fun i x hx => ?_⟩
    have hel : eltOk d := by
      obtain ⟨_, _, _, h4, h5⟩ := okData.parts ok
      rcases h5 with c | c
      · right
        unfold SeqAt.shaped
        rw [c, decide_eq_true (show d.depth ≤ 64 by omega)]
        rfl
      · exact .inl c
    have st : ∀ z ∈ A ++ B, Dk K H (.str z) (.str z) ∧ eltOk (.str z) := fun z hz => ⟨.dp (.str z), .inr (hc z hz)⟩
    rw [List.getD_eq_getElem?_getD]
    by_cases c : i < A.length
    · rw [List.getElem?_append_left (by rw [List.length_map]; exact c), List.getElem?_map, List.getElem?_eq_getElem c] at hx
      cases hx
      rw [List.getElem?_append_left (by rw [List.length_map]; exact c), List.getElem?_map, List.getElem?_eq_getElem c]
      exact st _ (List.mem_append.mpr (.inl (List.getElem_mem c)))
    · rw [List.getElem?_append_right (by rw [List.length_map]; omega), List.length_map] at hx ⊢
      cases e : i - A.length with
      | zero =>
        rw [e] at hx
        cases hx
        exact ⟨hd, hel⟩
      | succ j =>
        rw [e] at hx
        rw [List.getElem?_cons_succ, List.getElem?_map] at hx ⊢
        cases hb : B[j]? with
        | none => rw [hb] at hx; cases hx
        | some z =>
          rw [hb] at hx
          cases hx
          exact st _ (List.mem_append.mpr (.inr (List.mem_of_getElem? hb)))
def isTup : PyData → Int → Bool
  | .tuple ds, n => decide (V.int (ds.length : Nat) = V.int n)
  | _, _ => false
theorem isTup_len {d : PyData} {n : Nat} (h : isTup d (n : Nat) = true) : ∃ ds, d = .tuple ds ∧ ds.length = n := by
  cases d with
  | tuple ds => exact ⟨ds, rfl, by have h := V.int.inj (of_decide_eq_true h); omega⟩
  | _ => cases h
theorem len2 {ds : List PyData} (h : ds.length = 2) : ∃ a b, ds = [a, b] := by
  match ds, h with
  | [a, b], _ => exact ⟨a, b, rfl⟩
theorem len3 {ds : List PyData} (h : ds.length = 3) : ∃ a b c, ds = [a, b, c] := by
  match ds, h with
  | [a, b, c], _ => exact ⟨a, b, c, rfl⟩
theorem len4 {ds : List PyData} (h : ds.length = 4) : ∃ a b c e, ds = [a, b, c, e] := by
  match ds, h with
  | [a, b, c, e], _ => exact ⟨a, b, c, e, rfl⟩
theorem isTup_two {d : PyData} (h : isTup d 2 = true) : ∃ d1 d2, d = .tuple [d1, d2] := by
  obtain ⟨ds, rfl, e⟩ := isTup_len (n := 2) h
  obtain ⟨a, b, rfl⟩ := len2 e
  exact ⟨a, b, rfl⟩
theorem isTup_three {d : PyData} (h : isTup d 3 = true) : ∃ d1 d2 d3, d = .tuple [d1, d2, d3] := by
  obtain ⟨ds, rfl, e⟩ := isTup_len (n := 3) h
  obtain ⟨a, b, c, rfl⟩ := len3 e
  exact ⟨a, b, c, rfl⟩
/-- texts of rights -/
def lets : List Str := ["r", "rw", "rwx", "rx", "w", "wx", "x"]
def lets3 : List Str := ["r", "w", "x"]
def wT (d : PyData) : Bool := match d with
  | .tuple ds => decide (ds.length = 4) && (ds.map fun d => isW d 0 65535).all id
  | _ => false
/-- one access: a place, a right among these -/
def accOne (d : PyData) (ls : List Str) : Bool := match d with
  | .tuple [n, l] => isW n 0 255 && inS l ls
  | _ => false
def accB (d : PyData) : Bool := match d with
  | .tuple [a] => accOne a ["x"]
  | .tuple [a, b] => accOne a ["x"] && accOne b ["r", "w"]
  | _ => false
section
variable {P : Program} {w : World} {K : PySem.W.Frag} {mg : Str → Option Value} {base : Heap}
def spIsAddress (K : PySem.W.Frag) : Sp := fun vs H Q _ => ∃ (v : V) (d : PyData), vs = [v] ∧ Dk K H v d ∧ Q (.bl (isW d 0 255)) H
theorem ok_IsAddress {k : Nat} {f : Addr} {fd : FuncData}  (F : Fun K "is_address" "is_address" sIsAddress f fd) (gWi : Cal P w K mg base CX0 (k + 1) "is_within" ["value", "low", "high"] (spWithin K))   : FnOk P w K mg base CX0 (k + 2) f fd ["value"] (spIsAddress K) := by
  obtain ⟨fWi, fdWi, GWi, kWi, bWi, mWi⟩ := gWi
  refine F.ok scIsAddress (fun vs H Q E h => ?_) (fun cdv A outer s H vs Q E hr h => ?_)
  · obtain ⟨v, d, rfl, _⟩ := h
    rfl
  · obtain ⟨v, d, rfl, hd, q⟩ := h
    refine ⟨_, (pss_one (ps_ret (pe_call GWi hr (by rfl) mWi kWi bWi .nil pass0 (pa_cons (pv 0) (pa_cons pe_int (pa_cons pe_int pa_nil)))))), ?_⟩
    exact ⟨v, rfl, v, d, 0, 255, rfl, hd, q⟩
def spTup (K : PySem.W.Frag) : Sp := fun vs H Q _ => ∃ (v : V) (d : PyData) (n : Int), vs = [v, .int n] ∧ Tq K H v d ∧ Q (.bl (isTup d n)) H
theorem ok_IsTupleOf {k : Nat} {f : Addr} {fd : FuncData}  (F : Fun K "is_tuple_of" "is_tuple_of" sIsTupleOf f fd)   (flen : mg "len" = none) (ftuple : mg "tuple" = none) (ftype : mg "type" = none) : FnOk P w K mg base CX0 (k + 1) f fd ["value", "many"] (spTup K) := by
  refine F.ok scIsTupleOf (fun vs H Q E h => ?_) (fun cdv A outer s H vs Q E hr h => ?_)
  · obtain ⟨v, d, n, rfl, _⟩ := h
    rfl
  · obtain ⟨v, d, n, rfl, hd, q⟩ := h
    refine ⟨_, (pss_one (ps_ret (pe_and (pe_cmpR op_isTyB (pe_callTy call_type1 (by rfl) ftype (by decide +kernel) (pa_cons (pv 0) pa_nil)) (pe_bltn (v := .ty "tuple") (by rfl) ftuple (by decide +kernel) rfl) (nomark _)) (pe_one (pe_cmpR op_eq (pe_callB call_len_seq (by rfl) flen PySem.boot_len (pa_cons (pv 0) pa_nil)) (pv 1) (nomark _)))))), ?_⟩
    refine ⟨v, rfl, v, tyName d, rfl, hd.1, _, _, rfl, rfl, _, rfl, ?_⟩
    cases d with
    | none => exact iteF q
    | bool _ => exact iteF q
    | int _ => exact iteF q
    | str _ => exact iteF q
    | list _ => exact iteF q
    | dict _ => exact iteF q
    | tuple ds =>
      obtain ⟨a, xs, rfl, hs, hl⟩ := hd.2 ds rfl
      refine iteT ⟨.ref a, rfl, a, xs, rfl, .inr hs, .int n, rfl, rfl, ?_⟩
      rw [hl]
      exact q
def spWT (K : PySem.W.Frag) : Sp := fun vs H Q _ => ∃ (v : V) (d : PyData), vs = [v, .int 4] ∧ Dk K H v d ∧ ∀ H', Same H H' → Q (.bl (wT d)) H'
theorem ok_IsWordTuple {k : Nat} {f : Addr} {fd : FuncData}  (F : Fun K "is_word_tuple" "is_word_tuple" sIsWordTuple f fd) (gIw : Cal P w K mg base CX0 (k + 2) "is_word" ["value"] (spIsWord K)) (gTo : Cal P w K mg base CX0 (k + 2) "is_tuple_of" ["value", "many"] (spTup K))  (fall : mg "all" = none) : FnOk P w K mg base CX0 (k + 3) f fd ["value", "many"] (spWT K) := by
  obtain ⟨fIw, fdIw, GIw, kIw, bIw, mIw⟩ := gIw
  obtain ⟨fTo, fdTo, GTo, kTo, bTo, mTo⟩ := gTo
  refine F.ok scIsWordTuple (fun vs H Q E h => ?_) (fun cdv A outer s H vs Q E hr h => ?_)
  · obtain ⟨v, d, rfl, _⟩ := h
    rfl
  · obtain ⟨v, d, rfl, hd, q⟩ := h
    refine ⟨_, (pss_one (ps_ret (pe_and (pe_call GTo hr (by rfl) mTo kTo bTo .nil pass0 (pa_cons (pv 0) (pa_cons (pv 1) pa_nil))) (pe_one (pe_callB (cr_all rfl) (by rfl) fall (by decide +kernel) (pa_cons (pe_lc (own := [("word", 2)]) (g := (gName 2)) (tt := tYes) rfl scIsWordTuple.nd (pi_tup (pv 0)) (blkOk_by (N := ["value", "many", "word"]) (sc := defScope sIsWordTuple) (by decide +kernel)) (fun _ _ _ _ _ => (pg_name (i := 2) scIsWordTuple.nd rfl (.inl rfl))) (fun _ _ _ _ _ => pts_nil) (fun _ _ _ _ _ => (pe_call GIw hr (by rfl) mIw kIw bIw .nil pass0 (pa_cons (pv 2) pa_nil)))) pa_nil)))))), ?_⟩
    refine ⟨v, rfl, .int 4, rfl, v, d, 4, rfl, dk_tq hd, _, rfl, ?_⟩
    cases e : isTup d 4 with
    | false =>
      have q0 := q H (Same.refl H)
      have : wT d = false := by
        unfold wT
        split
        · rename_i ds
          have e' : decide (V.int (ds.length : Nat) = V.int 4) = false := e
          have n4 : ¬ ds.length = 4 := fun z => of_decide_eq_false e' (by rw [z]; rfl)
          rw [decide_eq_false n4, Bool.false_and]
        · rfl
      rw [this] at q0
      exact iteF q0
    | true =>
      obtain ⟨ds, rfl, hl⟩ := isTup_len (n := 4) e
      obtain ⟨a, xs, rfl, hs, ha⟩ := dk_tup hd
      have hxl := dpAll_len ha
      refine iteT ⟨.ref a, rfl, a, rfl, ⟨_, hs⟩, fun D nD => ?_⟩
      refine lc_tup (xs := xs) (fun i H' => Same H H' ∧ H' D = some (.lst (((ds.take i).map fun d => isW d 0 65535).map V.bl))) ⟨same_upd nD, upd_same⟩ (fun i H' _ hP => Same.seqT hP.1 hs) (fun i x H' hx hP => ?_) fun H2 hP => ?_
      · obtain ⟨sm, hD⟩ := hP
        have hi := (List.getElem?_eq_some_iff.mp hx).1
        have hi2 : i < ds.length := by omega
        have hdx := dpAll_get ha hx
        have et : ds.take (i + 1) = ds.take i ++ [ds.getD i .none] := by
          rw [List.take_add_one, List.getD_eq_getElem?_getD, List.getElem?_eq_getElem hi2]; rfl
        refine ⟨rfl, ?_⟩
        refine yesT ⟨x, rfl, x, ds.getD i .none, rfl, .dp (dp_same sm _ _ hdx), _, hD, small1000 (by rw [List.length_map, List.length_map, List.length_take]; omega), Same.updNew sm nD, ?_⟩
        rw [upd_same, et, List.map_append, List.map_append]
        rfl
      · obtain ⟨sm, hD⟩ := hP
        rw [hxl, List.take_length] at hD
        refine ⟨D, _, rfl, SqL.of hD, ?_⟩
        have q2 := q H2 sm
        have : wT (.tuple ds) = (ds.map fun d => isW d 0 65535).all id := by
          show (decide (ds.length = 4) && _) = _
          rw [decide_eq_true hl, Bool.true_and]
        rw [this] at q2
        exact q2
def spLetters (K : PySem.W.Frag) : Sp := fun vs H Q _ => ∃ (v : V) (d : PyData), vs = [v] ∧ Dk K H v d ∧ ∀ H', Same H H' → Q (.bl (inS d lets)) H'
theorem ok_IsLetters {k : Nat} {f : Addr} {fd : FuncData}  (F : Fun K "is_letters" "is_letters" sIsLetters f fd)   (fstr : mg "str" = none) (ftype : mg "type" = none) : FnOk P w K mg base CX0 (k + 1) f fd ["value"] (spLetters K) := by
  refine F.ok scIsLetters (fun vs H Q E h => ?_) (fun cdv A outer s H vs Q E hr h => ?_)
  · obtain ⟨v, d, rfl, _⟩ := h
    rfl
  · obtain ⟨v, d, rfl, hd, q⟩ := h
    refine ⟨_, (pss_one (ps_ret (pe_and (pe_cmpR op_isTyB (pe_callTy call_type1 (by rfl) ftype (by decide +kernel) (pa_cons (pv 0) pa_nil)) (pe_bltn (v := .ty "str") (by rfl) fstr (by decide +kernel) rfl) (nomark _)) (pe_one (pe_cmpR op_in_seq (pv 0) (pe_tup (pa_cons pe_str (pa_cons pe_str (pa_cons pe_str (pa_cons pe_str (pa_cons pe_str (pa_cons pe_str (pa_cons pe_str pa_nil)))))))) (by rfl)))))), ?_⟩
    refine ⟨v, rfl, v, tyName d, rfl, hd.ty, _, _, rfl, rfl, _, rfl, ?_⟩
    have q0 := q H (Same.refl H)
    cases d with
    | none => exact iteF q0
    | bool _ => exact iteF q0
    | int _ => exact iteF q0
    | list _ => exact iteF q0
    | tuple _ => exact iteF q0
    | dict _ => exact iteF q0
    | str z =>
      have ev : v = .str z := by
        cases hd with
        | dp h => cases h; rfl
      subst ev
      refine iteT ⟨.str z, rfl, by show 7 ≤ sizeLine; decide, fun t nt => ⟨t, lets.map V.str, rfl, .inr (SqT.of upd_same), rfl, flat_strs lets, ?_⟩⟩
      rw [inV_strs]
      exact q _ (same_upd nt)
def spAcc (K : PySem.W.Frag) : Sp := fun vs H Q _ => ∃ (v : V) (d : PyData) (t : Addr) (ls : List Str), vs = [v, .ref t] ∧ Dk K H v d ∧ (∀ ds, d = .tuple ds → ∀ e ∈ ds, SeqAt.shaped e = true) ∧ SqT K H t (ls.map V.str) ∧ PyData.canLayAll0 (ls.map .str) = true ∧ Q (.bl (accOne d ls)) H
theorem ok_IsAccess {k : Nat} {f : Addr} {fd : FuncData}  (F : Fun K "_is_access" "_is_access" sIsAccess f fd) (gTo : Cal P w K mg base CX0 (k + 2) "is_tuple_of" ["value", "many"] (spTup K)) (gIa : Cal P w K mg base CX0 (k + 2) "is_address" ["value"] (spIsAddress K))   : FnOk P w K mg base CX0 (k + 3) f fd ["value", "letters"] (spAcc K) := by
  obtain ⟨fTo, fdTo, GTo, kTo, bTo, mTo⟩ := gTo
  obtain ⟨fIa, fdIa, GIa, kIa, bIa, mIa⟩ := gIa
  refine F.ok scIsAccess (fun vs H Q E h => ?_) (fun cdv A outer s H vs Q E hr h => ?_)
  · obtain ⟨v, d, t, ls, rfl, _⟩ := h
    rfl
  · obtain ⟨v, d, t, ls, rfl, hd, hsh, ht, hc, q⟩ := h
    refine ⟨_, (pss_one (ps_ret (pe_and (pe_call GTo hr (by rfl) mTo kTo bTo .nil pass0 (pa_cons (pv 0) (pa_cons pe_int pa_nil))) (pe_and (pe_call GIa hr (by rfl) mIa kIa bIa .nil pass0 (pa_cons (pe_ix ix_tup (pv 0) pe_int (fun _ _ => rfl)) pa_nil)) (pe_one (pe_cmpR (op_inDT hr.u65) (pe_ix ix_tup (pv 0) pe_int (fun _ _ => rfl)) (pv 1) (by rfl))))))), ?_⟩
    refine ⟨v, rfl, v, d, 2, rfl, dk_tq hd, _, rfl, ?_⟩
    cases e : isTup d 2 with
    | false =>
      have : accOne d ls = false := by
        unfold accOne
        split
        · cases e
        · rfl
      rw [this] at q
      exact iteF q
    | true =>
      obtain ⟨d1, d2, rfl⟩ := isTup_two e
      obtain ⟨a, xs, rfl, hs, ha⟩ := dk_tup hd
      obtain ⟨x1, x2, rfl, g1, g2⟩ := dpAll_two ha
      have q : Q (.bl (isW d1 0 255 && inS d2 ls)) H := q
      refine iteT ⟨.ref a, rfl, a, _, 0, x1, rfl, rfl, hs, at0, x1, d1, rfl, .dp g1, _, rfl, ?_⟩
      cases e1 : isW d1 0 255 with
      | false =>
        rw [e1] at q
        exact iteF q
      | true =>
        rw [e1] at q
        exact iteT ⟨.ref a, rfl, a, _, 1, x2, rfl, rfl, hs, at1, .ref t, rfl, d2, ls, t, g2, rfl, ht, hsh _ rfl d2 (by simp), hc, q⟩
def spAccs (K : PySem.W.Frag) : Sp := fun vs H Q _ => ∃ (v : V) (d : PyData), vs = [v] ∧ Dk K H v d ∧ okData d = true ∧ ∀ H', Same H H' → Q (.bl (accB d)) H'
theorem ok_IsAccesses {k : Nat} {f : Addr} {fd : FuncData}  (F : Fun K "_is_accesses" "_is_accesses" sIsAccesses f fd) (gAa : Cal P w K mg base CX0 (k + 3) "_is_access" ["value", "letters"] (spAcc K))  (flen : mg "len" = none) (ftuple : mg "tuple" = none) (ftype : mg "type" = none) : FnOk P w K mg base CX0 (k + 4) f fd ["value"] (spAccs K) := by
  obtain ⟨fAa, fdAa, GAa, kAa, bAa, mAa⟩ := gAa
  refine F.ok scIsAccesses (fun vs H Q E h => ?_) (fun cdv A outer s H vs Q E hr h => ?_)
  · obtain ⟨v, d, rfl, _⟩ := h
    rfl
  · obtain ⟨v, d, rfl, hd, ok, q⟩ := h
    refine ⟨_, (pss_cons (ps_if (PW.pt (pw_or (pt_cmpR op_notTyB (pe_callTy call_type1 (by rfl) ftype (by decide +kernel) (pa_cons (pv 0) pa_nil)) (pe_bltn (v := .ty "tuple") (by rfl) ftuple (by decide +kernel) rfl) (nomark _)) (pw_or (pt_not (pt_chain op_le op_le pe_int (pe_callB call_len_seq (by rfl) flen PySem.boot_len (pa_cons (pv 0) pa_nil)) pe_int)) (pw_or1 (pt_not (pt_val (pe_call GAa hr (by rfl) mAa kAa bAa .nil pass0 (pa_cons (pe_ix ix_tup (pv 0) pe_int (fun _ _ => rfl)) (pa_cons (pe_tup (pa_cons pe_str pa_nil)) pa_nil))))))))) (pss_one (ps_ret pe_bl)) pss_nil) (pss_one (ps_ret (pe_or (pe_cmpR op_eq (pe_callB call_len_seq (by rfl) flen PySem.boot_len (pa_cons (pv 0) pa_nil)) pe_int (nomark _)) (pe_one (pe_call GAa hr (by rfl) mAa kAa bAa .nil pass0 (pa_cons (pe_ix ix_tup (pv 0) pe_int (fun _ _ => rfl)) (pa_cons (pe_tup (pa_cons pe_str (pa_cons pe_str pa_nil))) pa_nil)))))))), ?_⟩
    refine ⟨v, rfl, v, tyName d, rfl, hd.ty, _, _, rfl, rfl, _, rfl, ?_⟩
    have q0 := q H (Same.refl H)
    cases d with
    | none => exact iteT q0
    | bool _ => exact iteT q0
    | int _ => exact iteT q0
    | str _ => exact iteT q0
    | list _ => exact iteT q0
    | dict _ => exact iteT q0
    | tuple ds =>
      obtain ⟨a, xs, rfl, hs, ha⟩ := dk_tup hd
      have hxl := dpAll_len ha
      have okel2 := okT_two ok
      refine iteF ⟨.ref a, rfl, a, xs, rfl, .inr hs, 1, _, rfl, rfl, _, rfl, ?_⟩
      rw [hxl]
      match ds, ha, okel2, q, q0, hxl with
      | [], ha, okel2, q, q0, hxl => exact iteE (by decide) ⟨_, rfl, iteT q0⟩
      | d1 :: d2 :: d3 :: r, ha, okel2, q, q0, hxl =>
        have : accB (.tuple (d1 :: d2 :: d3 :: r)) = false := rfl
        rw [this] at q0
        refine iteD (by simp only [List.length_cons]; omega) ⟨_, 2, rfl, rfl, _, rfl, ?_⟩
        rw [decide_eq_false (show ¬ (((d1 :: d2 :: d3 :: r).length : Nat) : Int) ≤ 2 by simp only [List.length_cons]; omega)]
        exact iteT q0
      | [d1], ha, okel2, q, q0, hxl =>
        obtain ⟨x1, rfl, g1⟩ := dpAll_one ha
        refine iteD (show (1 : Int) ≤ 1 by decide) ⟨_, 2, rfl, rfl, _, rfl, iteF ?_⟩
        have tup_ : ∀ ds, d1 = .tuple ds → ∀ e ∈ ds, SeqAt.shaped e = true := fun ds e => okel2 d1 (by simp) ds e
        refine ⟨.ref a, rfl, a, _, 0, x1, rfl, rfl, hs, at0, by show 1 ≤ sizeLine; decide, fun t nt => ?_⟩
        have s1 := same_upd (o := .tup [V.str "x"]) nt
        refine ⟨x1, d1, t, ["x"], rfl, .dp (dp_same s1 _ _ g1), tup_, SqT.of upd_same, by decide +kernel, _, rfl, ?_⟩
        have q1 := q _ s1
        have e1 : accB (.tuple [d1]) = accOne d1 ["x"] := rfl
        rw [e1] at q1
        cases c : accOne d1 ["x"] with
        | false =>
          rw [c] at q1
          exact iteT q1
        | true =>
          rw [c] at q1
          refine iteF ?_
          refine ⟨.ref a, rfl, a, _, rfl, .inr (Same.seqT s1 hs), rfl, _, rfl, ?_⟩
          exact iteT q1
      | [d1, d2], ha, okel2, q, q0, hxl =>
        obtain ⟨x1, x2, rfl, g1, g2⟩ := dpAll_two ha
        refine iteD (show (1 : Int) ≤ 2 by decide) ⟨_, 2, rfl, rfl, _, rfl, iteF ?_⟩
        have tup_ : ∀ ds, d1 = .tuple ds → ∀ e ∈ ds, SeqAt.shaped e = true := fun ds e => okel2 d1 (by simp) ds e
        have tup2 : ∀ ds, d2 = .tuple ds → ∀ e ∈ ds, SeqAt.shaped e = true := fun ds e => okel2 d2 (by simp) ds e
        refine ⟨.ref a, rfl, a, _, 0, x1, rfl, rfl, hs, at0, by show 1 ≤ sizeLine; decide, fun t nt => ?_⟩
        have s1 := same_upd (o := .tup [V.str "x"]) nt
        refine ⟨x1, d1, t, ["x"], rfl, .dp (dp_same s1 _ _ g1), tup_, SqT.of upd_same, by decide +kernel, _, rfl, ?_⟩
        have q1 := q _ s1
        have e1 : accB (.tuple [d1, d2]) = (accOne d1 ["x"] && accOne d2 ["r", "w"]) := rfl
        rw [e1] at q1
        cases c : accOne d1 ["x"] with
        | false =>
          rw [c] at q1
          exact iteT q1
        | true =>
          refine iteF ?_
          refine ⟨.ref a, rfl, a, _, rfl, .inr (Same.seqT s1 hs), rfl, _, rfl, ?_⟩
          refine iteF ⟨.ref a, rfl, a, _, 1, x2, rfl, rfl, Same.seqT s1 hs, at1, by show 2 ≤ sizeLine; decide, fun t2 nt2 => ?_⟩
          have s2 := s1.trans (same_upd (o := .tup [V.str "r", .str "w"]) nt2)
          refine ⟨x2, d2, t2, ["r", "w"], rfl, .dp (dp_same s2 _ _ g2), tup2, SqT.of upd_same, by decide +kernel, ?_⟩
          have q2 := q _ s2
          rw [e1, c] at q2
          exact q2
end
end K26

set_option maxRecDepth 100000
set_option maxHeartbeats 4000000
/-! k26: what is a fault. -/
namespace K26
open PySem PySem.Spec PyProof.Rows L2 LamX VG TL
theorem scIsFault : FnScope ["value", "kind", "number"] ["value"] (defScope sIsFault) := ⟨rfl, rfl, rfl, by decide +kernel, rfl, by decide +kernel, by decide +kernel⟩
theorem scCheckFault : FnScope ["value"] ["value"] (defScope sCheckFault) := ⟨rfl, rfl, rfl, by decide +kernel, rfl, by decide +kernel, by decide +kernel⟩
theorem scComes : FnScope ["fault", "place"] ["fault", "place"] (defScope sComes) := ⟨rfl, rfl, rfl, by decide +kernel, rfl, by decide +kernel, by decide +kernel⟩
theorem scFaultWith : FnScope ["code", "number", "kind"] ["code", "number"] (defScope sFaultWith) := ⟨rfl, rfl, rfl, by decide +kernel, rfl, by decide +kernel, by decide +kernel⟩
def rowNone (d : PyData) : Bool := match d with
  | .int x => (pRow x).isNone
  | _ => false
def faultB : PyData → Bool
  | .tuple [k, l, n] => isS k "page" && (inS l lets3 && isW n 0 255)
  | .tuple [k, n] => if isS k "beyond" = true then isW n 256 65535 else if isS k "row" = true then isW n 0 65535 && rowNone n else inS k ["nought", "trap"] && isW n 0 255
  | _ => false
inductive Fl where
  | page (l : Str) (n : Int)
  | two (k : Str) (n : Int)
def Fl.vs : Fl → List V
  | .page l n => [.str "page", .str l, .int n]
  | .two k n => [.str k, .int n]
def Fl.ds : Fl → List PyData
  | .page l n => [.str "page", .str l, .int n]
  | .two k n => [.str k, .int n]
def kindsF : List Str := ["beyond", "row", "nought", "trap"]
def Fl.ok : Fl → Prop
  | .page l n => l ∈ lets3 ∧ 0 ≤ n ∧ n ≤ 255
  | .two k n => k ∈ kindsF ∧ 0 ≤ n ∧ n ≤ 65535
def comes (f : Fl) (p : Int) : Bool := match f with
  | .page l n => if l = "x" then decide (V.int n = V.int p) else true
  | .two k n => if k = "nought" then decide (V.int n = V.int p) else true
theorem comes_page {l : Str} {n p : Int} : comes (.page l n) p = if l = "x" then decide (V.int n = V.int p) else true := rfl
theorem comes_two {k : Str} {n p : Int} : comes (.two k n) p = if k = "nought" then decide (V.int n = V.int p) else true := rfl
theorem isS_str {d : PyData} {z : Str} (h : isS d z = true) : d = .str z := by
  unfold isS at h
  split at h
  · rw [of_decide_eq_true h]
  · cases h
theorem inS_str {d : PyData} {ls : List Str} (h : inS d ls = true) : ∃ z, d = .str z ∧ z ∈ ls := by
  unfold inS at h
  split at h
  · exact ⟨_, rfl, of_decide_eq_true h⟩
  · cases h
theorem faultB_shape {d : PyData} (h : faultB d = true) : ∃ f : Fl, d = .tuple f.ds ∧ f.ok := by
  unfold faultB at h
  split at h
  · rename_i k l n
    simp only [Bool.and_eq_true] at h
    obtain ⟨h1, h2, h3⟩ := h
    obtain rfl := isS_str h1
    obtain ⟨z, rfl, hz⟩ := inS_str h2
    obtain ⟨i, rfl, h4, h5⟩ := isW_int h3
    exact ⟨.page z i, rfl, hz, h4, h5⟩
  · rename_i k n
    split at h
    · rename_i h1
      obtain rfl := isS_str h1
      obtain ⟨i, rfl, h4, h5⟩ := isW_int h
      exact ⟨.two "beyond" i, rfl, by decide, by omega, h5⟩
    · split at h
      · rename_i h1
        rw [Bool.and_eq_true] at h
        obtain rfl := isS_str h1
        obtain ⟨i, rfl, h4, h5⟩ := isW_int h.1
        exact ⟨.two "row" i, rfl, by decide, h4, h5⟩
      · rw [Bool.and_eq_true] at h
        obtain ⟨z, rfl, hz⟩ := inS_str h.1
        obtain ⟨i, rfl, h4, h5⟩ := isW_int h.2
        refine ⟨.two z i, rfl, ?_, h4, by omega⟩
        simp only [List.mem_cons, List.not_mem_nil, or_false] at hz
        rcases hz with rfl | rfl <;> decide
  · cases h
theorem fl_vals {K : PySem.W.Frag} {H : Hp} {f : Fl} {xs : List V} (h : DpAll K H xs f.ds) : xs = f.vs := by
  cases f with
  | page l n =>
    obtain ⟨_, _, _, rfl, h1, h2, h3⟩ := dpAll_three h
    cases h1; cases h2; cases h3; rfl
  | two k n =>
    obtain ⟨_, _, rfl, h1, h2⟩ := dpAll_two h
    cases h1; cases h2; rfl
theorem fl_data {K : PySem.W.Frag} {H : Hp} {f : Fl} : DpAll K H f.vs f.ds := by
  cases f with
  | page l n => exact .cons (.str _) (.cons (.str _) (.cons (.int _) .nil))
  | two k n => exact .cons (.str _) (.cons (.int _) .nil)
theorem fault_at {K : PySem.W.Frag} {H : Hp} {v : V} {d : PyData} (h : faultB d = true) (hd : Dk K H v d) : ∃ (f : Fl) (a : Addr), d = .tuple f.ds ∧ v = .ref a ∧ SqT K H a f.vs ∧ f.ok := by
  obtain ⟨f, rfl, ok⟩ := faultB_shape h
  obtain ⟨a, xs, rfl, hs, ha⟩ := dk_tup hd
  rw [fl_vals ha] at hs
  exact ⟨f, a, rfl, rfl, hs, ok⟩
/-- its parts can be compared -/
def PartsSh (d : PyData) : Prop := ∀ ds, d = .tuple ds → ∀ e ∈ ds, SeqAt.shaped e = true
theorem partsSh_ok {d : PyData} (h : okData d = true) : PartsSh d := fun ds e => by
  subst e
  exact fun x hx => ((okT_el h).2 x hx).1
theorem sh_page : SeqAt.shaped (.str "page") = true := shaped_lit "page"
theorem shaped_mix {z : Str} {n : Int} (h : SeqAt.shaped (.str z) = true) : SeqAt.shaped (.tuple [.str z, .int n]) = true := by
  unfold SeqAt.shaped at h ⊢
  rw [Bool.and_eq_true] at h ⊢
  refine ⟨?_, ?_⟩
  · simp [PyData.canLay0, PyData.canLayAll0] at h ⊢
    exact h.1
  · simp [PyData.depth, PyData.depthAll]
theorem eqv_two {a b c d : Str} : PyData.eqv (.tuple [.str a, .str b]) (.tuple [.str c, .str d]) = (decide (a = c) && decide (b = d)) := by
  simp [PyData.eqv, PyData.eqvAll, Bool.beq_eq_decide_eq]
theorem eqv_mix {a c d : Str} {n : Int} : PyData.eqv (.tuple [.str a, .int n]) (.tuple [.str c, .str d]) = false := by
  simp [PyData.eqv, PyData.eqvAll]
def withF (c n : Int) : Option Fl := if c = 1 then some (.page "r" n) else if c = 2 then some (.page "w" n) else if c = 3 then some (.page "x" n) else if c = 4 then some (.two "beyond" n) else if c = 5 then some (.two "row" n) else if c = 6 then some (.two "nought" n) else if c = 7 then some (.two "trap" n) else none
def codes : List (Str × Int) := [("beyond", 4), ("row", 5), ("nought", 6), ("trap", 7)]
structure ShC (K : PySem.W.Frag) (w : World) (d : Addr) : Prop where
  keys : KKeys K w d kindsF
  get : ∀ z n, (z, n) ∈ codes → KDct K w d z (.int n)
section
variable {P : Program} {w : World} {K : PySem.W.Frag} {mg : Str → Option Value} {base : Heap}
def spIsFault (K : PySem.W.Frag) : Sp := fun vs H Q _ => ∃ (v : V) (d : PyData), vs = [v] ∧ Dk K H v d ∧ PartsSh d ∧ ∀ H', Same H H' → Q (.bl (faultB d)) H'
theorem ok_IsFault {k : Nat} {f : Addr} {fd : FuncData} {CW:Addr} (F : Fun K "is_fault" "is_fault" sIsFault f fd) (gTo : Cal P w K mg base CX0 (k + 3) "is_tuple_of" ["value", "many"] (spTup K)) (gIa : Cal P w K mg base CX0 (k + 3) "is_address" ["value"] (spIsAddress K)) (gWi : Cal P w K mg base CX0 (k + 3) "is_within" ["value", "low", "high"] (spWithin K)) (gIw : Cal P w K mg base CX0 (k + 3) "is_word" ["value"] (spIsWord K)) (gRo : Cal P w K mg base (L2.CX P w) (k + 3) "row_of" ["word"] (spRowOf K CW)) {aL : Addr} (gLETTERS : mg "LETTERS" = some (.ref aL)) (tL : KT K aL (lets3.map V.str)) (pL : ∃ o, K.lookup aL = some o ∧ o.cls = .type "tuple" ∧ o.dict = none)  : FnOk P w K mg base CX0 (k + 4) f fd ["value"] (spIsFault K) := by
  obtain ⟨fTo, fdTo, GTo, kTo, bTo, mTo⟩ := gTo
  obtain ⟨fIa, fdIa, GIa, kIa, bIa, mIa⟩ := gIa
  obtain ⟨fWi, fdWi, GWi, kWi, bWi, mWi⟩ := gWi
  obtain ⟨fIw, fdIw, GIw, kIw, bIw, mIw⟩ := gIw
  obtain ⟨fRo, fdRo, GRo, kRo, bRo, mRo⟩ := gRo
  refine F.ok scIsFault (fun vs H Q E h => ?_) (fun cdv A outer s H vs Q E hr h => ?_)
  · obtain ⟨v, d, rfl, _⟩ := h
    rfl
  · obtain ⟨v, d, rfl, hd, hsh, q⟩ := h
    refine ⟨_, (pss_cons (ps_if (pt_val (pe_call GTo hr (by rfl) mTo kTo bTo .nil pass0 (pa_cons (pv 0) (pa_cons pe_int pa_nil)))) (pss_one (ps_ret (pe_and (pe_cmpR (op_eqD hr.units) (pe_ix ix_tup (pv 0) pe_int (fun _ _ => rfl)) pe_str (nomark _)) (pe_and (pe_cmpR (op_inDT hr.u65) (pe_ix ix_tup (pv 0) pe_int (fun _ _ => rfl)) (pgr (by rfl) gLETTERS) (by rfl)) (pe_one (pe_call GIa hr (by rfl) mIa kIa bIa .nil pass0 (pa_cons (pe_ix ix_tup (pv 0) pe_int (fun _ _ => rfl)) pa_nil))))))) pss_nil) (pss_cons (ps_if (pt_not (pt_val (pe_call GTo hr (by rfl) mTo kTo bTo .nil pass0 (pa_cons (pv 0) (pa_cons pe_int pa_nil))))) (pss_one (ps_ret pe_bl)) pss_nil) (pss_cons (ps_asg (pv 0) (pg_tup (by rfl) (pgs_cons (pg_name (i := 1) scIsFault.nd rfl (.inl rfl)) (pgs_cons (pg_name (i := 2) scIsFault.nd rfl (.inl rfl)) pgs_nil)))) (pss_cons (ps_if (pt_cmpR (op_eqD hr.units) (pv 1) pe_str (nomark _)) (pss_one (ps_ret (pe_call GWi hr (by rfl) mWi kWi bWi .nil pass0 (pa_cons (pv 2) (pa_cons pe_int (pa_cons pe_int pa_nil)))))) pss_nil) (pss_cons (ps_if (pt_cmpR (op_eqD hr.units) (pv 1) pe_str (nomark _)) (pss_one (ps_ret (pe_and (pe_call GIw hr (by rfl) mIw kIw bIw .nil pass0 (pa_cons (pv 2) pa_nil)) (pe_one (pe_cmpR op_isN (pe_call GRo hr (by rfl) mRo kRo bRo .nil passX (pa_cons (pv 2) pa_nil)) pe_non (nomark _)))))) pss_nil) (pss_one (ps_ret (pe_and (pe_cmpR (op_inDT hr.u65) (pv 1) (pe_tup (pa_cons pe_str (pa_cons pe_str pa_nil))) (by rfl)) (pe_one (pe_call GIa hr (by rfl) mIa kIa bIa .nil pass0 (pa_cons (pv 2) pa_nil))))))))))), ?_⟩
    refine ⟨v, rfl, v, d, 3, rfl, dk_tq hd, _, rfl, ?_⟩
    have q0 := q H (Same.refl H)
    cases e : isTup d 3 with
    | true =>
      obtain ⟨d1, d2, d3, rfl⟩ := isTup_three e
      obtain ⟨a, xs, rfl, hs, ha⟩ := dk_tup hd
      obtain ⟨x1, x2, x3, rfl, g1, g2, g3⟩ := dpAll_three ha
      have q0 : Q (.bl (isS d1 "page" && (inS d2 lets3 && isW d3 0 255))) H := q0
      refine iteT ⟨.ref a, rfl, a, _, 0, x1, rfl, rfl, hs, at0, d1, .str "page", g1, .str _, hsh _ rfl d1 (by simp), sh_page, _, rfl, ?_⟩
      rw [eqv_isS]
      cases e1 : isS d1 "page" with
      | false =>
        rw [e1] at q0
        exact iteF q0
      | true =>
        rw [e1] at q0
        refine iteT ⟨.ref a, rfl, a, _, 1, x2, rfl, rfl, hs, at1, d2, lets3, aL, g2, rfl, tL.sq, hsh _ rfl d2 (by simp), by decide +kernel, _, rfl, ?_⟩
        cases e2 : inS d2 lets3 with
        | false =>
          rw [e2] at q0
          exact iteF q0
        | true =>
          rw [e2] at q0
          exact iteT ⟨.ref a, rfl, a, _, 2, x3, rfl, rfl, hs, at2, x3, d3, rfl, .dp g3, q0⟩
    | false =>
      refine iteF ⟨v, rfl, v, d, 2, rfl, dk_tq hd, _, rfl, ?_⟩
      cases e2 : isTup d 2 with
      | false =>
        have : faultB d = false := by
          unfold faultB
          split
          · cases e
          · cases e2
          · rfl
        rw [this] at q0
        exact iteT q0
      | true =>
        obtain ⟨d1, d2, rfl⟩ := isTup_two e2
        obtain ⟨a, xs, rfl, hs, ha⟩ := dk_tup hd
        obtain ⟨x1, x2, rfl, g1, g2⟩ := dpAll_two ha
        have fe : faultB (.tuple [d1, d2]) = if isS d1 "beyond" = true then isW d2 256 65535 else if isS d1 "row" = true then isW d2 0 65535 && rowNone d2 else inS d1 ["nought", "trap"] && isW d2 0 255 := rfl
        rw [fe] at q q0
        refine iteF ⟨.ref a, rfl, a, _, rfl, hs, rfl, _, _, rfl, _, _, rfl, rfl, ?_⟩
        have sh1 := hsh _ rfl d1 (by simp)
        refine ⟨x1, rfl, d1, .str "beyond", g1, .str _, sh1, shaped_lit "beyond", _, rfl, ?_⟩
        rw [eqv_isS]
        cases c1 : isS d1 "beyond" with
        | true =>
          rw [c1] at q0
          exact iteT ⟨x2, rfl, x2, d2, 256, 65535, rfl, .dp g2, q0⟩
        | false =>
          rw [c1] at q q0
          refine iteF ⟨x1, rfl, d1, .str "row", g1, .str _, sh1, shaped_lit "row", _, rfl, ?_⟩
          rw [eqv_isS]
          cases c2 : isS d1 "row" with
          | true =>
            rw [c2] at q q0
            refine iteT ⟨x2, rfl, x2, d2, rfl, .dp g2, _, rfl, ?_⟩
            cases c3 : isW d2 0 65535 with
            | false =>
              rw [c3] at q0
              exact iteF q0
            | true =>
              rw [c3] at q
              obtain ⟨i, rfl, i0, i1⟩ := isW_int c3
              cases g2
              refine iteT ⟨.int i, rfl, .int i, .int i, rfl, .dp (.int i), fun x ex x0 x1 H' s' => ?_, fun z => (by rw [c3] at z; cases z)⟩
              cases ex
              have q1 := q H' s'
              have q1 : Q (.bl (pRow i).isNone) H' := q1
              constructor
              · intro en
                rw [en] at q1
                exact ⟨rfl, q1⟩
              · intro nm ps b en hb hn
                rw [en] at q1
                exact ⟨rfl, q1⟩
          | false =>
            rw [c2] at q q0
            refine iteF ⟨x1, rfl, by show 2 ≤ sizeLine; decide, fun t nt => ?_⟩
            have s1 := same_upd (o := .tup [V.str "nought", .str "trap"]) nt
            have q1 := q _ s1
            refine ⟨d1, ["nought", "trap"], t, dp_same s1 _ _ g1, rfl, SqT.of upd_same, sh1, by decide +kernel, _, rfl, ?_⟩
            cases c3 : inS d1 ["nought", "trap"] with
            | false =>
              rw [c3] at q1
              exact iteF q1
            | true =>
              rw [c3] at q1
              exact iteT ⟨x2, rfl, x2, d2, rfl, .dp (dp_same s1 _ _ g2), q1⟩
def spCheck (K : PySem.W.Frag) (CF : Addr) : Sp := fun vs H Q E => ∃ (v : V) (d : PyData), vs = [v] ∧ Dk K H v d ∧ PartsSh d ∧ (faultB d = false → ∀ H' dd, Same H H' → H' dd = none → E (.ref CF) (some dd) (upd H' dd (.xd [("value", v)]))) ∧ (faultB d = true → ∀ H', Same H H' → Q .non H')
theorem ok_CheckFault {k : Nat} {f : Addr} {fd : FuncData} {CF:Addr} (F : Fun K "_check_fault" "_check_fault" sCheckFault f fd) (gIf : Cal P w K mg base CX0 (k + 4) "is_fault" ["value"] (spIsFault K)) (EF : ErrC K CF JF) (IF : Fun K "__init__" "CoreError.__init__" sInit JF fdIF) (bIF : L2.Binds K fdIF ["self", "value"] []) (gBadFault : mg "BadFault" = some (.ref CF))  : FnOk P w K mg base (L2.CX P w) (k + 5) f fd ["value"] (spCheck K CF) := by
  obtain ⟨fIf, fdIf, GIf, kIf, bIf, mIf⟩ := gIf
  refine F.okX scCheckFault (fun vs H Q E h => ?_) (fun cdv A outer s H vs Q E hr h => ?_)
  · obtain ⟨v, d, rfl, _⟩ := h
    rfl
  · obtain ⟨v, d, rfl, hd, hsh, qe, q⟩ := h
    refine ⟨_, (pss_cons (ps_if (pt_not (pt_val (pe_call GIf hr (by rfl) mIf kIf bIf .nil pass0 (pa_cons (pv 0) pa_nil)))) (pss_one (ps_err rfl EF IF bIF (k := k+2) hr (takes_of rfl rfl rfl rfl) (by rfl) gBadFault (pv 0))) pss_nil) (PSs.nox pss_nil)), ?_⟩
    refine ⟨v, rfl, v, d, rfl, hd, hsh, fun H1 s1 => ⟨_, rfl, ?_⟩⟩
    cases e : faultB d with
    | false => exact iteT ⟨v, rfl, need_ok EF fun dd n => qe e H1 dd s1 n⟩
    | true => exact iteF (q e H1 s1)
def spComes (K : PySem.W.Frag) : Sp := fun vs H Q _ => ∃ (a : Addr) (f : Fl) (p : Int), vs = [.ref a, .int p] ∧ SqT K H a f.vs ∧ f.ok ∧ ∀ H', Same H H' → Q (.bl (comes f p)) H'
theorem ok_Comes {k : Nat} {f : Addr} {fd : FuncData}  (F : Fun K "_comes_at" "_comes_at" sComes f fd)    : FnOk P w K mg base CX0 (k + 1) f fd ["fault", "place"] (spComes K) := by
  refine F.ok scComes (fun vs H Q E h => ?_) (fun cdv A outer s H vs Q E hr h => ?_)
  · obtain ⟨a, f, p, rfl, _⟩ := h
    rfl
  · obtain ⟨a, f, p, rfl, hs, ok, q⟩ := h
    refine ⟨_, (pss_cons (ps_if (PW.pt (pw_or (pt_cmpR op_eq (pe_ix ix_tup (pv 0) pe_int (fun _ _ => rfl)) pe_str (nomark _)) (pw_or1 (pt_cmpR (op_eqD hr.units) (pe_slice sl_tupA (pv 0) po_none (po_some pe_int)) (pe_tup (pa_cons pe_str (pa_cons pe_str pa_nil))) (nomark _))))) (pss_one (ps_ret (pe_cmpR op_eq (pe_ix ix_tup (pv 0) (pe_un un_neg pe_int) (fun _ _ => rfl)) (pv 1) (nomark _)))) pss_nil) (pss_one (ps_ret pe_bl))), ?_⟩
    have q0 := q H (Same.refl H)
    cases f with
    | page l n =>
      refine ⟨.ref a, rfl, a, _, 0, .str "page", rfl, rfl, hs, at0, rfl, _, rfl, iteE (by decide) ?_⟩
      refine ⟨.ref a, rfl, 2, rfl, slice_to (j := 2) hs fun c H1 hc s1 => ?_⟩
      refine ⟨by show 2 ≤ sizeLine; decide, fun t nt => ?_⟩
      have s2 := same_upd (o := .tup [V.str "page", .str "x"]) nt
      have s3 := s1.trans s2
      have q3 := q _ s3
      have shl : SeqAt.shaped (.tuple [.str "page", .str l]) = true := by
        have hl := ok.1
        simp only [lets3, List.mem_cons, List.not_mem_nil, or_false] at hl
        rcases hl with rfl | rfl | rfl <;> decide +kernel
      refine ⟨.tuple [.str "page", .str l], .tuple [.str "page", .str "x"], .tup (Same.seqT s2 hc) (.cons (.str _) (.cons (.str _) .nil)), .tup (SqT.of upd_same) (.cons (.str _) (.cons (.str _) .nil)), shl, by decide +kernel, _, rfl, ?_⟩
      rw [eqv_two]
      rw [comes_page] at q3
      by_cases c : l = "x"
      · rw [if_pos c] at q3
        refine iteB (by rw [c]; decide) ⟨.ref a, rfl, 1, rfl, a, _, _, .int n, rfl, rfl, Same.seqT s3 hs, rfl, .int p, rfl, rfl, ?_⟩
        exact q3
      · rw [if_neg c] at q3
        refine iteC (by simp [c]) q3
    | two k n =>
      refine ⟨.ref a, rfl, a, _, 0, .str k, rfl, rfl, hs, at0, rfl, _, rfl, ?_⟩
      by_cases c : k = "nought"
      · rw [comes_two] at q0
        rw [if_pos c] at q0
        refine iteD (congrArg V.str c) ⟨.ref a, rfl, 1, rfl, a, _, _, .int n, rfl, rfl, hs, rfl, .int p, rfl, rfl, ?_⟩
        exact q0
      · refine iteE (fun z => c (V.str.inj z)) ?_
        refine ⟨.ref a, rfl, 2, rfl, slice_to (j := 2) hs fun c' H1 hc s1 => ?_⟩
        refine ⟨by show 2 ≤ sizeLine; decide, fun t nt => ?_⟩
        have s2 := same_upd (o := .tup [V.str "page", .str "x"]) nt
        have s3 := s1.trans s2
        have q3 := q _ s3
        have shl : SeqAt.shaped (.tuple [.str k, .int n]) = true := by
          have hl := ok.1
          simp only [kindsF, List.mem_cons, List.not_mem_nil, or_false] at hl
          rcases hl with rfl | rfl | rfl | rfl
          · exact shaped_mix (shaped_lit "beyond")
          · exact shaped_mix (shaped_lit "row")
          · exact shaped_mix (shaped_lit "nought")
          · exact shaped_mix (shaped_lit "trap")
        refine ⟨.tuple [.str k, .int n], .tuple [.str "page", .str "x"], .tup (Same.seqT s2 hc) (.cons (.str _) (.cons (.int _) .nil)), .tup (SqT.of upd_same) (.cons (.str _) (.cons (.str _) .nil)), shl, by decide +kernel, _, rfl, ?_⟩
        rw [eqv_mix]
        rw [comes_two] at q3
        rw [if_neg c] at q3
        exact iteF q3
def spWith (K : PySem.W.Frag) : Sp := fun vs H Q _ => ∃ (c n : Int), vs = [.int c, .int n] ∧ ∀ H', Same H H' → (withF c n = none → Q .non H') ∧ ∀ f a, withF c n = some f → SqT K H' a f.vs → Q (.ref a) H'
theorem ok_FaultWith {k : Nat} {f : Addr} {fd : FuncData}  (F : Fun K "_fault_with" "_fault_with" sFaultWith f fd)  {aL : Addr} (gLETTERS : mg "LETTERS" = some (.ref aL)) (tL : KT K aL (lets3.map V.str)) (pL : ∃ o, K.lookup aL = some o ∧ o.cls = .type "tuple" ∧ o.dict = none) {aC : Addr} (gCODES : mg "CODES" = some (.ref aC)) (hC : ShC K w aC) (flen : mg "len" = none) : FnOk P w K mg base CX0 (k + 1) f fd ["code", "number"] (spWith K) := by
  refine F.ok scFaultWith (fun vs H Q E h => ?_) (fun cdv A outer s H vs Q E hr h => ?_)
  · obtain ⟨c, n, rfl, _⟩ := h
    rfl
  · obtain ⟨c, n, rfl, q⟩ := h
    refine ⟨_, (pss_cons (ps_if (pt_chain op_le op_le pe_int (pv 0) (pe_callB call_len_seq (by rfl) flen PySem.boot_len (pa_cons (pgr (by rfl) gLETTERS) pa_nil))) (pss_one (ps_ret (pe_tup (pa_cons pe_str (pa_cons (pe_ix ix_tup (pgr (by rfl) gLETTERS) (pe_op op_sub (pv 0) pe_int) (fun _ _ => rfl)) (pa_cons (pv 1) pa_nil)))))) pss_nil) (pss_cons (ps_for PassesOwn.never rfl (pi_keysW (pgr (by rfl) gCODES)) (pg_name (i := 2) scFaultWith.nd rfl (.inl rfl)) (pss_one (ps_if (pt_cmpR op_eq (pe_ix ix_kdict (pgr (by rfl) gCODES) (pv 2) (fun _ _ => rfl)) (pv 0) (nomark _)) (pss_one (ps_ret (pe_tup (pa_cons (pv 2) (pa_cons (pv 1) pa_nil))))) pss_nil))) (pss_one (ps_ret pe_non)))), ?_⟩
    refine ⟨.int c, rfl, 1, c, rfl, rfl, _, rfl, ?_⟩
    have q0 := q H (Same.refl H)
    by_cases no : 1 ≤ c ∧ c ≤ 3
    · obtain ⟨h1, h2⟩ := no
      refine iteD h1 ⟨aL, _, rfl, .inr tL.sq, c, _, rfl, rfl, _, rfl, ?_⟩
      rw [decide_eq_true (show c ≤ (((lets3.map V.str).length : Nat) : Int) from h2)]
      refine iteT ?_
      obtain ⟨z, ez, az⟩ : ∃ z, withF c n = some (.page z n) ∧ atI (lets3.map V.str) (c - 1) = some (.str z) := by
        rcases (show c = 1 ∨ c = 2 ∨ c = 3 by omega) with rfl | rfl | rfl
        · exact ⟨"r", rfl, rfl⟩
        · exact ⟨"w", rfl, rfl⟩
        · exact ⟨"x", rfl, rfl⟩
      refine ⟨.int c, rfl, c, 1, rfl, rfl, aL, _, _, .str z, rfl, rfl, tL.sq, az, .int n, rfl, by show 3 ≤ sizeLine; decide, fun t nt => ?_⟩
      exact (q _ (same_upd nt)).2 _ t ez (SqT.of upd_same)
    · by_cases h1 : 1 ≤ c
      all_goals first
        | refine iteE h1 ⟨_, rfl, iteF ?_⟩
        | (refine iteD h1 ⟨aL, _, rfl, .inr tL.sq, c, _, rfl, rfl, _, rfl, ?_⟩
           rw [decide_eq_false (show ¬ c ≤ (((lets3.map V.str).length : Nat) : Int) from fun z => no ⟨h1, z⟩)]
           refine iteF ?_)
      all_goals
        refine ⟨aC, kindsF, rfl, hC.keys, for_keysW (fun i σ H' => H' = H ∧ (∃ y, σ = [some (.int c), some (.int n), y]) ∧ ∀ j : Nat, j < i → c ≠ 4 + (j : Int)) ⟨rfl, ⟨none, rfl⟩, fun j hj => (Nat.not_lt_zero j hj).elim⟩ (fun i z σ H' hz hP => ?_) fun σ H' hP => ?_⟩
        · obtain ⟨rfl, ⟨y, rfl⟩, hne⟩ := hP
          have hi : i < 4 := (List.getElem?_eq_some_iff.mp hz).1
          have hm : (z, 4 + (i : Int)) ∈ codes ∧ (c = 4 + (i : Int) → withF c n = some (.two z n)) := by
            rcases (show i = 0 ∨ i = 1 ∨ i = 2 ∨ i = 3 by omega) with rfl | rfl | rfl | rfl <;> (cases hz; refine ⟨by decide, fun e => ?_⟩; subst e; rfl)
          refine ⟨.str z, rfl, aC, z, .int (4 + (i : Int)), rfl, rfl, hC.get z _ hm.1, .int c, rfl, rfl, _, rfl, ?_⟩
          by_cases e : 4 + (i : Int) = c
          · refine iteD (congrArg V.int e) ⟨.str z, rfl, .int n, rfl, by show 2 ≤ sizeLine; decide, fun t nt => ?_⟩
            exact (q _ (same_upd nt)).2 _ t (hm.2 e.symm) (SqT.of upd_same)
          · refine iteE (fun x => e (V.int.inj x)) ⟨rfl, ⟨some (.str z), rfl⟩, fun j hj => ?_⟩
            by_cases ej : j = i
            · subst ej; exact fun x => e x.symm
            · exact hne j (by omega)
        · obtain ⟨rfl, ⟨y, rfl⟩, hne⟩ := hP
          refine (q _ (Same.refl _)).1 ?_
          have a0 := hne 0 (by decide)
          have a1 := hne 1 (by decide)
          have a2 := hne 2 (by decide)
          have a3 := hne 3 (by decide)
          unfold withF
          rw [if_neg (by omega), if_neg (by omega), if_neg (by omega), if_neg (by omega), if_neg (by omega), if_neg (by omega), if_neg (by omega)]
end
end K26

set_option maxRecDepth 100000
set_option maxHeartbeats 4000000
/-! k26: the program's own answers. -/
namespace K26
open PySem PySem.Spec PyProof.Rows L2 LamX VG TL
theorem scFirst : FnScope ["letters", "accesses", "value", "address", "letter"] ["letters", "accesses"] (defScope sFirst) := ⟨rfl, rfl, rfl, by decide +kernel, rfl, by decide +kernel, by decide +kernel⟩
theorem scWords : FnScope ["fault", "place", "code"] ["fault", "place"] (defScope sWords) := ⟨rfl, rfl, rfl, by decide +kernel, rfl, by decide +kernel, by decide +kernel⟩
theorem scFaultOf : FnScope ["words", "code", "number", "place", "rest", "fault"] ["words"] (defScope sFaultOf) := ⟨rfl, rfl, rfl, by decide +kernel, rfl, by decide +kernel, by decide +kernel⟩
theorem scDoor : FnScope ["fault"] ["fault"] (defScope sDoor) := ⟨rfl, rfl, rfl, by decide +kernel, rfl, by decide +kernel, by decide +kernel⟩
theorem scBehind : FnScope ["fault", "words"] ["fault", "words"] (defScope sBehind) := ⟨rfl, rfl, rfl, by decide +kernel, rfl, by decide +kernel, by decide +kernel⟩
def Fl.n : Fl → Int
  | .page _ n => n
  | .two _ n => n
def Fl.isPage : Fl → Bool
  | .page _ _ => true
  | .two _ _ => false
def codeF : Fl → Int
  | .page l _ => if l = "r" then 1 else if l = "w" then 2 else 3
  | .two k _ => if k = "beyond" then 4 else if k = "row" then 5 else if k = "nought" then 6 else 7
def placeF (f : Fl) (d : PyData) : Bool := match d with
  | .int p => decide (0 ≤ p) && (decide (p ≤ 255) && comes f p)
  | _ => false
theorem placeF_w {f : Fl} {d : PyData} (h : isW d 0 255 = false) : placeF f d = false := by
  cases d with
  | int p =>
    have h : (decide (0 ≤ p) && decide (p ≤ 255)) = false := h
    show (decide (0 ≤ p) && (decide (p ≤ 255) && comes f p)) = false
    rw [← Bool.and_assoc, h, Bool.false_and]
  | _ => rfl
theorem placeF_int {f : Fl} {p : Int} (h0 : 0 ≤ p) (h1 : p ≤ 255) : placeF f (.int p) = comes f p := by
  show (decide (0 ≤ p) && (decide (p ≤ 255) && comes f p)) = _
  rw [decide_eq_true h0, decide_eq_true h1, Bool.true_and, Bool.true_and]
def answerV (f : Fl) (a b : Int) : List V := if f.isPage = true ∨ a = 1 then [.str "again"] else if a = 0 then [.str "on"] else if a = 2 ∧ (0 ≤ b ∧ b ≤ 255) then [.str "at", .int b] else [.str "rests"]
def wordsB (d : PyData) : Bool := wT d && match d with
  | .tuple [.int c, .int n, .int p, .int r] => (match withF c n with
    | none => false
    | some f => faultB (.tuple f.ds) && (placeF f (.int p) && decide (r = 0)))
  | _ => false
theorem wT_ints {d : PyData} (h : wT d = true) : ∃ a b c e : Int, d = .tuple [.int a, .int b, .int c, .int e] ∧ (0 ≤ a ∧ a ≤ 65535) ∧ (0 ≤ b ∧ b ≤ 65535) ∧ (0 ≤ c ∧ c ≤ 65535) ∧ 0 ≤ e ∧ e ≤ 65535 := by
  unfold wT at h
  split at h
  · rename_i ds
    rw [Bool.and_eq_true, decide_eq_true_eq] at h
    obtain ⟨d1, d2, d3, d4, rfl⟩ := len4 h.1
    have h2 := h.2
    simp only [List.map_cons, List.map_nil, List.all_cons, List.all_nil, id, Bool.and_eq_true, Bool.and_true] at h2
    obtain ⟨g1, g2, g3, g4⟩ := h2
    obtain ⟨a, rfl, a0⟩ := isW_int g1
    obtain ⟨b, rfl, b0⟩ := isW_int g2
    obtain ⟨c, rfl, c0⟩ := isW_int g3
    obtain ⟨e, rfl, e0⟩ := isW_int g4
    exact ⟨a, b, c, e, rfl, a0, b0, c0, e0⟩
  · cases h
theorem dpAll_ints4 {K : PySem.W.Frag} {H : Hp} {xs : List V} {a b c e : Int} (h : DpAll K H xs [.int a, .int b, .int c, .int e]) : xs = [.int a, .int b, .int c, .int e] := by
  cases h with
  | cons h1 h => cases h with
    | cons h2 h => cases h with
      | cons h3 h => cases h with
        | cons h4 h => cases h; cases h1; cases h2; cases h3; cases h4; rfl
theorem sh_fl {f : Fl} (ok : f.ok) : PartsSh (.tuple f.ds) := fun ds e x hx => by
  cases e
  have l3 : ∀ l ∈ lets3, SeqAt.shaped (.str l) = true := fun l hl => by
    simp only [lets3, List.mem_cons, List.not_mem_nil, or_false] at hl
    rcases hl with rfl | rfl | rfl
    · exact shaped_lit "r"
    · exact shaped_lit "w"
    · exact shaped_lit "x"
  have l4 : ∀ l ∈ kindsF, SeqAt.shaped (.str l) = true := fun l hl => by
    simp only [kindsF, List.mem_cons, List.not_mem_nil, or_false] at hl
    rcases hl with rfl | rfl | rfl | rfl
    · exact shaped_lit "beyond"
    · exact shaped_lit "row"
    · exact shaped_lit "nought"
    · exact shaped_lit "trap"
  have li : ∀ i : Int, SeqAt.shaped (.int i) = true := fun i => rfl
  cases f with
  | page l n =>
    simp only [Fl.ds, List.mem_cons, List.not_mem_nil, or_false] at hx
    rcases hx with rfl | rfl | rfl
    · exact sh_page
    · exact l3 _ ok.1
    · exact li _
  | two k n =>
    simp only [Fl.ds, List.mem_cons, List.not_mem_nil, or_false] at hx
    rcases hx with rfl | rfl
    · exact l4 _ ok.1
    · exact li _
theorem withF_ok {c n : Int} {f : Fl} (h0 : 0 ≤ n) (h1 : n ≤ 65535) (h : withF c n = some f) : PartsSh (.tuple f.ds) := by
  unfold withF at h
  have li : SeqAt.shaped (.int n) = true := rfl
  have two : ∀ a : Str, SeqAt.shaped (.str a) = true → PartsSh (.tuple (Fl.two a n).ds) := fun a sa ds e x hx => by
    cases e
    simp only [Fl.ds, List.mem_cons, List.not_mem_nil, or_false] at hx
    rcases hx with rfl | rfl
    · exact sa
    · exact li
  have three : ∀ a : Str, SeqAt.shaped (.str a) = true → PartsSh (.tuple (Fl.page a n).ds) := fun a sa ds e x hx => by
    cases e
    simp only [Fl.ds, List.mem_cons, List.not_mem_nil, or_false] at hx
    rcases hx with rfl | rfl | rfl
    · exact sh_page
    · exact sa
    · exact li
  repeat' (split at h)
  all_goals first
    | cases h
    | skip
  all_goals first
    | exact three _ (shaped_lit "r")
    | exact three _ (shaped_lit "w")
    | exact three _ (shaped_lit "x")
    | exact two _ (shaped_lit "beyond")
    | exact two _ (shaped_lit "row")
    | exact two _ (shaped_lit "nought")
    | exact two _ (shaped_lit "trap")
section
variable {P : Program} {w : World} {K : PySem.W.Frag} {mg : Str → Option Value} {base : Heap}
/-- an error comes, with this value -/
def Err (H : Hp) (E : XK) (C : Addr) (v : V) : Prop := ∀ H' dd, Same H H' → H' dd = none → E (.ref C) (some dd) (upd H' dd (.xd [("value", v)]))
theorem Err.mono {H H1 : Hp} {E : XK} {C : Addr} {v : V} (h : Err H E C v) (s : Same H H1) : Err H1 E C v := fun H' dd s' n => h H' dd (s.trans s') n
def spDoor (K : PySem.W.Frag) (CF : Addr) : Sp := fun vs H Q E => ∃ (v : V) (d : PyData), vs = [v] ∧ Dk K H v d ∧ PartsSh d ∧ (faultB d = false → Err H E CF v) ∧ (∀ f : Fl, d = .tuple f.ds → faultB d = true → ∀ H', Same H H' → Q (.str (if f.isPage = true then "pager" else "handler")) H')
theorem ok_Door {k : Nat} {f : Addr} {fd : FuncData} {CF:Addr} (F : Fun K "door_of" "door_of" sDoor f fd) (gCf : Cal P w K mg base (L2.CX P w) (k + 5) "_check_fault" ["value"] (spCheck K CF))   : FnOk P w K mg base (L2.CX P w) (k + 6) f fd ["fault"] (spDoor K CF) := by
  obtain ⟨fCf, fdCf, GCf, kCf, bCf, mCf⟩ := gCf
  refine F.okX scDoor (fun vs H Q E h => ?_) (fun cdv A outer s H vs Q E hr h => ?_)
  · obtain ⟨v, d, rfl, _⟩ := h
    rfl
  · obtain ⟨v, d, rfl, hd, hsh, qe, q⟩ := h
    refine ⟨_, (pss_cons (ps_expr (pe_call GCf hr (by rfl) mCf kCf bCf .nil (passes_call (takes_of rfl rfl rfl rfl) fun _ _ _ _ h => h) (pa_cons (pv 0) pa_nil))) (PSs.nox (pss_one (ps_ret (pe_ifExp (pt_cmpR op_eq (pe_ix ix_tup (pv 0) pe_int (fun _ _ => rfl)) pe_str (nomark _)) pe_str pe_str))))), ?_⟩
    refine ⟨v, rfl, v, d, rfl, hd, hsh, qe, fun e H1 s1 => ?_⟩
    obtain ⟨f, a, rfl, rfl, hs, ok⟩ := fault_at e hd
    have q1 := q f rfl e H1 s1
    cases f with
    | page l n => exact ⟨.ref a, rfl, a, _, 0, .str "page", rfl, rfl, Same.seqT s1 hs, at0, rfl, _, rfl, iteD rfl q1⟩
    | two k n =>
      refine ⟨.ref a, rfl, a, _, 0, .str k, rfl, rfl, Same.seqT s1 hs, at0, rfl, _, rfl, iteE (fun z => ?_) q1⟩
      have hk := ok.1
      rw [V.str.inj z] at hk
      revert hk
      decide
def spBehind (K : PySem.W.Frag) (CF CS : Addr) : Sp := fun vs H Q E => ∃ (v v2 : V) (d d2 : PyData), vs = [v, v2] ∧ Dk K H v d ∧ PartsSh d ∧ Dk K H v2 d2 ∧ (faultB d = false → Err H E CF v) ∧ (faultB d = true → wT d2 = false → Err H E CS v2) ∧
  (∀ (f : Fl) (a b c e : Int), d = .tuple f.ds → faultB d = true → d2 = .tuple [.int a, .int b, .int c, .int e] → wT d2 = true → ∀ H' t, Same H H' → SqT K H' t (answerV f a b) → Q (.ref t) H')
theorem ok_Behind {k : Nat} {f : Addr} {fd : FuncData} {CF CS:Addr} (F : Fun K "behind_answer" "behind_answer" sBehind f fd) (gCf : Cal P w K mg base (L2.CX P w) (k + 5) "_check_fault" ["value"] (spCheck K CF)) (gWt : Cal P w K mg base CX0 (k + 5) "is_word_tuple" ["value", "many"] (spWT K)) (gIa : Cal P w K mg base CX0 (k + 5) "is_address" ["value"] (spIsAddress K)) (ES : ErrC K CS JS) (IS : Fun K "__init__" "CoreError.__init__" sInit JS fdIS) (bIS : L2.Binds K fdIS ["self", "value"] []) (gBadWords : mg "BadWords" = some (.ref CS))  : FnOk P w K mg base (L2.CX P w) (k + 6) f fd ["fault", "words"] (spBehind K CF CS) := by
  obtain ⟨fCf, fdCf, GCf, kCf, bCf, mCf⟩ := gCf
  obtain ⟨fWt, fdWt, GWt, kWt, bWt, mWt⟩ := gWt
  obtain ⟨fIa, fdIa, GIa, kIa, bIa, mIa⟩ := gIa
  refine F.okX scBehind (fun vs H Q E h => ?_) (fun cdv A outer s H vs Q E hr h => ?_)
  · obtain ⟨v, v2, d, d2, rfl, _⟩ := h
    rfl
  · obtain ⟨v, v2, d, d2, rfl, hd, hsh, hd2, qe, qe2, q⟩ := h
    refine ⟨_, (pss_cons (ps_expr (pe_call GCf hr (by rfl) mCf kCf bCf .nil (passes_call (takes_of rfl rfl rfl rfl) fun _ _ _ _ h => h) (pa_cons (pv 0) pa_nil))) (pss_cons (ps_if (pt_not (pt_val (pe_call GWt hr (by rfl) mWt kWt bWt .nil pass0 (pa_cons (pv 1) (pa_cons pe_int pa_nil))))) (pss_one (ps_err rfl ES IS bIS (k := k+3) hr (takes_of rfl rfl rfl rfl) (by rfl) gBadWords (pv 1))) pss_nil) (PSs.nox (pss_cons (ps_if (PW.pt (pw_or (pt_cmpR op_eq (pe_ix ix_tup (pv 0) pe_int (fun _ _ => rfl)) pe_str (nomark _)) (pw_or1 (pt_cmpR op_eq (pe_ix ix_tup (pv 1) pe_int (fun _ _ => rfl)) pe_int (nomark _))))) (pss_one (ps_ret (pe_tup (pa_cons pe_str pa_nil)))) pss_nil) (pss_cons (ps_if (pt_cmpR op_eq (pe_ix ix_tup (pv 1) pe_int (fun _ _ => rfl)) pe_int (nomark _)) (pss_one (ps_ret (pe_tup (pa_cons pe_str pa_nil)))) pss_nil) (pss_cons (ps_if (PW.pt (pw_and (pt_cmpR op_eq (pe_ix ix_tup (pv 1) pe_int (fun _ _ => rfl)) pe_int (nomark _)) (pw_and1 (pt_val (pe_call GIa hr (by rfl) mIa kIa bIa .nil pass0 (pa_cons (pe_ix ix_tup (pv 1) pe_int (fun _ _ => rfl)) pa_nil)))))) (pss_one (ps_ret (pe_tup (pa_cons pe_str (pa_cons (pe_ix ix_tup (pv 1) pe_int (fun _ _ => rfl)) pa_nil))))) pss_nil) (pss_one (ps_ret (pe_tup (pa_cons pe_str pa_nil)))))))))), ?_⟩
    refine ⟨v, rfl, v, d, rfl, hd, hsh, qe, fun e H1 s1 => ?_⟩
    obtain ⟨f, a, rfl, rfl, hs, ok⟩ := fault_at e hd
    refine ⟨v2, rfl, v2, d2, rfl, Dk.same s1 hd2, fun H2 s2 => ⟨_, rfl, ?_⟩⟩
    have s12 := s1.trans s2
    cases ew : wT d2 with
    | false => exact iteT ⟨v2, rfl, need_ok ES fun dd n => qe2 e ew H2 dd s12 n⟩
    | true =>
      refine iteF ?_
      obtain ⟨x, y, z, u, rfl, hx, hy, hz, hu⟩ := wT_ints ew
      obtain ⟨b, xs, rfl, hs2, ha2⟩ := dk_tup hd2
      obtain rfl := dpAll_ints4 ha2
      have hs' := Same.seqT s12 hs
      have hs2' := Same.seqT s12 hs2
      have q := q f x y z u rfl e rfl ew
      have again : (f.isPage = true ∨ x = 1) → tTup (tCons (tC (.str "again")) tNil) (L2.start ["fault", "words"] [V.ref a, V.ref b]) H2 Q := fun h => ⟨by show 1 ≤ sizeLine; decide, fun t nt => q _ t (s12.trans (same_upd nt)) (by unfold answerV; rw [if_pos h]; exact SqT.of upd_same)⟩
      have pg : f.isPage = true → atI f.vs 0 = some (.str "page") := fun h => by
        cases f with
        | page l n => rfl
        | two k n => cases h
      have np : ¬ f.isPage = true → ∃ k, atI f.vs 0 = some (.str k) ∧ k ≠ "page" := fun h => by
        cases f with
        | page l n => exact absurd rfl h
        | two k n =>
          refine ⟨k, rfl, fun z => ?_⟩
          have hk := ok.1
          rw [z] at hk
          revert hk
          decide
      by_cases c1 : f.isPage = true
      · exact ⟨.ref a, rfl, a, _, 0, .str "page", rfl, rfl, hs', pg c1, rfl, _, rfl, iteD rfl (again (.inl c1))⟩
      · obtain ⟨k, ek, nk⟩ := np c1
        refine ⟨.ref a, rfl, a, _, 0, .str k, rfl, rfl, hs', ek, rfl, _, rfl, iteE (fun z => nk (V.str.inj z)) ?_⟩
        refine ⟨.ref b, rfl, b, _, 0, .int x, rfl, rfl, hs2', at0, rfl, _, rfl, ?_⟩
        by_cases c2 : x = 1
        · exact iteD (congrArg V.int c2) (again (.inr c2))
        · refine iteE (fun z => c2 (V.int.inj z)) ?_
          have n12 : ¬ (f.isPage = true ∨ x = 1) := fun h => h.elim c1 c2
          refine ⟨.ref b, rfl, b, _, 0, .int x, rfl, rfl, hs2', at0, rfl, _, rfl, ?_⟩
          by_cases c3 : x = 0
          · exact iteD (congrArg V.int c3) ⟨by show 1 ≤ sizeLine; decide, fun t nt => q _ t (s12.trans (same_upd nt)) (by unfold answerV; rw [if_neg n12, if_pos c3]; exact SqT.of upd_same)⟩
          · refine iteE (fun z => c3 (V.int.inj z)) ?_
            have rests : ¬ (x = 2 ∧ (0 ≤ y ∧ y ≤ 255)) → tTup (tCons (tC (.str "rests")) tNil) (L2.start ["fault", "words"] [V.ref a, V.ref b]) H2 Q := fun h => ⟨by show 1 ≤ sizeLine; decide, fun t nt => q _ t (s12.trans (same_upd nt)) (by unfold answerV; rw [if_neg n12, if_neg c3, if_neg h]; exact SqT.of upd_same)⟩
            refine ⟨.ref b, rfl, b, _, 0, .int x, rfl, rfl, hs2', at0, rfl, _, rfl, ?_⟩
            by_cases c4 : x = 2
            · refine iteD (congrArg V.int c4) ⟨.ref b, rfl, b, _, 1, .int y, rfl, rfl, hs2', at1, .int y, .int y, rfl, .dp (.int y), _, rfl, ?_⟩
              by_cases c5 : 0 ≤ y ∧ y ≤ 255
              · rw [show isW (.int y) 0 255 = true by simp [isW, c5]]
                exact iteT ⟨.ref b, rfl, b, _, 1, .int y, rfl, rfl, hs2', at1, by show 2 ≤ sizeLine; decide, fun t nt => q _ t (s12.trans (same_upd nt)) (by unfold answerV; rw [if_neg n12, if_neg c3, if_pos ⟨c4, c5⟩]; exact SqT.of upd_same)⟩
              · rw [show isW (.int y) 0 255 = false by simp only [isW]; rw [Bool.and_eq_false_iff, decide_eq_false_iff_not, decide_eq_false_iff_not]; omega]
                exact iteF (rests fun h => c5 h.2)
            · exact iteE (fun z => c4 (V.int.inj z)) (rests fun h => c4 h.1)
def spWords (K : PySem.W.Frag) (CF CP : Addr) : Sp := fun vs H Q E => ∃ (v v2 : V) (d d2 : PyData), vs = [v, v2] ∧ Dk K H v d ∧ PartsSh d ∧ Dk K H v2 d2 ∧ (faultB d = false → Err H E CF v) ∧ (∀ f : Fl, d = .tuple f.ds → faultB d = true → placeF f d2 = false → Err H E CP v2) ∧
  (∀ (f : Fl) (p : Int), d = .tuple f.ds → faultB d = true → d2 = .int p → placeF f d2 = true → ∀ H' t, Same H H' → SqT K H' t [.int (codeF f), .int f.n, .int p, .int 0] → Q (.ref t) H')
theorem ok_Words {k : Nat} {f : Addr} {fd : FuncData} {CF CP:Addr} (F : Fun K "fault_words" "fault_words" sWords f fd) (gCf : Cal P w K mg base (L2.CX P w) (k + 5) "_check_fault" ["value"] (spCheck K CF)) (gIa : Cal P w K mg base CX0 (k + 5) "is_address" ["value"] (spIsAddress K)) (gCt : Cal P w K mg base CX0 (k + 5) "_comes_at" ["fault", "place"] (spComes K)) (EP : ErrC K CP JP) (IP : Fun K "__init__" "CoreError.__init__" sInit JP fdIP) (bIP : L2.Binds K fdIP ["self", "value"] []) (gBadPlace : mg "BadPlace" = some (.ref CP)) {aL : Addr} (gLETTERS : mg "LETTERS" = some (.ref aL)) (tL : KT K aL (lets3.map V.str)) (pL : ∃ o, K.lookup aL = some o ∧ o.cls = .type "tuple" ∧ o.dict = none) {aC : Addr} (gCODES : mg "CODES" = some (.ref aC)) (hC : ShC K w aC)  : FnOk P w K mg base (L2.CX P w) (k + 6) f fd ["fault", "place"] (spWords K CF CP) := by
  obtain ⟨fCf, fdCf, GCf, kCf, bCf, mCf⟩ := gCf
  obtain ⟨fIa, fdIa, GIa, kIa, bIa, mIa⟩ := gIa
  obtain ⟨fCt, fdCt, GCt, kCt, bCt, mCt⟩ := gCt
  refine F.okX scWords (fun vs H Q E h => ?_) (fun cdv A outer s H vs Q E hr h => ?_)
  · obtain ⟨v, v2, d, d2, rfl, _⟩ := h
    rfl
  · obtain ⟨v, v2, d, d2, rfl, hd, hsh, hd2, qe, qe2, q⟩ := h
    refine ⟨_, (pss_cons (ps_expr (pe_call GCf hr (by rfl) mCf kCf bCf .nil (passes_call (takes_of rfl rfl rfl rfl) fun _ _ _ _ h => h) (pa_cons (pv 0) pa_nil))) (pss_cons (ps_if (PW.pt (pw_or (pt_not (pt_val (pe_call GIa hr (by rfl) mIa kIa bIa .nil pass0 (pa_cons (pv 1) pa_nil)))) (pw_or1 (pt_not (pt_val (pe_call GCt hr (by rfl) mCt kCt bCt .nil pass0 (pa_cons (pv 0) (pa_cons (pv 1) pa_nil)))))))) (pss_one (ps_err rfl EP IP bIP (k := k+3) hr (takes_of rfl rfl rfl rfl) (by rfl) gBadPlace (pv 1))) pss_nil) (PSs.nox (pss_cons (ps_set (i := 2) scWords.nd rfl (.inl rfl) (pe_ifExp (pt_cmpR op_eq (pe_ix ix_tup (pv 0) pe_int (fun _ _ => rfl)) pe_str (nomark _)) (pe_op op_add (pe_bm PySem.F.plainAttrs_tuple PySem.F.slot_tuple_index PySem.F.type_tuple_index mt_tup_indexF (pgr (by rfl) gLETTERS) (pa_cons (pe_ix ix_tup (pv 0) pe_int (fun _ _ => rfl)) pa_nil)) pe_int) (pe_ix ix_kdict (pgr (by rfl) gCODES) (pe_ix ix_tup (pv 0) pe_int (fun _ _ => rfl)) (fun _ _ => rfl)))) (pss_one (ps_ret (pe_tup (pa_cons (pv 2) (pa_cons (pe_ix ix_tup (pv 0) (pe_un un_neg pe_int) (fun _ _ => rfl)) (pa_cons (pv 1) (pa_cons pe_int pa_nil))))))))))), ?_⟩
    refine ⟨v, rfl, v, d, rfl, hd, hsh, qe, fun e H1 s1 => ?_⟩
    obtain ⟨f, a, rfl, rfl, hs, ok⟩ := fault_at e hd
    have hs1 := Same.seqT s1 hs
    refine ⟨v2, rfl, v2, d2, rfl, Dk.same s1 hd2, _, rfl, ?_⟩
    cases ew : isW d2 0 255 with
    | false => exact iteT ⟨v2, rfl, need_ok EP fun dd n => qe2 f rfl e (placeF_w ew) H1 dd s1 n⟩
    | true =>
      refine iteF ?_
      obtain ⟨p, rfl, p0, p1⟩ := isW_int ew
      obtain rfl := dk_int hd2
      refine ⟨.ref a, rfl, .int p, rfl, a, f, p, rfl, hs1, ok, fun H2 s2 => ⟨_, rfl, ?_⟩⟩
      have s12 := s1.trans s2
      have hs2 := Same.seqT s12 hs
      have qp := placeF_int (f := f) p0 p1
      cases ec : comes f p with
      | false => exact iteT ⟨.int p, rfl, need_ok EP fun dd n => qe2 f rfl e (qp.trans ec) H2 dd s12 n⟩
      | true =>
        have q := q f p rfl e rfl (qp.trans ec)
        refine iteF ?_
        cases f with
        | page l n =>
          obtain ⟨j, hj, ej, nj, cj⟩ : ∃ j : Nat, (lets3.map V.str)[j]? = some (.str l) ∧ eqV (.str l) (.str l) = true ∧ (∀ m z', m < j → (lets3.map V.str)[m]? = some z' → eqV z' (.str l) = false) ∧ (j : Int) + 1 = codeF (.page l n) := by
            have hl := ok.1
            simp only [lets3, List.mem_cons, List.not_mem_nil, or_false] at hl
            rcases hl with rfl | rfl | rfl
            · exact ⟨0, rfl, by decide, fun m z' h => absurd h (Nat.not_lt_zero m), rfl⟩
            · refine ⟨1, rfl, by decide, fun m z' h e => ?_, rfl⟩
              obtain rfl : m = 0 := by omega
              cases e
              decide
            · refine ⟨2, rfl, by decide, fun m z' h e => ?_, rfl⟩
              rcases (show m = 0 ∨ m = 1 by omega) with rfl | rfl <;> (cases e; decide)
          refine ⟨.ref a, rfl, a, _, 0, .str "page", rfl, rfl, hs2, at0, rfl, _, rfl, iteD rfl ?_⟩
          refine ⟨.inr (.inl ⟨rfl, pL⟩), .ref a, rfl, a, _, 1, .str l, rfl, rfl, hs2, at1, aL, _, .str l, .str l, j, rfl, rfl, tL.sq, rfl, flat_strs lets3, hj, ej, nj, j, 1, rfl, rfl, ?_⟩
          refine ⟨_, rfl, .ref a, rfl, 1, rfl, a, _, _, .int n, rfl, rfl, hs2, rfl, .int p, rfl, by show 4 ≤ sizeLine; decide, fun t nt => q _ t (s12.trans (same_upd nt)) ?_⟩
          rw [← cj]
          exact SqT.of upd_same
        | two k n =>
          have nk : ¬ V.str k = V.str "page" := fun z => by
            have hk := ok.1
            rw [V.str.inj z] at hk
            revert hk
            decide
          have ck : (k, codeF (.two k n)) ∈ codes := by
            have hk := ok.1
            simp only [kindsF, List.mem_cons, List.not_mem_nil, or_false] at hk
            rcases hk with rfl | rfl | rfl | rfl
            · exact .head _
            · exact .tail _ (.head _)
            · exact .tail _ (.tail _ (.head _))
            · exact .tail _ (.tail _ (.tail _ (.head _)))
          refine ⟨.ref a, rfl, a, _, 0, .str k, rfl, rfl, hs2, at0, rfl, _, rfl, iteE nk ?_⟩
          refine ⟨.ref a, rfl, a, _, 0, .str k, rfl, rfl, hs2, at0, aC, k, _, rfl, rfl, hC.get _ _ ck, ?_⟩
          exact ⟨_, rfl, .ref a, rfl, 1, rfl, a, _, _, .int n, rfl, rfl, hs2, rfl, .int p, rfl, by show 4 ≤ sizeLine; decide, fun t nt => q _ t (s12.trans (same_upd nt)) (SqT.of upd_same)⟩
def spFaultOf (K : PySem.W.Frag) (CS : Addr) : Sp := fun vs H Q E => ∃ (v : V) (d : PyData), vs = [v] ∧ Dk K H v d ∧ (wordsB d = false → Err H E CS v) ∧
  (∀ (c n p r : Int) (f : Fl), d = .tuple [.int c, .int n, .int p, .int r] → withF c n = some f → wordsB d = true → ∀ H' t1 t2, Same H H' → SqT K H' t1 f.vs → SqT K H' t2 [.ref t1, .int p] → Q (.ref t2) H')
theorem ok_FaultOf {k : Nat} {f : Addr} {fd : FuncData} {CS:Addr} (F : Fun K "fault_of" "fault_of" sFaultOf f fd) (gWt : Cal P w K mg base CX0 (k + 5) "is_word_tuple" ["value", "many"] (spWT K)) (gFh : Cal P w K mg base CX0 (k + 5) "_fault_with" ["code", "number"] (spWith K)) (gIf : Cal P w K mg base CX0 (k + 5) "is_fault" ["value"] (spIsFault K)) (gIa : Cal P w K mg base CX0 (k + 5) "is_address" ["value"] (spIsAddress K)) (gCt : Cal P w K mg base CX0 (k + 5) "_comes_at" ["fault", "place"] (spComes K)) (ES : ErrC K CS JS) (IS : Fun K "__init__" "CoreError.__init__" sInit JS fdIS) (bIS : L2.Binds K fdIS ["self", "value"] []) (gBadWords : mg "BadWords" = some (.ref CS)) {aL : Addr} (gLETTERS : mg "LETTERS" = some (.ref aL)) (tL : KT K aL (lets3.map V.str)) (pL : ∃ o, K.lookup aL = some o ∧ o.cls = .type "tuple" ∧ o.dict = none) {aC : Addr} (gCODES : mg "CODES" = some (.ref aC)) (hC : ShC K w aC)  : FnOk P w K mg base (L2.CX P w) (k + 6) f fd ["words"] (spFaultOf K CS) := by
  obtain ⟨fWt, fdWt, GWt, kWt, bWt, mWt⟩ := gWt
  obtain ⟨fFh, fdFh, GFh, kFh, bFh, mFh⟩ := gFh
  obtain ⟨fIf, fdIf, GIf, kIf, bIf, mIf⟩ := gIf
  obtain ⟨fIa, fdIa, GIa, kIa, bIa, mIa⟩ := gIa
  obtain ⟨fCt, fdCt, GCt, kCt, bCt, mCt⟩ := gCt
  refine F.okX scFaultOf (fun vs H Q E h => ?_) (fun cdv A outer s H vs Q E hr h => ?_)
  · obtain ⟨v, d, rfl, _⟩ := h
    rfl
  · obtain ⟨v, d, rfl, hd, qe, q⟩ := h
    refine ⟨_, (pss_cons (ps_if (pt_not (pt_val (pe_call GWt hr (by rfl) mWt kWt bWt .nil pass0 (pa_cons (pv 0) (pa_cons pe_int pa_nil))))) (pss_one (ps_err rfl ES IS bIS (k := k+3) hr (takes_of rfl rfl rfl rfl) (by rfl) gBadWords (pv 0))) pss_nil) (pss_cons (ps_asg (pv 0) (pg_tup (by rfl) (pgs_cons (pg_name (i := 1) scFaultOf.nd rfl (.inl rfl)) (pgs_cons (pg_name (i := 2) scFaultOf.nd rfl (.inl rfl)) (pgs_cons (pg_name (i := 3) scFaultOf.nd rfl (.inl rfl)) (pgs_cons (pg_name (i := 4) scFaultOf.nd rfl (.inl rfl)) pgs_nil)))))) (pss_cons (ps_set (i := 5) scFaultOf.nd rfl (.inl rfl) (pe_call GFh hr (by rfl) mFh kFh bFh .nil pass0 (pa_cons (pv 1) (pa_cons (pv 2) pa_nil)))) (pss_cons (ps_if (PW.pt (pw_or (pt_not (pt_val (pe_call GIf hr (by rfl) mIf kIf bIf .nil pass0 (pa_cons (pv 5) pa_nil)))) (pw_or (pt_not (pt_val (pe_call GIa hr (by rfl) mIa kIa bIa .nil pass0 (pa_cons (pv 3) pa_nil)))) (pw_or (pt_not (pt_val (pe_call GCt hr (by rfl) mCt kCt bCt .nil pass0 (pa_cons (pv 5) (pa_cons (pv 3) pa_nil))))) (pw_or1 (pt_cmpR op_ne (pv 4) pe_int (nomark _))))))) (pss_one (ps_err rfl ES IS bIS (k := k+3) hr (takes_of rfl rfl rfl rfl) (by rfl) gBadWords (pv 0))) pss_nil) (PSs.nox (pss_one (ps_ret (pe_tup (pa_cons (pv 5) (pa_cons (pv 3) pa_nil)))))))))), ?_⟩
    refine ⟨v, rfl, v, d, rfl, hd, fun H1 s1 => ⟨_, rfl, ?_⟩⟩
    cases ew : wT d with
    | false => exact iteT ⟨v, rfl, need_ok ES fun dd n => qe (by unfold wordsB; rw [ew, Bool.false_and]) H1 dd s1 n⟩
    | true =>
      obtain ⟨c, n, p, r, rfl, hc, hn, hp, hr_⟩ := wT_ints ew
      obtain ⟨b, xs, rfl, hs, ha⟩ := dk_tup hd
      obtain rfl := dpAll_ints4 ha
      have hs1 := Same.seqT s1 hs
      have qe := fun h => qe h
      have wb : wordsB (.tuple [.int c, .int n, .int p, .int r]) = (match withF c n with
        | none => false
        | some f => faultB (.tuple f.ds) && (placeF f (.int p) && decide (r = 0))) := by
        unfold wordsB
        rw [ew, Bool.true_and]
      refine iteF ⟨.ref b, rfl, b, _, rfl, hs1, rfl, _, _, rfl, _, _, rfl, _, _, rfl, _, _, rfl, rfl, ?_⟩
      refine ⟨.int c, rfl, .int n, rfl, c, n, rfl, fun H2 s2 => ?_⟩
      have s12 := s1.trans s2
      have hs2 := Same.seqT s12 hs
      constructor
      · intro en
        rw [en] at wb
        refine ⟨.non, rfl, .non, .none, rfl, .dp .non, fun ds e => (by cases e), fun H3 s3 => ⟨_, rfl, ?_⟩⟩
        exact iteT ⟨.ref b, rfl, need_ok ES fun dd nn => qe wb H3 dd (s12.trans s3) nn⟩
      · intro f a ef hf
        rw [ef] at wb
        have wb : wordsB (.tuple [.int c, .int n, .int p, .int r]) = (faultB (.tuple f.ds) && (placeF f (.int p) && decide (r = 0))) := wb
        refine ⟨.ref a, rfl, .ref a, .tuple f.ds, rfl, .dp (.tup hf fl_data), withF_ok hn.1 hn.2 ef, fun H3 s3 => ⟨_, rfl, ?_⟩⟩
        have s13 := s12.trans s3
        cases e1 : faultB (.tuple f.ds) with
        | false =>
          rw [e1, Bool.false_and] at wb
          exact iteT ⟨.ref b, rfl, need_ok ES fun dd nn => qe wb H3 dd s13 nn⟩
        | true =>
          rw [e1, Bool.true_and] at wb
          have ok : f.ok := by
            obtain ⟨f', e', ok'⟩ := faultB_shape e1
            have : f = f' := by
              cases f <;> cases f' <;> simp [Fl.ds] at e' ⊢ <;> exact e'
            rw [this]
            exact ok'
          refine iteF ⟨.int p, rfl, .int p, .int p, rfl, .dp (.int p), _, rfl, ?_⟩
          cases e2 : isW (.int p) 0 255 with
          | false =>
            rw [placeF_w e2, Bool.false_and] at wb
            exact iteT ⟨.ref b, rfl, need_ok ES fun dd nn => qe wb H3 dd s13 nn⟩
          | true =>
            obtain ⟨i, ei, p0, p1⟩ := isW_int e2
            cases ei
            rw [placeF_int p0 p1] at wb
            refine iteF ⟨.ref a, rfl, .int p, rfl, a, f, p, rfl, Same.seqT s3 hf, ok, fun H4 s4 => ⟨_, rfl, ?_⟩⟩
            have s14 := s13.trans s4
            cases e3 : comes f p with
            | false =>
              rw [e3, Bool.false_and] at wb
              exact iteT ⟨.ref b, rfl, need_ok ES fun dd nn => qe wb H4 dd s14 nn⟩
            | true =>
              rw [e3, Bool.true_and] at wb
              refine iteF ⟨.int r, rfl, rfl, _, rfl, ?_⟩
              by_cases e4 : r = 0
              · rw [decide_eq_true (congrArg V.int e4)]
                rw [decide_eq_true e4] at wb
                refine iteF ⟨.ref a, rfl, .int p, rfl, by show 2 ≤ sizeLine; decide, fun t nt => ?_⟩
                have s5 := same_upd (o := .tup [V.ref a, .int p]) nt
                exact q c n p r f rfl ef wb _ a t (s14.trans s5) (Same.seqT ((s3.trans s4).trans s5) hf) (SqT.of upd_same)
              · rw [decide_eq_false (fun z => e4 (V.int.inj z))]
                rw [decide_eq_false e4] at wb
                exact iteT ⟨.ref b, rfl, need_ok ES fun dd nn => qe wb H4 dd s14 nn⟩
end
end K26

set_option maxRecDepth 100000
set_option maxHeartbeats 4000000
/-! k26: the first access that is not let. -/
namespace K26
open PySem PySem.Spec PyProof.Rows L2 LamX VG TL
def isLE (d : PyData) : Bool := isS d "" || inS d lets
def lettersB (d : PyData) : Bool := match d with
  | .tuple ds => decide (ds.length = 16) && (ds.map isLE).all id
  | _ => false
def accD (p : Int × Str) : PyData := .tuple [.int p.1, .str p.2]
def AccOk (p : Int × Str) : Prop := 0 ≤ p.1 ∧ p.1 ≤ 255 ∧ p.2 ∈ lets3
theorem accOne_shape {d : PyData} {ls : List Str} (h : accOne d ls = true) (hl : ∀ z ∈ ls, z ∈ lets3) : ∃ p, d = accD p ∧ AccOk p := by
  unfold accOne at h
  split at h
  · rw [Bool.and_eq_true] at h
    obtain ⟨i, rfl, i0, i1⟩ := isW_int h.1
    obtain ⟨z, rfl, hz⟩ := inS_str h.2
    exact ⟨(i, z), rfl, i0, i1, hl z hz⟩
  · cases h
theorem accB_shape {d : PyData} (h : accB d = true) : ∃ acs : List (Int × Str), d = .tuple (acs.map accD) ∧ (∀ p ∈ acs, AccOk p) ∧ 1 ≤ acs.length ∧ acs.length ≤ 2 := by
  unfold accB at h
  split at h
  · obtain ⟨p, rfl, hp⟩ := accOne_shape h (by decide)
    exact ⟨[p], rfl, fun q hq => by rw [List.mem_singleton.mp hq]; exact hp, Nat.le_refl _, by show 1 ≤ 2; decide⟩
  · rw [Bool.and_eq_true] at h
    obtain ⟨p, rfl, hp⟩ := accOne_shape h.1 (by decide)
    obtain ⟨p2, rfl, hp2⟩ := accOne_shape h.2 (by decide)
    refine ⟨[p, p2], rfl, fun q hq => ?_, by show 1 ≤ 2; decide, Nat.le_refl _⟩
    rcases List.mem_cons.mp hq with rfl | hq
    · exact hp
    · rw [List.mem_singleton.mp hq]; exact hp2
  · cases h
def refused (ls : List Str) : List (Int × Str) → Option (Str × Int)
  | [] => none
  | (a, l) :: r => if l.cps.toList.all (fun c => decide (c ∈ (ls.getD (a / 16).toNat "").cps.toList)) = true then refused ls r else some (l, a)
theorem letters_strs {ds : List PyData} (h : (ds.map isLE).all id = true) : ∃ ls : List Str, ds = ls.map .str := by
  induction ds with
  | nil => exact ⟨[], rfl⟩
  | cons d ds ih =>
    rw [List.map_cons, List.all_cons, Bool.and_eq_true] at h
    obtain ⟨ls, rfl⟩ := ih h.2
    have h1 : (isS d "" || inS d lets) = true := h.1
    rcases (Bool.or_eq_true _ _).mp h1 with h1 | h1
    · exact ⟨"" :: ls, by rw [isS_str h1]; rfl⟩
    · obtain ⟨z, rfl, _⟩ := inS_str h1
      exact ⟨z :: ls, rfl⟩
theorem one_sign {l : Str} (h : l ∈ lets3) : ∃ c, l = ⟨#[c]⟩ := by
  simp only [lets3, List.mem_cons, List.not_mem_nil, or_false] at h
  rcases h with rfl | rfl | rfl
  · exact ⟨114, by decide⟩
  · exact ⟨119, by decide⟩
  · exact ⟨120, by decide⟩
section
variable {P : Program} {w : World} {K : PySem.W.Frag} {mg : Str → Option Value} {base : Heap}
def spFirst (K : PySem.W.Frag) (CL CA : Addr) : Sp := fun vs H Q E => ∃ (v v2 : V) (d d2 : PyData), vs = [v, v2] ∧ Dq K H v d ∧ Dk K H v2 d2 ∧ okData d2 = true ∧ (lettersB d = false → Err H E CL v) ∧ (lettersB d = true → accB d2 = false → Err H E CA v2) ∧
  (∀ (ls : List Str) (acs : List (Int × Str)), d = .tuple (ls.map .str) → d2 = .tuple (acs.map accD) → lettersB d = true → accB d2 = true → ∀ H', Same H H' → (refused ls acs = none → Q .non H') ∧ ∀ l a t, refused ls acs = some (l, a) → SqT K H' t [.str "page", .str l, .int a] → Q (.ref t) H')
theorem ok_First {k : Nat} {f : Addr} {fd : FuncData} {CL CA:Addr} (F : Fun K "first_refused" "first_refused" sFirst f fd) (gTo : Cal P w K mg base CX0 (k + 4) "is_tuple_of" ["value", "many"] (spTup K)) (gLe : Cal P w K mg base CX0 (k + 4) "is_letters" ["value"] (spLetters K)) (gAc : Cal P w K mg base CX0 (k + 4) "_is_accesses" ["value"] (spAccs K)) (EL : ErrC K CL JL) (IL : Fun K "__init__" "CoreError.__init__" sInit JL fdIL) (bIL : L2.Binds K fdIL ["self", "value"] []) (gBadLetters : mg "BadLetters" = some (.ref CL)) (EA : ErrC K CA JA) (IA : Fun K "__init__" "CoreError.__init__" sInit JA fdIA) (bIA : L2.Binds K fdIA ["self", "value"] []) (gBadAccesses : mg "BadAccesses" = some (.ref CA)) (fall : mg "all" = none) : FnOk P w K mg base (L2.CX P w) (k + 5) f fd ["letters", "accesses"] (spFirst K CL CA) := by
  obtain ⟨fTo, fdTo, GTo, kTo, bTo, mTo⟩ := gTo
  obtain ⟨fLe, fdLe, GLe, kLe, bLe, mLe⟩ := gLe
  obtain ⟨fAc, fdAc, GAc, kAc, bAc, mAc⟩ := gAc
  refine F.okX scFirst (fun vs H Q E h => ?_) (fun cdv A outer s H vs Q E hr h => ?_)
  · obtain ⟨v, v2, d, d2, rfl, _⟩ := h
    rfl
  · obtain ⟨v, v2, d, d2, rfl, hd, hd2, ok2, qe, qe2, q⟩ := h
    refine ⟨_, (pss_cons (ps_if (PW.pt (pw_or (pt_not (pt_val (pe_call GTo hr (by rfl) mTo kTo bTo .nil pass0 (pa_cons (pv 0) (pa_cons pe_int pa_nil))))) (pw_or1 (pt_not (pt_val (pe_callB (cr_all rfl) (by rfl) fall (by decide +kernel) (pa_cons (pe_lc (own := [("value", 2)]) (g := (gName 2)) (tt := tYes) rfl scFirst.nd (pi_tup (pv 0)) (blkOk_by (N := ["letters", "accesses", "value", "address", "letter"]) (sc := defScope sFirst) (by decide +kernel)) (fun _ _ _ _ _ => (pg_name (i := 2) scFirst.nd rfl (.inl rfl))) (fun _ _ _ _ _ => pts_nil) (fun _ _ _ _ _ => (pe_or (pe_cmpR (show OpR _ (compareOp .Eq) (rEqS K) from op_eqS hr.units) (pv 2) pe_str (nomark _)) (pe_one (pe_call GLe hr (by rfl) mLe kLe bLe .nil pass0 (pa_cons (pv 2) pa_nil)))))) pa_nil))))))) (pss_one (ps_err rfl EL IL bIL (k := k+2) hr (takes_of rfl rfl rfl rfl) (by rfl) gBadLetters (pv 0))) pss_nil) (pss_cons (ps_if (pt_not (pt_val (pe_call GAc hr (by rfl) mAc kAc bAc .nil pass0 (pa_cons (pv 1) pa_nil)))) (pss_one (ps_err rfl EA IA bIA (k := k+2) hr (takes_of rfl rfl rfl rfl) (by rfl) gBadAccesses (pv 1))) pss_nil) (PSs.nox (pss_cons (ps_for PassesOwn.never rfl (pi_tup (pv 1)) (pg_tup (by rfl) (pgs_cons (pg_name (i := 3) scFirst.nd rfl (.inl rfl)) (pgs_cons (pg_name (i := 4) scFirst.nd rfl (.inl rfl)) pgs_nil))) (pss_one (ps_if (pt_cmpR op_notIn_sign (pv 4) (pe_ix ix_tup (pv 0) (pe_op op_fdiv (pv 3) pe_int) (fun _ _ => rfl)) (by rfl)) (pss_one (ps_ret (pe_tup (pa_cons pe_str (pa_cons (pv 4) (pa_cons (pv 3) pa_nil)))))) pss_nil))) (pss_one (ps_ret pe_non)))))), ?_⟩
    refine ⟨v, rfl, v, d, 16, rfl, dq_tq hd, _, rfl, ?_⟩
    cases e : isTup d 16 with
    | false =>
      have el : lettersB d = false := by
        unfold lettersB
        split
        · rename_i ds
          have e' : decide (V.int (ds.length : Nat) = V.int 16) = false := e
          have n4 : ¬ ds.length = 16 := fun z => of_decide_eq_false e' (by rw [z]; rfl)
          rw [decide_eq_false n4, Bool.false_and]
        · rfl
      exact iteT ⟨v, rfl, need_ok EL fun dd n => qe el H dd (Same.refl H) n⟩
    | true =>
      obtain ⟨ds, rfl, hl⟩ := isTup_len (n := 16) e
      obtain ⟨a, xs, rfl, hs, hxl, hel⟩ := dq_parts hd
      refine iteF ⟨.ref a, rfl, a, rfl, ⟨_, hs⟩, fun D nD => ?_⟩
      refine lc_tup (xs := xs) (fun i H' => Same H H' ∧ H' D = some (.lst (((ds.take i).map isLE).map V.bl))) ⟨same_upd nD, upd_same⟩ (fun i H' _ hP => Same.seqT hP.1 hs) (fun i x H' hx hP => ?_) fun H2 hP => ?_
      · obtain ⟨sm, hD⟩ := hP
        have hi := (List.getElem?_eq_some_iff.mp hx).1
        have hi2 : i < ds.length := by omega
        obtain ⟨hdx, hok⟩ := hel i x hx
        have hdx := Dk.same sm hdx
        have et : ds.take (i + 1) = ds.take i ++ [ds.getD i .none] := by
          rw [List.take_add_one, List.getD_eq_getElem?_getD, List.getElem?_eq_getElem hi2]; rfl
        have fin : ∀ (b : Bool) H3, b = isLE (ds.getD i .none) → Same H' H3 → (fun H4 => Same H H4 ∧ H4 D = some (.lst (((ds.take (i + 1)).map isLE).map V.bl))) (upd H3 D (.lst (((ds.take i).map isLE).map V.bl ++ [V.bl b]))) := fun b H3 eb s3 => by
          refine ⟨Same.updNew (sm.trans s3) nD, ?_⟩
          rw [upd_same, et, List.map_append, List.map_append, eb]
          rfl
        refine ⟨rfl, yesT ?_⟩
        refine ⟨x, rfl, ds.getD i .none, "", hdx, rfl, hok, by decide +kernel, _, rfl, ?_⟩
        have ll : (((ds.take i).map isLE).map V.bl).length < sizeLine := small1000 (by rw [List.length_map, List.length_map, List.length_take]; omega)
        cases e1 : isS (ds.getD i .none) "" with
        | true => exact iteT ⟨_, hD, ll, fin true H' (by unfold isLE; rw [e1]; rfl) (Same.refl _)⟩
        | false => exact iteF ⟨x, rfl, x, _, rfl, hdx, fun H3 s3 => ⟨_, s3 _ _ hD, ll, fin _ H3 (by unfold isLE; rw [e1]; rfl) s3⟩⟩
      · obtain ⟨sm, hD⟩ := hP
        rw [hxl, List.take_length] at hD
        refine ⟨D, _, rfl, SqL.of hD, _, rfl, ?_⟩
        have eb : lettersB (.tuple ds) = (ds.map isLE).all id := by
          show (decide (ds.length = 16) && _) = _
          rw [decide_eq_true hl, Bool.true_and]
        cases eL : (ds.map isLE).all id with
        | false => exact iteT ⟨.ref a, rfl, need_ok EL fun dd n => qe (eb.trans eL) H2 dd sm n⟩
        | true =>
          refine iteF ⟨v2, rfl, v2, d2, rfl, Dk.same sm hd2, ok2, fun H3 s3 => ⟨_, rfl, ?_⟩⟩
          cases eA : accB d2 with
          | false => exact iteT ⟨v2, rfl, need_ok EA fun dd n => qe2 (eb.trans eL) eA H3 dd (sm.trans s3) n⟩
          | true =>
            refine iteF ?_
            have s13 := sm.trans s3
            obtain ⟨acs, rfl, hacs, l1, l2⟩ := accB_shape eA
            obtain ⟨b, ys, rfl, hsb, hab⟩ := dk_tup hd2
            obtain ⟨ls, rfl⟩ := letters_strs eL
            have exs : xs = ls.map V.str := by
              refine List.ext_getElem? fun i => ?_
              cases ex : xs[i]? with
              | none =>
                have := List.getElem?_eq_none_iff.mp ex
                rw [List.getElem?_eq_none (by rw [List.length_map]; rw [List.length_map] at hxl; omega)]
              | some x =>
                have hi := (List.getElem?_eq_some_iff.mp ex).1
                rw [hxl, List.length_map] at hi
                have h1 := (hel i x ex).1
                rw [List.getD_eq_getElem?_getD, List.getElem?_map, List.getElem?_eq_getElem hi] at h1
                rw [List.getElem?_map, List.getElem?_eq_getElem hi]
                have h1 : Dk K H x (.str ls[i]) := h1
                cases h1 with
                | dp h => cases h; rfl
            subst exs
            have q := fun H' s => q ls acs rfl rfl (eb.trans eL) eA H' s
            have hsb3 := Same.seqT s13 hsb
            have hs3 := Same.seqT s13 hs
            have hyl := dpAll_len hab
            refine ⟨.ref b, rfl, b, rfl, ⟨_, hsb3⟩, for_tup (xs := ys) (fun i σ H' => H' = H3 ∧ (∃ y z, σ = [some (.ref a), some (.ref b), none, y, z]) ∧ refused ls acs = refused ls (acs.drop i)) ⟨rfl, ⟨none, none, rfl⟩, rfl⟩ (fun i σ H' _ hp => by rw [hp.1]; exact hsb3) (fun i x σ H' hx hP => ?_) fun σ H' hP => ?_⟩
            · obtain ⟨rfl, ⟨y, z, rfl⟩, er⟩ := hP
              have hi := (List.getElem?_eq_some_iff.mp hx).1
              rw [hyl, List.length_map] at hi
              have hdx := dpAll_get hab hx
              rw [List.getD_eq_getElem?_getD, List.getElem?_map, List.getElem?_eq_getElem hi] at hdx
              have hdx : Dp K H x (accD acs[i]) := hdx
              have hok := hacs _ (List.getElem_mem hi)
              rw [List.drop_eq_getElem_cons hi] at er
              generalize acs[i] = pr at hdx hok er
              obtain ⟨ad, l⟩ := pr
              obtain ⟨o0, o1, o2⟩ := hok
              have o0 : 0 ≤ ad := o0
              have o1 : ad ≤ 255 := o1
              obtain ⟨c, rfl⟩ := one_sign o2
              cases hdx with
              | @tup t zs _ hst hat =>
              obtain ⟨_, _, rfl, g1, g2⟩ := dpAll_two hat
              cases g1; cases g2
              have hll : ls.length = 16 := by rw [List.length_map] at hl; exact hl
              have hat : atI (ls.map V.str) (ad / 16) = some (.str (ls.getD (ad / 16).toNat "")) := at_of (j := (ad / 16).toNat) (by omega) (by
                rw [List.getElem?_map, List.getElem?_eq_getElem (show (ad / 16).toNat < ls.length by omega), List.getD_eq_getElem?_getD, List.getElem?_eq_getElem (show (ad / 16).toNat < ls.length by omega)]; rfl)
              refine ⟨t, _, rfl, Same.seqT s13 hst, rfl, _, _, rfl, _, _, rfl, rfl, ?_⟩
              refine ⟨_, rfl, .ref a, rfl, .int ad, rfl, ad, 16, rfl, rfl, ⟨by decide, by decide⟩, a, _, _, _, rfl, rfl, hs3, hat, c, _, rfl, rfl, _, rfl, ?_⟩
              have er2 : refused ls ((ad, (⟨#[c]⟩ : Str)) :: acs.drop (i + 1)) = if decide (c ∈ (ls.getD (ad / 16).toNat "").cps.toList) = true then refused ls (acs.drop (i + 1)) else some (⟨#[c]⟩, ad) := by
                show (if (([c] : List Nat).all fun c => decide (c ∈ (ls.getD (ad / 16).toNat "").cps.toList)) = true then _ else _) = _
                rw [List.all_cons, List.all_nil, Bool.and_true]
              rw [er2] at er
              by_cases hc : c ∈ (ls.getD (ad / 16).toNat "").cps.toList
              · rw [if_pos (decide_eq_true hc)] at er
                rw [decide_eq_true hc]
                exact iteF ⟨rfl, ⟨some (.int ad), _, rfl⟩, er⟩
              · rw [if_neg (by rw [decide_eq_false hc]; exact Bool.false_ne_true)] at er
                rw [decide_eq_false hc]
                refine iteT ⟨_, rfl, .int ad, rfl, by show 3 ≤ sizeLine; decide, fun t nt => ?_⟩
                exact (q _ (s13.trans (same_upd nt))).2 _ _ t er (SqT.of upd_same)
            · obtain ⟨rfl, ⟨y, z, rfl⟩, er⟩ := hP
              rw [hyl, List.length_map, List.drop_length] at er
              exact (q _ s13).1 er
end
end K26

set_option maxRecDepth 100000
set_option maxHeartbeats 8000000
/-! k26: a value bent. -/
namespace K26
open PySem PySem.Spec PyProof.Rows L2 LamX VG TL
theorem scBent : FnScope ["pot", "value", "at", "some", "sign"] ["pot", "value"] (defScope sBent) := ⟨rfl, rfl, rfl, by decide +kernel, rfl, by decide +kernel, by decide +kernel⟩
theorem len_list (z : Str) : z.length = z.cps.toList.length := by show z.cps.size = _; rw [Array.length_toList]
theorem str_ext {a b : Str} (h : a.cps.toList = b.cps.toList) : a = b := by
  cases a with | mk a => cases b with | mk b => cases a with | mk a => cases b with | mk b => cases h; rfl
theorem empty_iff {z : Str} : z = "" ↔ z.cps.toList = [] := by
  constructor
  · intro h; rw [h]; decide
  · intro h; exact str_ext (by rw [h]; decide)
theorem okN18t {k m : Nat} {ds : List PyData} (h : ∀ d ∈ ds, okN k m d) (hl : ds.length ≤ 18) : okN (k + 1) (18 * (m + 1)) (.tuple ds) := by
  obtain ⟨i1, i2, i3, i4, i5⟩ := okN.all h
  have : (m + 1) * ds.length ≤ (m + 1) * 18 := Nat.mul_le_mul_left _ hl
  refine ⟨by simpa [PyData.leavesShort] using i1, by simp only [PyData.weight]; omega, by simpa [PyData.showable] using i3, by simp only [PyData.depth]; omega, by simpa [PyData.canLay0] using i5⟩
theorem okN18l {k m : Nat} {ds : List PyData} (h : ∀ d ∈ ds, okN k m d) (hl : ds.length ≤ 18) : okN (k + 1) (18 * (m + 1)) (.list ds) := by
  obtain ⟨i1, i2, i3, i4, i5⟩ := okN.all h
  have : (m + 1) * ds.length ≤ (m + 1) * 18 := Nat.mul_le_mul_left _ hl
  refine ⟨by simpa [PyData.leavesShort] using i1, by simp only [PyData.weight]; omega, by simpa [PyData.showable] using i3, by simp only [PyData.depth]; omega, by simpa [PyData.canLay0] using i5⟩
/-- what can be bent: whole numbers, texts, tuples of these, so deep -/
inductive BD : Nat → PyData → Prop
  | int {n : Nat} {i : Int} : -1000 ≤ i → i ≤ 70000 → BD n (.int i)
  | str {n : Nat} {z : Str} : okS 12 z → okS 20 (Txt.upper z) → z ≠ "" → BD n (.str z)
  | tup {n : Nat} {ds : List PyData} : ds ≠ [] → ds.length ≤ 16 → (∀ d ∈ ds, BD n d) → BD (n + 1) (.tuple ds)
theorem slimAll_iff : ∀ {ds : List PyData}, slimAll ds = true ↔ ∀ d ∈ ds, slim d = true
  | [] => ⟨fun _ d h => (by cases h), fun _ => (by unfold slimAll; rfl)⟩
  | a :: ds => by
    simp only [slimAll, Bool.and_eq_true, List.mem_cons, forall_eq_or_imp, slimAll_iff (ds := ds)]
def okM (k m : Nat) (d : PyData) : Prop := okN k m d ∧ slim d = true
theorem okM.mono {k m k' m' : Nat} {d : PyData} (h : okM k m d) (hk : k ≤ k') (hm : m ≤ m') : okM k' m' d := ⟨h.1.mono hk hm, h.2⟩
theorem okM.int {i : Int} (h0 : -100000 ≤ i) (h1 : i ≤ 1000000) : okM 0 50 (.int i) := ⟨okN.int h0 h1, by simp only [slim]⟩
theorem okM.str {n : Nat} {x : Str} (h : okS n x) (hn : n ≤ 50) : okM 0 50 (.str x) := ⟨h.ok hn, by simp only [slim]⟩
theorem okM.non : okM 1 918 .none := ⟨⟨rfl, by simp [PyData.weight], rfl, by simp [PyData.depth], rfl⟩, by simp only [slim]⟩
theorem okM.bl (b : Bool) : okM 1 918 (.bool b) := ⟨⟨rfl, by simp [PyData.weight], rfl, by simp [PyData.depth], rfl⟩, by simp only [slim]⟩
theorem okM.tup {k m : Nat} {ds : List PyData} (h : ∀ d ∈ ds, okM k m d) (hl : ds.length ≤ 18) : okM (k + 1) (18 * (m + 1)) (.tuple ds) := ⟨okN18t (fun d hd => (h d hd).1) hl, by
  simp only [slim, Bool.and_eq_true, decide_eq_true_eq]
  exact ⟨by omega, slimAll_iff.mpr fun d hd => (h d hd).2⟩⟩
theorem okM.lst {k m : Nat} {ds : List PyData} (h : ∀ d ∈ ds, okM k m d) (hl : ds.length ≤ 18) : okM (k + 1) (18 * (m + 1)) (.list ds) := ⟨okN18l (fun d hd => (h d hd).1) hl, by
  simp only [slim, Bool.and_eq_true, decide_eq_true_eq]
  exact ⟨by omega, slimAll_iff.mpr fun d hd => (h d hd).2⟩⟩
def wB : Nat → Nat
  | 0 => 918
  | n + 1 => 18 * (wB n + 1)
theorem BD.ok {d : PyData} : ∀ {n : Nat}, BD n d → okM n (wB n) d := by
  intro n h
  induction h with
  | @int n i h1 h2 =>
    refine (okM.int (by omega) (by omega)).mono (Nat.zero_le _) ?_
    induction n with
    | zero => decide
    | succ n ih => unfold wB; omega
  | @str n z h1 h2 h3 =>
    refine (okM.str h1 (by decide)).mono (Nat.zero_le _) ?_
    induction n with
    | zero => decide
    | succ n ih => unfold wB; omega
  | tup h1 h2 h3 ih => exact okM.tup ih (by omega)
theorem shaped_of {k m : Nat} {d : PyData} (h : okN k m d) (hk : k ≤ 60) : SeqAt.shaped d = true := by
  unfold SeqAt.shaped
  rw [h.2.2.2.2, decide_eq_true (Nat.le_trans h.2.2.2.1 (by omega))]
  rfl
theorem wB_ge : ∀ n, 918 ≤ wB n
  | 0 => Nat.le_refl _
  | n + 1 => by have := wB_ge n; unfold wB; omega
/-- t[-1:] -/
theorem slice_last {K : PySem.W.Frag} {H : Hp} {a : Addr} {xs : List V} {Q : VK} (h : SqT K H a xs) (q : ∀ c H' ys, SqT K H' c ys → (∀ y ∈ ys, y ∈ xs) → ys.length ≤ 1 → Same H H' → Q (.ref c) H') : rSlA K (.ref a) (some (-1)) none H Q := by
  have e : HT.sIx xs.length 0 (some (-1)) = xs.length - 1 := by
    show (if (-1 : Int) < 0 then (-1 + (xs.length : Int)).toNat else min ((-1 : Int)).toNat xs.length) = _
    rw [if_pos (by decide)]
    omega
  refine ⟨a, xs, rfl, h, fun hw => q a H xs h (fun y hy => hy) ?_ (Same.refl H), fun _ p np => q p _ (cutV xs (some (-1)) none) (SqT.of upd_same) (fun y hy => List.mem_of_mem_drop (List.mem_of_mem_take (i := _) hy)) ?_ (same_upd np)⟩
  · have := hw.1
    rw [e] at this
    omega
  · unfold cutV
    rw [e, HT.sIx_none, List.length_take, List.length_drop]
    omega
/-- what is bent is no list: it stands where lists are forgotten -/
theorem bd_nl {K : PySem.W.Frag} {H H' : Hp} {p : Addr} (g : Same (wo H p) (wo H' p)) {n : Nat} {d : PyData} (b : BD n d) : ∀ {v : V}, Dp K (wo H p) v d → Dp K (VG.nl H H') v d := by
  induction b with
  | int _ _ => intro v h; cases h; exact .int _
  | str _ _ _ => intro v h; cases h; exact .str _
  | tup h1 h2 h3 ih =>
    intro v h
    cases h with
    | tup hs ha =>
      refine .tup (sqT_nl g (Same.seqT g hs)) ?_
      clear h1 h2 h3 hs
      rename_i ds _ _
      rename_i xs
      revert ha
      revert ih
      revert xs
      induction ds with
      | nil => intro xs ih ha; cases ha; exact .nil
      | cons d ds ihd =>
        intro xs ih ha
        cases ha with
        | cons a1 a2 => exact .cons (ih d (List.mem_cons_self ..) a1) (ihd (fun e he => ih e (List.mem_cons_of_mem _ he)) a2)
section
variable {P : Program} {w : World} {K : PySem.W.Frag} {mg : Str → Option Value} {base : Heap}
def spBent (K : PySem.W.Frag) (n : Nat) : Sp := fun vs H Q _ => ∃ (p : Addr) (m : Nat) (v : V) (d : PyData), vs = [.ref p, v] ∧ Dp K (wo H p) v d ∧ BD n d ∧ n ≤ 4 ∧ Pot H p m ∧ m + 20 * (n + 1) < 1000000 ∧
  ∀ u e H', Pot H' p (m + 20 * (n + 1)) → Same (wo H p) (wo H' p) → Dp K (nl H H') u e → okM (n + 1) (wB n) e → Q u H'
theorem ok_Bent {k : Nat} {f : Addr} {fd : FuncData} {spR:Sp} {n:Nat} (F : Fun K "_law_bent" "_law_bent" sBent f fd) (gTa : Cal P w K mg base CX0 (k + 4) "_law_take" ["pot", "upto"] spTake) (gOf : Cal P w K mg base CX0 (k + 4) "_law_of" ["pot", "some"] (spOf K)) (gSo : Cal P w K mg base CX0 (k + 4) "_law_some" ["pot", "pool", "many"] (spSome K)) (gOd : Cal P w K mg base CX0 (k + 4) "_law_odd" ["pot"] (spOdd K)) (gBe : Cal P w K mg base CX0 (k + 4) "_law_bent" ["pot", "value"] spR) (hR : ∀ j, n = j + 1 → ∀ vs H Q E, spBent K j vs H Q E → spR vs H Q E) (fbool : mg "bool" = none) (fint : mg "int" = none) (fisinstance : mg "isinstance" = none) (flen : mg "len" = none) (flist : mg "list" = none) (fstr : mg "str" = none) (ftuple : mg "tuple" = none) : FnOk P w K mg base CX0 (k + 5) f fd ["pot", "value"] (spBent K n) := by
  obtain ⟨fTa, fdTa, GTa, kTa, bTa, mTa⟩ := gTa
  obtain ⟨fOf, fdOf, GOf, kOf, bOf, mOf⟩ := gOf
  obtain ⟨fSo, fdSo, GSo, kSo, bSo, mSo⟩ := gSo
  obtain ⟨fOd, fdOd, GOd, kOd, bOd, mOd⟩ := gOd
  obtain ⟨fBe, fdBe, GBe, kBe, bBe, mBe⟩ := gBe
  refine F.ok scBent (fun vs H Q E h => ?_) (fun cdv A outer s H vs Q E hr h => ?_)
  · obtain ⟨p, m, v, d, rfl, _⟩ := h
    rfl
  · obtain ⟨p, m, v, d, rfl, hd, hb, hn, hp, hm, q⟩ := h
    refine ⟨_, (pss_cons (ps_if (PW.pt (pw_and (pt_val (pe_callB call_isi (by rfl) fisinstance (by decide +kernel) (pa_cons (pv 1) (pa_cons (pe_bltn (v := .ty "tuple") (by rfl) ftuple (by decide +kernel) rfl) pa_nil)))) (pw_and (pt_cmpR (op_neD hr.units) (pv 1) (pe_tup pa_nil) (nomark _)) (pw_and1 (pt_cmpR op_gt (pe_call GTa hr (by rfl) mTa kTa bTa .nil pass0 (pa_cons (pv 0) (pa_cons pe_int pa_nil))) pe_int (nomark _)))))) (pss_cons (ps_set (i := 2) scBent.nd rfl (.inr rfl) (pe_call GTa hr (by rfl) mTa kTa bTa .nil pass0 (pa_cons (pv 0) (pa_cons (pe_callB call_len_seq (by rfl) flen PySem.boot_len (pa_cons (pv 1) pa_nil)) pa_nil)))) (pss_one (ps_ret (pe_op op_catA (pe_op op_catA (pe_slice sl_tupA (pv 1) po_none (po_some (pv 2))) (pe_tup (pa_cons (pe_call GBe hr (by rfl) mBe kBe bBe .nil pass0 (pa_cons (pv 0) (pa_cons (pe_ix ix_tup (pv 1) (pv 2) (fun _ _ => rfl)) pa_nil))) pa_nil))) (pe_slice sl_tupA (pv 1) (po_some (pe_op op_add (pv 2) pe_int)) po_none))))) pss_nil) (pss_cons (ps_if (pt_val (pe_callB call_isi (by rfl) fisinstance (by decide +kernel) (pa_cons (pv 1) (pa_cons (pe_bltn (v := .ty "tuple") (by rfl) ftuple (by decide +kernel) rfl) pa_nil)))) (pss_cons (ps_set (i := 3) scBent.nd rfl (.inl rfl) (pe_lst (pa_cons (pe_callTy call_list_of (by rfl) flist (by decide +kernel) (pa_cons (pv 1) pa_nil)) (pa_cons (pe_slice sl_tupA (pv 1) (po_some pe_int) po_none) (pa_cons (pe_slice sl_tupA (pv 1) po_none (po_some (pe_un un_neg pe_int))) (pa_cons (pe_op op_catA (pv 1) (pe_slice sl_tupA (pv 1) (po_some (pe_un un_neg pe_int)) po_none)) (pa_cons (pe_revT (pv 1)) (pa_cons (pe_tup pa_nil) (pa_cons pe_non (pa_cons (pe_op op_catA (pv 1) (pe_tup (pa_cons pe_int pa_nil))) pa_nil)))))))))) (pss_one (ps_ret (pe_call GOf hr (by rfl) mOf kOf bOf .nil pass0 (pa_cons (pv 0) (pa_cons (pv 3) pa_nil)))))) pss_nil) (pss_cons (ps_if (pt_val (pe_callB call_isi (by rfl) fisinstance (by decide +kernel) (pa_cons (pv 1) (pa_cons (pe_bltn (v := .ty "bool") (by rfl) fbool (by decide +kernel) rfl) pa_nil)))) (pss_one ps_never) pss_nil) (pss_cons (ps_if (pt_val (pe_callB call_isi (by rfl) fisinstance (by decide +kernel) (pa_cons (pv 1) (pa_cons (pe_bltn (v := .ty "int") (by rfl) fint (by decide +kernel) rfl) pa_nil)))) (pss_one (ps_ret (pe_call GOf hr (by rfl) mOf kOf bOf .nil pass0 (pa_cons (pv 0) (pa_cons (pe_lst (pa_cons (pe_op op_add (pv 1) pe_int) (pa_cons (pe_op op_sub (pv 1) pe_int) (pa_cons (pe_cmpR op_eq (pv 1) pe_int (nomark _)) (pa_cons (pe_un un_neg (pv 1)) (pa_cons (pe_callTy call_str_int (by rfl) fstr (by decide +kernel) (pa_cons (pe_op op_mod (pe_callTy call_int1 (by rfl) fint (by decide +kernel) (pa_cons (pv 1) pa_nil)) (pe_op op_pow pe_int pe_int)) pa_nil)) (pa_cons pe_non (pa_cons (pe_tup (pa_cons (pv 1) pa_nil)) pa_nil)))))))) pa_nil))))) pss_nil) (pss_cons (ps_if (PW.pt (pw_and (pt_val (pe_callB call_isi (by rfl) fisinstance (by decide +kernel) (pa_cons (pv 1) (pa_cons (pe_bltn (v := .ty "str") (by rfl) fstr (by decide +kernel) rfl) pa_nil)))) (pw_and1 (pt_cmpR op_ne (pv 1) pe_str (nomark _))))) (pss_cons (ps_set (i := 2) scBent.nd rfl (.inr rfl) (pe_call GTa hr (by rfl) mTa kTa bTa .nil pass0 (pa_cons (pv 0) (pa_cons (pe_callB call_len_str (by rfl) flen PySem.boot_len (pa_cons (pv 1) pa_nil)) pa_nil)))) (pss_cons (ps_setLc (i := 3) (own := [("sign", 4)]) (g := (gName 4)) (tt := tYes) rfl scBent.nd rfl rfl (by rfl) (pi_list (pe_call GSo hr (by rfl) mSo kSo bSo .nil pass0 (pa_cons (pv 0) (pa_cons (pe_callTy (call_listS rfl) (by rfl) flist (by decide +kernel) (pa_cons pe_str pa_nil)) (pa_cons pe_int pa_nil))))) (blkOk_by (N := ["pot", "value", "at", "some", "sign"]) (sc := defScope sBent) (by decide +kernel)) (fun _ _ _ _ _ => (pg_name (i := 4) scBent.nd rfl (.inl rfl))) (fun _ _ _ _ _ => pts_nil) (fun _ _ _ _ _ => (pe_op op_add_str (pe_op op_add_str (pe_slice sl_str (pv 1) po_none (po_some (pv 2))) (pv 4)) (pe_slice sl_str (pv 1) (po_some (pe_op op_add (pv 2) pe_int)) po_none)))) (pss_one (ps_ret (pe_call GOf hr (by rfl) mOf kOf bOf .nil pass0 (pa_cons (pv 0) (pa_cons (pe_op op_cat (pv 3) (pe_lst (pa_cons (pe_op op_add_str (pv 1) pe_str) (pa_cons (pe_slice sl_str (pv 1) (po_some pe_int) po_none) (pa_cons (pe_upper (pv 1)) (pa_cons (pe_lst (pa_cons (pv 1) pa_nil)) (pa_cons pe_non (pa_cons (pe_op op_add_str pe_str (pv 1)) (pa_cons (pe_tup (pa_cons (pv 1) pa_nil)) pa_nil))))))))) pa_nil))))))) pss_nil) (pss_one ps_never)))))), ?_⟩
    have hdH := dp_same wo_le _ _ hd
    cases hb with
    | @int _ i i0 i1 =>
      cases hd
      have ty : TyX K H (.int i) (.type "int") := (Dk.dp (.int i)).tyx
      refine ⟨.int i, rfl, .int i, .ty "tuple", .type "int", .type "tuple", false, rfl, .ty "tuple", ty, (kit_ty (show kitB "int" "tuple" = some false by decide +kernel)), _, rfl, iteF (iteF ?_)⟩
      refine ⟨.int i, rfl, .int i, .ty "tuple", .type "int", .type "tuple", false, rfl, .ty "tuple", ty, (kit_ty (show kitB "int" "tuple" = some false by decide +kernel)), _, rfl, iteF ?_⟩
      refine ⟨.int i, rfl, .int i, .ty "bool", .type "int", .type "bool", false, rfl, .ty "bool", ty, (kit_ty (show kitB "int" "bool" = some false by decide +kernel)), _, rfl, iteF ?_⟩
      refine ⟨.int i, rfl, .int i, .ty "int", .type "int", .type "int", true, rfl, .ty "int", ty, (kit_ty (show kitB "int" "int" = some true by decide +kernel)), _, rfl, iteT ?_⟩
      have e10 : (10 : Int) ^ (6 : Int).toNat = 1000000 := by decide
      refine ⟨.ref p, rfl, .int i, rfl, i, 1, rfl, rfl, .int i, rfl, i, 1, rfl, rfl, .int i, rfl, rfl, .int i, rfl, i, rfl, .int i, rfl, .inl ⟨i, rfl, 10, 6, rfl, rfl, (by unfold CPow; decide), i, 10 ^ (6 : Int).toNat, rfl, rfl, (by show (0 : Int) < 10 ^ 6; decide), i % (10 ^ (6 : Int).toNat), rfl, ?_, .int i, rfl, by show 1 ≤ sizeLine; decide, fun c nc => ⟨by show 7 ≤ sizeLine; decide, fun l nl => ?_⟩⟩⟩
      · rw [e10]
        have h1 : (i % 1000000).natAbs < 1000000 := by omega
        by_cases z : (i % 1000000).natAbs = 0
        · rw [z]; decide
        · exact Nat.lt_trans ((Nat.log2_lt z).mpr (Nat.lt_trans h1 (by decide : 1000000 < 2 ^ 20))) (by decide)
      have s1 := same_upd (o := .tup [V.int i]) nc
      have s2 := s1.trans (same_upd (o := .lst [V.int (i + 1), .int (i - 1), .bl (decide (V.int i = V.int 1)), .int (-i), .str ((toString (i % (10 ^ (6 : Int).toNat)) : String) : Str), .non, .ref c]) nl)
      have nel := (hp.same s1).ne nl
      have nec := hp.ne nc
      refine ⟨p, l, [V.int (i + 1), .int (i - 1), .bl (decide (V.int i = V.int 1)), .int (-i), .str ((toString (i % (10 ^ (6 : Int).toNat)) : String) : Str), .non, .ref c], m, rfl, SqL.of (wo_at upd_same nel), by simp, by show 7 ≤ 1000; decide, hp.same s2, by omega, fun x hx H' hp' s' => ?_⟩
      have qq := fun u d (a : Dp K (VG.nl H H') u d) (b : okM 1 918 d) => q u d H' (hp'.mono (by omega)) ((wo_same_of s2).trans s') a (b.mono (by omega) (wB_ge n))
      have ec : H' c = some (.tup [V.int i]) ∧ c ≠ p := ⟨wo_le _ _ (s' _ _ (wo_at ((same_upd (o := .lst [V.int (i + 1), .int (i - 1), .bl (decide (V.int i = V.int 1)), .int (-i), .str ((toString (i % (10 ^ (6 : Int).toNat)) : String) : Str), .non, .ref c]) nl) _ _ upd_same) nec)), nec⟩
      simp only [List.mem_cons, List.not_mem_nil, or_false] at hx
      rcases hx with rfl | rfl | rfl | rfl | rfl | rfl | rfl
      · exact qq _ (.int _) (.int _) ((okM.int (by omega) (by omega)).mono (by omega) (by omega))
      · exact qq _ (.int _) (.int _) ((okM.int (by omega) (by omega)).mono (by omega) (by omega))
      · exact qq _ (.bool _) (.bl _) (okM.bl _)
      · exact qq _ (.int _) (.int _) ((okM.int (by omega) (by omega)).mono (by omega) (by omega))
      · refine qq _ (.str _) (.str _) ((okM.str (n := 10) ⟨?_, ?_⟩ (by omega)).mono (by omega) (by omega))
        · rw [e10]
          exact Nat.le_trans (toString_length_le (k := 6) (by omega) (by decide) (by omega)) (by decide)
        · exact str_chars _
      · exact qq _ .none .non okM.non
      · exact qq _ (.tuple [.int i]) (.tup (SqT.of (nl_at ((wo_same_of s2).trans s') (wo_at ec.1 ec.2) fun _ z => nomatch z)) (.cons (.int i) .nil)) ((okM.tup (k := 0) (m := 50) (fun d hd => by rw [List.mem_singleton.mp hd]; exact okM.int (by omega) (by omega)) (by show 1 ≤ 18; omega)).mono (by omega) (by omega))
    | @str _ z z1 z2 z3 =>
      cases hd
      have ty : TyX K H (.str z) (.type "str") := (Dk.dp (.str z)).tyx
      have zl := z1.1
      refine ⟨.str z, rfl, .str z, .ty "tuple", .type "str", .type "tuple", false, rfl, .ty "tuple", ty, (kit_ty (show kitB "str" "tuple" = some false by decide +kernel)), _, rfl, iteF (iteF ?_)⟩
      refine ⟨.str z, rfl, .str z, .ty "tuple", .type "str", .type "tuple", false, rfl, .ty "tuple", ty, (kit_ty (show kitB "str" "tuple" = some false by decide +kernel)), _, rfl, iteF ?_⟩
      refine ⟨.str z, rfl, .str z, .ty "bool", .type "str", .type "bool", false, rfl, .ty "bool", ty, (kit_ty (show kitB "str" "bool" = some false by decide +kernel)), _, rfl, iteF ?_⟩
      refine ⟨.str z, rfl, .str z, .ty "int", .type "str", .type "int", false, rfl, .ty "int", ty, (kit_ty (show kitB "str" "int" = some false by decide +kernel)), _, rfl, iteF ?_⟩
      refine ⟨.str z, rfl, .str z, .ty "str", .type "str", .type "str", true, rfl, .ty "str", ty, (kit_ty (show kitB "str" "str" = some true by decide +kernel)), _, rfl, iteT ⟨.str z, rfl, rfl, _, rfl, ?_⟩⟩
      have e0 : (!decide (V.str z = V.str "")) = true := by
        rw [decide_eq_false fun y => z3 (V.str.inj y)]
        rfl
      rw [e0]
      refine iteT ?_
      have zpos : 0 < z.length := by
        rw [len_list]
        exact List.length_pos_iff.mpr fun e => z3 (empty_iff.mpr e)
      refine ⟨.ref p, rfl, .str z, rfl, z, rfl, sl (by omega), ?_⟩
      refine ⟨p, (z.length : Nat), m, rfl, by omega, by omega, hp, by omega, fun d1 H1 d10 d11 hp1 s1 => ?_⟩
      refine ⟨.ref p, rfl, "rwx019- ", rfl, by decide, fun c nc => ?_⟩
      have t1 := same_upd (o := .lst ((VG.signs "rwx019- ").map V.str)) nc
      refine ⟨p, c, (VG.signs "rwx019- ").map V.str, 4, m + 1, rfl, SqL.of (wo_at upd_same (hp1.ne nc)), by decide, by decide, hp1.same t1, by omega, fun H2 Fo fs hp2 s2 hF lf af => ?_⟩
      have g2 := (s1.trans (wo_same_of t1)).trans s2
      have nFo : Fo ≠ p := fun z => by rw [z, wo_same] at hF; cases hF
      have hF2 := wo_le _ _ hF
      refine ⟨Fo, rfl, ⟨fs, SqL.of hF2⟩, fun D nD => ?_⟩
      have nDp := hp2.ne nD
      refine lc_list (xs := fs) (fun i H' => Same H2 H' ∧ ∃ zs : List Str, H' D = some (.lst (zs.map V.str)) ∧ zs.length = i ∧ ∀ z ∈ zs, okS 25 z) ⟨same_upd nD, [], upd_same, rfl, fun z hz => (List.not_mem_nil hz).elim⟩ (fun i H' _ hP => SqL.of (hP.1 _ _ hF2)) (fun i x H' hx hP => ?_) fun H3 hP => ?_
      · obtain ⟨sm, zs, hD, lz, az⟩ := hP
        obtain ⟨sg, hsg, rfl⟩ := List.mem_map.mp (af x (List.mem_of_getElem? hx))
        have osg : okS 1 sg := by
          unfold VG.signs at hsg
          obtain ⟨ch, hch, rfl⟩ := List.mem_map.mp hsg
          exact ⟨Nat.le_refl 1, fun c' hc' => by
            have e : c' = ch := by simpa using hc'
            rw [e]
            exact str_chars "rwx019- " ch hch⟩
        have hi : i < 4 := by rw [← lf]; exact (List.getElem?_eq_some_iff.mp hx).1
        have o1 : okS 25 ((cutS z none (some d1) ++ sg) ++ cutS z (some (d1 + 1)) none) := ((z1.cut none (some d1)).cat osg).cat (z1.cut (some (d1 + 1)) none)
        have c1 := (z1.cut none (some d1)).1
        have c2 := (z1.cut (some (d1 + 1)) none).1
        have c3 := osg.1
        have c4 := ((z1.cut none (some d1)).cat osg).1
        refine ⟨rfl, ?_⟩
        unfold tYes
        refine iteT ?_
        refine ⟨.str z, rfl, ?_⟩
        unfold tNoPart
        refine ⟨_, rfl, d1, rfl, z, rfl, sl (by omega), .str sg, rfl, _, _, rfl, rfl, sl (by omega), .str z, rfl, ?_⟩
        refine ⟨_, rfl, d1, 1, rfl, rfl, d1 + 1, rfl, z, rfl, sl (by omega), _, _, rfl, rfl, sl (by omega), _, hD, small1000 (by rw [List.length_map]; omega), Same.updNew sm nD, zs ++ [(cutS z none (some d1) ++ sg) ++ cutS z (some (d1 + 1)) none], ?_, ?_, ?_⟩
        · rw [upd_same, List.map_append]
          rfl
        · rw [List.length_append, lz]
          rfl
        · intro z hz
          rcases List.mem_append.mp hz with hz | hz
          · exact az z hz
          · rw [List.mem_singleton.mp hz]
            exact o1
      · obtain ⟨sm, zs, hD, lz, az⟩ := hP
        have hp3 := hp2.same sm
        have ox : okS 1 "x" := ⟨by decide, str_chars "x"⟩
        have om : okS 1 "-" := ⟨by decide, str_chars "-"⟩
        have ox1 := ox.1
        have om1 := om.1
        refine ⟨.ref p, rfl, .ref D, rfl, .str z, rfl, _, _, rfl, rfl, sl (by omega), .str z, rfl, 1, rfl, z, rfl, sl (by omega), .str z, rfl, ?_⟩
        refine ⟨⟨z, rfl⟩, z, rfl, rfl, by omega, .str z, rfl, by show 1 ≤ sizeLine; decide, fun c3 nc3 => ⟨.str z, rfl, _, _, rfl, rfl, sl (by omega), .str z, rfl, by show 1 ≤ sizeLine; decide, fun c4 nc4 => ⟨by show 7 ≤ sizeLine; decide, fun l nl => ?_⟩⟩⟩
        have u3 := same_upd (o := .lst [V.str z]) nc3
        have u4 := same_upd (o := .tup [V.str z]) nc4
        have u5 := same_upd (o := .lst [V.str (z ++ "x"), .str (cutS z (some 1) none), .str (Txt.upper z), .ref c3, .non, .str ("-" ++ z), .ref c4]) nl
        have e3 := hp3.ne nc3
        have e4 := (hp3.same u3).ne nc4
        refine ⟨D, l, zs.map V.str, [V.str (z ++ "x"), .str (cutS z (some 1) none), .str (Txt.upper z), .ref c3, .non, .str ("-" ++ z), .ref c4], rfl, rfl, ((u3.trans u4).trans u5) _ _ hD, upd_same, sl (by rw [List.length_map]; show zs.length + 7 ≤ 1000; omega), fun l2 nl2 => ?_⟩
        have u6 := same_upd (o := .lst (zs.map V.str ++ [V.str (z ++ "x"), .str (cutS z (some 1) none), .str (Txt.upper z), .ref c3, .non, .str ("-" ++ z), .ref c4])) nl2
        have u36 := ((u3.trans u4).trans u5).trans u6
        have e6 := (hp3.same ((u3.trans u4).trans u5)).ne nl2
        refine ⟨p, l2, _, m + 1 + 4, rfl, SqL.of (wo_at upd_same e6), by simp, by rw [List.length_append, List.length_map]; show zs.length + 7 ≤ 1000; omega, hp3.same u36, by omega, fun x hx H' hp' s' => ?_⟩
        have qq := fun u d (a : Dp K (VG.nl H H') u d) (b : okM 1 918 d) => q u d H' (hp'.mono (by omega)) ((g2.trans (wo_same_of (sm.trans u36))).trans s') a (b.mono (by omega) (wB_ge n))
        have f3 := s' _ _ (wo_at (((u4.trans u5).trans u6) _ _ upd_same) e3)
        have f4 := s' _ _ (wo_at ((u5.trans u6) _ _ upd_same) e4)
        have an : okM 0 50 (.str z) := okM.str z1 (by omega)
        rcases List.mem_append.mp hx with hx | hx
        · obtain ⟨z, hz, rfl⟩ := List.mem_map.mp hx
          exact qq _ (.str z) (.str z) ((okM.str (az z hz) (by omega)).mono (by omega) (by omega))
        · simp only [List.mem_cons, List.not_mem_nil, or_false] at hx
          rcases hx with rfl | rfl | rfl | rfl | rfl | rfl | rfl
          · exact qq _ (.str _) (.str _) ((okM.str (z1.cat ox) (by omega)).mono (by omega) (by omega))
          · exact qq _ (.str _) (.str _) ((okM.str (z1.cut (some 1) none) (by omega)).mono (by omega) (by omega))
          · exact qq _ (.str _) (.str _) ((okM.str z2 (by omega)).mono (by omega) (by omega))
          · exact qq _ (.list [.str z]) (.lst (SqL.of ((nl_new (nl_fresh (g2.trans (wo_same_of sm)) nc3 e3)).trans (wo_le _ _ f3))) (.cons (.str z) .nil)) ((okM.lst (k := 0) (m := 50) (fun d hd => by rw [List.mem_singleton.mp hd]; exact an) (by show 1 ≤ 18; omega)).mono (by omega) (by omega))
          · exact qq _ .none .non okM.non
          · exact qq _ (.str _) (.str _) ((okM.str (om.cat z1) (by omega)).mono (by omega) (by omega))
          · exact qq _ (.tuple [.str z]) (.tup (SqT.of (nl_at ((g2.trans (wo_same_of (sm.trans u36))).trans s') f4 fun _ z => nomatch z)) (.cons (.str z) .nil)) ((okM.tup (k := 0) (m := 50) (fun d hd => by rw [List.mem_singleton.mp hd]; exact an) (by show 1 ≤ 18; omega)).mono (by omega) (by omega))
    | @tup n' ds t1 t2 t3 =>
      cases hd with
      | @tup a xs _ hs ha =>
      have hb : BD (n' + 1) (.tuple ds) := .tup t1 t2 t3
      have hsH := Same.seqT wo_le hs
      have hxl := dpAll_len ha
      have hw0 := wB_ge n'
      have hws : wB (n' + 1) = 18 * (wB n' + 1) := rfl
      have ty : TyX K H (.ref a) (.type "tuple") := (Dk.dp hdH).tyx
      -- each part, as a value and as data
      have parts_ : ∀ {H' : Hp}, (∀ x d, Dp K (wo H p) x d → BD n' d → Dp K H' x d) → ∀ (ys : List V), (∀ x ∈ ys, x ∈ xs ∨ x = .int 0) → ∃ es, DpAll K H' ys es ∧ (∀ d ∈ es, okM n' (wB n') d) ∧ es.length = ys.length := fun {H'} sH ys => by
        induction ys with
        | nil => exact fun _ => ⟨[], .nil, fun d hd => (List.not_mem_nil hd).elim, rfl⟩
        | cons x r ih =>
          intro h
          obtain ⟨es, h1, h2, h3⟩ := ih fun y hy => h y (List.mem_cons_of_mem _ hy)
          obtain ⟨d, g1, g2⟩ : ∃ d, Dp K H' x d ∧ okM n' (wB n') d := by
            rcases h x List.mem_cons_self with hx | rfl
            · obtain ⟨i, hi, e⟩ := List.mem_iff_getElem.mp hx
              have hdx := dpAll_get ha (i := i) (by rw [List.getElem?_eq_getElem hi, e])
              have hm : ds.getD i .none ∈ ds := by
                rw [List.getD_eq_getElem?_getD, List.getElem?_eq_getElem (by omega)]
                exact List.getElem_mem _
              exact ⟨_, sH _ _ hdx (t3 _ hm), (t3 _ hm).ok⟩
            · exact ⟨_, .int 0, (okM.int (by omega) (by omega)).mono (Nat.zero_le _) (by omega)⟩
          exact ⟨d :: es, .cons g1 h1, fun e he => (List.mem_cons.mp he).elim (fun z => z ▸ g2) (h2 e), by rw [List.length_cons, List.length_cons, h3]⟩
      have shp : SeqAt.shaped (.tuple ds) = true := shaped_of hb.ok.1 (by omega)
      have lenr : xs.length ≤ 16 := by omega
      have xpos : 0 < xs.length := by
        have : ds.length ≠ 0 := fun e => t1 (List.length_eq_zero_iff.mp e)
        omega
      refine ⟨.ref a, rfl, .ref a, .ty "tuple", .type "tuple", .type "tuple", true, rfl, .ty "tuple", ty, (kit_ty (show kitB "tuple" "tuple" = some true by decide +kernel)), _, rfl, iteT ?_⟩
      refine ⟨.ref a, rfl, by show 0 ≤ sizeLine; decide, fun c0 nc0 => ?_⟩
      have s0 := same_upd (o := .tup []) nc0
      refine ⟨.tuple ds, .tuple [], dp_same s0 _ _ hdH, .tup (SqT.of upd_same) .nil, shp, by decide, _, rfl, ?_⟩
      have ene : PyData.eqv (.tuple ds) (.tuple []) = false := by
        cases ds with
        | nil => exact absurd rfl t1
        | cons _ _ => rfl
      rw [ene]
      refine iteT ?_
      refine ⟨.ref p, rfl, p, 6, m, rfl, by decide, by decide, hp.same s0, by omega, fun d0 H1 d00 d01 hp1 s1 => ?_⟩
      have g1 := (wo_same_of (a := p) s0).trans s1
      have hs1 := Same.seqT g1 hs
      have hs1H := Same.seqT wo_le hs1
      refine ⟨d0, 0, rfl, rfl, _, rfl, ?_⟩
      by_cases c : 0 < d0
      · rw [decide_eq_true c]
        refine iteT ?_
        refine ⟨.ref p, rfl, .ref a, rfl, a, _, rfl, .inr hs1H, ?_⟩
        refine ⟨p, ((xs.length : Nat) : Int), m + 1, rfl, by omega, by omega, hp1, by omega, fun d1 H2 d10 d11 hp2 s2 => ?_⟩
        obtain ⟨j, rfl⟩ : ∃ j : Nat, d1 = (j : Int) := ⟨d1.toNat, by omega⟩
        have hj : j < xs.length := by omega
        have g2 := g1.trans s2
        have hs2 := Same.seqT g2 hs
        refine ⟨.ref a, rfl, ?_⟩
        unfold tNoPart
        refine ⟨_, rfl, (j : Int), rfl, slice_to (j := j) (Same.seqT wo_le hs2) fun c1 H3 hc1 s3 => ?_⟩
        have g3 := g2.trans (wo_same_of (a := p) s3)
        have hs3 := Same.seqT g3 hs
        refine ⟨.ref p, rfl, .ref a, rfl, .int (j : Int), rfl, a, _, (j : Int), _, rfl, rfl, Same.seqT wo_le hs3, at_of rfl (List.getElem?_eq_getElem hj), ?_⟩
        have hp3 := hp2.same s3
        obtain ⟨qa, qb, qc, hpe3, _⟩ := id hp3
        have hc1w := sqT_wo hc1 hpe3
        have hdx := dpAll_get ha (i := j) (List.getElem?_eq_getElem hj)
        have hmj : ds.getD j .none ∈ ds := by
          rw [List.getD_eq_getElem?_getD, List.getElem?_eq_getElem (by omega)]
          exact List.getElem_mem _
        refine hR n' rfl _ _ _ _ ⟨p, m + 2, _, _, rfl, dp_same g3 _ _ hdx, t3 _ hmj, by omega, hp3, by omega, fun u d H4 hp4 s4 hd okd => ?_⟩
        refine ⟨by show 1 ≤ sizeLine; decide, fun t1_ nt1 => ?_⟩
        have u5 := same_upd (o := .tup [u]) nt1
        have g4 := g3.trans s4
        have ltk : (xs.take j).length ≤ 16 := by rw [List.length_take]; omega
        refine catA_one (Same.seqT u5 (Same.seqT wo_le (Same.seqT s4 hc1w))) (SqT.of upd_same) (Nat.le_of_lt (small1000 (by show _ + 1 ≤ 1000; omega))) fun c2 H5 hc2 s5 => ?_
        have g5 := g4.trans (wo_same_of (a := p) (u5.trans s5))
        have hs5 := Same.seqT g5 hs
        refine ⟨.ref a, rfl, _, rfl, (j : Int), 1, rfl, rfl, ((j + 1 : Nat) : Int), rfl, ?_⟩
        refine slice_from (j := j + 1) (Same.seqT wo_le hs5) fun c3 H6 hc3 s6 _ => ?_
        have ldr : (xs.drop (j + 1)).length ≤ 16 := by rw [List.length_drop]; omega
        refine catA_one (Same.seqT s6 hc2) hc3 (Nat.le_of_lt (small1000 (by rw [List.length_append]; show _ + 1 + _ ≤ 1000; omega))) fun c4 H7 hc4 s7 => ?_
        have s47 := ((u5.trans s5).trans s6).trans s7
        have hp7 := hp4.same s47
        obtain ⟨qa7, qb7, qc7, hpe7, _⟩ := id hp7
        have w7 := g4.trans (wo_same_of (a := p) s47)
        have sW : ∀ x d, Dp K (wo H p) x d → BD n' d → Dp K (VG.nl H H7) x d := fun x d h b => bd_nl w7 b h
        obtain ⟨dA, a1, a2, a3⟩ := parts_ (H' := VG.nl H H7) sW (xs.take j) fun x hx => .inl (List.mem_of_mem_take hx)
        obtain ⟨dB, b1', b2', b3'⟩ := parts_ (H' := VG.nl H H7) sW (xs.drop (j + 1)) fun x hx => .inl (List.mem_of_mem_drop hx)
        have hu := dp_same (nl_mono g3 (pot_lst hp3) s47) _ _ hd
        refine q _ (.tuple ((dA ++ [d]) ++ dB)) H7 (hp7.mono (by omega)) w7 (.tup (sqT_nl w7 (sqT_wo hc4 hpe7)) (dpAll_app (dpAll_app a1 (.cons hu .nil)) b1')) ?_
        refine (okM.tup (k := n' + 1) (m := wB n') (fun e he => ?_) ?_).mono (by omega) (by omega)
        · rcases List.mem_append.mp he with he | he
          · rcases List.mem_append.mp he with he | he
            · exact (a2 e he).mono (by omega) (by omega)
            · rw [List.mem_singleton.mp he]; exact okd
          · exact (b2' e he).mono (by omega) (by omega)
        · rw [List.length_append, List.length_append, a3, b3', List.length_take, List.length_drop]
          show min j _ + 1 + _ ≤ 18
          omega
      · rw [decide_eq_false c]
        refine iteF ?_
        obtain ⟨pa, pb, pc, hpe1, _⟩ := id hp1
        have ty1 := (Dk.dp (K := K) (dp_same (s0.trans (Same.refl _)) _ _ hdH)).tyx
        have tyH1 : TyX K H1 (.ref a) (.type "tuple") := (Dk.dp (dp_same wo_le _ _ (dp_same g1 _ _ (Dp.tup hs ha)))).tyx
        refine ⟨.ref a, rfl, .ref a, .ty "tuple", .type "tuple", .type "tuple", true, rfl, .ty "tuple", tyH1, (kit_ty (show kitB "tuple" "tuple" = some true by decide +kernel)), _, rfl, iteT ?_⟩
        refine ⟨.ref a, rfl, a, xs, rfl, .inr hs1H, fun e1 ne1 => ?_⟩
        have u1 := same_upd (o := .lst xs) ne1
        refine ⟨.ref a, rfl, 1, rfl, ?_⟩
        unfold tNoPart
        refine slice_any (Same.seqT u1 hs1H) fun e2 H2 y2 hy2 in2 le2 u2 => ?_
        refine ⟨.ref a, rfl, 1, rfl, -1, rfl, slice_any (Same.seqT (u1.trans u2) hs1H) fun e3 H3 y3 hy3 in3 le3 u3 => ?_⟩
        refine ⟨.ref a, rfl, .ref a, rfl, 1, rfl, -1, rfl, slice_last (Same.seqT ((u1.trans u2).trans u3) hs1H) fun e4 H4 y4 hy4 in4 le4 u4 => ?_⟩
        refine catA_one (Same.seqT (((u1.trans u2).trans u3).trans u4) hs1H) hy4 (sl (by omega)) fun e5 H5 hy5 u5 => ?_
        refine ⟨.ref a, rfl, a, xs, rfl, Same.seqT ((((u1.trans u2).trans u3).trans u4).trans u5) hs1H, fun y6 e6 in6 le6 ne6 => ?_⟩
        have u6 := same_upd (o := .tup y6) ne6
        refine ⟨by show 0 ≤ sizeLine; decide, fun e7 ne7 => ?_⟩
        have u7 := same_upd (o := .tup []) ne7
        refine ⟨.ref a, rfl, by show 1 ≤ sizeLine; decide, fun e8 ne8 => ?_⟩
        have u8 := same_upd (o := .tup [V.int 0]) ne8
        have a8 := (((((((u1.trans u2).trans u3).trans u4).trans u5).trans u6).trans u7).trans u8)
        refine catA_one (Same.seqT a8 hs1H) (SqT.of upd_same) (sl (by show _ + 1 ≤ 1000; omega)) fun e9 H9 hy9 u9 => ?_
        refine ⟨by show 8 ≤ sizeLine; decide, fun l nl => ?_⟩
        have ul := same_upd (o := .lst [V.ref e1, .ref e2, .ref e3, .ref e5, .ref e6, .ref e7, .non, .ref e9]) nl
        have a9 := a8.trans u9
        have hp9 := hp1.same a9
        have nel := hp9.ne nl
        have al := a9.trans ul
        refine ⟨.ref p, rfl, .ref l, rfl, p, l, [V.ref e1, .ref e2, .ref e3, .ref e5, .ref e6, .ref e7, .non, .ref e9], m + 1, rfl, SqL.of (wo_at upd_same nel), by simp, by show 8 ≤ 1000; decide, hp1.same al, by omega, fun x hx H' hp' s' => ?_⟩
        have gA := (g1.trans (wo_same_of al)).trans s'
        have qq := fun u d => q u d H' (hp'.mono (by omega)) gA
        have sW : ∀ x d, Dp K (wo H p) x d → BD n' d → Dp K (VG.nl H H') x d := fun x d h b => bd_nl gA b h
        obtain ⟨ra, rb, rc, hpel, _⟩ := id (hp1.same al)
        have T : ∀ {c : Addr} {ys : List V}, SqT K _ c ys → (∀ y ∈ ys, y ∈ xs ∨ y = .int 0) → ys.length ≤ 18 → Q (.ref c) H' := fun {c ys} h hin hle => by
          obtain ⟨es, h1, h2, h3⟩ := parts_ (H' := VG.nl H H') sW ys hin
          exact qq _ (.tuple es) (.tup (sqT_nl gA (Same.seqT s' (sqT_wo h hpel))) h1) ((okM.tup h2 (by omega)).mono (by omega) (by omega))
        simp only [List.mem_cons, List.not_mem_nil, or_false] at hx
        rcases hx with rfl | rfl | rfl | rfl | rfl | rfl | rfl | rfl
        · obtain ⟨es, h1, h2, h3⟩ := parts_ (H' := VG.nl H H') sW xs fun x hx => .inl hx
          have f1 := (((((((u2.trans u3).trans u4).trans u5).trans u6).trans u7).trans u8).trans u9).trans ul
          exact qq _ (.list es) (.lst (SqL.of ((nl_new (nl_fresh g1 ne1 (hp1.ne ne1))).trans (wo_le _ _ (s' _ _ (wo_at (f1 _ _ upd_same) (hp1.ne ne1)))))) h1) ((okM.lst h2 (by omega)).mono (by omega) (by omega))
        · exact T (Same.seqT (((((((u3.trans u4).trans u5).trans u6).trans u7).trans u8).trans u9).trans ul) hy2) (fun y hy => .inl (in2 y hy)) (by omega)
        · exact T (Same.seqT ((((((u4.trans u5).trans u6).trans u7).trans u8).trans u9).trans ul) hy3) (fun y hy => .inl (in3 y hy)) (by omega)
        · refine T (Same.seqT ((((u6.trans u7).trans u8).trans u9).trans ul) hy5) (fun y hy => ?_) ?_
          · exact (List.mem_append.mp hy).elim .inl fun z => .inl (in4 y z)
          · -- value + value[-1:]
            rw [List.length_append]
            omega
        · exact T (Same.seqT (((u7.trans u8).trans u9).trans ul) (SqT.of upd_same)) (fun y hy => .inl (in6 y hy)) (by omega)
        · exact T (Same.seqT ((u8.trans u9).trans ul) (SqT.of upd_same)) (fun y hy => (List.not_mem_nil hy).elim) (by show 0 ≤ 18; omega)
        · exact qq _ .none .non (okM.non.mono (by omega) (by omega))
        · exact T (Same.seqT ul hy9) (fun y hy => (List.mem_append.mp hy).elim (fun z => .inl z) fun z => .inr (List.mem_singleton.mp z)) (by rw [List.length_append]; show _ + 1 ≤ 18; omega)
end
end K26

set_option maxRecDepth 100000
set_option maxHeartbeats 8000000
/-! k26: rights bent: an empty text becomes a value of any kind. -/
namespace K26
open PySem PySem.Spec PyProof.Rows L2 LamX VG TL
abbrev sBentN : Stmt := sBent
abbrev sBentL : Stmt := sBent
theorem scBentN : FnScope ["pot", "value", "at", "some", "sign"] ["pot", "value"] (defScope sBentN) := ⟨rfl, rfl, rfl, by decide +kernel, rfl, by decide +kernel, by decide +kernel⟩
theorem scBentL : FnScope ["pot", "value", "at", "some", "sign"] ["pot", "value"] (defScope sBentL) := ⟨rfl, rfl, rfl, by decide +kernel, rfl, by decide +kernel, by decide +kernel⟩
open PySem PySem.Spec PyProof.Rows L2 LamX VG TL
section
variable {X : Cx}
theorem pss_nev {st : List Stmt} : PSs X st tNever := ⟨fun _ _ _ _ _ _ h => h.elim⟩
def tNeverT : TT := fun _ _ _ => False
theorem pw_nev {e : Expr} : PW X e tNeverT := ⟨fun _ _ _ _ _ _ _ h => h.elim⟩
end
theorem okData_q {d : PyData} (h : okData d = true) : okQ d = true := by
  obtain ⟨h1, h2, h3, h4, _⟩ := okData.parts h
  unfold okQ
  rw [h1, h3, decide_eq_true h2, decide_eq_true h4]
  rfl
/-- small, of any kind -/
def okE (d : PyData) : Prop := okData d = true ∧ d.weight ≤ 1000 ∧ d.depth ≤ 3
theorem okOdd_d {d : PyData} (h : okE d) : okData d = true := h.1
theorem okOdd_e {d : PyData} (h : okOdd d = true) : okE d := by
  unfold okOdd at h
  simp only [Bool.and_eq_true, decide_eq_true_eq] at h
  exact ⟨h.1, by omega, by omega⟩
theorem okM_e {d : PyData} (h : okM 1 918 d) : okE d := ⟨h.1.ok (by decide) (by decide), by have := h.1.2.1; omega, by have := h.1.2.2.2.1; omega⟩
theorem okL_all : ∀ {ds : List PyData}, (∀ d ∈ ds, d.leavesShort 13 = true ∧ d.weight ≤ 1000 ∧ d.showable = true ∧ d.depth ≤ 3) → PyData.leavesShortAll 13 ds = true ∧ PyData.weightAll ds ≤ 1001 * ds.length ∧ PyData.showableAll ds = true ∧ PyData.depthAll ds ≤ 3
  | [], _ => ⟨rfl, Nat.le_refl _, rfl, Nat.zero_le _⟩
  | d :: ds, h => by
    obtain ⟨i1, i2, i3, i4⟩ := okL_all fun y hy => h y (List.mem_cons_of_mem _ hy)
    obtain ⟨j1, j2, j3, j4⟩ := h d List.mem_cons_self
    refine ⟨?_, ?_, ?_, ?_⟩
    · simp only [PyData.leavesShortAll, j1, i1, Bool.and_self]
    · simp only [PyData.weightAll, List.length_cons]
      omega
    · simp only [PyData.showableAll, j3, i3, Bool.and_self]
    · simp only [PyData.depthAll]
      omega
theorem okQ_one {d : PyData} {A B : List Str} (h : okE d) (hz : ∀ z ∈ A ++ B, okM 0 50 (.str z)) (hl : A.length + B.length ≤ 18) : okQ (.tuple (A.map .str ++ d :: B.map .str)) = true := by
  have h1 : ∀ e ∈ (A.map PyData.str ++ d :: B.map .str), e.leavesShort 13 = true ∧ e.weight ≤ 1000 ∧ e.showable = true ∧ e.depth ≤ 3 := fun e he => by
    have st : ∀ z ∈ A ++ B, (PyData.str z).leavesShort 13 = true ∧ (PyData.str z).weight ≤ 1000 ∧ (PyData.str z).showable = true ∧ (PyData.str z).depth ≤ 3 := fun z hz' => by
      obtain ⟨⟨a, b, c, e, _⟩, _⟩ := hz z hz'
      exact ⟨a, by omega, c, by omega⟩
    rcases List.mem_append.mp he with he | he
    · obtain ⟨z, hz', rfl⟩ := List.mem_map.mp he
      exact st z (List.mem_append.mpr (.inl hz'))
    · rcases List.mem_cons.mp he with rfl | he
      · obtain ⟨a, b, c, _, _⟩ := okData.parts h.1
        exact ⟨a, h.2.1, c, h.2.2⟩
      · obtain ⟨z, hz', rfl⟩ := List.mem_map.mp he
        exact st z (List.mem_append.mpr (.inr hz'))
  obtain ⟨i1, i2, i3, i4⟩ := okL_all h1
  have len : (A.map PyData.str ++ d :: B.map .str).length ≤ 19 := by
    rw [List.length_append, List.length_cons, List.length_map, List.length_map]
    omega
  unfold okQ
  simp only [Bool.and_eq_true, decide_eq_true_eq]
  refine ⟨by simpa only [PyData.leavesShort] using i1, ?_, by simpa only [PyData.showable] using i3, ?_⟩
  · simp only [PyData.weight]
    omega
  · simp only [PyData.depth]
    omega
section
variable {P : Program} {w : World} {K : PySem.W.Frag} {mg : Str → Option Value} {base : Heap}
def spBentN (K : PySem.W.Frag) : Sp := fun vs H Q _ => ∃ (p : Addr) (m : Nat), vs = [.ref p, .str ""] ∧ Pot H p m ∧ m + 20 < 1000000 ∧ ∀ u e H', Pot H' p (m + 20) → Same (wo H p) (wo H' p) → Dk K (nl H H') u e → okE e → Q u H'
theorem ok_BentN {k : Nat} {f : Addr} {fd : FuncData}  (F : Fun K "_law_bent" "_law_bent" sBentN f fd) (gOd : Cal P w K mg base CX0 (k + 4) "_law_odd" ["pot"] (spOdd K))  (fbool : mg "bool" = none) (fint : mg "int" = none) (fisinstance : mg "isinstance" = none) (fstr : mg "str" = none) (ftuple : mg "tuple" = none) : FnOk P w K mg base CX0 (k + 5) f fd ["pot", "value"] (spBentN K) := by
  obtain ⟨fOd, fdOd, GOd, kOd, bOd, mOd⟩ := gOd
  refine F.ok scBentN (fun vs H Q E h => ?_) (fun cdv A outer s H vs Q E hr h => ?_)
  · obtain ⟨p, m, rfl, _⟩ := h
    rfl
  · obtain ⟨p, m, rfl, hp, hm, q⟩ := h
    refine ⟨_, (pss_cons (ps_if (PW.pt (pw_and (pt_val (pe_callB call_isi (by rfl) fisinstance (by decide +kernel) (pa_cons (pv 1) (pa_cons (pe_bltn (v := .ty "tuple") (by rfl) ftuple (by decide +kernel) rfl) pa_nil)))) pw_nev)) pss_nev pss_nil) (pss_cons (ps_if (pt_val (pe_callB call_isi (by rfl) fisinstance (by decide +kernel) (pa_cons (pv 1) (pa_cons (pe_bltn (v := .ty "tuple") (by rfl) ftuple (by decide +kernel) rfl) pa_nil)))) pss_nev pss_nil) (pss_cons (ps_if (pt_val (pe_callB call_isi (by rfl) fisinstance (by decide +kernel) (pa_cons (pv 1) (pa_cons (pe_bltn (v := .ty "bool") (by rfl) fbool (by decide +kernel) rfl) pa_nil)))) pss_nev pss_nil) (pss_cons (ps_if (pt_val (pe_callB call_isi (by rfl) fisinstance (by decide +kernel) (pa_cons (pv 1) (pa_cons (pe_bltn (v := .ty "int") (by rfl) fint (by decide +kernel) rfl) pa_nil)))) pss_nev pss_nil) (pss_cons (ps_if (PW.pt (pw_and (pt_val (pe_callB call_isi (by rfl) fisinstance (by decide +kernel) (pa_cons (pv 1) (pa_cons (pe_bltn (v := .ty "str") (by rfl) fstr (by decide +kernel) rfl) pa_nil)))) (pw_and1 (pt_cmpR op_ne (pv 1) pe_str (nomark _))))) (pss_cons ps_never (pss_cons ps_never (pss_one ps_never))) pss_nil) (pss_one (ps_ret (pe_call GOd hr (by rfl) mOd kOd bOd .nil pass0 (pa_cons (pv 0) pa_nil))))))))), ?_⟩
    have ty : TyX K H (.str "") (.type "str") := (Dk.dp (.str "")).tyx
    refine ⟨.str "", rfl, .str "", .ty "tuple", .type "str", .type "tuple", false, rfl, .ty "tuple", ty, (kit_ty (show kitB "str" "tuple" = some false by decide +kernel)), _, rfl, iteF ?_⟩
    refine ⟨.str "", rfl, .str "", .ty "tuple", .type "str", .type "tuple", false, rfl, .ty "tuple", ty, (kit_ty (show kitB "str" "tuple" = some false by decide +kernel)), _, rfl, iteF ?_⟩
    refine ⟨.str "", rfl, .str "", .ty "bool", .type "str", .type "bool", false, rfl, .ty "bool", ty, (kit_ty (show kitB "str" "bool" = some false by decide +kernel)), _, rfl, iteF ?_⟩
    refine ⟨.str "", rfl, .str "", .ty "int", .type "str", .type "int", false, rfl, .ty "int", ty, (kit_ty (show kitB "str" "int" = some false by decide +kernel)), _, rfl, iteF ?_⟩
    refine ⟨.str "", rfl, .str "", .ty "str", .type "str", .type "str", true, rfl, .ty "str", ty, (kit_ty (show kitB "str" "str" = some true by decide +kernel)), _, rfl, iteT ⟨.str "", rfl, rfl, _, rfl, ?_⟩⟩
    refine iteF ?_
    exact ⟨.ref p, rfl, p, m, rfl, hp, by omega, fun v d H' hp' s' hd ok => q v d H' (hp'.mono (by omega)) s' hd (okOdd_e ok)⟩
def spBentE (K : PySem.W.Frag) : Sp := fun vs H Q _ => ∃ (p : Addr) (m : Nat) (z : Str), vs = [.ref p, .str z] ∧ okS 12 z ∧ okS 20 (Txt.upper z) ∧ Pot H p m ∧ m + 20 < 1000000 ∧ ∀ u e H', Pot H' p (m + 20) → Same (wo H p) (wo H' p) → Dk K (nl H H') u e → okE e → Q u H'
theorem ok_BentE {k : Nat} {f : Addr} {fd : FuncData} {ps : List Str} (G0 : FnOk P w K mg base CX0 k f fd ps (spBent K 0)) (GN : FnOk P w K mg base CX0 k f fd ps (spBentN K)) : FnOk P w K mg base CX0 k f fd ps (spBentE K) := by
  have both : ∀ {vs H Q E}, spBentE K vs H Q E → spBent K 0 vs H Q E ∨ spBentN K vs H Q E := fun {vs H Q E} h => by
    obtain ⟨p, m, z, rfl, h1, h2, hp, hm, q⟩ := h
    by_cases c : z = ""
    · subst c
      exact .inr ⟨p, m, rfl, hp, hm, q⟩
    · exact .inl ⟨p, m, .str z, .str z, rfl, .str z, .str h1 h2 c, by decide, hp, by omega, fun u e H' a b cc dd => q u e H' a b (.dp cc) (okM_e dd)⟩
  exact ⟨fun vs H Q E h => (both h).elim (G0.len vs H Q E) (GN.len vs H Q E), fun A outer s H args us vs Q E hr e0 hb r h => (both h).elim (G0.run A outer s H args us vs Q E hr e0 hb r) (GN.run A outer s H args us vs Q E hr e0 hb r)⟩
/-- a text of rights, and its great letters -/
def RText (z : Str) : Prop := okS 12 z ∧ okS 20 (Txt.upper z) ∧ SeqAt.shaped (.str z) = true
def spBentL (K : PySem.W.Frag) : Sp := fun vs H Q _ => ∃ (p a : Addr) (m : Nat) (ls : List Str), vs = [.ref p, .ref a] ∧ SqT K (wo H p) a (ls.map V.str) ∧ ls.length = 16 ∧ (∀ z ∈ ls, RText z) ∧ Pot H p m ∧ m + 40 < 1000000 ∧
  ∀ u e H', Pot H' p (m + 40) → Same (wo H p) (wo H' p) → Dq K (nl H H') u e → okQ e = true → Q u H'
theorem ok_BentL {k : Nat} {f : Addr} {fd : FuncData}  (F : Fun K "_law_bent" "_law_bent" sBentL f fd) (gTa : Cal P w K mg base CX0 (k + 5) "_law_take" ["pot", "upto"] spTake) (gOf : Cal P w K mg base CX0 (k + 5) "_law_of" ["pot", "some"] (spOf K)) (gBeE : Cal P w K mg base CX0 (k + 5) "_law_bent" ["pot", "value"] (spBentE K))  (fbool : mg "bool" = none) (fint : mg "int" = none) (fisinstance : mg "isinstance" = none) (flen : mg "len" = none) (flist : mg "list" = none) (fstr : mg "str" = none) (ftuple : mg "tuple" = none) : FnOk P w K mg base CX0 (k + 6) f fd ["pot", "value"] (spBentL K) := by
  obtain ⟨fTa, fdTa, GTa, kTa, bTa, mTa⟩ := gTa
  obtain ⟨fOf, fdOf, GOf, kOf, bOf, mOf⟩ := gOf
  obtain ⟨fBeE, fdBeE, GBeE, kBeE, bBeE, mBeE⟩ := gBeE
  refine F.ok scBentL (fun vs H Q E h => ?_) (fun cdv A outer s H vs Q E hr h => ?_)
  · obtain ⟨p, a, m, ls, rfl, _⟩ := h
    rfl
  · obtain ⟨p, a, m, ls, rfl, hs, hll, hz_, hp, hm, q⟩ := h
    refine ⟨_, (pss_cons (ps_if (PW.pt (pw_and (pt_val (pe_callB call_isi (by rfl) fisinstance (by decide +kernel) (pa_cons (pv 1) (pa_cons (pe_bltn (v := .ty "tuple") (by rfl) ftuple (by decide +kernel) rfl) pa_nil)))) (pw_and (pt_cmpR (op_neD hr.units) (pv 1) (pe_tup pa_nil) (nomark _)) (pw_and1 (pt_cmpR op_gt (pe_call GTa hr (by rfl) mTa kTa bTa .nil pass0 (pa_cons (pv 0) (pa_cons pe_int pa_nil))) pe_int (nomark _)))))) (pss_cons (ps_set (i := 2) scBentL.nd rfl (.inr rfl) (pe_call GTa hr (by rfl) mTa kTa bTa .nil pass0 (pa_cons (pv 0) (pa_cons (pe_callB call_len_seq (by rfl) flen PySem.boot_len (pa_cons (pv 1) pa_nil)) pa_nil)))) (pss_one (ps_ret (pe_op op_catA (pe_op op_catA (pe_slice sl_tupA (pv 1) po_none (po_some (pv 2))) (pe_tup (pa_cons (pe_call GBeE hr (by rfl) mBeE kBeE bBeE .nil pass0 (pa_cons (pv 0) (pa_cons (pe_ix ix_tup (pv 1) (pv 2) (fun _ _ => rfl)) pa_nil))) pa_nil))) (pe_slice sl_tupA (pv 1) (po_some (pe_op op_add (pv 2) pe_int)) po_none))))) pss_nil) (pss_cons (ps_if (pt_val (pe_callB call_isi (by rfl) fisinstance (by decide +kernel) (pa_cons (pv 1) (pa_cons (pe_bltn (v := .ty "tuple") (by rfl) ftuple (by decide +kernel) rfl) pa_nil)))) (pss_cons (ps_set (i := 3) scBentL.nd rfl (.inl rfl) (pe_lst (pa_cons (pe_callTy call_list_of (by rfl) flist (by decide +kernel) (pa_cons (pv 1) pa_nil)) (pa_cons (pe_slice sl_tupA (pv 1) (po_some pe_int) po_none) (pa_cons (pe_slice sl_tupA (pv 1) po_none (po_some (pe_un un_neg pe_int))) (pa_cons (pe_op op_catA (pv 1) (pe_slice sl_tupA (pv 1) (po_some (pe_un un_neg pe_int)) po_none)) (pa_cons (pe_revT (pv 1)) (pa_cons (pe_tup pa_nil) (pa_cons pe_non (pa_cons (pe_op op_catA (pv 1) (pe_tup (pa_cons pe_int pa_nil))) pa_nil)))))))))) (pss_one (ps_ret (pe_call GOf hr (by rfl) mOf kOf bOf .nil pass0 (pa_cons (pv 0) (pa_cons (pv 3) pa_nil)))))) pss_nil) (pss_cons (ps_if (pt_val (pe_callB call_isi (by rfl) fisinstance (by decide +kernel) (pa_cons (pv 1) (pa_cons (pe_bltn (v := .ty "bool") (by rfl) fbool (by decide +kernel) rfl) pa_nil)))) pss_nev pss_nil) (pss_cons (ps_if (pt_val (pe_callB call_isi (by rfl) fisinstance (by decide +kernel) (pa_cons (pv 1) (pa_cons (pe_bltn (v := .ty "int") (by rfl) fint (by decide +kernel) rfl) pa_nil)))) pss_nev pss_nil) (pss_cons (ps_if (PW.pt (pw_and (pt_val (pe_callB call_isi (by rfl) fisinstance (by decide +kernel) (pa_cons (pv 1) (pa_cons (pe_bltn (v := .ty "str") (by rfl) fstr (by decide +kernel) rfl) pa_nil)))) pw_nev)) pss_nev pss_nil) (pss_one ps_never)))))), ?_⟩
    obtain ⟨xs, exs⟩ : ∃ xs, xs = ls.map V.str := ⟨_, rfl⟩
    obtain ⟨ds, eds⟩ : ∃ ds, ds = ls.map PyData.str := ⟨_, rfl⟩
    rw [← exs] at hs
    have hxl : xs.length = ds.length := by rw [exs, eds, List.length_map, List.length_map]
    have hxl2 : xs.length = 16 := by rw [exs, List.length_map]; exact hll
    have hsd : ∀ {l : List Str}, DpAll K (wo H p) (l.map V.str) (l.map .str) := fun {l} => by
      induction l with
      | nil => exact .nil
      | cons z l ih => exact .cons (.str z) ih
    have hd : Dp K (wo H p) (.ref a) (.tuple ds) := .tup hs (by rw [exs, eds]; exact hsd)
    have hdH : Dp K H (.ref a) (.tuple ds) := dp_same wo_le _ _ hd
    have hsH := Same.seqT wo_le hs
    have ty : TyX K H (.ref a) (.type "tuple") := (Dk.dp hdH).tyx
    have parts_ : ∀ {H' : Hp} (ys : List V), (∀ x ∈ ys, x ∈ xs ∨ x = .int 0) → ∃ es, DpAll K H' ys es ∧ (∀ d ∈ es, okM 0 50 d) ∧ es.length = ys.length := fun {H'} ys => by
      induction ys with
      | nil => exact fun _ => ⟨[], .nil, fun d hd => (List.not_mem_nil hd).elim, rfl⟩
      | cons x r ih =>
        intro h
        obtain ⟨es, h1, h2, h3⟩ := ih fun y hy => h y (List.mem_cons_of_mem _ hy)
        obtain ⟨d, g1, g2⟩ : ∃ d, Dp K H' x d ∧ okM 0 50 d := by
          rcases h x List.mem_cons_self with hx | rfl
          · rw [exs] at hx
            obtain ⟨z, hz, rfl⟩ := List.mem_map.mp hx
            exact ⟨_, .str z, okM.str (hz_ z hz).1 (by decide)⟩
          · exact ⟨_, .int 0, okM.int (by omega) (by omega)⟩
        exact ⟨d :: es, .cons g1 h1, fun e he => (List.mem_cons.mp he).elim (fun z => z ▸ g2) (h2 e), by rw [List.length_cons, List.length_cons, h3]⟩
    have shp : SeqAt.shaped (.tuple ds) = true := shaped_of (okM.tup (k := 0) (m := 50) (fun d hd => by rw [eds] at hd; obtain ⟨z, hz, rfl⟩ := List.mem_map.mp hd; exact okM.str (hz_ z hz).1 (by decide)) (by omega)).1 (by decide)
    have lenr : xs.length ≤ 16 := by omega
    have xpos : 0 < xs.length := by omega
    refine ⟨.ref a, rfl, .ref a, .ty "tuple", .type "tuple", .type "tuple", true, rfl, .ty "tuple", ty, (kit_ty (show kitB "tuple" "tuple" = some true by decide +kernel)), _, rfl, iteT ?_⟩
    refine ⟨.ref a, rfl, by show 0 ≤ sizeLine; decide, fun c0 nc0 => ?_⟩
    have s0 := same_upd (o := .tup []) nc0
    refine ⟨.tuple ds, .tuple [], dp_same s0 _ _ hdH, .tup (SqT.of upd_same) .nil, shp, by decide, _, rfl, ?_⟩
    have ene : PyData.eqv (.tuple ds) (.tuple []) = false := by
      rw [eds]
      cases ls with
      | nil => exact absurd hll (by decide)
      | cons _ _ => rfl
    rw [ene]
    refine iteT ?_
    refine ⟨.ref p, rfl, p, 6, m, rfl, by decide, by decide, hp.same s0, by omega, fun d0 H1 d00 d01 hp1 s1 => ?_⟩
    have g1 := (wo_same_of (a := p) s0).trans s1
    have hs1 := Same.seqT g1 hs
    have hs1H := Same.seqT wo_le hs1
    refine ⟨d0, 0, rfl, rfl, _, rfl, ?_⟩
    by_cases c : 0 < d0
    · rw [decide_eq_true c]
      refine iteT ?_
      refine ⟨.ref p, rfl, .ref a, rfl, a, _, rfl, .inr hs1H, ?_⟩
      refine ⟨p, ((xs.length : Nat) : Int), m + 1, rfl, by omega, by omega, hp1, by omega, fun d1 H2 d10 d11 hp2 s2 => ?_⟩
      obtain ⟨j, rfl⟩ : ∃ j : Nat, d1 = (j : Int) := ⟨d1.toNat, by omega⟩
      have hj : j < xs.length := by omega
      have g2 := g1.trans s2
      have hs2 := Same.seqT g2 hs
      refine ⟨.ref a, rfl, ?_⟩
      unfold tNoPart
      refine ⟨_, rfl, (j : Int), rfl, slice_to (j := j) (Same.seqT wo_le hs2) fun c1 H3 hc1 s3 => ?_⟩
      have g3 := g2.trans (wo_same_of (a := p) s3)
      have hs3 := Same.seqT g3 hs
      refine ⟨.ref p, rfl, .ref a, rfl, .int (j : Int), rfl, a, _, (j : Int), _, rfl, rfl, Same.seqT wo_le hs3, at_of rfl (List.getElem?_eq_getElem hj), ?_⟩
      have hp3 := hp2.same s3
      obtain ⟨qa, qb, qc, hpe3, _⟩ := id hp3
      have hc1w := sqT_wo hc1 hpe3
      have hjl : j < ls.length := by omega
      have ej : xs[j] = V.str ls[j] := by simp [exs]
      rw [ej]
      refine ⟨p, m + 2, ls[j], rfl, (hz_ _ (List.getElem_mem hjl)).1, (hz_ _ (List.getElem_mem hjl)).2.1, hp3, by omega, fun u d H4 hp4 s4 hd okd => ?_⟩
      refine ⟨by show 1 ≤ sizeLine; decide, fun t1_ nt1 => ?_⟩
      have u5 := same_upd (o := .tup [u]) nt1
      have g4 := g3.trans s4
      have ltk : (xs.take j).length ≤ 16 := by rw [List.length_take]; omega
      refine catA_one (Same.seqT u5 (Same.seqT wo_le (Same.seqT s4 hc1w))) (SqT.of upd_same) (Nat.le_of_lt (small1000 (by show _ + 1 ≤ 1000; omega))) fun c2 H5 hc2 s5 => ?_
      have g5 := g4.trans (wo_same_of (a := p) (u5.trans s5))
      have hs5 := Same.seqT g5 hs
      refine ⟨.ref a, rfl, _, rfl, (j : Int), 1, rfl, rfl, ((j + 1 : Nat) : Int), rfl, ?_⟩
      refine slice_from (j := j + 1) (Same.seqT wo_le hs5) fun c3 H6 hc3 s6 _ => ?_
      have ldr : (xs.drop (j + 1)).length ≤ 16 := by rw [List.length_drop]; omega
      refine catA_one (Same.seqT s6 hc2) hc3 (Nat.le_of_lt (small1000 (by rw [List.length_append]; show _ + 1 + _ ≤ 1000; omega))) fun c4 H7 hc4 s7 => ?_
      have s47 := ((u5.trans s5).trans s6).trans s7
      have hp7 := hp4.same s47
      obtain ⟨qa7, qb7, qc7, hpe7, _⟩ := id hp7
      have w7 := g4.trans (wo_same_of (a := p) s47)
      have hu := Dk.same (nl_mono g3 (pot_lst hp3) s47) hd
      have fin := Dq.one (K := K) (A := ls.take j) (B := ls.drop (j + 1)) (sqT_nl w7 (sqT_wo (by rw [List.map_take, List.map_drop, ← exs]; rw [List.append_assoc] at hc4; exact hc4) hpe7)) hu (okOdd_d okd) (fun z hz => ?_)
      · refine q _ _ H7 (hp7.mono (by omega)) w7 fin (okQ_one okd ?_ ?_)
        · intro z hz
          have : z ∈ ls := (List.mem_append.mp hz).elim List.mem_of_mem_take List.mem_of_mem_drop
          exact okM.str (hz_ z this).1 (by decide)
        · rw [List.length_take, List.length_drop]; omega
      · have : z ∈ ls := (List.mem_append.mp hz).elim List.mem_of_mem_take List.mem_of_mem_drop
        exact (hz_ z this).2.2
    · rw [decide_eq_false c]
      refine iteF ?_
      obtain ⟨pa, pb, pc, hpe1, _⟩ := id hp1
      have ty1 := (Dk.dp (K := K) (dp_same (s0.trans (Same.refl _)) _ _ hdH)).tyx
      have tyH1 : TyX K H1 (.ref a) (.type "tuple") := (Dk.dp (dp_same wo_le _ _ (dp_same g1 _ _ hd))).tyx
      refine ⟨.ref a, rfl, .ref a, .ty "tuple", .type "tuple", .type "tuple", true, rfl, .ty "tuple", tyH1, (kit_ty (show kitB "tuple" "tuple" = some true by decide +kernel)), _, rfl, iteT ?_⟩
      refine ⟨.ref a, rfl, a, xs, rfl, .inr hs1H, fun e1 ne1 => ?_⟩
      have u1 := same_upd (o := .lst xs) ne1
      refine ⟨.ref a, rfl, 1, rfl, ?_⟩
      unfold tNoPart
      refine slice_any (Same.seqT u1 hs1H) fun e2 H2 y2 hy2 in2 le2 u2 => ?_
      refine ⟨.ref a, rfl, 1, rfl, -1, rfl, slice_any (Same.seqT (u1.trans u2) hs1H) fun e3 H3 y3 hy3 in3 le3 u3 => ?_⟩
      refine ⟨.ref a, rfl, .ref a, rfl, 1, rfl, -1, rfl, slice_last (Same.seqT ((u1.trans u2).trans u3) hs1H) fun e4 H4 y4 hy4 in4 le4 u4 => ?_⟩
      refine catA_one (Same.seqT (((u1.trans u2).trans u3).trans u4) hs1H) hy4 (sl (by omega)) fun e5 H5 hy5 u5 => ?_
      refine ⟨.ref a, rfl, a, xs, rfl, Same.seqT ((((u1.trans u2).trans u3).trans u4).trans u5) hs1H, fun y6 e6 in6 le6 ne6 => ?_⟩
      have u6 := same_upd (o := .tup y6) ne6
      refine ⟨by show 0 ≤ sizeLine; decide, fun e7 ne7 => ?_⟩
      have u7 := same_upd (o := .tup []) ne7
      refine ⟨.ref a, rfl, by show 1 ≤ sizeLine; decide, fun e8 ne8 => ?_⟩
      have u8 := same_upd (o := .tup [V.int 0]) ne8
      have a8 := (((((((u1.trans u2).trans u3).trans u4).trans u5).trans u6).trans u7).trans u8)
      refine catA_one (Same.seqT a8 hs1H) (SqT.of upd_same) (sl (by show _ + 1 ≤ 1000; omega)) fun e9 H9 hy9 u9 => ?_
      refine ⟨by show 8 ≤ sizeLine; decide, fun l nl => ?_⟩
      have ul := same_upd (o := .lst [V.ref e1, .ref e2, .ref e3, .ref e5, .ref e6, .ref e7, .non, .ref e9]) nl
      have a9 := a8.trans u9
      have hp9 := hp1.same a9
      have nel := hp9.ne nl
      have al := a9.trans ul
      refine ⟨.ref p, rfl, .ref l, rfl, p, l, [V.ref e1, .ref e2, .ref e3, .ref e5, .ref e6, .ref e7, .non, .ref e9], m + 1, rfl, SqL.of (wo_at upd_same nel), by simp, by show 8 ≤ 1000; decide, hp1.same al, by omega, fun x hx H' hp' s' => ?_⟩
      have gA := (g1.trans (wo_same_of al)).trans s'
      have qq := fun u d (a : Dp K (VG.nl H H') u d) (b : okM 1 918 d) => q u d H' (hp'.mono (by omega)) gA (.dk (.dp a) (b.1.ok (by decide) (by decide))) (okData_q (b.1.ok (by decide) (by decide)))
      obtain ⟨ra, rb, rc, hpel, _⟩ := id (hp1.same al)
      have T : ∀ {c : Addr} {ys : List V}, SqT K _ c ys → (∀ y ∈ ys, y ∈ xs ∨ y = .int 0) → ys.length ≤ 18 → Q (.ref c) H' := fun {c ys} h hin hle => by
        obtain ⟨es, h1, h2, h3⟩ := parts_ (H' := VG.nl H H') ys hin
        exact qq _ (.tuple es) (.tup (sqT_nl gA (Same.seqT s' (sqT_wo h hpel))) h1) ((okM.tup (k := 0) (m := 50) h2 (by omega)).mono (by omega) (by omega))
      simp only [List.mem_cons, List.not_mem_nil, or_false] at hx
      rcases hx with rfl | rfl | rfl | rfl | rfl | rfl | rfl | rfl
      · obtain ⟨es, h1, h2, h3⟩ := parts_ (H' := VG.nl H H') xs fun x hx => .inl hx
        have f1 := (((((((u2.trans u3).trans u4).trans u5).trans u6).trans u7).trans u8).trans u9).trans ul
        exact qq _ (.list es) (.lst (SqL.of ((nl_new (nl_fresh g1 ne1 (hp1.ne ne1))).trans (wo_le _ _ (s' _ _ (wo_at (f1 _ _ upd_same) (hp1.ne ne1)))))) h1) ((okM.lst (k := 0) (m := 50) h2 (by omega)).mono (by omega) (by omega))
      · exact T (Same.seqT (((((((u3.trans u4).trans u5).trans u6).trans u7).trans u8).trans u9).trans ul) hy2) (fun y hy => .inl (in2 y hy)) (by omega)
      · exact T (Same.seqT ((((((u4.trans u5).trans u6).trans u7).trans u8).trans u9).trans ul) hy3) (fun y hy => .inl (in3 y hy)) (by omega)
      · refine T (Same.seqT ((((u6.trans u7).trans u8).trans u9).trans ul) hy5) (fun y hy => ?_) ?_
        · exact (List.mem_append.mp hy).elim .inl fun z => .inl (in4 y z)
        · -- value + value[-1:]
          rw [List.length_append]
          omega
      · exact T (Same.seqT (((u7.trans u8).trans u9).trans ul) (SqT.of upd_same)) (fun y hy => .inl (in6 y hy)) (by omega)
      · exact T (Same.seqT ((u8.trans u9).trans ul) (SqT.of upd_same)) (fun y hy => (List.not_mem_nil hy).elim) (by show 0 ≤ 18; omega)
      · exact qq _ .none .non okM.non
      · exact T (Same.seqT ul hy9) (fun y hy => (List.mem_append.mp hy).elim (fun z => .inl z) fun z => .inr (List.mem_singleton.mp z)) (by rw [List.length_append]; show _ + 1 ≤ 18; omega)
end
end K26

set_option maxRecDepth 100000
set_option maxHeartbeats 4000000
/-! k26: what the law asks of values. -/
namespace K26
open PySem PySem.Spec PyProof.Rows L2 LamX VG TL
theorem scAllLetters : FnScope [] [] (defScope sAllLetters) := ⟨rfl, rfl, rfl, by decide +kernel, rfl, by decide +kernel, by decide +kernel⟩
theorem scAreLetters : FnScope ["value", "one"] ["value"] (defScope sAreLetters) := ⟨rfl, rfl, rfl, by decide +kernel, rfl, by decide +kernel, by decide +kernel⟩
theorem scAreAccesses : FnScope ["value", "one"] ["value"] (defScope sAreAccesses) := ⟨rfl, rfl, rfl, by decide +kernel, rfl, by decide +kernel, by decide +kernel⟩
theorem scFaultDue : FnScope ["value"] ["value"] (defScope sFaultDue) := ⟨rfl, rfl, rfl, by decide +kernel, rfl, by decide +kernel, by decide +kernel⟩
theorem scCode : FnScope ["fault"] ["fault"] (defScope sCode) := ⟨rfl, rfl, rfl, by decide +kernel, rfl, by decide +kernel, by decide +kernel⟩
theorem scPlaceDue : FnScope ["fault", "place"] ["fault", "place"] (defScope sPlaceDue) := ⟨rfl, rfl, rfl, by decide +kernel, rfl, by decide +kernel, by decide +kernel⟩
theorem scAreWords : FnScope ["value", "one"] ["value"] (defScope sAreWords) := ⟨rfl, rfl, rfl, by decide +kernel, rfl, by decide +kernel, by decide +kernel⟩
theorem scToldWords : FnScope ["value", "name", "fault"] ["value"] (defScope sToldWords) := ⟨rfl, rfl, rfl, by decide +kernel, rfl, by decide +kernel, by decide +kernel⟩
def isTu : PyData → Bool
  | .tuple _ => true
  | _ => false
def isSt : PyData → Bool
  | .str _ => true
  | _ => false
theorem kit_tup {K : PySem.W.Frag} (d : PyData) : PySem.W.kitOne K (.type (tyName d)) (.type "tuple") = some (isTu d) := by
  cases d with
  | none => exact kit_ty (show kitB "NoneType" "tuple" = some false by decide +kernel)
  | bool _ => exact kit_ty (show kitB "bool" "tuple" = some false by decide +kernel)
  | int _ => exact kit_ty (show kitB "int" "tuple" = some false by decide +kernel)
  | str _ => exact kit_ty (show kitB "str" "tuple" = some false by decide +kernel)
  | list _ => exact kit_ty (show kitB "list" "tuple" = some false by decide +kernel)
  | tuple _ => exact kit_ty (show kitB "tuple" "tuple" = some true by decide +kernel)
  | dict _ => exact kit_ty (show kitB "dict" "tuple" = some false by decide +kernel)
theorem kit_str {K : PySem.W.Frag} (d : PyData) : PySem.W.kitOne K (.type (tyName d)) (.type "str") = some (isSt d) := by
  cases d with
  | none => exact kit_ty (show kitB "NoneType" "str" = some false by decide +kernel)
  | bool _ => exact kit_ty (show kitB "bool" "str" = some false by decide +kernel)
  | int _ => exact kit_ty (show kitB "int" "str" = some false by decide +kernel)
  | str _ => exact kit_ty (show kitB "str" "str" = some true by decide +kernel)
  | list _ => exact kit_ty (show kitB "list" "str" = some false by decide +kernel)
  | tuple _ => exact kit_ty (show kitB "tuple" "str" = some false by decide +kernel)
  | dict _ => exact kit_ty (show kitB "dict" "str" = some false by decide +kernel)
theorem isTu_tup {d : PyData} (h : isTu d = true) : ∃ ds, d = .tuple ds := by
  cases d with
  | tuple ds => exact ⟨ds, rfl⟩
  | none => cases h
  | bool _ => cases h
  | int _ => cases h
  | str _ => cases h
  | list _ => cases h
  | dict _ => cases h
theorem isSt_str {d : PyData} (h : isSt d = true) : ∃ z, d = .str z := by
  cases d with
  | str z => exact ⟨z, rfl⟩
  | none => cases h
  | bool _ => cases h
  | int _ => cases h
  | tuple _ => cases h
  | list _ => cases h
  | dict _ => cases h
theorem dk_strv {K : PySem.W.Frag} {H : Hp} {v : V} {z : Str} (h : Dk K H v (.str z)) : v = .str z := by
  cases h with
  | dp h => cases h; rfl
theorem dq_tyx {K : PySem.W.Frag} {H : Hp} {v : V} {d : PyData} (h : Dq K H v d) : TyX K H v (.type (tyName d)) := by
  cases h with
  | dk h _ => exact h.tyx
  | one hs h _ _ =>
    rcases hs with (e | ⟨o, e⟩) | ⟨o, its, n, e, c, _⟩
    · exact .base (.tup e)
    · exact .fTuple e
    · exact .kTuple e c
theorem notTup {d : PyData} (h : isTu d = false) : lettersB d = false ∧ accB d = false ∧ faultB d = false ∧ wT d = false := by
  cases d with
  | tuple ds => cases h
  | none => exact ⟨rfl, rfl, rfl, rfl⟩
  | bool _ => exact ⟨rfl, rfl, rfl, rfl⟩
  | int _ => exact ⟨rfl, rfl, rfl, rfl⟩
  | str _ => exact ⟨rfl, rfl, rfl, rfl⟩
  | list _ => exact ⟨rfl, rfl, rfl, rfl⟩
  | dict _ => exact ⟨rfl, rfl, rfl, rfl⟩
def pairB (d : PyData) : Bool := match d with
  | .tuple [n, _] => isW n 0 255
  | _ => false
def secS (d : PyData) : Bool := match d with
  | .tuple [_, l] => isSt l
  | _ => false
theorem pair_shape {d : PyData} (h : pairB d = true) : ∃ (i : Int) (l : PyData), d = .tuple [.int i, l] ∧ 0 ≤ i ∧ i ≤ 255 := by
  unfold pairB at h
  split at h
  · rename_i n l
    obtain ⟨i, rfl, h0, h1⟩ := isW_int h
    exact ⟨i, l, rfl, h0, h1⟩
  · cases h
theorem pairs_of : ∀ {ds : List PyData}, (ds.map pairB).all id = true → (ds.map secS).all id = true → ∃ ps : List (Int × Str), ds = ps.map accD ∧ ∀ p ∈ ps, 0 ≤ p.1 ∧ p.1 ≤ 255
  | [], _, _ => ⟨[], rfl, fun p h => by cases h⟩
  | d :: ds, h1, h2 => by
    rw [List.map_cons, List.all_cons, Bool.and_eq_true] at h1 h2
    obtain ⟨ps, rfl, hp⟩ := pairs_of h1.2 h2.2
    obtain ⟨i, l, rfl, i0, i1⟩ := pair_shape h1.1
    obtain ⟨z, rfl⟩ := isSt_str (show isSt l = true from h2.1)
    refine ⟨(i, z) :: ps, rfl, fun p hq => ?_⟩
    rcases List.mem_cons.mp hq with rfl | hq
    · exact ⟨i0, i1⟩
    · exact hp p hq
theorem accB_pairs {ds : List PyData} (h : accB (.tuple ds) = true) : (ds.map pairB).all id = true ∧ (ds.map secS).all id = true := by
  obtain ⟨acs, e, hok, _, _⟩ := accB_shape h
  cases e
  rw [List.map_map, List.map_map, List.all_map, List.all_map, List.all_eq_true, List.all_eq_true]
  refine ⟨fun p hp => ?_, fun p hp => rfl⟩
  obtain ⟨a, b, _⟩ := hok p hp
  show isW (.int p.1) 0 255 = true
  simp [isW, a, b]
theorem isW_of {i lo hi : Int} (a : lo ≤ i) (b : i ≤ hi) : isW (.int i) lo hi = true := by simp [isW, a, b]
def all8 : List Str := ["", "r", "w", "x", "rw", "rx", "wx", "rwx"]
theorem isLE_law (d : PyData) : isLE d = (isSt d && inS d all8) := by
  cases d with
  | str z =>
    show (decide (z = "") || decide (z ∈ lets)) = (true && decide (z ∈ all8))
    rw [Bool.true_and, Bool.eq_iff_iff, Bool.or_eq_true, decide_eq_true_eq, decide_eq_true_eq, decide_eq_true_eq]
    simp only [lets, all8, List.mem_cons, List.not_mem_nil, or_false]
    constructor <;> (intro h; rcases h with h | h | h | h | h | h | h | h <;> simp [h])
  | none => rfl
  | bool _ => rfl
  | int _ => rfl
  | list _ => rfl
  | tuple _ => rfl
  | dict _ => rfl
section
variable {P : Program} {w : World} {K : PySem.W.Frag} {mg : Str → Option Value} {base : Heap}
def spAll (K : PySem.W.Frag) : Sp := fun vs H Q _ => vs = [] ∧ ∀ l H', Same H H' → H' l = some (.lst (all8.map V.str)) → H l = none → Q (.ref l) H'
theorem ok_AllLetters {k : Nat} {f : Addr} {fd : FuncData}  (F : Fun K "_law_all_letters" "_law_all_letters" sAllLetters f fd)    : FnOk P w K mg base CX0 (k + 1) f fd [] (spAll K) := by
  refine F.ok scAllLetters (fun vs H Q E h => ?_) (fun cdv A outer s H vs Q E hr h => ?_)
  · obtain ⟨rfl, _⟩ := h
    rfl
  · obtain ⟨rfl, q⟩ := h
    refine ⟨_, (pss_one (ps_ret (pe_lst (pa_cons pe_str (pa_cons pe_str (pa_cons pe_str (pa_cons pe_str (pa_cons pe_str (pa_cons pe_str (pa_cons pe_str (pa_cons pe_str pa_nil))))))))))), ?_⟩
    exact ⟨by show 8 ≤ sizeLine; decide, fun l nl => q l _ (same_upd nl) upd_same nl⟩
def spAreLetters (K : PySem.W.Frag) : Sp := fun vs H Q _ => ∃ (v : V) (d : PyData), vs = [v] ∧ Dq K H v d ∧ ∀ H', Same H H' → Q (.bl (lettersB d)) H'
theorem ok_AreLetters {k : Nat} {f : Addr} {fd : FuncData}  (F : Fun K "_law_are_letters" "_law_are_letters" sAreLetters f fd) (gAl : Cal P w K mg base CX0 (k + 1) "_law_all_letters" [] (spAll K))  (fall : mg "all" = none) (fisinstance : mg "isinstance" = none) (flen : mg "len" = none) (fstr : mg "str" = none) (ftuple : mg "tuple" = none) : FnOk P w K mg base CX0 (k + 2) f fd ["value"] (spAreLetters K) := by
  obtain ⟨fAl, fdAl, GAl, kAl, bAl, mAl⟩ := gAl
  refine F.ok scAreLetters (fun vs H Q E h => ?_) (fun cdv A outer s H vs Q E hr h => ?_)
  · obtain ⟨v, d, rfl, _⟩ := h
    rfl
  · obtain ⟨v, d, rfl, hd, q⟩ := h
    refine ⟨_, (pss_cons (ps_if (PW.pt (pw_or (pt_not (pt_val (pe_callB call_isi (by rfl) fisinstance (by decide +kernel) (pa_cons (pv 0) (pa_cons (pe_bltn (v := .ty "tuple") (by rfl) ftuple (by decide +kernel) rfl) pa_nil))))) (pw_or1 (pt_cmpR op_ne (pe_callB call_len_seq (by rfl) flen PySem.boot_len (pa_cons (pv 0) pa_nil)) pe_int (nomark _))))) (pss_one (ps_ret pe_bl)) pss_nil) (pss_one (ps_ret (pe_callB (cr_all rfl) (by rfl) fall (by decide +kernel) (pa_cons (pe_lc (own := [("one", 1)]) (g := (gName 1)) (tt := tYes) rfl scAreLetters.nd (pi_tup (pv 0)) (blkOk_by (N := ["value", "one"]) (sc := defScope sAreLetters) (by decide +kernel)) (fun _ _ _ _ _ => (pg_name (i := 1) scAreLetters.nd rfl (.inl rfl))) (fun _ _ _ _ _ => pts_nil) (fun _ _ _ _ _ => (pe_and (pe_callB (show CallR _ (.builtin "isinstance") (rIsi K) from call_isi) (by rfl) fisinstance (by decide +kernel) (pa_cons (pv 1) (pa_cons (pe_bltn (v := .ty "str") (by rfl) fstr (by decide +kernel) rfl) pa_nil))) (pe_one (pe_cmpR (show OpR _ (compareOp .In) (rIn K false) from op_in_seq) (pv 1) (pe_call0 GAl hr (by rfl) mAl kAl bAl .nil pass0) (by rfl)))))) pa_nil))))), ?_⟩
    have q0 := q H (Same.refl H)
    refine ⟨v, rfl, v, .ty "tuple", _, .type "tuple", _, rfl, .ty "tuple", dq_tyx hd, kit_tup d, _, rfl, ?_⟩
    cases e : isTu d with
    | false =>
      rw [(notTup e).1] at q0
      exact iteT q0
    | true =>
      obtain ⟨ds, rfl⟩ := isTu_tup e
      obtain ⟨a, xs, rfl, hs, hxl, hel⟩ := dq_parts hd
      refine iteF ⟨.ref a, rfl, a, xs, rfl, .inr hs, rfl, _, rfl, ?_⟩
      rw [hxl]
      have eb : lettersB (.tuple ds) = (decide (ds.length = 16) && (ds.map isLE).all id) := rfl
      by_cases hl : ds.length = 16
      · refine iteC (by rw [hl]; rfl) ⟨.ref a, rfl, a, rfl, ⟨_, hs⟩, fun D nD => ?_⟩
        refine lc_tup (xs := xs) (fun i H' => Same H H' ∧ H' D = some (.lst (((ds.take i).map isLE).map V.bl))) ⟨same_upd nD, upd_same⟩ (fun i H' _ hP => Same.seqT hP.1 hs) (fun i x H' hx hP => ?_) fun H2 hP => ?_
        · obtain ⟨sm, hD⟩ := hP
          have hi := (List.getElem?_eq_some_iff.mp hx).1
          have hi2 : i < ds.length := by omega
          obtain ⟨hdx, hok⟩ := hel i x hx
          have hdx := Dk.same sm hdx
          have et : ds.take (i + 1) = ds.take i ++ [ds.getD i .none] := by
            rw [List.take_add_one, List.getD_eq_getElem?_getD, List.getElem?_eq_getElem hi2]; rfl
          have ll : (((ds.take i).map isLE).map V.bl).length < sizeLine := small1000 (by rw [List.length_map, List.length_map, List.length_take]; omega)
          have fin : ∀ (b : Bool) H3, b = isLE (ds.getD i .none) → Same H' H3 → Same H (upd H3 D (.lst (((ds.take i).map isLE).map V.bl ++ [V.bl b]))) ∧ upd H3 D (.lst (((ds.take i).map isLE).map V.bl ++ [V.bl b])) D = some (.lst (((ds.take (i + 1)).map isLE).map V.bl)) := fun b H3 eb s3 => by
            refine ⟨Same.updNew (sm.trans s3) nD, ?_⟩
            rw [upd_same, et, List.map_append, List.map_append, eb]
            rfl
          refine ⟨rfl, yesT ?_⟩
          generalize ds.getD i .none = dx at hdx fin
          refine ⟨x, rfl, x, .ty "str", _, .type "str", _, rfl, .ty "str", hdx.tyx, kit_str dx, _, rfl, ?_⟩
          have el := isLE_law dx
          cases e1 : isSt dx with
          | false =>
            rw [e1, Bool.false_and] at el
            exact iteF ⟨_, hD, ll, fin false H' el.symm (Same.refl _)⟩
          | true =>
            rw [e1, Bool.true_and] at el
            obtain ⟨z, rfl⟩ := isSt_str e1
            obtain rfl := dk_strv hdx
            refine iteT ⟨.str z, rfl, rfl, fun l H3 s3 hl3 nl => ⟨l, _, rfl, .inl (SqL.of hl3), rfl, flat_strs all8, _, s3 _ _ hD, ll, fin _ H3 ?_ s3⟩⟩
            rw [inV_strs]
            exact el.symm
        · obtain ⟨sm, hD⟩ := hP
          rw [hxl, List.take_length] at hD
          refine ⟨D, _, rfl, SqL.of hD, ?_⟩
          have q2 := q H2 sm
          rw [eb, decide_eq_true hl, Bool.true_and] at q2
          exact q2
      · rw [eb, decide_eq_false hl, Bool.false_and] at q0
        exact iteNE (fun z => hl (by have := V.int.inj z; omega)) q0
def spAreAccs (K : PySem.W.Frag) : Sp := fun vs H Q _ => ∃ (v : V) (d : PyData), vs = [v] ∧ Dk K H v d ∧ ∀ H', Same H H' → Q (.bl (accB d)) H'
theorem ok_AreAccesses {k : Nat} {f : Addr} {fd : FuncData}  (F : Fun K "_law_are_accesses" "_law_are_accesses" sAreAccesses f fd) (gIi : Cal P w K mg base CX0 (k + 1) "_law_is_int" ["value", "low", "high"] (spWithin K))  (fall : mg "all" = none) (fisinstance : mg "isinstance" = none) (flen : mg "len" = none) (fstr : mg "str" = none) (ftuple : mg "tuple" = none) : FnOk P w K mg base CX0 (k + 2) f fd ["value"] (spAreAccs K) := by
  obtain ⟨fIi, fdIi, GIi, kIi, bIi, mIi⟩ := gIi
  refine F.ok scAreAccesses (fun vs H Q E h => ?_) (fun cdv A outer s H vs Q E hr h => ?_)
  · obtain ⟨v, d, rfl, _⟩ := h
    rfl
  · obtain ⟨v, d, rfl, hd, q⟩ := h
    refine ⟨_, (pss_cons (ps_if (PW.pt (pw_or (pt_not (pt_val (pe_callB call_isi (by rfl) fisinstance (by decide +kernel) (pa_cons (pv 0) (pa_cons (pe_bltn (v := .ty "tuple") (by rfl) ftuple (by decide +kernel) rfl) pa_nil))))) (pw_or1 (pt_not (pt_chain op_le op_le pe_int (pe_callB call_len_seq (by rfl) flen PySem.boot_len (pa_cons (pv 0) pa_nil)) pe_int))))) (pss_one (ps_ret pe_bl)) pss_nil) (pss_cons (ps_if (pt_not (pt_val (pe_callB (cr_all rfl) (by rfl) fall (by decide +kernel) (pa_cons (pe_lc (own := [("one", 1)]) (g := (gName 1)) (tt := tYes) rfl scAreAccesses.nd (pi_tup (pv 0)) (blkOk_by (N := ["value", "one"]) (sc := defScope sAreAccesses) (by decide +kernel)) (fun _ _ _ _ _ => (pg_name (i := 1) scAreAccesses.nd rfl (.inl rfl))) (fun _ _ _ _ _ => pts_nil) (fun _ _ _ _ _ => (pe_and (pe_callB (show CallR _ (.builtin "isinstance") (rIsi K) from call_isi) (by rfl) fisinstance (by decide +kernel) (pa_cons (pv 1) (pa_cons (pe_bltn (v := .ty "tuple") (by rfl) ftuple (by decide +kernel) rfl) pa_nil))) (pe_and (pe_cmpR op_eq (pe_callB (show CallR _ (.builtin "len") (rLenK K) from call_len_seq) (by rfl) flen PySem.boot_len (pa_cons (pv 1) pa_nil)) pe_int (nomark _)) (pe_one (pe_call GIi hr (by rfl) mIi kIi bIi .nil pass0 (pa_cons (pe_ix (show IxR _ (rIxT K) from ix_tup) (pv 1) pe_int (fun _ _ => rfl)) (pa_cons pe_int (pa_cons pe_int pa_nil))))))))) pa_nil)))) (pss_one (ps_ret pe_bl)) pss_nil) (pss_cons (ps_if (PW.pt (pw_or (pt_not (pt_val (pe_callB (cr_all rfl) (by rfl) fall (by decide +kernel) (pa_cons (pe_lc (own := [("one", 1)]) (g := (gName 1)) (tt := tYes) rfl scAreAccesses.nd (pi_tup (pv 0)) (blkOk_by (N := ["value", "one"]) (sc := defScope sAreAccesses) (by decide +kernel)) (fun _ _ _ _ _ => (pg_name (i := 1) scAreAccesses.nd rfl (.inl rfl))) (fun _ _ _ _ _ => pts_nil) (fun _ _ _ _ _ => (pe_callB (show CallR _ (.builtin "isinstance") (rIsi K) from call_isi) (by rfl) fisinstance (by decide +kernel) (pa_cons (pe_ix (show IxR _ (rIxT K) from ix_tup) (pv 1) pe_int (fun _ _ => rfl)) (pa_cons (pe_bltn (v := .ty "str") (by rfl) fstr (by decide +kernel) rfl) pa_nil))))) pa_nil)))) (pw_or1 (pt_cmpR op_ne (pe_ix ix_tup (pe_ix ix_tup (pv 0) pe_int (fun _ _ => rfl)) pe_int (fun _ _ => rfl)) pe_str (nomark _))))) (pss_one (ps_ret pe_bl)) pss_nil) (pss_one (ps_ret (pe_or (pe_cmpR op_eq (pe_callB call_len_seq (by rfl) flen PySem.boot_len (pa_cons (pv 0) pa_nil)) pe_int (nomark _)) (pe_one (pe_cmpR op_in_seq (pe_ix ix_tup (pe_ix ix_tup (pv 0) pe_int (fun _ _ => rfl)) pe_int (fun _ _ => rfl)) (pe_tup (pa_cons pe_str (pa_cons pe_str pa_nil))) (by rfl))))))))), ?_⟩
    have q0 := q H (Same.refl H)
    refine ⟨v, rfl, v, .ty "tuple", _, .type "tuple", _, rfl, .ty "tuple", hd.tyx, kit_tup d, _, rfl, ?_⟩
    cases e : isTu d with
    | false =>
      rw [(notTup e).2.1] at q0
      exact iteT q0
    | true =>
      obtain ⟨ds, rfl⟩ := isTu_tup e
      obtain ⟨a, xs, rfl, hs, ha⟩ := dk_tup hd
      have hxl := dpAll_len ha
      refine iteF ⟨.ref a, rfl, a, xs, rfl, .inr hs, 1, _, rfl, rfl, _, rfl, ?_⟩
      rw [hxl]
      have short : accB (.tuple ds) = true → 1 ≤ ds.length ∧ ds.length ≤ 2 := fun h => by
        obtain ⟨acs, e, _, l1, l2⟩ := accB_shape h
        cases e
        rw [List.length_map]
        exact ⟨l1, l2⟩
      have no : accB (.tuple ds) = false → Q (.bl false) H := fun h => by rw [h] at q0; exact q0
      by_cases c1 : (1 : Int) ≤ ((ds.length : Nat) : Int)
      · refine iteD c1 ⟨_, 2, rfl, rfl, _, rfl, ?_⟩
        by_cases c2 : ((ds.length : Nat) : Int) ≤ 2
        · rw [decide_eq_true c2]
          refine iteF ⟨.ref a, rfl, a, rfl, ⟨_, hs⟩, fun D nD => ?_⟩
          refine lc_tup (xs := xs) (fun i H' => Same H H' ∧ H' D = some (.lst (((ds.take i).map pairB).map V.bl))) ⟨same_upd nD, upd_same⟩ (fun i H' _ hP => Same.seqT hP.1 hs) (fun i x H' hx hP => ?_) fun H2 hP => ?_
          · obtain ⟨sm, hD⟩ := hP
            have hi := (List.getElem?_eq_some_iff.mp hx).1
            have hi2 : i < ds.length := by omega
            have hdx := dp_same sm _ _ (dpAll_get ha hx)
            have et : ds.take (i + 1) = ds.take i ++ [ds.getD i .none] := by
              rw [List.take_add_one, List.getD_eq_getElem?_getD, List.getElem?_eq_getElem hi2]; rfl
            have ll : (((ds.take i).map pairB).map V.bl).length < sizeLine := small1000 (by rw [List.length_map, List.length_map, List.length_take]; omega)
            have fin : ∀ (b : Bool), b = pairB (ds.getD i .none) → Same H (upd H' D (.lst (((ds.take i).map pairB).map V.bl ++ [V.bl b]))) ∧ upd H' D (.lst (((ds.take i).map pairB).map V.bl ++ [V.bl b])) D = some (.lst (((ds.take (i + 1)).map pairB).map V.bl)) := fun b eb => by
              refine ⟨Same.updNew sm nD, ?_⟩
              rw [upd_same, et, List.map_append, List.map_append, eb]
              rfl
            refine ⟨rfl, yesT ?_⟩
            generalize ds.getD i .none = dx at hdx fin
            refine ⟨x, rfl, x, .ty "tuple", _, .type "tuple", _, rfl, .ty "tuple", (Dk.dp hdx).tyx, kit_tup dx, _, rfl, ?_⟩
            cases e1 : isTu dx with
            | false => exact iteF ⟨_, hD, ll, fin false (by cases dx <;> first | rfl | cases e1)⟩
            | true =>
              obtain ⟨es, rfl⟩ := isTu_tup e1
              obtain ⟨b, ys, rfl, hsb, hab⟩ := dk_tup (Dk.dp hdx)
              have hyl := dpAll_len hab
              refine iteT ⟨.ref b, rfl, b, ys, rfl, .inr hsb, rfl, _, rfl, ?_⟩
              rw [hyl]
              by_cases c3 : es.length = 2
              · obtain ⟨n, l, rfl⟩ := len2 c3
                obtain ⟨x1, x2, rfl, g1, g2⟩ := dpAll_two hab
                refine iteB (by rfl) ⟨.ref b, rfl, b, _, 0, x1, rfl, rfl, hsb, at0, x1, n, 0, 255, rfl, .dp g1, _, hD, ll, fin _ rfl⟩
              · refine iteE (fun z => c3 (by have := V.int.inj z; omega)) ⟨_, hD, ll, fin false ?_⟩
                unfold pairB
                split
                · rename_i z1 z2 ez
                  cases ez
                  exact absurd rfl c3
                · rfl
          · obtain ⟨sm, hD⟩ := hP
            rw [hxl, List.take_length] at hD
            refine ⟨D, _, rfl, SqL.of hD, _, rfl, ?_⟩
            cases eP : (ds.map pairB).all id with
            | false =>
              refine iteT ?_
              have q2 := q H2 sm
              have : accB (.tuple ds) = false := Bool.eq_false_iff.mpr fun z => by rw [(accB_pairs z).1] at eP; cases eP
              rw [this] at q2
              exact q2
            | true =>
              refine iteF ?_
              have hs2 := Same.seqT sm hs
              refine ⟨.ref a, rfl, a, rfl, ⟨_, hs2⟩, fun D2 nD2 => ?_⟩
              refine lc_tup (xs := xs) (fun i H' => Same H2 H' ∧ H' D2 = some (.lst (((ds.take i).map secS).map V.bl))) ⟨same_upd nD2, upd_same⟩ (fun i H' _ hP => Same.seqT hP.1 hs2) (fun i x H' hx hP => ?_) fun H3 hP => ?_
              · obtain ⟨sm2, hD2⟩ := hP
                have hi := (List.getElem?_eq_some_iff.mp hx).1
                have hi2 : i < ds.length := by omega
                have hdx := dp_same (sm.trans sm2) _ _ (dpAll_get ha hx)
                have et : ds.take (i + 1) = ds.take i ++ [ds.getD i .none] := by
                  rw [List.take_add_one, List.getD_eq_getElem?_getD, List.getElem?_eq_getElem hi2]; rfl
                have ll : (((ds.take i).map secS).map V.bl).length < sizeLine := small1000 (by rw [List.length_map, List.length_map, List.length_take]; omega)
                have fin : ∀ (b : Bool), b = secS (ds.getD i .none) → Same H2 (upd H' D2 (.lst (((ds.take i).map secS).map V.bl ++ [V.bl b]))) ∧ upd H' D2 (.lst (((ds.take i).map secS).map V.bl ++ [V.bl b])) D2 = some (.lst (((ds.take (i + 1)).map secS).map V.bl)) := fun b eb => by
                  refine ⟨Same.updNew sm2 nD2, ?_⟩
                  rw [upd_same, et, List.map_append, List.map_append, eb]
                  rfl
                have hpB : pairB (ds.getD i .none) = true := by
                  rw [List.all_map, List.all_eq_true] at eP
                  refine eP _ ?_
                  rw [List.getD_eq_getElem?_getD, List.getElem?_eq_getElem hi2]
                  exact List.getElem_mem hi2
                refine ⟨rfl, yesT ?_⟩
                generalize ds.getD i .none = dx at hdx fin hpB
                obtain ⟨n, l, rfl, _⟩ := pair_shape hpB
                obtain ⟨b, ys, rfl, hsb, hab⟩ := dk_tup (Dk.dp hdx)
                obtain ⟨x1, x2, rfl, g1, g2⟩ := dpAll_two hab
                exact ⟨.ref b, rfl, b, _, 1, x2, rfl, rfl, hsb, at1, x2, .ty "str", _, .type "str", _, rfl, .ty "str", (Dk.dp g2).tyx, kit_str l, _, hD2, ll, fin _ rfl⟩
              · obtain ⟨sm2, hD2⟩ := hP
                rw [hxl, List.take_length] at hD2
                have s13 := sm.trans sm2
                refine ⟨D2, _, rfl, SqL.of hD2, _, rfl, ?_⟩
                have q3 := q H3 s13
                cases eS : (ds.map secS).all id with
                | false =>
                  refine iteT ?_
                  have : accB (.tuple ds) = false := Bool.eq_false_iff.mpr fun z => by rw [(accB_pairs z).2] at eS; cases eS
                  rw [this] at q3
                  exact q3
                | true =>
                  refine iteF ?_
                  obtain ⟨ps, rfl, hps⟩ := pairs_of eP eS
                  have hs3 := Same.seqT s13 hs
                  have okp : ∀ p ∈ ps, ∀ ls, accOne (accD p) ls = decide (p.2 ∈ ls) := fun p hp ls => by
                    show (isW (.int p.1) 0 255 && decide (p.2 ∈ ls)) = _
                    rw [isW_of (hps p hp).1 (hps p hp).2, Bool.true_and]
                  rw [List.length_map] at c1 c2
                  match ps, hps, okp, ha, q3, c1, c2, hxl with
                  | [], _, _, _, _, c1, _, _ => exact absurd c1 (by decide)
                  | _ :: _ :: _ :: _, _, _, _, _, _, c2, _ => exact absurd c2 (by simp only [List.length_cons]; omega)
                  | [p1], hps, okp, ha, q3, _, _, hxl =>
                    obtain ⟨x1, rfl, g1⟩ := dpAll_one ha
                    obtain ⟨b, ys, rfl, hsb, hab⟩ := dk_tup (Dk.dp (show Dp K H x1 (.tuple [.int p1.1, .str p1.2]) from g1))
                    obtain ⟨_, _, rfl, h1, h2⟩ := dpAll_two hab
                    cases h1; cases h2
                    have q3 : Q (.bl (accOne (accD p1) ["x"])) H3 := q3
                    rw [okp p1 (by simp)] at q3
                    refine ⟨.ref a, rfl, a, _, 0, .ref b, rfl, rfl, hs3, at0, b, _, 1, .str p1.2, rfl, rfl, Same.seqT s13 hsb, at1, rfl, _, rfl, ?_⟩
                    by_cases c : p1.2 = "x"
                    · rw [decide_eq_true (show p1.2 ∈ (["x"] : List Str) by rw [c]; decide)] at q3
                      refine iteC (by rw [c]; decide) ⟨.ref a, rfl, a, _, rfl, .inr hs3, rfl, _, rfl, ?_⟩
                      exact iteT q3
                    · rw [decide_eq_false (show ¬ p1.2 ∈ (["x"] : List Str) from fun z => c (List.mem_singleton.mp z))] at q3
                      exact iteNE (fun z => c (V.str.inj z)) q3
                  | [p1, p2], hps, okp, ha, q3, _, _, hxl =>
                    obtain ⟨x1, y1, rfl, g1, g2⟩ := dpAll_two ha
                    obtain ⟨b, ys, rfl, hsb, hab⟩ := dk_tup (Dk.dp (show Dp K H x1 (.tuple [.int p1.1, .str p1.2]) from g1))
                    obtain ⟨_, _, rfl, h1, h2⟩ := dpAll_two hab
                    cases h1; cases h2
                    obtain ⟨b2, ys2, rfl, hsb2, hab2⟩ := dk_tup (Dk.dp (show Dp K H y1 (.tuple [.int p2.1, .str p2.2]) from g2))
                    obtain ⟨_, _, rfl, h1, h2⟩ := dpAll_two hab2
                    cases h1; cases h2
                    have ea : accB (.tuple [accD p1, accD p2]) = (accOne (accD p1) ["x"] && accOne (accD p2) ["r", "w"]) := rfl
                    have q := fun H' s => (show Q (.bl (accOne (accD p1) ["x"] && accOne (accD p2) ["r", "w"])) H' from q H' s)
                    rw [okp p1 (by simp), okp p2 (by simp)] at q
                    refine ⟨.ref a, rfl, a, _, 0, .ref b, rfl, rfl, hs3, at0, b, _, 1, .str p1.2, rfl, rfl, Same.seqT s13 hsb, at1, rfl, _, rfl, ?_⟩
                    by_cases c : p1.2 = "x"
                    · rw [decide_eq_true (show p1.2 ∈ (["x"] : List Str) by rw [c]; decide)] at q
                      refine iteC (by rw [c]; decide) ⟨.ref a, rfl, a, _, rfl, .inr hs3, rfl, _, rfl, ?_⟩
                      refine iteF ⟨.ref a, rfl, a, _, 1, .ref b2, rfl, rfl, hs3, at1, b2, _, 1, .str p2.2, rfl, rfl, Same.seqT s13 hsb2, at1, by show 2 ≤ sizeLine; decide, fun t nt => ?_⟩
                      refine ⟨t, (["r", "w"] : List Str).map V.str, rfl, .inr (SqT.of upd_same), rfl, rfl, ?_⟩
                      rw [inV_strs]
                      exact q _ (s13.trans (same_upd nt))
                    · have q3 := q _ s13
                      rw [decide_eq_false (show ¬ p1.2 ∈ (["x"] : List Str) from fun z => c (List.mem_singleton.mp z))] at q3
                      exact iteNE (fun z => c (V.str.inj z)) q3
        · rw [decide_eq_false c2]
          exact iteT (no (Bool.eq_false_iff.mpr fun z => c2 (by have := (short z).2; omega)))
      · exact iteE c1 ⟨_, rfl, iteT (no (Bool.eq_false_iff.mpr fun z => c1 (by have := (short z).1; omega)))⟩
end
end K26

set_option maxRecDepth 100000
set_option maxHeartbeats 4000000
/-! k26: what the law asks of faults, places, words. -/
namespace K26
open PySem PySem.Spec PyProof.Rows L2 LamX VG TL
def codesK : List (Key × V) := [(Sum.inr "beyond", V.int 4), (Sum.inr "row", V.int 5), (Sum.inr "nought", V.int 6), (Sum.inr "trap", V.int 7)]
def names7 : List Str := ["page", "page", "page", "beyond", "row", "nought", "trap"]
theorem withF_none {c n : Int} (h : c < 1 ∨ 7 < c) : withF c n = none := by
  unfold withF
  rw [if_neg (by omega), if_neg (by omega), if_neg (by omega), if_neg (by omega), if_neg (by omega), if_neg (by omega), if_neg (by omega)]
theorem faultB_fl {f : Fl} (h : faultB (.tuple f.ds) = true) : f.ok := by
  obtain ⟨f', e', ok'⟩ := faultB_shape h
  have : f = f' := by
    cases f <;> cases f' <;> simp [Fl.ds] at e' ⊢ <;> exact e'
  rw [this]
  exact ok'
theorem decide_sym {x y : V} : decide (x = y) = decide (y = x) := by rw [Bool.eq_iff_iff, decide_eq_true_eq, decide_eq_true_eq]; exact eq_comm
theorem faultB3 {k l n : PyData} : faultB (.tuple [k, l, n]) = (isS k "page" && (inS l lets3 && isW n 0 255)) := rfl
theorem faultB2 {k n : PyData} : faultB (.tuple [k, n]) = if isS k "beyond" = true then isW n 256 65535 else if isS k "row" = true then isW n 0 65535 && rowNone n else inS k ["nought", "trap"] && isW n 0 255 := rfl
theorem faultB_len {ds : List PyData} (h2 : ¬ ds.length = 2) (h3 : ¬ ds.length = 3) : faultB (.tuple ds) = false := by
  unfold faultB
  split
  · rename_i e; cases e; exact absurd rfl h3
  · rename_i e; cases e; exact absurd rfl h2
  · rfl
theorem notStr {k : PyData} {z : Str} {ls : List Str} (h : isSt k = false) : isS k z = false ∧ inS k ls = false := by
  cases k with
  | str _ => cases h
  | none => exact ⟨rfl, rfl⟩
  | bool _ => exact ⟨rfl, rfl⟩
  | int _ => exact ⟨rfl, rfl⟩
  | list _ => exact ⟨rfl, rfl⟩
  | tuple _ => exact ⟨rfl, rfl⟩
  | dict _ => exact ⟨rfl, rfl⟩
theorem inV23 (n : Nat) : inV (.int (n : Int)) [.int 2, .int 3] = (decide (n = 2) || decide (n = 3)) := by
  show (((2 : Int) == (n : Int)) || (((3 : Int) == (n : Int)) || false)) = _
  rw [Bool.or_false, Bool.eq_iff_iff, Bool.or_eq_true, Bool.or_eq_true, beq_iff_eq, beq_iff_eq, decide_eq_true_eq, decide_eq_true_eq]
  omega
section
variable {P : Program} {w : World} {K : PySem.W.Frag} {mg : Str → Option Value} {base : Heap}
def spDue (K : PySem.W.Frag) : Sp := fun vs H Q _ => ∃ (v : V) (d : PyData), vs = [v] ∧ Dk K H v d ∧ ∀ H', Same H H' → Q (.bl (faultB d)) H'
theorem ok_FaultDue {k : Nat} {f : Addr} {fd : FuncData}  (F : Fun K "_law_fault_due" "_law_fault_due" sFaultDue f fd) (gIi : Cal P w K mg base CX0 (k + 1) "_law_is_int" ["value", "low", "high"] (spWithin K)) (gCr : Cal P w K mg base CX0 (k + 1) "_law_cell_row" ["word"] spCellRow)  (fisinstance : mg "isinstance" = none) (flen : mg "len" = none) (fstr : mg "str" = none) (ftuple : mg "tuple" = none) : FnOk P w K mg base CX0 (k + 2) f fd ["value"] (spDue K) := by
  obtain ⟨fIi, fdIi, GIi, kIi, bIi, mIi⟩ := gIi
  obtain ⟨fCr, fdCr, GCr, kCr, bCr, mCr⟩ := gCr
  refine F.ok scFaultDue (fun vs H Q E h => ?_) (fun cdv A outer s H vs Q E hr h => ?_)
  · obtain ⟨v, d, rfl, _⟩ := h
    rfl
  · obtain ⟨v, d, rfl, hd, q⟩ := h
    refine ⟨_, (pss_cons (ps_if (PW.pt (pw_or (pt_not (pt_val (pe_callB call_isi (by rfl) fisinstance (by decide +kernel) (pa_cons (pv 0) (pa_cons (pe_bltn (v := .ty "tuple") (by rfl) ftuple (by decide +kernel) rfl) pa_nil))))) (pw_or (pt_cmpR op_notIn_seq (pe_callB call_len_seq (by rfl) flen PySem.boot_len (pa_cons (pv 0) pa_nil)) (pe_tup (pa_cons pe_int (pa_cons pe_int pa_nil))) (by rfl)) (pw_or1 (pt_not (pt_val (pe_callB call_isi (by rfl) fisinstance (by decide +kernel) (pa_cons (pe_ix ix_tup (pv 0) pe_int (fun _ _ => rfl)) (pa_cons (pe_bltn (v := .ty "str") (by rfl) fstr (by decide +kernel) rfl) pa_nil))))))))) (pss_one (ps_ret pe_bl)) pss_nil) (pss_cons (ps_if (pt_cmpR op_eq (pe_ix ix_tup (pv 0) pe_int (fun _ _ => rfl)) pe_str (nomark _)) (pss_cons (ps_if (PW.pt (pw_or (pt_cmpR op_ne (pe_callB call_len_seq (by rfl) flen PySem.boot_len (pa_cons (pv 0) pa_nil)) pe_int (nomark _)) (pw_or (pt_not (pt_val (pe_callB call_isi (by rfl) fisinstance (by decide +kernel) (pa_cons (pe_ix ix_tup (pv 0) pe_int (fun _ _ => rfl)) (pa_cons (pe_bltn (v := .ty "str") (by rfl) fstr (by decide +kernel) rfl) pa_nil))))) (pw_or1 (pt_not (pt_val (pe_call GIi hr (by rfl) mIi kIi bIi .nil pass0 (pa_cons (pe_ix ix_tup (pv 0) pe_int (fun _ _ => rfl)) (pa_cons pe_int (pa_cons pe_int pa_nil)))))))))) (pss_one (ps_ret pe_bl)) pss_nil) (pss_one (ps_ret (pe_cmpR op_in_seq (pe_ix ix_tup (pv 0) pe_int (fun _ _ => rfl)) (pe_tup (pa_cons pe_str (pa_cons pe_str (pa_cons pe_str pa_nil)))) (by rfl))))) pss_nil) (pss_cons (ps_if (PW.pt (pw_or (pt_cmpR op_ne (pe_callB call_len_seq (by rfl) flen PySem.boot_len (pa_cons (pv 0) pa_nil)) pe_int (nomark _)) (pw_or1 (pt_cmpR op_notIn_seq (pe_ix ix_tup (pv 0) pe_int (fun _ _ => rfl)) (pe_tup (pa_cons pe_str (pa_cons pe_str (pa_cons pe_str (pa_cons pe_str pa_nil))))) (by rfl))))) (pss_one (ps_ret pe_bl)) pss_nil) (pss_cons (ps_if (pt_cmpR op_in_seq (pe_ix ix_tup (pv 0) pe_int (fun _ _ => rfl)) (pe_tup (pa_cons pe_str (pa_cons pe_str pa_nil))) (by rfl)) (pss_one (ps_ret (pe_call GIi hr (by rfl) mIi kIi bIi .nil pass0 (pa_cons (pe_ix ix_tup (pv 0) pe_int (fun _ _ => rfl)) (pa_cons pe_int (pa_cons pe_int pa_nil)))))) pss_nil) (pss_cons (ps_if (pt_not (pt_val (pe_call GIi hr (by rfl) mIi kIi bIi .nil pass0 (pa_cons (pe_ix ix_tup (pv 0) pe_int (fun _ _ => rfl)) (pa_cons pe_int (pa_cons pe_int pa_nil)))))) (pss_one (ps_ret pe_bl)) pss_nil) (pss_one (ps_ret (pe_ifExp (pt_cmpR op_eq (pe_ix ix_tup (pv 0) pe_int (fun _ _ => rfl)) pe_str (nomark _)) (pe_cmpR op_gt (pe_ix ix_tup (pv 0) pe_int (fun _ _ => rfl)) pe_int (nomark _)) (pe_cmpR op_isN (pe_call GCr hr (by rfl) mCr kCr bCr .nil pass0 (pa_cons (pe_ix ix_tup (pv 0) pe_int (fun _ _ => rfl)) pa_nil)) pe_non (nomark _)))))))))), ?_⟩
    have q0 := q H (Same.refl H)
    refine ⟨v, rfl, v, .ty "tuple", _, .type "tuple", _, rfl, .ty "tuple", hd.tyx, kit_tup d, _, rfl, ?_⟩
    cases e : isTu d with
    | false =>
      rw [(notTup e).2.2.1] at q0
      exact iteT q0
    | true =>
      obtain ⟨ds, rfl⟩ := isTu_tup e
      obtain ⟨a, xs, rfl, hs, ha⟩ := dk_tup hd
      have hxl := dpAll_len ha
      refine iteF ⟨.ref a, rfl, a, xs, rfl, .inr hs, by show 2 ≤ sizeLine; decide, fun t nt => ⟨t, [V.int 2, .int 3], rfl, .inr (SqT.of upd_same), rfl, rfl, _, rfl, ?_⟩⟩
      have s1 := same_upd (o := .tup [V.int 2, .int 3]) nt
      have q1 := q _ s1
      have q := fun H' s => q H' (s1.trans s)
      have hs := Same.seqT s1 hs
      have ha := dpAll_same s1 _ _ ha
      clear q0 s1
      generalize upd H t (.tup [V.int 2, .int 3]) = H1 at q1 q hs ha ⊢
      rw [hxl]
      show if (!inV (.int (ds.length : Nat)) [.int 2, .int 3]) = true then _ else _
      rw [inV23]
      by_cases c3 : ds.length = 3
      · obtain ⟨dk, dl, dn, rfl⟩ := len3 c3
        obtain ⟨x1, x2, x3, rfl, g1, g2, g3⟩ := dpAll_three ha
        refine iteC (by rfl) ⟨.ref a, rfl, a, _, 0, x1, rfl, rfl, hs, at0, x1, .ty "str", _, .type "str", _, rfl, .ty "str", (Dk.dp g1).tyx, kit_str dk, _, rfl, ?_⟩
        rw [faultB3] at q q1
        cases e1 : isSt dk with
        | false =>
          rw [(notStr e1 (ls := [])).1] at q1
          exact iteT q1
        | true =>
          obtain ⟨z, rfl⟩ := isSt_str e1
          cases g1
          refine iteF ⟨.ref a, rfl, a, _, 0, .str z, rfl, rfl, hs, at0, rfl, _, rfl, ?_⟩
          by_cases cz : z = "page"
          · rw [show isS (.str z) "page" = true from decide_eq_true cz, Bool.true_and] at q q1
            refine iteD (congrArg V.str cz) ⟨.ref a, rfl, a, _, rfl, .inr hs, rfl, _, rfl, iteC (by rfl) ?_⟩
            refine ⟨.ref a, rfl, a, _, 1, x2, rfl, rfl, hs, at1, x2, .ty "str", _, .type "str", _, rfl, .ty "str", (Dk.dp g2).tyx, kit_str dl, _, rfl, ?_⟩
            cases e2 : isSt dl with
            | false =>
              rw [(notStr e2 (z := "") (ls := lets3)).2] at q1
              exact iteT q1
            | true =>
              obtain ⟨zl, rfl⟩ := isSt_str e2
              cases g2
              refine iteF ⟨.ref a, rfl, a, _, 2, x3, rfl, rfl, hs, at2, x3, dn, 0, 255, rfl, .dp g3, _, rfl, ?_⟩
              cases e3 : isW dn 0 255 with
              | false =>
                rw [e3, Bool.and_false] at q1
                exact iteT q1
              | true =>
                rw [e3] at q
                refine iteF ⟨.ref a, rfl, a, _, 1, .str zl, rfl, rfl, hs, at1, by show 3 ≤ sizeLine; decide, fun t nt => ?_⟩
                refine ⟨t, lets3.map V.str, rfl, .inr (SqT.of upd_same), rfl, rfl, ?_⟩
                rw [inV_strs]
                have q2 := q _ (same_upd (o := .tup (lets3.map V.str)) nt)
                rw [Bool.and_true] at q2
                exact q2
          · rw [show isS (.str z) "page" = false from decide_eq_false cz, Bool.false_and] at q1
            exact iteE (fun y => cz (V.str.inj y)) ⟨.ref a, rfl, a, _, rfl, .inr hs, rfl, _, rfl, iteB (by rfl) q1⟩
      · by_cases c2 : ds.length = 2
        · obtain ⟨dk, dn, rfl⟩ := len2 c2
          obtain ⟨x1, x2, rfl, g1, g2⟩ := dpAll_two ha
          refine iteC (by rfl) ⟨.ref a, rfl, a, _, 0, x1, rfl, rfl, hs, at0, x1, .ty "str", _, .type "str", _, rfl, .ty "str", (Dk.dp g1).tyx, kit_str dk, _, rfl, ?_⟩
          rw [faultB2] at q q1
          cases e1 : isSt dk with
          | false =>
            rw [(notStr e1 (ls := [])).1, (notStr e1 (ls := [])).1, (notStr e1 (z := "")).2] at q1
            exact iteT q1
          | true =>
            obtain ⟨z, rfl⟩ := isSt_str e1
            cases g1
            refine iteF ⟨.ref a, rfl, a, _, 0, .str z, rfl, rfl, hs, at0, rfl, _, rfl, ?_⟩
            by_cases cz : z = "page"
            · subst cz
              exact iteD rfl ⟨.ref a, rfl, a, _, rfl, .inr hs, rfl, _, rfl, iteB (by rfl) q1⟩
            · refine iteE (fun y => cz (V.str.inj y)) ⟨.ref a, rfl, a, _, rfl, .inr hs, rfl, _, rfl, iteC (by rfl) ?_⟩
              refine ⟨.ref a, rfl, a, _, 0, .str z, rfl, rfl, hs, at0, by show 4 ≤ sizeLine; decide, fun t nt => ⟨t, kindsF.map V.str, rfl, .inr (SqT.of upd_same), rfl, rfl, _, rfl, ?_⟩⟩
              have s2 := same_upd (o := .tup (kindsF.map V.str)) nt
              have q2 := q _ s2
              show if (!inV (.str z) (kindsF.map V.str)) = true then _ else _
              rw [inV_strs]
              by_cases ck : z ∈ kindsF
              · rw [decide_eq_true ck]
                refine iteF ?_
                have hs2 := Same.seqT s2 hs
                refine ⟨.ref a, rfl, a, _, 0, .str z, rfl, rfl, hs2, at0, by show 2 ≤ sizeLine; decide, fun t2 nt2 => ⟨t2, (["nought", "trap"] : List Str).map V.str, rfl, .inr (SqT.of upd_same), rfl, rfl, _, rfl, ?_⟩⟩
                have s3 := s2.trans (same_upd (o := .tup ((["nought", "trap"] : List Str).map V.str)) nt2)
                have q3 := q _ s3
                have hs3 := Same.seqT s3 hs
                have g3 := dp_same s3 _ _ g2
                show if inV (.str z) ((["nought", "trap"] : List Str).map V.str) = true then _ else _
                rw [inV_strs]
                by_cases cn : z ∈ (["nought", "trap"] : List Str)
                · have nb : isS (.str z) "beyond" = false := decide_eq_false fun y => by rw [y] at cn; revert cn; decide
                  have nr : isS (.str z) "row" = false := decide_eq_false fun y => by rw [y] at cn; revert cn; decide
                  rw [nb, nr, show inS (.str z) ["nought", "trap"] = true from decide_eq_true cn, Bool.true_and] at q3
                  exact iteD cn ⟨.ref a, rfl, a, _, 1, x2, rfl, rfl, hs3, at1, x2, dn, 0, 255, rfl, .dp g3, q3⟩
                · refine iteE cn ⟨.ref a, rfl, a, _, 1, x2, rfl, rfl, hs3, at1, x2, dn, 0, 65535, rfl, .dp g3, _, rfl, ?_⟩
                  have zz : z = "beyond" ∨ z = "row" := by
                    simp only [kindsF, List.mem_cons, List.not_mem_nil, or_false] at ck cn
                    rcases ck with h | h | h | h
                    · exact .inl h
                    · exact .inr h
                    · exact absurd (.inl h) cn
                    · exact absurd (.inr h) cn
                  cases ew : isW dn 0 65535 with
                  | false =>
                    refine iteT ?_
                    rcases zz with rfl | rfl
                    · have n2 : isW dn 256 65535 = false := by
                        cases dn with
                        | int i =>
                          simp only [isW] at ew ⊢
                          rw [Bool.and_eq_false_iff, decide_eq_false_iff_not, decide_eq_false_iff_not] at ew ⊢
                          omega
                        | _ => rfl
                      rw [if_pos (by rfl), n2] at q3
                      exact q3
                    · rw [if_neg (by decide), if_pos (by rfl), ew, Bool.false_and] at q3
                      exact q3
                  | true =>
                    obtain ⟨i, rfl, i0, i1⟩ := isW_int ew
                    cases g3
                    refine iteF ⟨.ref a, rfl, a, _, 0, .str z, rfl, rfl, hs3, at0, rfl, _, rfl, ?_⟩
                    rcases zz with rfl | rfl
                    · refine iteD rfl ⟨.ref a, rfl, a, _, 1, .int i, rfl, rfl, hs3, at1, i, 255, rfl, rfl, ?_⟩
                      rw [if_pos (by rfl)] at q3
                      have : isW (.int i) 256 65535 = decide (i > 255) := by
                        simp only [isW]
                        rw [decide_eq_true i1, Bool.and_true, Bool.eq_iff_iff, decide_eq_true_eq, decide_eq_true_eq]
                        omega
                      rw [this] at q3
                      exact q3
                    · refine iteE (by decide) ⟨.ref a, rfl, a, _, 1, .int i, rfl, rfl, hs3, at1, i, rfl, i0, i1, fun H4 s4 => ?_⟩
                      have q4 := q _ (s3.trans s4)
                      rw [if_neg (by decide), if_pos (by rfl), ew, Bool.true_and] at q4
                      have q4 : Q (.bl (pRow i).isNone) H4 := q4
                      rw [row_law i0 i1] at q4
                      constructor
                      · intro en
                        rw [en] at q4
                        exact ⟨rfl, q4⟩
                      · intro nm ps b en hb hn
                        rw [en] at q4
                        exact ⟨rfl, q4⟩
              · rw [decide_eq_false ck]
                refine iteT ?_
                have nb : isS (.str z) "beyond" = false := decide_eq_false fun y => ck (by rw [y]; decide)
                have nr : isS (.str z) "row" = false := decide_eq_false fun y => ck (by rw [y]; decide)
                have nn : inS (.str z) ["nought", "trap"] = false := decide_eq_false fun y => ck (by
                  simp only [List.mem_cons, List.not_mem_nil, or_false] at y
                  rcases y with rfl | rfl <;> decide)
                rw [nb, nr, nn] at q2
                exact q2
        · rw [decide_eq_false c2, decide_eq_false c3]
          rw [faultB_len c2 c3] at q1
          exact iteT q1
def spCode (K : PySem.W.Frag) : Sp := fun vs H Q _ => ∃ (a : Addr) (f : Fl), vs = [.ref a] ∧ SqT K H a f.vs ∧ f.ok ∧ ∀ H' t, Same H H' → SqT K H' t [.int (codeF f), .int f.n] → Q (.ref t) H'
theorem ok_Code {k : Nat} {f : Addr} {fd : FuncData}  (F : Fun K "_law_code" "_law_code" sCode f fd)    : FnOk P w K mg base CX0 (k + 1) f fd ["fault"] (spCode K) := by
  refine F.ok scCode (fun vs H Q E h => ?_) (fun cdv A outer s H vs Q E hr h => ?_)
  · obtain ⟨a, f, rfl, _⟩ := h
    rfl
  · obtain ⟨a, f, rfl, hs, ok, q⟩ := h
    refine ⟨_, (pss_cons (ps_if (pt_cmpR op_eq (pe_ix ix_tup (pv 0) pe_int (fun _ _ => rfl)) pe_str (nomark _)) (pss_one (ps_ret (pe_tup (pa_cons (pe_op op_add pe_int (pe_bm PySem.F.plainAttrs_str PySem.F.slot_str_index PySem.F.type_str_index mt_sindex pe_str (pa_cons (pe_ix ix_tup (pv 0) pe_int (fun _ _ => rfl)) pa_nil))) (pa_cons (pe_ix ix_tup (pv 0) pe_int (fun _ _ => rfl)) pa_nil))))) pss_nil) (pss_one (ps_ret (pe_tup (pa_cons (pe_dget (hu_of hr) (pe_disp (pps_cons pe_str pe_int (pps_cons pe_str pe_int (pps_cons pe_str pe_int (pps_cons pe_str pe_int pps_nil)))) (by rfl) (by rfl) (fun z => by cases z) (by decide)) (pe_ix ix_tup (pv 0) pe_int (fun _ _ => rfl)) (fun _ _ => rfl)) (pa_cons (pe_ix ix_tup (pv 0) pe_int (fun _ _ => rfl)) pa_nil)))))), ?_⟩
    cases f with
    | page l n =>
      refine ⟨.ref a, rfl, a, _, 0, .str "page", rfl, rfl, hs, at0, rfl, _, rfl, iteD rfl ?_⟩
      obtain ⟨j, oc, cj⟩ : ∃ j : Nat, (∃ rest, Builtin.Str.occurrences (Str.ofString "rwx") l 0 (Str.ofString "rwx").length 1 = j :: rest) ∧ 1 + (j : Int) = codeF (.page l n) := by
        have hl := ok.1
        simp only [lets3, List.mem_cons, List.not_mem_nil, or_false] at hl
        rcases hl with rfl | rfl | rfl
        · exact ⟨0, ⟨[], by decide +kernel⟩, rfl⟩
        · exact ⟨1, ⟨[], by decide +kernel⟩, rfl⟩
        · exact ⟨2, ⟨[], by decide +kernel⟩, rfl⟩
      obtain ⟨rest, oc⟩ := oc
      refine ⟨rfl, .ref a, rfl, a, _, 1, .str l, rfl, rfl, hs, at1, "rwx", l, j, rest, rfl, rfl, oc, 1, j, rfl, rfl, .ref a, rfl, a, _, 2, .int n, rfl, rfl, hs, at2, by show 2 ≤ sizeLine; decide, fun t nt => q _ t (same_upd nt) ?_⟩
      rw [← cj]
      exact SqT.of upd_same
    | two k n =>
      have nk : ¬ V.str k = V.str "page" := fun z => by
        have hk := ok.1
        rw [V.str.inj z] at hk
        revert hk
        decide
      refine ⟨.ref a, rfl, a, _, 0, .str k, rfl, rfl, hs, at0, rfl, _, rfl, iteE nk ?_⟩
      have st : ∀ d : Addr, H d = none → Same H (upd (upd H d (.dK [])) d (.dK (mergeK [] codesK))) := fun d nd => Same.updNew (o := .dK (mergeK [] codesK)) (same_upd (o := .dK []) nd) nd
      refine fun d nd => ⟨upd_same, codesK, rfl, by decide, .ref a, rfl, a, _, 0, .str k, rfl, rfl, Same.seqT (st d nd) hs, at0, d, .int (codeF (.two k n)), rfl, ?_, .ref a, rfl, a, _, 1, .int n, rfl, rfl, Same.seqT (st d nd) hs, at1, by show 2 ≤ sizeLine; decide, fun t nt => q _ t ((st d nd).trans (same_upd nt)) (SqT.of upd_same)⟩
      refine dget_of (k := Sum.inr k) upd_same ?_
      have hk := ok.1
      simp only [kindsF, List.mem_cons, List.not_mem_nil, or_false] at hk
      rcases hk with rfl | rfl | rfl | rfl
      · exact show valV (mergeK [] codesK) (Sum.inr "beyond") = some (.int 4) by decide +kernel
      · exact show valV (mergeK [] codesK) (Sum.inr "row") = some (.int 5) by decide +kernel
      · exact show valV (mergeK [] codesK) (Sum.inr "nought") = some (.int 6) by decide +kernel
      · exact show valV (mergeK [] codesK) (Sum.inr "trap") = some (.int 7) by decide +kernel
def spPlaceDue (K : PySem.W.Frag) : Sp := fun vs H Q _ => ∃ (a : Addr) (f : Fl) (v : V) (d : PyData), vs = [.ref a, v] ∧ SqT K H a f.vs ∧ f.ok ∧ Dk K H v d ∧ ∀ H', Same H H' → Q (.bl (placeF f d)) H'
theorem ok_PlaceDue {k : Nat} {f : Addr} {fd : FuncData}  (F : Fun K "_law_is_place_due" "_law_is_place_due" sPlaceDue f fd) (gIi : Cal P w K mg base CX0 (k + 1) "_law_is_int" ["value", "low", "high"] (spWithin K))   : FnOk P w K mg base CX0 (k + 2) f fd ["fault", "place"] (spPlaceDue K) := by
  obtain ⟨fIi, fdIi, GIi, kIi, bIi, mIi⟩ := gIi
  refine F.ok scPlaceDue (fun vs H Q E h => ?_) (fun cdv A outer s H vs Q E hr h => ?_)
  · obtain ⟨a, f, v, d, rfl, _⟩ := h
    rfl
  · obtain ⟨a, f, v, d, rfl, hs, ok, hd, q⟩ := h
    refine ⟨_, (pss_cons (ps_if (pt_not (pt_val (pe_call GIi hr (by rfl) mIi kIi bIi .nil pass0 (pa_cons (pv 1) (pa_cons pe_int (pa_cons pe_int pa_nil)))))) (pss_one (ps_ret pe_bl)) pss_nil) (pss_cons (ps_if (pt_cmpR op_eq (pe_ix ix_tup (pv 0) pe_int (fun _ _ => rfl)) pe_str (nomark _)) (pss_one (ps_ret (pe_cmpR op_eq (pv 1) (pe_ix ix_tup (pv 0) pe_int (fun _ _ => rfl)) (nomark _)))) pss_nil) (pss_one (ps_ret (pe_ifExp (pt_cmpR (op_eqD hr.units) (pe_slice sl_tupA (pv 0) po_none (po_some pe_int)) (pe_tup (pa_cons pe_str (pa_cons pe_str pa_nil))) (nomark _)) (pe_cmpR op_eq (pv 1) (pe_ix ix_tup (pv 0) pe_int (fun _ _ => rfl)) (nomark _)) pe_bl))))), ?_⟩
    have q0 := q H (Same.refl H)
    refine ⟨v, rfl, v, d, 0, 255, rfl, hd, _, rfl, ?_⟩
    cases ew : isW d 0 255 with
    | false =>
      rw [placeF_w ew] at q0
      exact iteT q0
    | true =>
      obtain ⟨p, rfl, p0, p1⟩ := isW_int ew
      obtain rfl := dk_int hd
      rw [placeF_int p0 p1] at q q0
      refine iteF ?_
      cases f with
      | page l n =>
        refine ⟨.ref a, rfl, a, _, 0, .str "page", rfl, rfl, hs, at0, rfl, _, rfl, iteE (by decide) ?_⟩
        refine ⟨.ref a, rfl, 2, rfl, slice_to (j := 2) hs fun c H1 hc s1 => ?_⟩
        refine ⟨by show 2 ≤ sizeLine; decide, fun t nt => ?_⟩
        have s2 := same_upd (o := .tup [V.str "page", .str "x"]) nt
        have s3 := s1.trans s2
        have q3 := q _ s3
        have shl : SeqAt.shaped (.tuple [.str "page", .str l]) = true := by
          have hl := ok.1
          simp only [lets3, List.mem_cons, List.not_mem_nil, or_false] at hl
          rcases hl with rfl | rfl | rfl <;> decide +kernel
        refine ⟨.tuple [.str "page", .str l], .tuple [.str "page", .str "x"], .tup (Same.seqT s2 hc) (.cons (.str _) (.cons (.str _) .nil)), .tup (SqT.of upd_same) (.cons (.str _) (.cons (.str _) .nil)), shl, by decide +kernel, _, rfl, ?_⟩
        rw [eqv_two]
        rw [comes_page] at q3
        by_cases c : l = "x"
        · rw [if_pos c] at q3
          refine iteB (by rw [c]; decide) ⟨.int p, rfl, .ref a, rfl, a, _, 2, .int n, rfl, rfl, Same.seqT s3 hs, at2, rfl, ?_⟩
          rw [decide_sym] at q3
          exact q3
        · rw [if_neg c] at q3
          exact iteC (by simp [c]) q3
      | two k n =>
        refine ⟨.ref a, rfl, a, _, 0, .str k, rfl, rfl, hs, at0, rfl, _, rfl, ?_⟩
        by_cases c : k = "nought"
        · rw [comes_two, if_pos c, decide_sym] at q0
          exact iteD (congrArg V.str c) ⟨.int p, rfl, .ref a, rfl, a, _, 1, .int n, rfl, rfl, hs, at1, rfl, q0⟩
        · refine iteE (fun z => c (V.str.inj z)) ?_
          refine ⟨.ref a, rfl, 2, rfl, slice_to (j := 2) hs fun c' H1 hc s1 => ?_⟩
          refine ⟨by show 2 ≤ sizeLine; decide, fun t nt => ?_⟩
          have s2 := same_upd (o := .tup [V.str "page", .str "x"]) nt
          have q3 := q _ (s1.trans s2)
          have shl : SeqAt.shaped (.tuple [.str k, .int n]) = true := by
            have hl := ok.1
            simp only [kindsF, List.mem_cons, List.not_mem_nil, or_false] at hl
            rcases hl with rfl | rfl | rfl | rfl
            · exact shaped_mix (shaped_lit "beyond")
            · exact shaped_mix (shaped_lit "row")
            · exact shaped_mix (shaped_lit "nought")
            · exact shaped_mix (shaped_lit "trap")
          refine ⟨.tuple [.str k, .int n], .tuple [.str "page", .str "x"], .tup (Same.seqT s2 hc) (.cons (.str _) (.cons (.int _) .nil)), .tup (SqT.of upd_same) (.cons (.str _) (.cons (.str _) .nil)), shl, by decide +kernel, _, rfl, ?_⟩
          rw [eqv_mix]
          rw [comes_two, if_neg c] at q3
          exact iteF q3
def spAreWords (K : PySem.W.Frag) : Sp := fun vs H Q _ => ∃ (v : V) (d : PyData), vs = [v] ∧ Dk K H v d ∧ ∀ H', Same H H' → Q (.bl (wT d)) H'
theorem ok_AreWords {k : Nat} {f : Addr} {fd : FuncData}  (F : Fun K "_law_are_words" "_law_are_words" sAreWords f fd) (gIi : Cal P w K mg base CX0 (k + 1) "_law_is_int" ["value", "low", "high"] (spWithin K))  (fall : mg "all" = none) (fisinstance : mg "isinstance" = none) (flen : mg "len" = none) (ftuple : mg "tuple" = none) : FnOk P w K mg base CX0 (k + 2) f fd ["value"] (spAreWords K) := by
  obtain ⟨fIi, fdIi, GIi, kIi, bIi, mIi⟩ := gIi
  refine F.ok scAreWords (fun vs H Q E h => ?_) (fun cdv A outer s H vs Q E hr h => ?_)
  · obtain ⟨v, d, rfl, _⟩ := h
    rfl
  · obtain ⟨v, d, rfl, hd, q⟩ := h
    refine ⟨_, (pss_one (ps_ret (pe_and (pe_callB call_isi (by rfl) fisinstance (by decide +kernel) (pa_cons (pv 0) (pa_cons (pe_bltn (v := .ty "tuple") (by rfl) ftuple (by decide +kernel) rfl) pa_nil))) (pe_and (pe_cmpR op_eq (pe_callB call_len_seq (by rfl) flen PySem.boot_len (pa_cons (pv 0) pa_nil)) pe_int (nomark _)) (pe_one (pe_callB (cr_all rfl) (by rfl) fall (by decide +kernel) (pa_cons (pe_lc (own := [("one", 1)]) (g := (gName 1)) (tt := tYes) rfl scAreWords.nd (pi_tup (pv 0)) (blkOk_by (N := ["value", "one"]) (sc := defScope sAreWords) (by decide +kernel)) (fun _ _ _ _ _ => (pg_name (i := 1) scAreWords.nd rfl (.inl rfl))) (fun _ _ _ _ _ => pts_nil) (fun _ _ _ _ _ => (pe_call GIi hr (by rfl) mIi kIi bIi .nil pass0 (pa_cons (pv 1) (pa_cons pe_int (pa_cons pe_int pa_nil)))))) pa_nil))))))), ?_⟩
    have q0 := q H (Same.refl H)
    refine ⟨v, rfl, v, .ty "tuple", _, .type "tuple", _, rfl, .ty "tuple", hd.tyx, kit_tup d, _, rfl, ?_⟩
    cases e : isTu d with
    | false =>
      rw [(notTup e).2.2.2] at q0
      exact iteF q0
    | true =>
      obtain ⟨ds, rfl⟩ := isTu_tup e
      obtain ⟨a, xs, rfl, hs, ha⟩ := dk_tup hd
      have hxl := dpAll_len ha
      refine iteT ⟨.ref a, rfl, a, xs, rfl, .inr hs, rfl, _, rfl, ?_⟩
      rw [hxl]
      have eb : wT (.tuple ds) = (decide (ds.length = 4) && (ds.map fun d => isW d 0 65535).all id) := rfl
      by_cases hl : ds.length = 4
      · refine iteD (by rw [hl]; rfl) ⟨.ref a, rfl, a, rfl, ⟨_, hs⟩, fun D nD => ?_⟩
        refine lc_tup (xs := xs) (fun i H' => Same H H' ∧ H' D = some (.lst (((ds.take i).map fun d => isW d 0 65535).map V.bl))) ⟨same_upd nD, upd_same⟩ (fun i H' _ hP => Same.seqT hP.1 hs) (fun i x H' hx hP => ?_) fun H2 hP => ?_
        · obtain ⟨sm, hD⟩ := hP
          have hi := (List.getElem?_eq_some_iff.mp hx).1
          have hi2 : i < ds.length := by omega
          have hdx := dpAll_get ha hx
          have et : ds.take (i + 1) = ds.take i ++ [ds.getD i .none] := by
            rw [List.take_add_one, List.getD_eq_getElem?_getD, List.getElem?_eq_getElem hi2]; rfl
          refine ⟨rfl, yesT ⟨x, rfl, x, ds.getD i .none, 0, 65535, rfl, .dp (dp_same sm _ _ hdx), _, hD, small1000 (by rw [List.length_map, List.length_map, List.length_take]; omega), Same.updNew sm nD, ?_⟩⟩
          rw [upd_same, et, List.map_append, List.map_append]
          rfl
        · obtain ⟨sm, hD⟩ := hP
          rw [hxl, List.take_length] at hD
          refine ⟨D, _, rfl, SqL.of hD, ?_⟩
          have q2 := q H2 sm
          rw [eb, decide_eq_true hl, Bool.true_and] at q2
          exact q2
      · rw [eb, decide_eq_false hl, Bool.false_and] at q0
        exact iteE (fun z => hl (by have := V.int.inj z; omega)) q0
def spTold (K : PySem.W.Frag) : Sp := fun vs H Q _ => ∃ (v : V) (d : PyData), vs = [v] ∧ Dk K H v d ∧ ∀ H', Same H H' → Q (.bl (wordsB d)) H'
theorem ok_ToldWords {k : Nat} {f : Addr} {fd : FuncData}  (F : Fun K "_law_told_words" "_law_told_words" sToldWords f fd) (gFd : Cal P w K mg base CX0 (k + 2) "_law_fault_due" ["value"] (spDue K)) (gPd : Cal P w K mg base CX0 (k + 2) "_law_is_place_due" ["fault", "place"] (spPlaceDue K)) (gAw : Cal P w K mg base CX0 (k + 2) "_law_are_words" ["value"] (spAreWords K))   : FnOk P w K mg base CX0 (k + 3) f fd ["value"] (spTold K) := by
  obtain ⟨fFd, fdFd, GFd, kFd, bFd, mFd⟩ := gFd
  obtain ⟨fPd, fdPd, GPd, kPd, bPd, mPd⟩ := gPd
  obtain ⟨fAw, fdAw, GAw, kAw, bAw, mAw⟩ := gAw
  refine F.ok scToldWords (fun vs H Q E h => ?_) (fun cdv A outer s H vs Q E hr h => ?_)
  · obtain ⟨v, d, rfl, _⟩ := h
    rfl
  · obtain ⟨v, d, rfl, hd, q⟩ := h
    refine ⟨_, (pss_cons (ps_if (PW.pt (pw_or (pt_not (pt_val (pe_call GAw hr (by rfl) mAw kAw bAw .nil pass0 (pa_cons (pv 0) pa_nil)))) (pw_or (pt_not (pt_chain op_le op_le pe_int (pe_ix ix_tup (pv 0) pe_int (fun _ _ => rfl)) pe_int)) (pw_or1 (pt_cmpR op_ne (pe_ix ix_tup (pv 0) pe_int (fun _ _ => rfl)) pe_int (nomark _)))))) (pss_one (ps_ret pe_bl)) pss_nil) (pss_cons (ps_set (i := 1) scToldWords.nd rfl (.inl rfl) (pe_ix ix_list (pe_lst (pa_cons pe_str (pa_cons pe_str (pa_cons pe_str (pa_cons pe_str (pa_cons pe_str (pa_cons pe_str (pa_cons pe_str pa_nil)))))))) (pe_op op_sub (pe_ix ix_tup (pv 0) pe_int (fun _ _ => rfl)) pe_int) (fun _ _ => rfl))) (pss_cons (ps_set (i := 2) scToldWords.nd rfl (.inl rfl) (pe_ifExp (pt_cmpR op_eq (pv 1) pe_str (nomark _)) (pe_tup (pa_cons pe_str (pa_cons (pe_ix ix_str pe_str (pe_op op_sub (pe_ix ix_tup (pv 0) pe_int (fun _ _ => rfl)) pe_int) (fun _ _ => rfl)) (pa_cons (pe_ix ix_tup (pv 0) pe_int (fun _ _ => rfl)) pa_nil)))) (pe_tup (pa_cons (pv 1) (pa_cons (pe_ix ix_tup (pv 0) pe_int (fun _ _ => rfl)) pa_nil))))) (pss_one (ps_ret (pe_and (pe_call GFd hr (by rfl) mFd kFd bFd .nil pass0 (pa_cons (pv 2) pa_nil)) (pe_one (pe_call GPd hr (by rfl) mPd kPd bPd .nil pass0 (pa_cons (pv 2) (pa_cons (pe_ix ix_tup (pv 0) pe_int (fun _ _ => rfl)) pa_nil)))))))))), ?_⟩
    refine ⟨v, rfl, v, d, rfl, hd, fun H1 s1 => ⟨_, rfl, ?_⟩⟩
    have q1 := q H1 s1
    cases ew : wT d with
    | false =>
      have : wordsB d = false := by unfold wordsB; rw [ew, Bool.false_and]
      rw [this] at q1
      exact iteT q1
    | true =>
      refine iteF ?_
      obtain ⟨c, n, p, r, rfl, hc, hn, hp, hr_⟩ := wT_ints ew
      obtain ⟨b, xs, rfl, hs, ha⟩ := dk_tup hd
      obtain rfl := dpAll_ints4 ha
      have hs1 := Same.seqT s1 hs
      have wb : wordsB (.tuple [.int c, .int n, .int p, .int r]) = (match withF c n with
        | none => false
        | some f => faultB (.tuple f.ds) && (placeF f (.int p) && decide (r = 0))) := by
        unfold wordsB
        exact (congrArg (fun z => z && _) ew).trans (Bool.true_and _)
      refine ⟨.ref b, rfl, b, _, 0, .int c, rfl, rfl, hs1, at0, 1, c, rfl, rfl, _, rfl, ?_⟩
      have none_ : withF c n = none → Q (.bl false) H1 := fun h => by
        rw [h] at wb
        rw [wb] at q1
        exact q1
      by_cases c1 : 1 ≤ c
      · refine iteD c1 ⟨c, 7, rfl, rfl, _, rfl, ?_⟩
        by_cases c7 : c ≤ 7
        · rw [decide_eq_true c7]
          refine iteF ⟨.ref b, rfl, b, _, 3, .int r, rfl, rfl, hs1, at3, rfl, _, rfl, ?_⟩
          by_cases cr : r = 0
          · refine iteC (by rw [cr]; rfl) ⟨by show 7 ≤ sizeLine; decide, fun l nl => ?_⟩
            have s2 := s1.trans (same_upd (o := .lst (names7.map V.str)) nl)
            have hs2 := Same.seqT s2 hs
            have hl2 : SqL K (upd H1 l (.lst (names7.map V.str))) l (names7.map V.str) := SqL.of upd_same
            rw [decide_eq_true cr] at wb
            have q := fun H' s => q H' (s2.trans s)
            change ∀ H', Same (upd H1 l (.lst (names7.map V.str))) H' → _ at q
            clear q1 none_ s2 hs1 s1
            have fin : ∀ f : Fl, withF c n = some f → ∀ H3, Same (upd H1 l (.lst (names7.map V.str))) H3 → (faultB (.tuple f.ds) = false → Q (.bl false) H3) ∧ (faultB (.tuple f.ds) = true → Q (.bl (placeF f (.int p))) H3) := fun f ef H3 s3 => by
              have q3 := q H3 s3
              rw [ef] at wb
              have wb : wordsB (.tuple [.int c, .int n, .int p, .int r]) = (faultB (.tuple f.ds) && (placeF f (.int p) && true)) := wb
              rw [wb] at q3
              constructor
              · intro e
                rw [e] at q3
                exact q3
              · intro e
                rw [e, Bool.true_and, Bool.and_true] at q3
                exact q3
            by_cases c3 : c ≤ 3
            · obtain ⟨ch, e1, e2, e3⟩ : ∃ ch : Nat, atI (names7.map V.str) (c - 1) = some (.str "page") ∧ atI (Str.ofString "rwx").cps.toList (c - 1) = some ch ∧ withF c n = some (.page ⟨#[ch]⟩ n) := by
                rcases (show c = 1 ∨ c = 2 ∨ c = 3 by omega) with rfl | rfl | rfl
                · exact ⟨114, rfl, by decide, rfl⟩
                · exact ⟨119, rfl, by decide, rfl⟩
                · exact ⟨120, rfl, by decide, rfl⟩
              refine ⟨.ref b, rfl, b, _, 0, .int c, rfl, rfl, hs2, at0, c, 1, rfl, rfl, l, _, c - 1, .str "page", rfl, rfl, hl2, e1, ?_⟩
              refine ⟨.str "page", rfl, rfl, _, rfl, iteD rfl ?_⟩
              refine ⟨.ref b, rfl, b, _, 0, .int c, rfl, rfl, hs2, at0, c, 1, rfl, rfl, "rwx", c - 1, ch, rfl, rfl, by decide, e2, ?_⟩
              refine ⟨.ref b, rfl, b, _, 1, .int n, rfl, rfl, hs2, at1, by show 3 ≤ sizeLine; decide, fun t nt => ?_⟩
              have s4 := same_upd (o := .tup [V.str "page", .str ⟨#[ch]⟩, .int n]) nt
              have ht : SqT K (upd (upd H1 l (.lst (names7.map V.str))) t (.tup [V.str "page", .str ⟨#[ch]⟩, .int n])) t (Fl.page ⟨#[ch]⟩ n).vs := SqT.of upd_same
              refine ⟨.ref t, rfl, .ref t, .tuple (Fl.page ⟨#[ch]⟩ n).ds, rfl, .dp (.tup ht fl_data), fun H3 s3 => ⟨_, rfl, ?_⟩⟩
              obtain ⟨f0, f1⟩ := fin _ e3 H3 (s4.trans s3)
              cases ef : faultB (.tuple (Fl.page ⟨#[ch]⟩ n).ds) with
              | false => exact iteF (f0 ef)
              | true => exact iteT ⟨.ref t, rfl, .ref b, rfl, b, _, 2, .int p, rfl, rfl, Same.seqT (s4.trans s3) hs2, at2, t, _, .int p, .int p, rfl, Same.seqT s3 ht, faultB_fl ef, .dp (.int p), fun H4 s5 => (fin _ e3 H4 ((s4.trans s3).trans s5)).2 ef⟩
            · obtain ⟨k, e1, e2, e3⟩ : ∃ k : Str, atI (names7.map V.str) (c - 1) = some (.str k) ∧ k ≠ "page" ∧ withF c n = some (.two k n) := by
                rcases (show c = 4 ∨ c = 5 ∨ c = 6 ∨ c = 7 by omega) with rfl | rfl | rfl | rfl
                · exact ⟨"beyond", rfl, by decide, rfl⟩
                · exact ⟨"row", rfl, by decide, rfl⟩
                · exact ⟨"nought", rfl, by decide, rfl⟩
                · exact ⟨"trap", rfl, by decide, rfl⟩
              refine ⟨.ref b, rfl, b, _, 0, .int c, rfl, rfl, hs2, at0, c, 1, rfl, rfl, l, _, c - 1, .str k, rfl, rfl, hl2, e1, ?_⟩
              refine ⟨.str k, rfl, rfl, _, rfl, iteE (fun z => e2 (V.str.inj z)) ?_⟩
              refine ⟨.str k, rfl, .ref b, rfl, b, _, 1, .int n, rfl, rfl, hs2, at1, by show 2 ≤ sizeLine; decide, fun t nt => ?_⟩
              have s4 := same_upd (o := .tup [V.str k, .int n]) nt
              have ht : SqT K (upd (upd H1 l (.lst (names7.map V.str))) t (.tup [V.str k, .int n])) t (Fl.two k n).vs := SqT.of upd_same
              refine ⟨.ref t, rfl, .ref t, .tuple (Fl.two k n).ds, rfl, .dp (.tup ht fl_data), fun H3 s3 => ⟨_, rfl, ?_⟩⟩
              obtain ⟨f0, f1⟩ := fin _ e3 H3 (s4.trans s3)
              cases ef : faultB (.tuple (Fl.two k n).ds) with
              | false => exact iteF (f0 ef)
              | true => exact iteT ⟨.ref t, rfl, .ref b, rfl, b, _, 2, .int p, rfl, rfl, Same.seqT (s4.trans s3) hs2, at2, t, _, .int p, .int p, rfl, Same.seqT s3 ht, faultB_fl ef, .dp (.int p), fun H4 s5 => (fin _ e3 H4 ((s4.trans s3).trans s5)).2 ef⟩
          · refine iteNE (fun z => cr (V.int.inj z)) ?_
            rw [decide_eq_false cr] at wb
            have : wordsB (.tuple [.int c, .int n, .int p, .int r]) = false := by
              rw [wb]
              cases withF c n with
              | none => rfl
              | some f => show (_ && (_ && false)) = false; rw [Bool.and_false, Bool.and_false]
            rw [this] at q1
            exact q1
        · rw [decide_eq_false c7]
          exact iteT (none_ (withF_none (.inr (by omega))))
      · exact iteE c1 ⟨_, rfl, iteT (none_ (withF_none (.inl (by omega))))⟩
end
end K26

set_option maxRecDepth 100000
set_option maxHeartbeats 8000000
/-! k26: faults and places drawn. -/
namespace K26
open PySem PySem.Spec PyProof.Rows L2 LamX VG TL
theorem scDrawnFault : FnScope ["pot", "some"] ["pot"] (defScope sDrawnFault) := ⟨rfl, rfl, rfl, by decide +kernel, rfl, by decide +kernel, by decide +kernel⟩
theorem scDrawnPlace : FnScope ["pot", "fault"] ["pot", "fault"] (defScope sDrawnPlace) := ⟨rfl, rfl, rfl, by decide +kernel, rfl, by decide +kernel, by decide +kernel⟩
/-- a fault stands there -/
def FltAt (K : PySem.W.Frag) (H : Hp) (x : V) : Prop := ∃ (t : Addr) (f : Fl), x = .ref t ∧ SqT K H t f.vs ∧ f.ok ∧ faultB (.tuple f.ds) = true
theorem FltAt.same {K : PySem.W.Frag} {H H' : Hp} {x : V} (h : FltAt K H x) (s : Same H H') : FltAt K H' x := by
  obtain ⟨t, f, e, h, r⟩ := h
  exact ⟨t, f, e, Same.seqT s h, r⟩
theorem wo_updC {H : Hp} {p c : Addr} {o : HO} (h : c ≠ p) : wo (upd H c o) p = upd (wo H p) c o := funext fun b => by
  by_cases e : b = p
  · subst e
    rw [wo_same, upd_ne h.symm, wo_same]
  · rw [wo_ne e]
    by_cases e2 : b = c
    · subst e2
      rw [upd_same, upd_same]
    · rw [upd_ne e2, upd_ne e2, wo_ne e]
theorem FltAt.upd {K : PySem.W.Frag} {H : Hp} {p c : Addr} {o : HO} {ys : List V} {x : V} (h : FltAt K (wo H p) x) (hc : H c = some (.lst ys)) (e : c ≠ p) : FltAt K (wo (upd H c o) p) x := by
  obtain ⟨t, f, ex, h, r⟩ := h
  rw [wo_updC e]
  exact ⟨t, f, ex, sqT_upd h (wo_at hc e), r⟩
theorem fb_page {l : Str} {i : Int} (h : l ∈ lets3) (h0 : 0 ≤ i) (h1 : i ≤ 255) : faultB (.tuple (Fl.page l i).ds) = true := by
  show (isS (.str "page") "page" && (decide (l ∈ lets3) && isW (.int i) 0 255)) = true
  rw [decide_eq_true h, isW_of h0 h1]
  rfl
theorem fb_beyond {i : Int} (h0 : 256 ≤ i) (h1 : i ≤ 65535) : faultB (.tuple (Fl.two "beyond" i).ds) = true := isW_of h0 h1
theorem fb_row {i : Int} (h0 : 0 ≤ i) (h1 : i ≤ 65535) (h2 : (pRow i).isNone = true) : faultB (.tuple (Fl.two "row" i).ds) = true := by
  show (isW (.int i) 0 65535 && (pRow i).isNone) = true
  rw [h2, isW_of h0 h1]
  rfl
theorem fb_nought {i : Int} (h0 : 0 ≤ i) (h1 : i ≤ 255) : faultB (.tuple (Fl.two "nought" i).ds) = true := isW_of h0 h1
theorem fb_trap {i : Int} (h0 : 0 ≤ i) (h1 : i ≤ 255) : faultB (.tuple (Fl.two "trap" i).ds) = true := isW_of h0 h1
section
variable {P : Program} {w : World} {K : PySem.W.Frag} {mg : Str → Option Value} {base : Heap}
def spDrawnF (K : PySem.W.Frag) : Sp := fun vs H Q _ => ∃ (p : Addr) (n : Nat), vs = [.ref p] ∧ Pot H p n ∧ n + 20 < 1000000 ∧ ∀ t f H', Pot H' p (n + 20) → Same (wo H p) (wo H' p) → SqT K (wo H' p) t (Fl.vs f) → f.ok → faultB (.tuple f.ds) = true → Q (.ref t) H'
theorem ok_DrawnFault {k : Nat} {f : Addr} {fd : FuncData}  (F : Fun K "_law_drawn_fault" "_law_drawn_fault" sDrawnFault f fd) (gTa : Cal P w K mg base CX0 (k + 3) "_law_take" ["pot", "upto"] spTake) (gOf : Cal P w K mg base CX0 (k + 3) "_law_of" ["pot", "some"] (spOf K))   : FnOk P w K mg base CX0 (k + 4) f fd ["pot"] (spDrawnF K) := by
  obtain ⟨fTa, fdTa, GTa, kTa, bTa, mTa⟩ := gTa
  obtain ⟨fOf, fdOf, GOf, kOf, bOf, mOf⟩ := gOf
  refine F.ok scDrawnFault (fun vs H Q E h => ?_) (fun cdv A outer s H vs Q E hr h => ?_)
  · obtain ⟨p, n, rfl, _⟩ := h
    rfl
  · obtain ⟨p, n, rfl, hp, hn, q⟩ := h
    refine ⟨_, (pss_cons (ps_set (i := 1) scDrawnFault.nd rfl (.inl rfl) (pe_lst (pa_cons (pe_tup (pa_cons pe_str (pa_cons (pe_call GOf hr (by rfl) mOf kOf bOf .nil pass0 (pa_cons (pv 0) (pa_cons (pe_lst (pa_cons pe_str (pa_cons pe_str (pa_cons pe_str pa_nil)))) pa_nil))) (pa_cons (pe_call GOf hr (by rfl) mOf kOf bOf .nil pass0 (pa_cons (pv 0) (pa_cons (pe_lst (pa_cons pe_int (pa_cons pe_int (pa_cons (pe_call GTa hr (by rfl) mTa kTa bTa .nil pass0 (pa_cons (pv 0) (pa_cons pe_int pa_nil))) pa_nil)))) pa_nil))) pa_nil)))) pa_nil))) (pss_cons (ps_expr (pe_bm PySem.F.plainAttrs_list PySem.F.slot_list_append PySem.F.type_list_append mt_append (pv 1) (pa_cons (pe_tup (pa_cons pe_str (pa_cons (pe_call GOf hr (by rfl) mOf kOf bOf .nil pass0 (pa_cons (pv 0) (pa_cons (pe_lst (pa_cons pe_int (pa_cons pe_int (pa_cons (pe_op op_add pe_int (pe_call GTa hr (by rfl) mTa kTa bTa .nil pass0 (pa_cons (pv 0) (pa_cons pe_int pa_nil)))) pa_nil)))) pa_nil))) pa_nil))) pa_nil))) (pss_cons (ps_expr (pe_bm PySem.F.plainAttrs_list PySem.F.slot_list_append PySem.F.type_list_append mt_append (pv 1) (pa_cons (pe_tup (pa_cons pe_str (pa_cons (pe_call GOf hr (by rfl) mOf kOf bOf .nil pass0 (pa_cons (pv 0) (pa_cons (pe_lst (pa_cons pe_int (pa_cons pe_int (pa_cons pe_int (pa_cons pe_int (pa_cons pe_int (pa_cons pe_int (pa_cons (pe_op op_add pe_int pe_int) (pa_cons pe_int pa_nil))))))))) pa_nil))) pa_nil))) pa_nil))) (pss_cons (ps_expr (pe_bm PySem.F.plainAttrs_list PySem.F.slot_list_append PySem.F.type_list_append mt_append (pv 1) (pa_cons (pe_tup (pa_cons pe_str (pa_cons (pe_call GOf hr (by rfl) mOf kOf bOf .nil pass0 (pa_cons (pv 0) (pa_cons (pe_lst (pa_cons pe_int (pa_cons pe_int (pa_cons (pe_call GTa hr (by rfl) mTa kTa bTa .nil pass0 (pa_cons (pv 0) (pa_cons pe_int pa_nil))) pa_nil)))) pa_nil))) pa_nil))) pa_nil))) (pss_cons (ps_expr (pe_bm PySem.F.plainAttrs_list PySem.F.slot_list_append PySem.F.type_list_append mt_append (pv 1) (pa_cons (pe_tup (pa_cons pe_str (pa_cons (pe_call GOf hr (by rfl) mOf kOf bOf .nil pass0 (pa_cons (pv 0) (pa_cons (pe_lst (pa_cons pe_int (pa_cons pe_int (pa_cons (pe_call GTa hr (by rfl) mTa kTa bTa .nil pass0 (pa_cons (pv 0) (pa_cons pe_int pa_nil))) pa_nil)))) pa_nil))) pa_nil))) pa_nil))) (pss_one (ps_ret (pe_call GOf hr (by rfl) mOf kOf bOf .nil pass0 (pa_cons (pv 0) (pa_cons (pv 1) pa_nil)))))))))), ?_⟩
    have sw : Same (wo H p) (wo H p) := Same.refl _
    refine ⟨.ref p, rfl, ?_⟩
    refine ⟨by show 3 ≤ sizeLine; decide, fun L1 nL1 => ?_⟩
    have sL1 := same_upd (o := (.lst [V.str "r", .str "w", .str "x"])) nL1
    have eL1 : L1 ≠ p := hp.ne nL1
    have hL1 : upd H L1 (.lst [V.str "r", .str "w", .str "x"]) L1 = some (.lst [V.str "r", .str "w", .str "x"]) := upd_same
    have hp := hp.same sL1
    have sw := sw.trans (wo_same_of sL1)
    generalize upd H L1 (.lst [V.str "r", .str "w", .str "x"]) = Hz1 at hL1 hp sw ⊢
    clear sL1 nL1
    refine ⟨p, L1, _, _, rfl, SqL.of (wo_at hL1 eL1), by simp, by show 3 ≤ 1000; decide, hp, by omega, fun xl mxl Hd1 hp1 s1 => ?_⟩
    have sw := sw.trans s1
    have hp := hp1
    obtain ⟨l1, rfl, hl1⟩ : ∃ l : Str, xl = .str l ∧ l ∈ lets3 := by
      simp only [List.mem_cons, List.not_mem_nil, or_false] at mxl
      rcases mxl with rfl | rfl | rfl
      · exact ⟨_, rfl, by decide⟩
      · exact ⟨_, rfl, by decide⟩
      · exact ⟨_, rfl, by decide⟩
    refine ⟨.ref p, rfl, ?_⟩
    refine ⟨.ref p, rfl, p, 256, _, rfl, by decide, by decide, hp, by omega, fun d1 Hd2 d1a d1b hp2 s2 => ?_⟩
    have sw := sw.trans s2
    have hp := hp2
    refine ⟨by show 3 ≤ sizeLine; decide, fun L3 nL3 => ?_⟩
    have sL3 := same_upd (o := (.lst [V.int 0, .int 255, .int d1])) nL3
    have eL3 : L3 ≠ p := hp.ne nL3
    have hL3 : upd Hd2 L3 (.lst [V.int 0, .int 255, .int d1]) L3 = some (.lst [V.int 0, .int 255, .int d1]) := upd_same
    have hp := hp.same sL3
    have sw := sw.trans (wo_same_of sL3)
    generalize upd Hd2 L3 (.lst [V.int 0, .int 255, .int d1]) = Hz2 at hL3 hp sw ⊢
    clear sL3 nL3
    refine ⟨p, L3, _, _, rfl, SqL.of (wo_at hL3 eL3), by simp, by show 3 ≤ 1000; decide, hp, by omega, fun xi1 mxi1 Hd3 hp3 s3 => ?_⟩
    have sw := sw.trans s3
    have hp := hp3
    obtain ⟨i1, rfl, i10, i11⟩ : ∃ i : Int, xi1 = .int i ∧ 0 ≤ i ∧ i ≤ 255 := by
      simp only [List.mem_cons, List.not_mem_nil, or_false] at mxi1
      rcases mxi1 with rfl | rfl | rfl
      · exact ⟨_, rfl, by decide, by decide⟩
      · exact ⟨_, rfl, by decide, by decide⟩
      · exact ⟨_, rfl, by omega, by omega⟩
    refine ⟨by show 3 ≤ sizeLine; decide, fun T1 nT1 => ?_⟩
    have sT1 := same_upd (o := (.tup [V.str "page", .str l1, .int i1])) nT1
    have eT1 : T1 ≠ p := hp.ne nT1
    have hT1 : upd Hd3 T1 (.tup [V.str "page", .str l1, .int i1]) T1 = some (.tup [V.str "page", .str l1, .int i1]) := upd_same
    have hp := hp.same sT1
    have sw := sw.trans (wo_same_of sT1)
    generalize upd Hd3 T1 (.tup [V.str "page", .str l1, .int i1]) = Hz3 at hT1 hp sw ⊢
    clear sT1 nT1
    have fT1 : FltAt K (wo Hz3 p) (.ref T1) := ⟨T1, .page l1 i1, rfl, SqT.of (wo_at hT1 eT1), ⟨hl1, i10, i11⟩, fb_page hl1 i10 i11⟩
    refine ⟨by show 1 ≤ sizeLine; decide, fun S nS => ?_⟩
    have zS := nl_fresh sw nS (hp.ne nS)
    have sS := same_upd (o := (.lst [V.ref T1])) nS
    have eS : S ≠ p := hp.ne nS
    have hS : upd Hz3 S (.lst [V.ref T1]) S = some (.lst [V.ref T1]) := upd_same
    have fT1 := fT1.same (wo_same_of sS)
    have hp := hp.same sS
    have sw := sw.trans (wo_same_of sS)
    generalize upd Hz3 S (.lst [V.ref T1]) = Hz4 at hS fT1 hp sw ⊢
    clear sS nS
    refine ⟨.ref S, rfl, .inl ⟨rfl, _, SqL.of hS⟩, .ref p, rfl, ?_⟩
    refine ⟨.ref p, rfl, p, 900, _, rfl, by decide, by decide, hp, by omega, fun d2 Hd4 d2a d2b hp4 s4 => ?_⟩
    have hS := wo_le _ _ (s4 _ _ (wo_at hS eS))
    have fT1 := fT1.same s4
    have sw := sw.trans s4
    have hp := hp4
    refine ⟨256, d2, rfl, rfl, ?_⟩
    refine ⟨by show 3 ≤ sizeLine; decide, fun L5 nL5 => ?_⟩
    have sL5 := same_upd (o := (.lst [V.int 256, .int 65535, .int (256 + d2)])) nL5
    have eL5 : L5 ≠ p := hp.ne nL5
    have hL5 : upd Hd4 L5 (.lst [V.int 256, .int 65535, .int (256 + d2)]) L5 = some (.lst [V.int 256, .int 65535, .int (256 + d2)]) := upd_same
    have hS := sL5 _ _ hS
    have fT1 := fT1.same (wo_same_of sL5)
    have hp := hp.same sL5
    have sw := sw.trans (wo_same_of sL5)
    generalize upd Hd4 L5 (.lst [V.int 256, .int 65535, .int (256 + d2)]) = Hz5 at hL5 hS fT1 hp sw ⊢
    clear sL5 nL5
    refine ⟨p, L5, _, _, rfl, SqL.of (wo_at hL5 eL5), by simp, by show 3 ≤ 1000; decide, hp, by omega, fun xi2 mxi2 Hd5 hp5 s5 => ?_⟩
    have hS := wo_le _ _ (s5 _ _ (wo_at hS eS))
    have fT1 := fT1.same s5
    have sw := sw.trans s5
    have hp := hp5
    obtain ⟨i2, rfl, i20, i21⟩ : ∃ i : Int, xi2 = .int i ∧ 256 ≤ i ∧ i ≤ 65535 := by
      simp only [List.mem_cons, List.not_mem_nil, or_false] at mxi2
      rcases mxi2 with rfl | rfl | rfl
      · exact ⟨_, rfl, by decide, by decide⟩
      · exact ⟨_, rfl, by decide, by decide⟩
      · exact ⟨_, rfl, by omega, by omega⟩
    refine ⟨by show 2 ≤ sizeLine; decide, fun T2 nT2 => ?_⟩
    have sT2 := same_upd (o := (.tup [V.str "beyond", .int i2])) nT2
    have eT2 : T2 ≠ p := hp.ne nT2
    have hT2 : upd Hd5 T2 (.tup [V.str "beyond", .int i2]) T2 = some (.tup [V.str "beyond", .int i2]) := upd_same
    have hS := sT2 _ _ hS
    have fT1 := fT1.same (wo_same_of sT2)
    have hp := hp.same sT2
    have sw := sw.trans (wo_same_of sT2)
    generalize upd Hd5 T2 (.tup [V.str "beyond", .int i2]) = Hz6 at hT2 hS fT1 hp sw ⊢
    clear sT2 nT2
    have fT2 : FltAt K (wo Hz6 p) (.ref T2) := ⟨T2, .two "beyond" i2, rfl, SqT.of (wo_at hT2 eT2), ⟨by decide, by omega, i21⟩, fb_beyond i20 i21⟩
    refine ⟨S, _, _, rfl, rfl, hS, small1000 (by show 1 ≤ 1000; decide), ?_⟩
    have fT1 := fT1.upd (o := (.lst ([V.ref T1] ++ [V.ref T2]))) hS eS
    have fT2 := fT2.upd (o := (.lst ([V.ref T1] ++ [V.ref T2]))) hS eS
    have hp := hp.upd (o := (.lst ([V.ref T1] ++ [V.ref T2]))) eS
    have sw := wo_updNew (o := (.lst ([V.ref T1] ++ [V.ref T2]))) sw zS
    have hS : upd Hz6 S (.lst ([V.ref T1] ++ [V.ref T2])) S = some (.lst [V.ref T1, .ref T2]) := upd_same
    generalize upd Hz6 S (.lst ([V.ref T1] ++ [V.ref T2])) = Hz7 at hS fT1 fT2 hp sw ⊢
    refine ⟨.ref S, rfl, .inl ⟨rfl, _, SqL.of hS⟩, .ref p, rfl, ?_⟩
    refine ⟨8447, 1, rfl, rfl, ?_⟩
    refine ⟨by show 8 ≤ sizeLine; decide, fun L6 nL6 => ?_⟩
    have sL6 := same_upd (o := (.lst [V.int 0, .int 4095, .int 61440, .int 65535, .int 12299, .int 36865, .int (8447 + 1), .int 24832])) nL6
    have eL6 : L6 ≠ p := hp.ne nL6
    have hL6 : upd Hz7 L6 (.lst [V.int 0, .int 4095, .int 61440, .int 65535, .int 12299, .int 36865, .int (8447 + 1), .int 24832]) L6 = some (.lst [V.int 0, .int 4095, .int 61440, .int 65535, .int 12299, .int 36865, .int (8447 + 1), .int 24832]) := upd_same
    have hS := sL6 _ _ hS
    have fT1 := fT1.same (wo_same_of sL6)
    have fT2 := fT2.same (wo_same_of sL6)
    have hp := hp.same sL6
    have sw := sw.trans (wo_same_of sL6)
    generalize upd Hz7 L6 (.lst [V.int 0, .int 4095, .int 61440, .int 65535, .int 12299, .int 36865, .int (8447 + 1), .int 24832]) = Hz8 at hL6 hS fT1 fT2 hp sw ⊢
    clear sL6 nL6
    refine ⟨p, L6, _, _, rfl, SqL.of (wo_at hL6 eL6), by simp, by show 8 ≤ 1000; decide, hp, by omega, fun xi3 mxi3 Hd6 hp6 s6 => ?_⟩
    have hS := wo_le _ _ (s6 _ _ (wo_at hS eS))
    have fT1 := fT1.same s6
    have fT2 := fT2.same s6
    have sw := sw.trans s6
    have hp := hp6
    obtain ⟨i3, rfl, i30, i31, i32⟩ : ∃ i : Int, xi3 = .int i ∧ 0 ≤ i ∧ i ≤ 65535 ∧ (pRow i).isNone = true := by
      simp only [List.mem_cons, List.not_mem_nil, or_false] at mxi3
      rcases mxi3 with rfl | rfl | rfl | rfl | rfl | rfl | rfl | rfl
      all_goals exact ⟨_, rfl, by decide, by decide, by decide +kernel⟩
    refine ⟨by show 2 ≤ sizeLine; decide, fun T3 nT3 => ?_⟩
    have sT3 := same_upd (o := (.tup [V.str "row", .int i3])) nT3
    have eT3 : T3 ≠ p := hp.ne nT3
    have hT3 : upd Hd6 T3 (.tup [V.str "row", .int i3]) T3 = some (.tup [V.str "row", .int i3]) := upd_same
    have hS := sT3 _ _ hS
    have fT1 := fT1.same (wo_same_of sT3)
    have fT2 := fT2.same (wo_same_of sT3)
    have hp := hp.same sT3
    have sw := sw.trans (wo_same_of sT3)
    generalize upd Hd6 T3 (.tup [V.str "row", .int i3]) = Hz9 at hT3 hS fT1 fT2 hp sw ⊢
    clear sT3 nT3
    have fT3 : FltAt K (wo Hz9 p) (.ref T3) := ⟨T3, .two "row" i3, rfl, SqT.of (wo_at hT3 eT3), ⟨by decide, i30, i31⟩, fb_row i30 i31 i32⟩
    refine ⟨S, _, _, rfl, rfl, hS, small1000 (by show 2 ≤ 1000; decide), ?_⟩
    have fT1 := fT1.upd (o := (.lst ([V.ref T1, .ref T2] ++ [V.ref T3]))) hS eS
    have fT2 := fT2.upd (o := (.lst ([V.ref T1, .ref T2] ++ [V.ref T3]))) hS eS
    have fT3 := fT3.upd (o := (.lst ([V.ref T1, .ref T2] ++ [V.ref T3]))) hS eS
    have hp := hp.upd (o := (.lst ([V.ref T1, .ref T2] ++ [V.ref T3]))) eS
    have sw := wo_updNew (o := (.lst ([V.ref T1, .ref T2] ++ [V.ref T3]))) sw zS
    have hS : upd Hz9 S (.lst ([V.ref T1, .ref T2] ++ [V.ref T3])) S = some (.lst [V.ref T1, .ref T2, .ref T3]) := upd_same
    generalize upd Hz9 S (.lst ([V.ref T1, .ref T2] ++ [V.ref T3])) = Hz10 at hS fT1 fT2 fT3 hp sw ⊢
    refine ⟨.ref S, rfl, .inl ⟨rfl, _, SqL.of hS⟩, .ref p, rfl, ?_⟩
    refine ⟨.ref p, rfl, p, 256, _, rfl, by decide, by decide, hp, by omega, fun d4 Hd7 d4a d4b hp7 s7 => ?_⟩
    have hS := wo_le _ _ (s7 _ _ (wo_at hS eS))
    have fT1 := fT1.same s7
    have fT2 := fT2.same s7
    have fT3 := fT3.same s7
    have sw := sw.trans s7
    have hp := hp7
    refine ⟨by show 3 ≤ sizeLine; decide, fun L8 nL8 => ?_⟩
    have sL8 := same_upd (o := (.lst [V.int 0, .int 255, .int d4])) nL8
    have eL8 : L8 ≠ p := hp.ne nL8
    have hL8 : upd Hd7 L8 (.lst [V.int 0, .int 255, .int d4]) L8 = some (.lst [V.int 0, .int 255, .int d4]) := upd_same
    have hS := sL8 _ _ hS
    have fT1 := fT1.same (wo_same_of sL8)
    have fT2 := fT2.same (wo_same_of sL8)
    have fT3 := fT3.same (wo_same_of sL8)
    have hp := hp.same sL8
    have sw := sw.trans (wo_same_of sL8)
    generalize upd Hd7 L8 (.lst [V.int 0, .int 255, .int d4]) = Hz11 at hL8 hS fT1 fT2 fT3 hp sw ⊢
    clear sL8 nL8
    refine ⟨p, L8, _, _, rfl, SqL.of (wo_at hL8 eL8), by simp, by show 3 ≤ 1000; decide, hp, by omega, fun xi4 mxi4 Hd8 hp8 s8 => ?_⟩
    have hS := wo_le _ _ (s8 _ _ (wo_at hS eS))
    have fT1 := fT1.same s8
    have fT2 := fT2.same s8
    have fT3 := fT3.same s8
    have sw := sw.trans s8
    have hp := hp8
    obtain ⟨i4, rfl, i40, i41⟩ : ∃ i : Int, xi4 = .int i ∧ 0 ≤ i ∧ i ≤ 255 := by
      simp only [List.mem_cons, List.not_mem_nil, or_false] at mxi4
      rcases mxi4 with rfl | rfl | rfl
      · exact ⟨_, rfl, by decide, by decide⟩
      · exact ⟨_, rfl, by decide, by decide⟩
      · exact ⟨_, rfl, by omega, by omega⟩
    refine ⟨by show 2 ≤ sizeLine; decide, fun T4 nT4 => ?_⟩
    have sT4 := same_upd (o := (.tup [V.str "nought", .int i4])) nT4
    have eT4 : T4 ≠ p := hp.ne nT4
    have hT4 : upd Hd8 T4 (.tup [V.str "nought", .int i4]) T4 = some (.tup [V.str "nought", .int i4]) := upd_same
    have hS := sT4 _ _ hS
    have fT1 := fT1.same (wo_same_of sT4)
    have fT2 := fT2.same (wo_same_of sT4)
    have fT3 := fT3.same (wo_same_of sT4)
    have hp := hp.same sT4
    have sw := sw.trans (wo_same_of sT4)
    generalize upd Hd8 T4 (.tup [V.str "nought", .int i4]) = Hz12 at hT4 hS fT1 fT2 fT3 hp sw ⊢
    clear sT4 nT4
    have fT4 : FltAt K (wo Hz12 p) (.ref T4) := ⟨T4, .two "nought" i4, rfl, SqT.of (wo_at hT4 eT4), ⟨by decide, i40, by omega⟩, fb_nought i40 i41⟩
    refine ⟨S, _, _, rfl, rfl, hS, small1000 (by show 3 ≤ 1000; decide), ?_⟩
    have fT1 := fT1.upd (o := (.lst ([V.ref T1, .ref T2, .ref T3] ++ [V.ref T4]))) hS eS
    have fT2 := fT2.upd (o := (.lst ([V.ref T1, .ref T2, .ref T3] ++ [V.ref T4]))) hS eS
    have fT3 := fT3.upd (o := (.lst ([V.ref T1, .ref T2, .ref T3] ++ [V.ref T4]))) hS eS
    have fT4 := fT4.upd (o := (.lst ([V.ref T1, .ref T2, .ref T3] ++ [V.ref T4]))) hS eS
    have hp := hp.upd (o := (.lst ([V.ref T1, .ref T2, .ref T3] ++ [V.ref T4]))) eS
    have sw := wo_updNew (o := (.lst ([V.ref T1, .ref T2, .ref T3] ++ [V.ref T4]))) sw zS
    have hS : upd Hz12 S (.lst ([V.ref T1, .ref T2, .ref T3] ++ [V.ref T4])) S = some (.lst [V.ref T1, .ref T2, .ref T3, .ref T4]) := upd_same
    generalize upd Hz12 S (.lst ([V.ref T1, .ref T2, .ref T3] ++ [V.ref T4])) = Hz13 at hS fT1 fT2 fT3 fT4 hp sw ⊢
    refine ⟨.ref S, rfl, .inl ⟨rfl, _, SqL.of hS⟩, .ref p, rfl, ?_⟩
    refine ⟨.ref p, rfl, p, 256, _, rfl, by decide, by decide, hp, by omega, fun d5 Hd9 d5a d5b hp9 s9 => ?_⟩
    have hS := wo_le _ _ (s9 _ _ (wo_at hS eS))
    have fT1 := fT1.same s9
    have fT2 := fT2.same s9
    have fT3 := fT3.same s9
    have fT4 := fT4.same s9
    have sw := sw.trans s9
    have hp := hp9
    refine ⟨by show 3 ≤ sizeLine; decide, fun L10 nL10 => ?_⟩
    have sL10 := same_upd (o := (.lst [V.int 0, .int 255, .int d5])) nL10
    have eL10 : L10 ≠ p := hp.ne nL10
    have hL10 : upd Hd9 L10 (.lst [V.int 0, .int 255, .int d5]) L10 = some (.lst [V.int 0, .int 255, .int d5]) := upd_same
    have hS := sL10 _ _ hS
    have fT1 := fT1.same (wo_same_of sL10)
    have fT2 := fT2.same (wo_same_of sL10)
    have fT3 := fT3.same (wo_same_of sL10)
    have fT4 := fT4.same (wo_same_of sL10)
    have hp := hp.same sL10
    have sw := sw.trans (wo_same_of sL10)
    generalize upd Hd9 L10 (.lst [V.int 0, .int 255, .int d5]) = Hz14 at hL10 hS fT1 fT2 fT3 fT4 hp sw ⊢
    clear sL10 nL10
    refine ⟨p, L10, _, _, rfl, SqL.of (wo_at hL10 eL10), by simp, by show 3 ≤ 1000; decide, hp, by omega, fun xi5 mxi5 Hd10 hp10 s10 => ?_⟩
    have hS := wo_le _ _ (s10 _ _ (wo_at hS eS))
    have fT1 := fT1.same s10
    have fT2 := fT2.same s10
    have fT3 := fT3.same s10
    have fT4 := fT4.same s10
    have sw := sw.trans s10
    have hp := hp10
    obtain ⟨i5, rfl, i50, i51⟩ : ∃ i : Int, xi5 = .int i ∧ 0 ≤ i ∧ i ≤ 255 := by
      simp only [List.mem_cons, List.not_mem_nil, or_false] at mxi5
      rcases mxi5 with rfl | rfl | rfl
      · exact ⟨_, rfl, by decide, by decide⟩
      · exact ⟨_, rfl, by decide, by decide⟩
      · exact ⟨_, rfl, by omega, by omega⟩
    refine ⟨by show 2 ≤ sizeLine; decide, fun T5 nT5 => ?_⟩
    have sT5 := same_upd (o := (.tup [V.str "trap", .int i5])) nT5
    have eT5 : T5 ≠ p := hp.ne nT5
    have hT5 : upd Hd10 T5 (.tup [V.str "trap", .int i5]) T5 = some (.tup [V.str "trap", .int i5]) := upd_same
    have hS := sT5 _ _ hS
    have fT1 := fT1.same (wo_same_of sT5)
    have fT2 := fT2.same (wo_same_of sT5)
    have fT3 := fT3.same (wo_same_of sT5)
    have fT4 := fT4.same (wo_same_of sT5)
    have hp := hp.same sT5
    have sw := sw.trans (wo_same_of sT5)
    generalize upd Hd10 T5 (.tup [V.str "trap", .int i5]) = Hz15 at hT5 hS fT1 fT2 fT3 fT4 hp sw ⊢
    clear sT5 nT5
    have fT5 : FltAt K (wo Hz15 p) (.ref T5) := ⟨T5, .two "trap" i5, rfl, SqT.of (wo_at hT5 eT5), ⟨by decide, i50, by omega⟩, fb_trap i50 i51⟩
    refine ⟨S, _, _, rfl, rfl, hS, small1000 (by show 4 ≤ 1000; decide), ?_⟩
    have fT1 := fT1.upd (o := (.lst ([V.ref T1, .ref T2, .ref T3, .ref T4] ++ [V.ref T5]))) hS eS
    have fT2 := fT2.upd (o := (.lst ([V.ref T1, .ref T2, .ref T3, .ref T4] ++ [V.ref T5]))) hS eS
    have fT3 := fT3.upd (o := (.lst ([V.ref T1, .ref T2, .ref T3, .ref T4] ++ [V.ref T5]))) hS eS
    have fT4 := fT4.upd (o := (.lst ([V.ref T1, .ref T2, .ref T3, .ref T4] ++ [V.ref T5]))) hS eS
    have fT5 := fT5.upd (o := (.lst ([V.ref T1, .ref T2, .ref T3, .ref T4] ++ [V.ref T5]))) hS eS
    have hp := hp.upd (o := (.lst ([V.ref T1, .ref T2, .ref T3, .ref T4] ++ [V.ref T5]))) eS
    have sw := wo_updNew (o := (.lst ([V.ref T1, .ref T2, .ref T3, .ref T4] ++ [V.ref T5]))) sw zS
    have hS : upd Hz15 S (.lst ([V.ref T1, .ref T2, .ref T3, .ref T4] ++ [V.ref T5])) S = some (.lst [V.ref T1, .ref T2, .ref T3, .ref T4, .ref T5]) := upd_same
    generalize upd Hz15 S (.lst ([V.ref T1, .ref T2, .ref T3, .ref T4] ++ [V.ref T5])) = Hz16 at hS fT1 fT2 fT3 fT4 fT5 hp sw ⊢
    refine ⟨.ref p, rfl, .ref S, rfl, p, S, _, _, rfl, SqL.of (wo_at hS eS), by simp, by show 5 ≤ 1000; decide, hp, by omega, fun x hx Hf hpf sf => ?_⟩
    have all_ : FltAt K (wo Hz16 p) x := by
      simp only [List.mem_cons, List.not_mem_nil, or_false] at hx
      rcases hx with rfl | rfl | rfl | rfl | rfl
      · exact fT1
      · exact fT2
      · exact fT3
      · exact fT4
      · exact fT5
    obtain ⟨t, f, rfl, ht, ok, fb⟩ := all_.same sf
    exact q t f Hf (hpf.mono (by omega)) (sw.trans sf) ht ok fb
def spDrawnP (K : PySem.W.Frag) : Sp := fun vs H Q _ => ∃ (p a : Addr) (n : Nat) (f : Fl), vs = [.ref p, .ref a] ∧ SqT K (wo H p) a f.vs ∧ f.ok ∧ faultB (.tuple f.ds) = true ∧ Pot H p n ∧ n + 5 < 1000000 ∧ ∀ (i : Int) H', Pot H' p (n + 5) → Same (wo H p) (wo H' p) → 0 ≤ i → i ≤ 255 → comes f i = true → Q (.int i) H'
theorem ok_DrawnPlace {k : Nat} {f : Addr} {fd : FuncData}  (F : Fun K "_law_drawn_place" "_law_drawn_place" sDrawnPlace f fd) (gTa : Cal P w K mg base CX0 (k + 3) "_law_take" ["pot", "upto"] spTake) (gOf : Cal P w K mg base CX0 (k + 3) "_law_of" ["pot", "some"] (spOf K))   : FnOk P w K mg base CX0 (k + 4) f fd ["pot", "fault"] (spDrawnP K) := by
  obtain ⟨fTa, fdTa, GTa, kTa, bTa, mTa⟩ := gTa
  obtain ⟨fOf, fdOf, GOf, kOf, bOf, mOf⟩ := gOf
  refine F.ok scDrawnPlace (fun vs H Q E h => ?_) (fun cdv A outer s H vs Q E hr h => ?_)
  · obtain ⟨p, a, n, f, rfl, _⟩ := h
    rfl
  · obtain ⟨p, a, n, f, rfl, hs, ok, fb, hp, hn, q⟩ := h
    refine ⟨_, (pss_cons (ps_if (pt_cmpR op_eq (pe_ix ix_tup (pv 1) pe_int (fun _ _ => rfl)) pe_str (nomark _)) (pss_one (ps_ret (pe_ix ix_tup (pv 1) pe_int (fun _ _ => rfl)))) pss_nil) (pss_one (ps_ret (pe_ifExp (pt_cmpR (op_eqD hr.units) (pe_slice sl_tupA (pv 1) po_none (po_some pe_int)) (pe_tup (pa_cons pe_str (pa_cons pe_str pa_nil))) (nomark _)) (pe_ix ix_tup (pv 1) pe_int (fun _ _ => rfl)) (pe_call GOf hr (by rfl) mOf kOf bOf .nil pass0 (pa_cons (pv 0) (pa_cons (pe_lst (pa_cons pe_int (pa_cons pe_int (pa_cons (pe_call GTa hr (by rfl) mTa kTa bTa .nil pass0 (pa_cons (pv 0) (pa_cons pe_int pa_nil))) pa_nil)))) pa_nil))))))), ?_⟩
    have hsH := Same.seqT wo_le hs
    cases f with
    | page l i =>
      refine ⟨.ref a, rfl, a, _, 0, .str "page", rfl, rfl, hsH, at0, rfl, _, rfl, iteE (by decide) ?_⟩
      refine ⟨.ref a, rfl, 2, rfl, slice_to (j := 2) hsH fun c H1 hc s1 => ?_⟩
      refine ⟨by show 2 ≤ sizeLine; decide, fun t nt => ?_⟩
      have s2 := same_upd (o := .tup [V.str "page", .str "x"]) nt
      have s3 := s1.trans s2
      have shl : SeqAt.shaped (.tuple [.str "page", .str l]) = true := by
        have hl := ok.1
        simp only [lets3, List.mem_cons, List.not_mem_nil, or_false] at hl
        rcases hl with rfl | rfl | rfl <;> decide +kernel
      refine ⟨.tuple [.str "page", .str l], .tuple [.str "page", .str "x"], .tup (Same.seqT s2 hc) (.cons (.str _) (.cons (.str _) .nil)), .tup (SqT.of upd_same) (.cons (.str _) (.cons (.str _) .nil)), shl, by decide +kernel, _, rfl, ?_⟩
      rw [eqv_two]
      by_cases c : l = "x"
      · refine iteB (by rw [c]; decide) ⟨.ref a, rfl, a, _, 2, .int i, rfl, rfl, Same.seqT s3 hsH, at2, ?_⟩
        exact q i _ ((hp.same s3).mono (by omega)) (wo_same_of s3) ok.2.1 ok.2.2 (by rw [comes_page, if_pos c]; exact decide_eq_true rfl)
      · refine iteC (by simp [c]) ?_
        refine ⟨.ref p, rfl, .ref p, rfl, p, 256, n, rfl, by decide, by decide, hp.same s3, by omega, fun d1 H4 d10 d11 hp4 s4 => ?_⟩
        refine ⟨by show 3 ≤ sizeLine; decide, fun L nL => ?_⟩
        have eL := hp4.ne nL
        have u5 := same_upd (o := .lst [V.int 0, .int 255, .int d1]) nL
        refine ⟨p, L, _, _, rfl, SqL.of (wo_at upd_same eL), by simp, by show 3 ≤ 1000; decide, hp4.same u5, by omega, fun x mx H6 hp6 s6 => ?_⟩
        obtain ⟨i1, rfl, i10, i11⟩ : ∃ i : Int, x = .int i ∧ 0 ≤ i ∧ i ≤ 255 := by
          simp only [List.mem_cons, List.not_mem_nil, or_false] at mx
          rcases mx with rfl | rfl | rfl
          · exact ⟨_, rfl, by decide, by decide⟩
          · exact ⟨_, rfl, by decide, by decide⟩
          · exact ⟨_, rfl, by omega, by omega⟩
        exact q i1 H6 (hp6.mono (by omega)) (((wo_same_of s3).trans s4).trans ((wo_same_of u5).trans s6)) i10 i11 (by rw [comes_page, if_neg c])
    | two k i =>
      refine ⟨.ref a, rfl, a, _, 0, .str k, rfl, rfl, hsH, at0, rfl, _, rfl, ?_⟩
      by_cases c : k = "nought"
      · refine iteD (congrArg V.str c) ⟨.ref a, rfl, a, _, 1, .int i, rfl, rfl, hsH, at1, ?_⟩
        have fw : isW (.int i) 0 255 = true := by subst c; exact fb
        obtain ⟨j, ej, j0, j1⟩ := isW_int fw
        cases ej
        exact q i _ (hp.mono (by omega)) (Same.refl _) j0 j1 (by rw [comes_two, if_pos c]; exact decide_eq_true rfl)
      · refine iteE (fun z => c (V.str.inj z)) ?_
        refine ⟨.ref a, rfl, 2, rfl, slice_to (j := 2) hsH fun c' H1 hc s1 => ?_⟩
        refine ⟨by show 2 ≤ sizeLine; decide, fun t nt => ?_⟩
        have s2 := same_upd (o := .tup [V.str "page", .str "x"]) nt
        have s3 := s1.trans s2
        have shl : SeqAt.shaped (.tuple [.str k, .int i]) = true := by
          have hl := ok.1
          simp only [kindsF, List.mem_cons, List.not_mem_nil, or_false] at hl
          rcases hl with rfl | rfl | rfl | rfl
          · exact shaped_mix (shaped_lit "beyond")
          · exact shaped_mix (shaped_lit "row")
          · exact shaped_mix (shaped_lit "nought")
          · exact shaped_mix (shaped_lit "trap")
        refine ⟨.tuple [.str k, .int i], .tuple [.str "page", .str "x"], .tup (Same.seqT s2 hc) (.cons (.str _) (.cons (.int _) .nil)), .tup (SqT.of upd_same) (.cons (.str _) (.cons (.str _) .nil)), shl, by decide +kernel, _, rfl, ?_⟩
        rw [eqv_mix]
        refine iteF ?_
        refine ⟨.ref p, rfl, .ref p, rfl, p, 256, n, rfl, by decide, by decide, hp.same s3, by omega, fun d1 H4 d10 d11 hp4 s4 => ?_⟩
        refine ⟨by show 3 ≤ sizeLine; decide, fun L nL => ?_⟩
        have eL := hp4.ne nL
        have u5 := same_upd (o := .lst [V.int 0, .int 255, .int d1]) nL
        refine ⟨p, L, _, _, rfl, SqL.of (wo_at upd_same eL), by simp, by show 3 ≤ 1000; decide, hp4.same u5, by omega, fun x mx H6 hp6 s6 => ?_⟩
        obtain ⟨i1, rfl, i10, i11⟩ : ∃ i : Int, x = .int i ∧ 0 ≤ i ∧ i ≤ 255 := by
          simp only [List.mem_cons, List.not_mem_nil, or_false] at mx
          rcases mx with rfl | rfl | rfl
          · exact ⟨_, rfl, by decide, by decide⟩
          · exact ⟨_, rfl, by decide, by decide⟩
          · exact ⟨_, rfl, by omega, by omega⟩
        exact q i1 H6 (hp6.mono (by omega)) (((wo_same_of s3).trans s4).trans ((wo_same_of u5).trans s6)) i10 i11 (by rw [comes_two, if_neg c])
end
end K26

set_option maxRecDepth 100000
set_option maxHeartbeats 8000000
/-! k26: a fault there and back. -/
namespace K26
open PySem PySem.Spec PyProof.Rows L2 LamX VG TL
theorem scFaultRight : FnScope ["pot", "fault", "place", "words", "first", "second", "due"] ["pot", "fault", "place"] (defScope sFaultRight) := ⟨rfl, rfl, rfl, by decide +kernel, rfl, by decide +kernel, by decide +kernel⟩
theorem same_f {x : V} : (!decide (x = x)) = false := by simp
def kind0 : Fl → Str
  | .page _ _ => "page"
  | .two k _ => k
theorem fl_at0 (f : Fl) : atI f.vs 0 = some (.str (kind0 f)) := by cases f <;> rfl
theorem kind0_page {f : Fl} (ok : f.ok) : kind0 f = "page" ↔ f.isPage = true := by
  cases f with
  | page l n => exact ⟨fun _ => rfl, fun _ => rfl⟩
  | two k n =>
    constructor
    · intro h
      have h : k = "page" := h
      have hk := ok.1
      rw [h] at hk
      exact absurd hk (by decide)
    · intro h; cases h
theorem fl_inj {f g : Fl} (h : PyData.tuple f.ds = .tuple g.ds) : f = g := by
  cases f <;> cases g <;> simp [Fl.ds] at h ⊢ <;> exact h
theorem okM_lit {z : String} (h : (Str.ofString z).length ≤ 12) : okM 0 50 (.str z) := okM.str ⟨h, str_chars z⟩ (by decide)
theorem kinds_okM {k : Str} (h : k ∈ kindsF) : okM 0 50 (.str k) := by
  simp only [kindsF, List.mem_cons, List.not_mem_nil, or_false] at h
  rcases h with rfl | rfl | rfl | rfl
  · exact okM_lit (by decide)
  · exact okM_lit (by decide)
  · exact okM_lit (by decide)
  · exact okM_lit (by decide)
theorem lets_okM {k : Str} (h : k ∈ lets3) : okM 0 50 (.str k) := by
  simp only [lets3, List.mem_cons, List.not_mem_nil, or_false] at h
  rcases h with rfl | rfl | rfl
  · exact okM_lit (by decide)
  · exact okM_lit (by decide)
  · exact okM_lit (by decide)
theorem fl_okM {f : Fl} (ok : f.ok) : okM 1 918 (.tuple f.ds) := by
  cases f with
  | page l n =>
    obtain ⟨h1, h2, h3⟩ := ok
    refine okM.tup (k := 0) (m := 50) (fun d hd => ?_) (by show 3 ≤ 18; decide)
    simp only [Fl.ds, List.mem_cons, List.not_mem_nil, or_false] at hd
    rcases hd with rfl | rfl | rfl
    · exact okM_lit (by decide)
    · exact lets_okM h1
    · exact okM.int (by omega) (by omega)
  | two k n =>
    obtain ⟨h1, h2, h3⟩ := ok
    refine okM.tup (k := 0) (m := 50) (fun d hd => ?_) (by show 2 ≤ 18; decide)
    simp only [Fl.ds, List.mem_cons, List.not_mem_nil, or_false] at hd
    rcases hd with rfl | rfl
    · exact kinds_okM h1
    · exact okM.int (by omega) (by omega)
theorem okM_data {k m : Nat} {d : PyData} (h : okM k m d) (hk : k ≤ 8) (hm : m ≤ 2 ^ 20) : okData d = true := h.1.ok hk hm
theorem codeF_rng {f : Fl} : 1 ≤ codeF f ∧ codeF f ≤ 7 := by
  cases f with
  | page l n =>
    show 1 ≤ (if l = "r" then (1 : Int) else if l = "w" then 2 else 3) ∧ (if l = "r" then (1 : Int) else if l = "w" then 2 else 3) ≤ 7
    split
    · decide
    · split <;> decide
  | two k n =>
    show 1 ≤ (if k = "beyond" then (4 : Int) else if k = "row" then 5 else if k = "nought" then 6 else 7) ∧ (if k = "beyond" then (4 : Int) else if k = "row" then 5 else if k = "nought" then 6 else 7) ≤ 7
    split
    · decide
    · split
      · decide
      · split <;> decide
theorem fl_n {f : Fl} (ok : f.ok) : 0 ≤ f.n ∧ f.n ≤ 65535 := by
  cases f with
  | page l n => exact ⟨ok.2.1, by have h : n ≤ 255 := ok.2.2; show n ≤ 65535; omega⟩
  | two k n => exact ok.2
theorem withF_code {f : Fl} (ok : f.ok) : withF (codeF f) f.n = some f := by
  cases f with
  | page l n =>
    have hl := ok.1
    simp only [lets3, List.mem_cons, List.not_mem_nil, or_false] at hl
    rcases hl with rfl | rfl | rfl <;> rfl
  | two k n =>
    have hk := ok.1
    simp only [kindsF, List.mem_cons, List.not_mem_nil, or_false] at hk
    rcases hk with rfl | rfl | rfl | rfl <;> rfl
/-- the words of a fault and a place -/
def wordsD (f : Fl) (i : Int) : PyData := .tuple [.int (codeF f), .int f.n, .int i, .int 0]
theorem words_ok {f : Fl} {i : Int} (ok : f.ok) (i0 : 0 ≤ i) (i1 : i ≤ 255) : okM 1 918 (wordsD f i) := by
  have h1 := codeF_rng (f := f)
  have h2 := fl_n ok
  refine okM.tup (k := 0) (m := 50) (fun d hd => ?_) (by show 4 ≤ 18; decide)
  simp only [List.mem_cons, List.not_mem_nil, or_false] at hd
  rcases hd with rfl | rfl | rfl | rfl <;> exact okM.int (by omega) (by omega)
theorem wT_of {a b c e : Int} (ha : 0 ≤ a ∧ a ≤ 65535) (hb : 0 ≤ b ∧ b ≤ 65535) (hc : 0 ≤ c ∧ c ≤ 65535) (he : 0 ≤ e ∧ e ≤ 65535) : wT (.tuple [.int a, .int b, .int c, .int e]) = true := by
  show (true && (isW (.int a) 0 65535 && (isW (.int b) 0 65535 && (isW (.int c) 0 65535 && (isW (.int e) 0 65535 && true))))) = true
  rw [isW_of ha.1 ha.2, isW_of hb.1 hb.2, isW_of hc.1 hc.2, isW_of he.1 he.2]
  rfl
theorem words_wB {f : Fl} {i : Int} (ok : f.ok) (fb : faultB (.tuple f.ds) = true) (i0 : 0 ≤ i) (i1 : i ≤ 255) (hc : comes f i = true) : wordsB (wordsD f i) = true := by
  have h1 := codeF_rng (f := f)
  have h2 := fl_n ok
  have e1 : wT (wordsD f i) = true := wT_of ⟨by omega, by omega⟩ h2 ⟨i0, by omega⟩ ⟨by decide, by decide⟩
  unfold wordsB
  rw [e1, Bool.true_and]
  show (match withF (codeF f) f.n with
    | none => false
    | some f => faultB (.tuple f.ds) && (placeF f (.int i) && decide ((0 : Int) = 0))) = true
  rw [withF_code ok]
  show (faultB (.tuple f.ds) && (placeF f (.int i) && decide ((0 : Int) = 0))) = true
  rw [fb, placeF_int i0 i1, hc]
  rfl
theorem dpI {K : PySem.W.Frag} {H : Hp} {ns : List Int} : DpAll K H (ns.map V.int) (ns.map .int) := by
  induction ns with
  | nil => exact .nil
  | cons a r ih => exact .cons (.int a) ih
/-- what is due at first -/
def due1 (f : Fl) (x : Int) : List V := if f.isPage = true ∨ x = 1 then [.str "again"] else if x = 0 then [.str "on"] else [.str "rests"]
theorem due_last {f : Fl} {x y : Int} (y0 : 0 ≤ y) (h : f.isPage = true ∨ ¬ (x = 2 ∧ y < 256)) : answerV f x y = due1 f x := by
  unfold answerV due1
  by_cases c : f.isPage = true ∨ x = 1
  · rw [if_pos c, if_pos c]
  · rw [if_neg c, if_neg c]
    by_cases c0 : x = 0
    · rw [if_pos c0, if_pos c0]
    · rw [if_neg c0, if_neg c0]
      have : ¬ (x = 2 ∧ (0 ≤ y ∧ y ≤ 255)) := fun z => by
        rcases h with h | h
        · exact c (.inl h)
        · exact h ⟨z.1, by omega⟩
      rw [if_neg this]
theorem answer_data (f : Fl) (x y : Int) (x0 : 0 ≤ x) (x1 : x ≤ 65535) (y0 : 0 ≤ y) (y1 : y ≤ 65535) : ∃ ds, (∀ {K : PySem.W.Frag} {H : Hp}, DpAll K H (answerV f x y) ds) ∧ okData (.tuple ds) = true := by
  have one : ∀ z : String, (Str.ofString z).length ≤ 12 → okData (.tuple [.str z]) = true := fun z h => okM_data (okM.tup (k := 0) (m := 50) (fun d hd => by rw [List.mem_singleton.mp hd]; exact okM_lit h) (by show 1 ≤ 18; decide)) (by decide) (by decide)
  unfold answerV
  split
  · exact ⟨_, .cons (.str _) .nil, one "again" (by decide)⟩
  · split
    · exact ⟨_, .cons (.str _) .nil, one "on" (by decide)⟩
    · split
      · refine ⟨_, .cons (.str _) (.cons (.int y) .nil), okM_data (okM.tup (k := 0) (m := 50) (fun d hd => ?_) (by show 2 ≤ 18; decide)) (by decide) (by decide)⟩
        simp only [List.mem_cons, List.not_mem_nil, or_false] at hd
        rcases hd with rfl | rfl
        · exact okM_lit (by decide)
        · exact okM.int (by omega) (by omega)
      · exact ⟨_, .cons (.str _) .nil, one "rests" (by decide)⟩
section
variable {P : Program} {w : World} {K : PySem.W.Frag} {mg : Str → Option Value} {base : Heap}
def spFaultRight (K : PySem.W.Frag) : Sp := fun vs H Q _ => ∃ (p a : Addr) (n : Nat) (f : Fl) (i : Int), vs = [.ref p, .ref a, .int i] ∧ SqT K (wo H p) a f.vs ∧ f.ok ∧ faultB (.tuple f.ds) = true ∧ 0 ≤ i ∧ i ≤ 255 ∧ comes f i = true ∧ Pot H p n ∧ n + 20 < 1000000 ∧ ∀ H', Pot H' p (n + 20) → Same (wo H p) (wo H' p) → Q (.bl true) H'
theorem ok_FaultRight {k : Nat} {f : Addr} {fd : FuncData} {CF CP CS:Addr} (F : Fun K "_law_is_fault_right" "_law_is_fault_right" sFaultRight f fd) (gCo : Cal P w K mg base CX0 (k + 6) "_law_code" ["fault"] (spCode K)) (gFw : Cal P w K mg base (L2.CX P w) (k + 6) "fault_words" ["fault", "place"] (spWords K CF CP)) (gFo : Cal P w K mg base (L2.CX P w) (k + 6) "fault_of" ["words"] (spFaultOf K CS)) (gDr : Cal P w K mg base (L2.CX P w) (k + 6) "door_of" ["fault"] (spDoor K CF)) (gBh : Cal P w K mg base (L2.CX P w) (k + 6) "behind_answer" ["fault", "words"] (spBehind K CF CS)) (gOf : Cal P w K mg base CX0 (k + 6) "_law_of" ["pot", "some"] (spOf K)) (gTa : Cal P w K mg base CX0 (k + 6) "_law_take" ["pot", "upto"] spTake)  (frepr : mg "repr" = none) : FnG P w K mg base (k + 7) f fd ["pot", "fault", "place"] (spFaultRight K) := by
  obtain ⟨fCo, fdCo, GCo, kCo, bCo, mCo⟩ := gCo
  obtain ⟨fFw, fdFw, GFw, kFw, bFw, mFw⟩ := gFw
  obtain ⟨fFo, fdFo, GFo, kFo, bFo, mFo⟩ := gFo
  obtain ⟨fDr, fdDr, GDr, kDr, bDr, mDr⟩ := gDr
  obtain ⟨fBh, fdBh, GBh, kBh, bBh, mBh⟩ := gBh
  obtain ⟨fOf, fdOf, GOf, kOf, bOf, mOf⟩ := gOf
  obtain ⟨fTa, fdTa, GTa, kTa, bTa, mTa⟩ := gTa
  refine fnG_of F scFaultRight (fun vs H Q E h => ?_) (fun cdv A outer s H vs Q hr gd h => ?_)
  · obtain ⟨p, a, n, f, i, rfl, _⟩ := h
    rfl
  · obtain ⟨p, a, n, f, i, rfl, hs, ok, fb, i0, i1, hc, hp, hn, q⟩ := h
    refine ⟨_, (pss_cons (ps_set (i := 3) scFaultRight.nd rfl (.inl rfl) (pe_op op_catA (pe_call GCo hr (by rfl) mCo kCo bCo .nil pass0 (pa_cons (pv 1) pa_nil)) (pe_tup (pa_cons (pv 2) (pa_cons pe_int pa_nil))))) (pss_cons (ps_if (PW.pt (pw_or (pt_cmpR op_ne (pe_callB (call_repr gd hr.units) (by rfl) frepr (by decide +kernel) (pa_cons (pe_call GFw hr (by rfl) mFw kFw bFw .nil passX (pa_cons (pv 1) (pa_cons (pv 2) pa_nil))) pa_nil)) (pe_callB (call_repr gd hr.units) (by rfl) frepr (by decide +kernel) (pa_cons (pv 3) pa_nil)) (nomark _)) (pw_or1 (pt_cmpR op_ne (pe_callB (call_repr gd hr.units) (by rfl) frepr (by decide +kernel) (pa_cons (pe_call GFo hr (by rfl) mFo kFo bFo .nil passX (pa_cons (pv 3) pa_nil)) pa_nil)) (pe_callB (call_repr gd hr.units) (by rfl) frepr (by decide +kernel) (pa_cons (pe_tup (pa_cons (pv 1) (pa_cons (pv 2) pa_nil))) pa_nil)) (nomark _))))) (pss_one (ps_ret pe_bl)) pss_nil) (pss_cons (ps_if (pt_cmpR op_ne (pe_call GDr hr (by rfl) mDr kDr bDr .nil passX (pa_cons (pv 1) pa_nil)) (pe_ifExp (pt_cmpR op_eq (pe_ix ix_tup (pv 1) pe_int (fun _ _ => rfl)) pe_str (nomark _)) pe_str pe_str) (nomark _)) (pss_one (ps_ret pe_bl)) pss_nil) (pss_cons (ps_par (i := 4) (j := 5) (by rfl) scFaultRight.nd rfl rfl (by decide) rfl rfl (pa_cons (pe_call GOf hr (by rfl) mOf kOf bOf .nil pass0 (pa_cons (pv 0) (pa_cons (pe_lst (pa_cons pe_int (pa_cons pe_int (pa_cons pe_int (pa_cons pe_int (pa_cons pe_int (pa_cons pe_int pa_nil))))))) pa_nil))) (pa_cons (pe_call GOf hr (by rfl) mOf kOf bOf .nil pass0 (pa_cons (pv 0) (pa_cons (pe_lst (pa_cons pe_int (pa_cons pe_int (pa_cons pe_int (pa_cons pe_int (pa_cons (pe_call GTa hr (by rfl) mTa kTa bTa .nil pass0 (pa_cons (pv 0) (pa_cons pe_int pa_nil))) pa_nil)))))) pa_nil))) pa_nil)) (by rfl)) (pss_cons (ps_set (i := 6) scFaultRight.nd rfl (.inl rfl) (pe_ifExp (PW.pt (pw_or (pt_cmpR op_eq (pe_ix ix_tup (pv 1) pe_int (fun _ _ => rfl)) pe_str (nomark _)) (pw_or1 (pt_cmpR op_eq (pv 4) pe_int (nomark _))))) (pe_tup (pa_cons pe_str pa_nil)) (pe_ifExp (pt_cmpR op_eq (pv 4) pe_int (nomark _)) (pe_tup (pa_cons pe_str pa_nil)) (pe_tup (pa_cons pe_str pa_nil))))) (pss_cons (ps_if (PW.pt (pw_and (pt_cmpR op_ne (pe_ix ix_tup (pv 1) pe_int (fun _ _ => rfl)) pe_str (nomark _)) (pw_and (pt_cmpR op_eq (pv 4) pe_int (nomark _)) (pw_and1 (pt_cmpR op_lt (pv 5) pe_int (nomark _)))))) (pss_one (ps_set (i := 6) scFaultRight.nd rfl (.inl rfl) (pe_tup (pa_cons pe_str (pa_cons (pv 5) pa_nil))))) pss_nil) (pss_one (ps_ret (pe_cmpR op_eq (pe_callB (call_repr gd hr.units) (by rfl) frepr (by decide +kernel) (pa_cons (pe_call GBh hr (by rfl) mBh kBh bBh .nil passX (pa_cons (pv 1) (pa_cons (pe_tup (pa_cons (pv 4) (pa_cons (pv 5) (pa_cons pe_int (pa_cons pe_int pa_nil))))) pa_nil))) pa_nil)) (pe_callB (call_repr gd hr.units) (by rfl) frepr (by decide +kernel) (pa_cons (pv 6) pa_nil)) (nomark _)))))))))), ?_⟩
    have hsH := Same.seqT wo_le hs
    refine ⟨.ref a, rfl, a, f, rfl, hsH, ok, fun H1 cw s1 hcw => ?_⟩
    refine ⟨.int i, rfl, by show 2 ≤ sizeLine; decide, fun t nt => catA_one (Same.seqT (same_upd nt) hcw) (SqT.of upd_same) (sl (by show 2 + 2 ≤ 1000; decide)) fun c H2 hcc s2 => ?_⟩
    have s12 := (s1.trans (same_upd nt)).trans s2
    have hcc : SqT K H2 c ([codeF f, f.n, i, 0].map V.int) := hcc
    have hs2 := Same.seqT s12 hsH
    have hp2 := hp.same s12
    have sw := wo_same_of (a := p) s12
    clear s1 s2 hcw nt
    have okw := okM_data (words_ok ok i0 i1) (by decide) (by decide)
    have dF : ∀ {H'}, SqT K H' a f.vs → Dk K H' (.ref a) (.tuple f.ds) := fun h => .dp (.tup h fl_data)
    have dW : ∀ {H' t}, SqT K H' t ([codeF f, f.n, i, 0].map V.int) → Dk K H' (.ref t) (wordsD f i) := fun h => .dp (.tup h (dpI (ns := [codeF f, f.n, i, 0])))
    have wb := words_wB ok fb i0 i1 hc
    refine ⟨.ref a, rfl, .int i, rfl, .ref a, .int i, _, .int i, rfl, dF hs2, sh_fl ok, .dp (.int i), fun h => (by rw [fb] at h; cases h), fun f' e' h h' => ?_, fun f' p' e' h ep h' H3 t3 s3 ht3 => ?_⟩
    · obtain rfl := fl_inj e'
      rw [placeF_int i0 i1, hc] at h'
      cases h'
    obtain rfl := fl_inj e'
    cases ep
    refine ⟨.ref t3, wordsD f i, rfl, dW ht3, okw, .ref c, rfl, .ref c, wordsD f i, rfl, dW (Same.seqT s3 hcc), okw, rfl, _, rfl, ?_⟩
    rw [same_f]
    refine iteF ?_
    have hcc3 := Same.seqT s3 hcc
    refine ⟨.ref c, rfl, .ref c, wordsD f i, rfl, dW hcc3, fun h => (by rw [wb] at h; cases h), fun c' n' p' r' f' ed ew wb' H4 t1 t2 s4 h1 h2 => ?_⟩
    cases ed
    rw [withF_code ok] at ew
    cases ew
    have s24 := s3.trans s4
    have okp : okData (.tuple [.tuple f.ds, .int i]) = true := okM_data (okM.tup (k := 1) (m := 918) (fun d hd => by
      simp only [List.mem_cons, List.not_mem_nil, or_false] at hd
      rcases hd with rfl | rfl
      · exact fl_okM ok
      · exact (okM.int (by omega) (by omega)).mono (by decide) (by decide)) (by show 2 ≤ 18; decide)) (by decide) (by decide)
    refine ⟨.ref t2, .tuple [.tuple f.ds, .int i], rfl, .dp (.tup h2 (.cons (.tup h1 fl_data) (.cons (.int i) .nil))), okp, .ref a, rfl, .int i, rfl, by show 2 ≤ sizeLine; decide, fun t5 nt5 => ?_⟩
    have s5 := same_upd (o := .tup [V.ref a, .int i]) nt5
    have s25 := s24.trans s5
    refine ⟨.ref t5, .tuple [.tuple f.ds, .int i], rfl, .dp (.tup (SqT.of upd_same) (.cons (.tup (Same.seqT s25 hs2) fl_data) (.cons (.int i) .nil))), okp, rfl, _, rfl, ?_⟩
    rw [same_f]
    refine iteF ?_
    have hs5 := Same.seqT s25 hs2
    have hp5 := hp2.same s25
    have sw := sw.trans (wo_same_of s25)
    clear s24 s25 s5 s3 s4 h1 h2 hp2 hs2 hcc hcc3 ht3
    generalize upd H4 t5 (.tup [V.ref a, .int i]) = H5 at hs5 hp5 sw ⊢
    refine ⟨.ref a, rfl, .ref a, _, rfl, dF hs5, sh_fl ok, fun h => (by rw [fb] at h; cases h), fun f' e' fb' H6 s6 => ?_⟩
    obtain rfl := fl_inj e'
    have hs6 := Same.seqT s6 hs5
    have hp6 := hp5.same s6
    have sw := sw.trans (wo_same_of s6)
    have kp := kind0_page ok
    have pgT : ∀ {A B : Prop}, (f.isPage = true → A) → (¬ f.isPage = true → B) → if decide (V.str (kind0 f) = V.str "page") = true then A else B := fun {A B} x y => by
      by_cases c : f.isPage = true
      · exact iteD (congrArg V.str (kp.mpr c)) (x c)
      · exact iteE (fun z => c (kp.mp (V.str.inj z))) (y c)
    have pgF : ∀ {A B : Prop}, (¬ f.isPage = true → A) → (f.isPage = true → B) → if (!decide (V.str (kind0 f) = V.str "page")) = true then A else B := fun {A B} x y => by
      by_cases c : f.isPage = true
      · rw [decide_eq_true (congrArg V.str (kp.mpr c))]
        exact iteF (y c)
      · rw [decide_eq_false (fun z => c (kp.mp (V.str.inj z)))]
        exact iteT (x c)
    clear hs5 hp5 s6
    -- the two numbers, drawn
    have rest : ∀ σ : L2.St, True := fun _ => trivial
    refine ⟨.ref a, rfl, a, _, 0, .str (kind0 f), rfl, rfl, hs6, fl_at0 f, rfl, _, rfl, pgT (fun c => ?_) (fun c => ?_)⟩
    all_goals
      first
        | rw [if_pos c]
        | rw [if_neg c]
      refine ⟨rfl, _, rfl, ?_⟩
      rw [same_f]
      refine iteF ?_
      refine ⟨.ref p, rfl, by show 6 ≤ sizeLine; decide, fun L1 nL1 => ?_⟩
      have eL1 := hp6.ne nL1
      have u1 := same_upd (o := .lst [V.int 0, .int 1, .int 2, .int 3, .int 65535, .int 2]) nL1
      refine ⟨p, L1, _, _, rfl, SqL.of (wo_at upd_same eL1), by simp, by show 6 ≤ 1000; decide, hp6.same u1, by omega, fun x mx H7 hp7 s7 => ?_⟩
      obtain ⟨x, rfl, x0, x1⟩ : ∃ i : Int, x = .int i ∧ 0 ≤ i ∧ i ≤ 65535 := by
        simp only [List.mem_cons, List.not_mem_nil, or_false] at mx
        rcases mx with rfl | rfl | rfl | rfl | rfl | rfl
        all_goals exact ⟨_, rfl, by decide, by decide⟩
      have sw7 := sw.trans ((wo_same_of u1).trans s7)
      refine ⟨.ref p, rfl, .ref p, rfl, p, 256, _, rfl, by decide, by decide, hp7, by omega, fun d H8 d0 d1 hp8 s8 => ?_⟩
      refine ⟨by show 5 ≤ sizeLine; decide, fun L2_ nL2 => ?_⟩
      have eL2 := hp8.ne nL2
      have u2 := same_upd (o := .lst [V.int 0, .int 255, .int 256, .int 65535, .int d]) nL2
      refine ⟨p, L2_, _, _, rfl, SqL.of (wo_at upd_same eL2), by simp, by show 5 ≤ 1000; decide, hp8.same u2, by omega, fun y my H9 hp9 s9 => ?_⟩
      obtain ⟨y, rfl, y0, y1⟩ : ∃ i : Int, y = .int i ∧ 0 ≤ i ∧ i ≤ 65535 := by
        simp only [List.mem_cons, List.not_mem_nil, or_false] at my
        rcases my with rfl | rfl | rfl | rfl | rfl
        · exact ⟨_, rfl, by decide, by decide⟩
        · exact ⟨_, rfl, by decide, by decide⟩
        · exact ⟨_, rfl, by decide, by decide⟩
        · exact ⟨_, rfl, by decide, by decide⟩
        · exact ⟨_, rfl, by omega, by omega⟩
      have sw9 := (sw7.trans s8).trans ((wo_same_of u2).trans s9)
      have hs9 := Same.seqT wo_le (Same.seqT sw9 hs)
      refine ⟨_, _, rfl, ?_⟩
      dsimp only
      refine seq_val (PV := fun v H' => ∃ t, v = .ref t ∧ SqT K H' t (due1 f x) ∧ Same H9 H') (fun R hR => ?_) (fun v H10 hv => ?_)
      · refine ⟨.ref a, rfl, a, _, 0, .str (kind0 f), rfl, rfl, hs9, fl_at0 f, rfl, _, rfl, ?_⟩
        have again : (f.isPage = true ∨ x = 1) → ∀ z : Addr, H9 z = none → R (.ref z) (upd H9 z (.tup [.str "again"])) := fun h z nz => hR _ _ ⟨z, rfl, by unfold due1; rw [if_pos h]; exact SqT.of upd_same, same_upd nz⟩
        refine pgT (fun c => ⟨by show 1 ≤ sizeLine; decide, fun z nz => again (.inl c) z nz⟩) (fun c => ?_)
        refine ⟨.int x, rfl, rfl, _, rfl, ?_⟩
        by_cases e1 : x = 1
        · exact iteD (congrArg V.int e1) ⟨by show 1 ≤ sizeLine; decide, fun z nz => again (.inr e1) z nz⟩
        · have n1 : ¬ (f.isPage = true ∨ x = 1) := fun h => h.elim c e1
          refine iteE (fun z => e1 (V.int.inj z)) ⟨.int x, rfl, rfl, _, rfl, ?_⟩
          by_cases e0 : x = 0
          · exact iteD (congrArg V.int e0) ⟨by show 1 ≤ sizeLine; decide, fun z nz => hR _ _ ⟨z, rfl, by unfold due1; rw [if_neg n1, if_pos e0]; exact SqT.of upd_same, same_upd nz⟩⟩
          · exact iteE (fun z => e0 (V.int.inj z)) ⟨by show 1 ≤ sizeLine; decide, fun z nz => hR _ _ ⟨z, rfl, by unfold due1; rw [if_neg n1, if_neg e0]; exact SqT.of upd_same, same_upd nz⟩⟩
      · obtain ⟨td, rfl, htd, s10⟩ := hv
        refine ⟨.ref a, rfl, a, _, 0, .str (kind0 f), rfl, rfl, Same.seqT s10 hs9, fl_at0 f, rfl, _, rfl, ?_⟩
        have last : (f.isPage = true ∨ ¬ (x = 2 ∧ y < 256)) → SqT K H10 td (answerV f x y) := fun h => by
          have e := due_last (f := f) (x := x) (y := y) y0 h
          rw [e]
          exact htd
        refine pgF (fun c => ?_) (fun c => ?_)
        · refine ⟨.int x, rfl, rfl, _, rfl, ?_⟩
          by_cases e2 : x = 2
          · refine iteD (congrArg V.int e2) ⟨.int y, rfl, y, 256, rfl, rfl, _, rfl, ?_⟩
            by_cases e3 : y < 256
            · refine iteD e3 ⟨.int y, rfl, by show 2 ≤ sizeLine; decide, fun z nz => ?_⟩
              have s11_ := s10.trans (same_upd (o := .tup [V.str "at", .int y]) nz)
              have hz : SqT K (upd H10 z (.tup [V.str "at", .int y])) z (answerV f x y) := by
                unfold answerV
                rw [if_neg (fun h => h.elim c (fun z => by omega)), if_neg (by omega), if_pos ⟨e2, y0, by omega⟩]
                exact SqT.of upd_same
              refine ⟨.ref a, rfl, .int x, rfl, .int y, rfl, by show 4 ≤ sizeLine; decide, fun t6 nt6 => ?_⟩
              have u6 := same_upd (o := .tup [V.int x, .int y, .int 7, .int 9]) nt6
              have wt6 : wT (.tuple [.int x, .int y, .int 7, .int 9]) = true := wT_of ⟨x0, x1⟩ ⟨y0, y1⟩ ⟨by decide, by decide⟩ ⟨by decide, by decide⟩
              refine ⟨.ref a, .ref t6, .tuple f.ds, .tuple [.int x, .int y, .int 7, .int 9], rfl, dF (Same.seqT (s11_.trans u6) hs9), sh_fl ok, .dp (.tup (SqT.of upd_same) (dpI (ns := [x, y, 7, 9]))), fun h => (by rw [fb] at h; cases h), fun _ h => (by rw [wt6] at h; cases h), fun f' a' b' c' e' ef fb' ed wt H11 t7 s11 h7 => ?_⟩
              obtain rfl := fl_inj ef
              cases ed
              obtain ⟨ad, hda, oka⟩ := answer_data f x y x0 x1 y0 y1
              refine ⟨.ref t7, .tuple ad, rfl, .dp (.tup h7 hda), oka, .ref z, rfl, .ref z, .tuple ad, rfl, .dp (.tup (Same.seqT (u6.trans s11) hz) hda), oka, rfl, ?_⟩
              rw [decide_eq_true rfl]
              exact q H11 ((hp9.same ((s11_.trans u6).trans s11)).mono (by omega)) (sw9.trans (wo_same_of ((s11_.trans u6).trans s11)))
            · refine iteE e3 ?_
              have hz := last (.inr fun h => e3 h.2)
              refine ⟨.ref a, rfl, .int x, rfl, .int y, rfl, by show 4 ≤ sizeLine; decide, fun t6 nt6 => ?_⟩
              have u6 := same_upd (o := .tup [V.int x, .int y, .int 7, .int 9]) nt6
              have wt6 : wT (.tuple [.int x, .int y, .int 7, .int 9]) = true := wT_of ⟨x0, x1⟩ ⟨y0, y1⟩ ⟨by decide, by decide⟩ ⟨by decide, by decide⟩
              refine ⟨.ref a, .ref t6, .tuple f.ds, .tuple [.int x, .int y, .int 7, .int 9], rfl, dF (Same.seqT (s10.trans u6) hs9), sh_fl ok, .dp (.tup (SqT.of upd_same) (dpI (ns := [x, y, 7, 9]))), fun h => (by rw [fb] at h; cases h), fun _ h => (by rw [wt6] at h; cases h), fun f' a' b' c' e' ef fb' ed wt H11 t7 s11 h7 => ?_⟩
              obtain rfl := fl_inj ef
              cases ed
              obtain ⟨ad, hda, oka⟩ := answer_data f x y x0 x1 y0 y1
              refine ⟨.ref t7, .tuple ad, rfl, .dp (.tup h7 hda), oka, .ref td, rfl, .ref td, .tuple ad, rfl, .dp (.tup (Same.seqT (u6.trans s11) hz) hda), oka, rfl, ?_⟩
              rw [decide_eq_true rfl]
              exact q H11 ((hp9.same ((s10.trans u6).trans s11)).mono (by omega)) (sw9.trans (wo_same_of ((s10.trans u6).trans s11)))
          · refine iteE (fun z => e2 (V.int.inj z)) ?_
            have hz := last (.inr fun h => e2 h.1)
            refine ⟨.ref a, rfl, .int x, rfl, .int y, rfl, by show 4 ≤ sizeLine; decide, fun t6 nt6 => ?_⟩
            have u6 := same_upd (o := .tup [V.int x, .int y, .int 7, .int 9]) nt6
            have wt6 : wT (.tuple [.int x, .int y, .int 7, .int 9]) = true := wT_of ⟨x0, x1⟩ ⟨y0, y1⟩ ⟨by decide, by decide⟩ ⟨by decide, by decide⟩
            refine ⟨.ref a, .ref t6, .tuple f.ds, .tuple [.int x, .int y, .int 7, .int 9], rfl, dF (Same.seqT (s10.trans u6) hs9), sh_fl ok, .dp (.tup (SqT.of upd_same) (dpI (ns := [x, y, 7, 9]))), fun h => (by rw [fb] at h; cases h), fun _ h => (by rw [wt6] at h; cases h), fun f' a' b' c' e' ef fb' ed wt H11 t7 s11 h7 => ?_⟩
            obtain rfl := fl_inj ef
            cases ed
            obtain ⟨ad, hda, oka⟩ := answer_data f x y x0 x1 y0 y1
            refine ⟨.ref t7, .tuple ad, rfl, .dp (.tup h7 hda), oka, .ref td, rfl, .ref td, .tuple ad, rfl, .dp (.tup (Same.seqT (u6.trans s11) hz) hda), oka, rfl, ?_⟩
            rw [decide_eq_true rfl]
            exact q H11 ((hp9.same ((s10.trans u6).trans s11)).mono (by omega)) (sw9.trans (wo_same_of ((s10.trans u6).trans s11)))
        · have hz := last (.inl c)
          refine ⟨.ref a, rfl, .int x, rfl, .int y, rfl, by show 4 ≤ sizeLine; decide, fun t6 nt6 => ?_⟩
          have u6 := same_upd (o := .tup [V.int x, .int y, .int 7, .int 9]) nt6
          have wt6 : wT (.tuple [.int x, .int y, .int 7, .int 9]) = true := wT_of ⟨x0, x1⟩ ⟨y0, y1⟩ ⟨by decide, by decide⟩ ⟨by decide, by decide⟩
          refine ⟨.ref a, .ref t6, .tuple f.ds, .tuple [.int x, .int y, .int 7, .int 9], rfl, dF (Same.seqT (s10.trans u6) hs9), sh_fl ok, .dp (.tup (SqT.of upd_same) (dpI (ns := [x, y, 7, 9]))), fun h => (by rw [fb] at h; cases h), fun _ h => (by rw [wt6] at h; cases h), fun f' a' b' c' e' ef fb' ed wt H11 t7 s11 h7 => ?_⟩
          obtain rfl := fl_inj ef
          cases ed
          obtain ⟨ad, hda, oka⟩ := answer_data f x y x0 x1 y0 y1
          refine ⟨.ref t7, .tuple ad, rfl, .dp (.tup h7 hda), oka, .ref td, rfl, .ref td, .tuple ad, rfl, .dp (.tup (Same.seqT (u6.trans s11) hz) hda), oka, rfl, ?_⟩
          rw [decide_eq_true rfl]
          exact q H11 ((hp9.same ((s10.trans u6).trans s11)).mono (by omega)) (sw9.trans (wo_same_of ((s10.trans u6).trans s11)))
end
end K26

set_option maxRecDepth 100000
set_option maxHeartbeats 8000000
/-! k26: words that are told, words that are refused. -/
namespace VG
open PySem PySem.Spec PyProof.Rows L2 LamX
/-- isinstance of a kept error or of None and the like -/
def rIsB (K : PySem.W.Frag) : List V → Hp → VK → Prop := fun xs H Q => rIsErrB K xs H Q ∨ rIsi K xs H Q
theorem call_isB {X : Cx} : CallR X (.builtin "isinstance") (rIsB X.K) := by
  intro pp s σ H x vus Q I r h
  rcases h with h | h
  · exact call_isErrB pp s σ H x vus Q I r h
  · exact call_isi pp s σ H x vus Q I r h
end VG
namespace K26
open PySem PySem.Spec PyProof.Rows L2 LamX VG TL
theorem scValueRight : FnScope ["fault", "value", "due", "caught", "is_bad"] ["fault", "value"] (defScope sValueRight) := ⟨rfl, rfl, rfl, by decide +kernel, rfl, by decide +kernel, by decide +kernel⟩
def lamsV : Stmt → List LamD
  | .Assign _ (.Tuple [_, v] _ _) _ => lamsE v
  | .Assign _ v _ => lamsE v
  | _ => []
def lamValueRight (i : Nat) : LamD := (((defBody sValueRight).map lamsV).flatten).getD i ⟨⟨[], [], none, [], [], none, []⟩, .Constant .none 0 ⟨0, 0, 0, 0⟩, defScope sValueRight⟩
theorem lamValueRight_sc (i : Nat) (h : i < 2) : LamS (defScope sValueRight) (lamValueRight i).scope := by
  match i, h with
  | 0, _ => exact lamS_by (by decide +kernel)
  | 1, _ => exact lamS_by (by decide +kernel)
structure Err1 (K : PySem.W.Frag) (CS C : Addr) : Prop where
  i : IsC K C
  n : PySem.W.findIn K (.ref C) "value" = some none
  x : PySem.W.exmOne K (.ref C) (.ref CS) = some true
theorem ExtP.ext {H H1 H2 : Hp} {p : Addr} (e : ExtP p H H1) (s : ExtN H1 H2) : ExtP p H H2 := fun b o z ne nt => s _ _ (e b o z ne nt) nt
theorem ExtP.wo {H H' : Hp} {p : Addr} (s : Same (wo H p) (wo H' p)) : ExtP p H H' := fun b o e ne _ => wo_le _ _ (s _ _ (wo_at e ne))
section
variable {P : Program} {w : World} {K : PySem.W.Frag} {mg : Str → Option Value} {base : Heap}
def spValueRight (K : PySem.W.Frag) (T : List (Addr × Str)) : Sp := fun vs H Q _ => ∃ (a : Addr) (f : Fl) (v : V) (d : PyData), vs = [.ref a, v] ∧ SqT K H a f.vs ∧ f.ok ∧ faultB (.tuple f.ds) = true ∧ Dk K H v d ∧ okData d = true ∧ Tabs T H ∧ ∀ H', ExtN H H' → Tabs T H' → Q (.bl true) H'
theorem ok_ValueRight {k : Nat} {f : Addr} {fd : FuncData} {CF C3 CS g cc Pt:Addr} {gd:FuncData} {T:List (Addr × Str)} (F : Fun K "_law_is_value_right" "_law_is_value_right" sValueRight f fd) (hcc : fd.code = .ref cc) (TB : TabB base mg cc Pt) (Tm : (Pt, Str.ofString "_law_is_value_right.<locals>." ++ "<lambda>") ∈ T) (T1 : ∀ p ∈ T, p.1 = Pt → p.2 = Str.ofString "_law_is_value_right.<locals>." ++ "<lambda>") (FH : Fun K "_law_heard" "_law_heard" sHeard g gd) (bH : L2.Binds K gd ["call"] []) (gH : mg "_law_heard" = some (.ref g)) (gS : mg "CoreError" = some (.ref CS)) (gTw : Cal P w K mg base CX0 (k + 8) "_law_told_words" ["value"] (spTold K)) (gAw : Cal P w K mg base CX0 (k + 8) "_law_are_words" ["value"] (spAreWords K)) (gFo : Cal P w K mg base (L2.CX P w) (k + 6) "fault_of" ["words"] (spFaultOf K C3)) (gBh : Cal P w K mg base (L2.CX P w) (k + 6) "behind_answer" ["fault", "words"] (spBehind K CF C3)) (gBadWords : mg "BadWords" = some (.ref C3)) (X3 : Err1 K CS C3) (kt3 : PySem.W.kitOne K (.ref C3) (.ref C3) = some true) (kn3 : PySem.W.kitOne K (.type "NoneType") (.ref C3) = some false) (fisinstance : mg "isinstance" = none) (frepr : mg "repr" = none) : FnG P w K mg base (k + 9) f fd ["fault", "value"] (spValueRight K T) := by
  obtain ⟨fTw, fdTw, GTw, kTw, bTw, mTw⟩ := gTw
  obtain ⟨fAw, fdAw, GAw, kAw, bAw, mAw⟩ := gAw
  obtain ⟨fFo, fdFo, GFo, kFo, bFo, mFo⟩ := gFo
  obtain ⟨fBh, fdBh, GBh, kBh, bBh, mBh⟩ := gBh
  refine fnG_code F hcc scValueRight (fun vs H Q E h => ?_) (fun A outer s H vs Q hr gd h => ?_)
  · obtain ⟨a, f, v, d, rfl, _⟩ := h
    rfl
  · have M : LamM (cxOf CX0 P w K mg base ["fault", "value", "due", "caught", "is_bad"] "_law_is_value_right" (defScope sValueRight) f (.ref cc) A outer s H E0).nox T cc Pt := ⟨TB, rfl, Tm, T1⟩
    obtain ⟨a, f, v, d, rfl, hs, ok, fb, hd, od, hT, q⟩ := h
    refine ⟨_, (pss_cons (ps_par (i := 2) (j := 3) (by rfl) scValueRight.nd rfl rfl (by decide) rfl rfl (pa_cons (pe_call GTw hr (by rfl) mTw kTw bTw .nil pass0 (pa_cons (pv 1) pa_nil)) (pa_cons (pe_ix ix_tup (pe_heard (ι := Unit) (D := fun _ => lamValueRight 0) (k := (k+6)) FH bH (by rfl) gH gS hr (pe_lam M (lamValueRight_sc 0 (by omega)) (by rfl)) (fun _ => lamValueRight_sc 0 (by omega)) (fun _ _ _ _ => by rfl) (fun _ A' outer' s' H' E' f' c' hr' => pe_call (X := lamCx _ A' outer' s' H' E' (lamValueRight 0).scope f' c') GFo hr' (by rfl) mFo kFo bFo .nil VG.passL (pa_cons (pv 1) pa_nil))) pe_int (fun _ _ => rfl)) pa_nil)) (by rfl)) (pss_cons (ps_if (PW.pt (pw_and (pt_not (pt_val (pv 2))) (pw_and1 (PW.pt (pw_or (pt_not (pt_val (pe_callB call_isB (by rfl) fisinstance (by decide +kernel) (pa_cons (pv 3) (pa_cons (pgr (by rfl) gBadWords) pa_nil))))) (pw_or1 (pt_cmpR op_ne (pe_callB (call_repr gd hr.units) (by rfl) frepr (by decide +kernel) (pa_cons (pe_errF (pv 3)) pa_nil)) (pe_callB (call_repr gd hr.units) (by rfl) frepr (by decide +kernel) (pa_cons (pv 1) pa_nil)) (nomark _)))))))) (pss_one (ps_ret pe_bl)) pss_nil) (pss_cons (ps_if (PW.pt (pw_and (pt_val (pv 2)) (pw_and1 (pt_cmpR op_notN (pv 3) pe_non (nomark _))))) (pss_one (ps_ret pe_bl)) pss_nil) (pss_cons (ps_set (i := 3) scValueRight.nd rfl (.inl rfl) (pe_ix ix_tup (pe_heard (ι := Unit) (D := fun _ => lamValueRight 1) (k := (k+6)) FH bH (by rfl) gH gS hr (pe_lam M (lamValueRight_sc 1 (by omega)) (by rfl)) (fun _ => lamValueRight_sc 1 (by omega)) (fun _ _ _ _ => by rfl) (fun _ A' outer' s' H' E' f' c' hr' => pe_call (X := lamCx _ A' outer' s' H' E' (lamValueRight 1).scope f' c') GBh hr' (by rfl) mBh kBh bBh .nil VG.passL (pa_cons (pv 0) (pa_cons (pv 1) pa_nil)))) pe_int (fun _ _ => rfl))) (pss_cons (ps_set (i := 4) scValueRight.nd rfl (.inl rfl) (pe_and (pe_callB call_isB (by rfl) fisinstance (by decide +kernel) (pa_cons (pv 3) (pa_cons (pgr (by rfl) gBadWords) pa_nil))) (pe_one (pe_cmpR op_eq (pe_callB (call_repr gd hr.units) (by rfl) frepr (by decide +kernel) (pa_cons (pe_errF (pv 3)) pa_nil)) (pe_callB (call_repr gd hr.units) (by rfl) frepr (by decide +kernel) (pa_cons (pv 1) pa_nil)) (nomark _))))) (pss_one (ps_ret (pe_cmpR op_ne (pv 4) (pe_call GAw hr (by rfl) mAw kAw bAw .nil pass0 (pa_cons (pv 1) pa_nil)) (nomark _))))))))), ?_⟩
    refine ⟨v, rfl, v, d, rfl, hd, fun H1 s1 => ?_⟩
    have hT1 := hT.ext s1
    refine ⟨hT1, fun f0 F0 e0 t0 l0 nf0 => ⟨(), f0, rfl, l0, fun H5 s5 E' Q' hE hB => ?_⟩⟩
    have e5 := (ExtN.of s1).trans (e0.trans (ExtN.of s5))
    have t5 := t0.ext s5
    have hd5 := dk_extN hd e5
    refine ⟨v, rfl, v, d, rfl, hd5, fun ew H6 dd s6 nd => hE _ _ _ ⟨X3.x, C3, dd, rfl, rfl, fun ea pt nea npt => ?_⟩, fun c n i r f' ed ew wb H6 t1 t2 s6 h1 h2 => hB _ _ fun pt npt => ?_⟩
    · clear hE hB
      have sd := same_upd (o := .xd [("value", v)]) nd
      have se := same_upd (o := ErrO C3 dd ea) nea
      have sp := same_upd (o := .tup [V.ref ea, .non]) npt
      have herr := sp _ _ (upd_same (H := upd H6 dd (.xd [("value", v)])) (a := ea) (o := ErrO C3 dd ea))
      have hdd := (se.trans sp) _ _ (upd_same (H := H6) (a := dd) (o := .xd [("value", v)]))
      have hpt : upd (upd (upd H6 dd (.xd [("value", v)])) ea (ErrO C3 dd ea)) pt (.tup [V.ref ea, .non]) pt = some (.tup [V.ref ea, .non]) := upd_same
      have s11 := s6.trans ((sd.trans se).trans sp)
      generalize upd (upd (upd H6 dd (.xd [("value", v)])) ea (ErrO C3 dd ea)) pt (.tup [V.ref ea, .non]) = H7 at herr hdd hpt s11 ⊢
      have e7 := e5.trans (ExtN.of s11)
      have t7 := t5.ext s11
      refine ⟨pt, _, _, .ref ea, rfl, rfl, SqT.of hpt, at0, ?_⟩
      refine ⟨_, _, rfl, ?_⟩
      dsimp only
      rw [ew]
      refine ⟨.bl false, rfl, _, rfl, iteT ⟨.ref ea, rfl, .inl ⟨ea, C3, C3, dd, _, true, rfl, herr, hdd, X3.i, kt3, _, rfl, iteF ?_⟩⟩⟩
      refine ⟨.ref ea, rfl, ea, C3, dd, [("value", v)], v, rfl, herr, X3.i.f, X3.n, hdd, rfl, v, d, rfl, dk_extN hd e7, od, v, rfl, v, d, rfl, dk_extN hd e7, od, rfl, _, rfl, ?_⟩
      rw [same_f]
      refine iteF ⟨.bl false, rfl, _, rfl, iteF ?_⟩
      have hs7 := sqT_extN hs e7
      have hd7 := dk_extN hd e7
      refine ⟨t7, fun f1 F1 e1 u1 l1 nf1 => ⟨(), f1, rfl, l1, fun H8 s8 E2 Q2 hE2 hB2 => ?_⟩⟩
      have e8 := e7.trans (e1.trans (ExtN.of s8))
      have t8 := u1.ext s8
      refine ⟨.ref a, rfl, v, rfl, .ref a, v, .tuple f.ds, d, rfl, .dp (.tup (sqT_extN hs e8) fl_data), sh_fl ok, dk_extN hd e8, fun h => (by rw [fb] at h; cases h), fun _ ew2 H9 dd2 s9 nd2 => hE2 _ _ _ ⟨X3.x, C3, dd2, rfl, rfl, fun ea2 pt2 nea2 npt2 => ?_⟩, fun f' x1 x2 x3 x4 ef2 fb2 ed2 wt2 H9 t9 s9 h9 => hB2 _ _ fun pt2 npt2 => ?_⟩
      · clear hE2 hB2
        have sd := same_upd (o := .xd [("value", v)]) nd2
        have se := same_upd (o := ErrO C3 dd2 ea2) nea2
        have sp := same_upd (o := .tup [V.ref ea2, .non]) npt2
        have herr := sp _ _ (upd_same (H := upd H9 dd2 (.xd [("value", v)])) (a := ea2) (o := ErrO C3 dd2 ea2))
        have hdd2 := (se.trans sp) _ _ (upd_same (H := H9) (a := dd2) (o := .xd [("value", v)]))
        have hpt : upd (upd (upd H9 dd2 (.xd [("value", v)])) ea2 (ErrO C3 dd2 ea2)) pt2 (.tup [V.ref ea2, .non]) pt2 = some (.tup [V.ref ea2, .non]) := upd_same
        have s11 := s9.trans ((sd.trans se).trans sp)
        generalize upd (upd (upd H9 dd2 (.xd [("value", v)])) ea2 (ErrO C3 dd2 ea2)) pt2 (.tup [V.ref ea2, .non]) = Hx at herr hdd2 hpt s11 ⊢
        have e10 := e8.trans (ExtN.of s11)
        have t10 := t8.ext s11
        refine ⟨pt2, _, _, .ref ea2, rfl, rfl, SqT.of hpt, at0, ?_⟩
        refine ⟨.ref ea2, rfl, .inl ⟨ea2, C3, C3, dd2, _, true, rfl, herr, hdd2, X3.i, kt3, _, rfl, iteT ?_⟩⟩
        refine ⟨.ref ea2, rfl, ea2, C3, dd2, [("value", v)], v, rfl, herr, X3.i.f, X3.n, hdd2, rfl, v, d, rfl, dk_extN hd e10, od, v, rfl, v, d, rfl, dk_extN hd e10, od, rfl, ?_⟩
        rw [decide_eq_true rfl]
        refine ⟨_, rfl, v, rfl, v, d, rfl, dk_extN hd e10, fun H11 s11' => ⟨rfl, ?_⟩⟩
        rw [ew2]
        exact q _ (e10.trans (ExtN.of s11')) (t10.ext s11')
      · clear hE2 hB2
        have sp := same_upd (o := .tup [V.non, .ref t9]) npt2
        have hpt : upd H9 pt2 (.tup [V.non, .ref t9]) pt2 = some (.tup [V.non, .ref t9]) := upd_same
        have s11 := s9.trans sp
        generalize upd H9 pt2 (.tup [V.non, .ref t9]) = Hx at hpt s11 ⊢
        have e10 := e8.trans (ExtN.of s11)
        have t10 := t8.ext s11
        refine ⟨pt2, _, _, .non, rfl, rfl, SqT.of hpt, at0, ?_⟩
        refine ⟨.non, rfl, .inr ⟨.non, .ref C3, .type "NoneType", .ref C3, false, rfl, .own C3, .base .non, kn3, _, rfl, iteF ?_⟩⟩
        refine ⟨_, rfl, v, rfl, v, d, rfl, dk_extN hd e10, fun H11 s11' => ⟨rfl, ?_⟩⟩
        rw [wt2]
        exact q _ (e10.trans (ExtN.of s11')) (t10.ext s11')
    · clear hE hB
      have sp := same_upd (o := .tup [V.non, .ref t2]) npt
      have hpt : upd H6 pt (.tup [V.non, .ref t2]) pt = some (.tup [V.non, .ref t2]) := upd_same
      have s11 := s6.trans sp
      generalize upd H6 pt (.tup [V.non, .ref t2]) = H7 at hpt s11 ⊢
      have e7 := e5.trans (ExtN.of s11)
      have t7 := t5.ext s11
      refine ⟨pt, _, _, .non, rfl, rfl, SqT.of hpt, at0, ?_⟩
      refine ⟨_, _, rfl, ?_⟩
      dsimp only
      rw [wb]
      refine ⟨.bl true, rfl, _, rfl, iteF ?_⟩
      refine ⟨.bl true, rfl, _, rfl, iteT ⟨.non, rfl, rfl, _, rfl, iteF ?_⟩⟩
      have hs7 := sqT_extN hs e7
      have hd7 := dk_extN hd e7
      refine ⟨t7, fun f1 F1 e1 u1 l1 nf1 => ⟨(), f1, rfl, l1, fun H8 s8 E2 Q2 hE2 hB2 => ?_⟩⟩
      have e8 := e7.trans (e1.trans (ExtN.of s8))
      have t8 := u1.ext s8
      refine ⟨.ref a, rfl, v, rfl, .ref a, v, .tuple f.ds, d, rfl, .dp (.tup (sqT_extN hs e8) fl_data), sh_fl ok, dk_extN hd e8, fun h => (by rw [fb] at h; cases h), fun _ ew2 H9 dd2 s9 nd2 => hE2 _ _ _ ⟨X3.x, C3, dd2, rfl, rfl, fun ea2 pt2 nea2 npt2 => ?_⟩, fun f' x1 x2 x3 x4 ef2 fb2 ed2 wt2 H9 t9 s9 h9 => hB2 _ _ fun pt2 npt2 => ?_⟩
      · clear hE2 hB2
        have sd := same_upd (o := .xd [("value", v)]) nd2
        have se := same_upd (o := ErrO C3 dd2 ea2) nea2
        have sp := same_upd (o := .tup [V.ref ea2, .non]) npt2
        have herr := sp _ _ (upd_same (H := upd H9 dd2 (.xd [("value", v)])) (a := ea2) (o := ErrO C3 dd2 ea2))
        have hdd2 := (se.trans sp) _ _ (upd_same (H := H9) (a := dd2) (o := .xd [("value", v)]))
        have hpt : upd (upd (upd H9 dd2 (.xd [("value", v)])) ea2 (ErrO C3 dd2 ea2)) pt2 (.tup [V.ref ea2, .non]) pt2 = some (.tup [V.ref ea2, .non]) := upd_same
        have s11 := s9.trans ((sd.trans se).trans sp)
        generalize upd (upd (upd H9 dd2 (.xd [("value", v)])) ea2 (ErrO C3 dd2 ea2)) pt2 (.tup [V.ref ea2, .non]) = Hx at herr hdd2 hpt s11 ⊢
        have e10 := e8.trans (ExtN.of s11)
        have t10 := t8.ext s11
        refine ⟨pt2, _, _, .ref ea2, rfl, rfl, SqT.of hpt, at0, ?_⟩
        refine ⟨.ref ea2, rfl, .inl ⟨ea2, C3, C3, dd2, _, true, rfl, herr, hdd2, X3.i, kt3, _, rfl, iteT ?_⟩⟩
        refine ⟨.ref ea2, rfl, ea2, C3, dd2, [("value", v)], v, rfl, herr, X3.i.f, X3.n, hdd2, rfl, v, d, rfl, dk_extN hd e10, od, v, rfl, v, d, rfl, dk_extN hd e10, od, rfl, ?_⟩
        rw [decide_eq_true rfl]
        refine ⟨_, rfl, v, rfl, v, d, rfl, dk_extN hd e10, fun H11 s11' => ⟨rfl, ?_⟩⟩
        rw [ew2]
        exact q _ (e10.trans (ExtN.of s11')) (t10.ext s11')
      · clear hE2 hB2
        have sp := same_upd (o := .tup [V.non, .ref t9]) npt2
        have hpt : upd H9 pt2 (.tup [V.non, .ref t9]) pt2 = some (.tup [V.non, .ref t9]) := upd_same
        have s11 := s9.trans sp
        generalize upd H9 pt2 (.tup [V.non, .ref t9]) = Hx at hpt s11 ⊢
        have e10 := e8.trans (ExtN.of s11)
        have t10 := t8.ext s11
        refine ⟨pt2, _, _, .non, rfl, rfl, SqT.of hpt, at0, ?_⟩
        refine ⟨.non, rfl, .inr ⟨.non, .ref C3, .type "NoneType", .ref C3, false, rfl, .own C3, .base .non, kn3, _, rfl, iteF ?_⟩⟩
        refine ⟨_, rfl, v, rfl, v, d, rfl, dk_extN hd e10, fun H11 s11' => ⟨rfl, ?_⟩⟩
        rw [wt2]
        exact q _ (e10.trans (ExtN.of s11')) (t10.ext s11')
def spRefusals (K : PySem.W.Frag) (T : List (Addr × Str)) : Sp := fun vs H Q _ => ∃ (p : Addr) (n : Nat), vs = [.ref p] ∧ Pot H p n ∧ n + 400 < 1000000 ∧ Tabs T H ∧ ∀ H', Pot H' p (n + 400) → ExtP p H H' → Tabs T H' → Q (.bl true) H'
def spValues (K : PySem.W.Frag) (T : List (Addr × Str)) : Sp := fun vs H Q _ => ∃ (p a : Addr) (n : Nat) (f : Fl) (i : Int), vs = [.ref p, .ref a, .int i] ∧ SqT K (wo H p) a f.vs ∧ f.ok ∧ faultB (.tuple f.ds) = true ∧ 0 ≤ i ∧ i ≤ 255 ∧ comes f i = true ∧ Pot H p n ∧ n + 400 < 1000000 ∧ Tabs T H ∧ ∀ H', Pot H' p (n + 400) → ExtP p H H' → Tabs T H' → Q (.bl true) H'
def spRight (K : PySem.W.Frag) (T : List (Addr × Str)) : Sp := fun vs H Q _ => ∃ p : Addr, vs = [.ref p] ∧ Pot H p 0 ∧ Tabs T H ∧ ∀ H', ExtP p H H' → Tabs T H' → Q (.bl true) H'
end
end K26

set_option maxRecDepth 100000
set_option maxHeartbeats 8000000
/-! k26: accesses that are refused, and letters, and accesses that are none. -/
namespace K26
open PySem PySem.Spec PyProof.Rows L2 LamX VG TL
theorem scRefusals : FnScope ["pot", "letters", "page", "accesses", "due", "address", "letter", "value", "caught", "is_bad"] ["pot"] (defScope sRefusals) := ⟨rfl, rfl, rfl, by decide +kernel, rfl, by decide +kernel, by decide +kernel⟩
theorem accD_inj : ∀ {as bs : List (Int × Str)}, as.map accD = bs.map accD → as = bs
  | [], [], _ => rfl
  | [], _ :: _, h => by cases h
  | _ :: _, [], h => by cases h
  | (a, b) :: as, (c, d) :: bs, h => by
    rw [List.map_cons, List.map_cons] at h
    obtain ⟨h1, h2⟩ := List.cons.inj h
    cases h1
    rw [accD_inj h2]
/-- the accesses that are not let -/
def refL (ls : List Str) : List (Int × Str) → List (Str × Int)
  | [] => []
  | (a, l) :: r => if l.cps.toList.all (fun c => decide (c ∈ (ls.getD (a / 16).toNat "").cps.toList)) = true then refL ls r else (l, a) :: refL ls r
theorem refL_head {ls : List Str} : ∀ {as : List (Int × Str)}, refused ls as = (refL ls as).head?
  | [] => rfl
  | (a, l) :: r => by
    unfold refused refL
    split
    · exact refL_head
    · rfl
/-- what is due stands there -/
def DueAt (K : PySem.W.Frag) (H : Hp) (Du : Addr) : List Addr → List (Str × Int) → Prop
  | [], [] => True
  | t :: ts, (l, a) :: r => SqT K H t [.str "page", .str l, .int a] ∧ DueAt K H Du ts r
  | _, _ => False
theorem DueAt.mono {K : PySem.W.Frag} {H H2 : Hp} {Du : Addr} (f : ∀ t xs, SqT K H t xs → SqT K H2 t xs) : ∀ {rs : List Addr} {L : List (Str × Int)}, DueAt K H Du rs L → DueAt K H2 Du rs L
  | [], [], _ => trivial
  | t :: ts, (l, a) :: r, h => ⟨f _ _ h.1, DueAt.mono f h.2⟩
theorem DueAt.app {K : PySem.W.Frag} {H : Hp} {Du t : Addr} {l : Str} {a : Int} (ht : SqT K H t [.str "page", .str l, .int a]) : ∀ {rs : List Addr} {L : List (Str × Int)}, DueAt K H Du rs L → DueAt K H Du (rs ++ [t]) (L ++ [(l, a)])
  | [], [], _ => ⟨ht, trivial⟩
  | _ :: _, (_, _) :: _, h => ⟨h.1, DueAt.app ht h.2⟩
theorem refL_cons {ls : List Str} {a : Int} {l : Str} {r : List (Int × Str)} : refL ls ((a, l) :: r) = if l.cps.toList.all (fun c => decide (c ∈ (ls.getD (a / 16).toNat "").cps.toList)) = true then refL ls r else (l, a) :: refL ls r := rfl
theorem refL_app {ls : List Str} {bs : List (Int × Str)} : ∀ {as : List (Int × Str)}, refL ls (as ++ bs) = refL ls as ++ refL ls bs
  | [] => rfl
  | (a, l) :: r => by
    rw [List.cons_append, refL_cons, refL_cons]
    split
    · exact refL_app
    · rw [refL_app]
      rfl
theorem strs_inj : ∀ {as bs : List Str}, as.map PyData.str = bs.map PyData.str → as = bs
  | [], [], _ => rfl
  | [], _ :: _, h => by cases h
  | _ :: _, [], h => by cases h
  | a :: as, b :: bs, h => by
    rw [List.map_cons, List.map_cons] at h
    obtain ⟨h1, h2⟩ := List.cons.inj h
    cases h1
    rw [strs_inj h2]
theorem all8_okM {z : Str} (h : z ∈ all8) : okM 0 50 (.str z) := by
  simp only [all8, List.mem_cons, List.not_mem_nil, or_false] at h
  rcases h with rfl | rfl | rfl | rfl | rfl | rfl | rfl | rfl <;> exact okM_lit (by decide)
theorem acc_okM {p : Int × Str} (h : AccOk p) : okM 1 918 (accD p) := okM.tup (k := 0) (m := 50) (fun d hd => by
  obtain ⟨h0, h1, h2⟩ := h
  simp only [List.mem_cons, List.not_mem_nil, or_false] at hd
  rcases hd with rfl | rfl
  · exact okM.int (by omega) (by omega)
  · exact lets_okM h2) (by show 2 ≤ 18; decide)
def dueD (p : Str × Int) : PyData := .tuple [.str "page", .str p.1, .int p.2]
theorem due_okM {p : Str × Int} (h : p.1 ∈ lets3 ∧ 0 ≤ p.2 ∧ p.2 ≤ 255) : okM 1 918 (dueD p) := okM.tup (k := 0) (m := 50) (fun d hd => by
  obtain ⟨h0, h1, h2⟩ := h
  simp only [List.mem_cons, List.not_mem_nil, or_false] at hd
  rcases hd with rfl | rfl | rfl
  · exact okM_lit (by decide)
  · exact lets_okM h0
  · exact okM.int (by omega) (by omega)) (by show 3 ≤ 18; decide)
theorem refL_ok {ls : List Str} : ∀ {as : List (Int × Str)}, (∀ p ∈ as, AccOk p) → ∀ e ∈ refL ls as, e.1 ∈ lets3 ∧ 0 ≤ e.2 ∧ e.2 ≤ 255
  | [], _, e, he => by cases he
  | (a, l) :: r, h, e, he => by
    have ih := refL_ok (ls := ls) (as := r) fun p hp => h p (List.mem_cons_of_mem _ hp)
    rw [refL_cons] at he
    split at he
    · exact ih e he
    · rcases List.mem_cons.mp he with rfl | he
      · obtain ⟨x, y, z⟩ := h _ (List.mem_cons_self ..)
        exact ⟨z, x, y⟩
      · exact ih e he
theorem refL_len {ls : List Str} : ∀ {as : List (Int × Str)}, (refL ls as).length ≤ as.length
  | [] => Nat.le_refl _
  | (a, l) :: r => by
    rw [refL_cons]
    have ih := refL_len (ls := ls) (as := r)
    split
    · rw [List.length_cons]; omega
    · rw [List.length_cons, List.length_cons]; omega
theorem dueAt_data {K : PySem.W.Frag} {H : Hp} {Du : Addr} : ∀ {rs : List Addr} {L : List (Str × Int)}, DueAt K H Du rs L → DpAll K H (rs.map V.ref) (L.map dueD)
  | [], [], _ => .nil
  | _ :: _, (_, _) :: _, h => .cons (.tup h.1 (.cons (.str _) (.cons (.str _) (.cons (.int _) .nil)))) (dueAt_data h.2)
structure FitL (K : PySem.W.Frag) (H : Hp) (La : Addr) (ls : List Str) : Prop where
  t : SqT K H La (ls.map V.str)
theorem FitL.same {K : PySem.W.Frag} {H H' : Hp} {a : Addr} {ls : List Str} (h : FitL K H a ls) (s : Same H H') : FitL K H' a ls := ⟨Same.seqT s h.t⟩
structure FitA (K : PySem.W.Frag) (H : Hp) (Ac : Addr) (acs : List (Int × Str)) : Prop where
  t : Dp K H (.ref Ac) (.tuple (acs.map accD))
theorem FitA.same {K : PySem.W.Frag} {H H' : Hp} {a : Addr} {ls : List (Int × Str)} (h : FitA K H a ls) (s : Same H H') : FitA K H' a ls := ⟨dp_same s _ _ h.t⟩
/-- of a kind that can be shown -/
def FitQ (K : PySem.W.Frag) (H : Hp) (x : V) : Prop := ∃ d, Dq K H x d ∧ okQ d = true
theorem FitQ.same {K : PySem.W.Frag} {H H' : Hp} {x : V} (h : FitQ K H x) (s : Same H H') : FitQ K H' x := by
  obtain ⟨d, a, b⟩ := h
  exact ⟨d, a.same s, b⟩
theorem str_dps {K : PySem.W.Frag} {H : Hp} {l : List Str} : DpAll K H (l.map V.str) (l.map .str) := by
  induction l with
  | nil => exact .nil
  | cons z l ih => exact .cons (.str z) ih
theorem fitq_tup {K : PySem.W.Frag} {H : Hp} {c : Addr} {l : List Str} (h : SqT K H c (l.map V.str)) (hz : ∀ z ∈ l, okM 0 50 (.str z)) (hl : l.length ≤ 18) : FitQ K H (.ref c) := by
  have ok : okData (.tuple (l.map .str)) = true := okM_data (okM.tup (k := 0) (m := 50) (fun d hd => by
    obtain ⟨z, h, rfl⟩ := List.mem_map.mp hd
    exact hz z h) (by rw [List.length_map]; exact hl)) (by decide) (by decide)
  exact ⟨_, .dk (.dp (.tup h str_dps)) ok, okData_q ok⟩
theorem fitq_lst {K : PySem.W.Frag} {H : Hp} {c : Addr} {l : List Str} (h : SqL K H c (l.map V.str)) (hz : ∀ z ∈ l, z ∈ all8) (hl : l.length = 16) : FitQ K H (.ref c) := by
  have ok : okData (.list (l.map .str)) = true := okM_data (okM.lst (k := 0) (m := 50) (fun d hd => by
    obtain ⟨z, h, rfl⟩ := List.mem_map.mp hd
    exact all8_okM (hz z h)) (by rw [List.length_map]; omega)) (by decide) (by decide)
  exact ⟨_, .dk (.dp (.lst h str_dps)) ok, okData_q ok⟩
theorem all8_RText {z : Str} (h : z ∈ all8) : RText z := by
  simp only [all8, List.mem_cons, List.not_mem_nil, or_false] at h
  rcases h with rfl | rfl | rfl | rfl | rfl | rfl | rfl | rfl
  all_goals exact ⟨⟨by decide, str_chars _⟩, ⟨by decide +kernel, by decide +kernel⟩, shaped_lit _⟩
theorem dq_extN {K : PySem.W.Frag} {H H' : Hp} {v : V} {d : PyData} (h : Dq K H v d) (e : ExtN H H') : Dq K H' v d := by
  cases h with
  | dk h o => exact .dk (dk_extN h e) o
  | one h1 h2 o c => exact .one (sqT_extN h1 e) (dk_extN h2 e) o c
theorem pot_extN {H H' : Hp} {p : Addr} {n : Nat} (h : Pot H p n) (e : ExtN H H') : Pot H' p n := by
  obtain ⟨a, b, c, h1, r⟩ := h
  exact ⟨a, b, c, e _ _ h1 (fun ps z => by cases z), r⟩
theorem extN_wo {H H' : Hp} {p : Addr} (e : ExtN H H') : ExtN (wo H p) (wo H' p) := fun b o h nt => by
  have nb : b ≠ p := fun z => by rw [z, wo_same] at h; cases h
  exact wo_at (e b o (wo_le _ _ h) nt) nb
theorem FitL.ext {K : PySem.W.Frag} {H H' : Hp} {a : Addr} {ls : List Str} (h : FitL K H a ls) (s : ExtN H H') : FitL K H' a ls := ⟨sqT_extN h.t s⟩
structure FitX (K : PySem.W.Frag) (H : Hp) (Ac : Addr) (xs : List V) (acs : List (Int × Str)) : Prop where
  t : SqT K H Ac xs
  d : DpAll K H xs (acs.map accD)
theorem FitX.same {K : PySem.W.Frag} {H H' : Hp} {a : Addr} {xs : List V} {ls : List (Int × Str)} (h : FitX K H a xs ls) (s : Same H H') : FitX K H' a xs ls := ⟨Same.seqT s h.t, dpAll_same s _ _ h.d⟩
theorem FitX.len {K : PySem.W.Frag} {H : Hp} {a : Addr} {xs : List V} {ls : List (Int × Str)} (h : FitX K H a xs ls) : xs.length = ls.length := by
  have := dpAll_len h.d
  rwa [List.length_map] at this
theorem acc_sub {K : PySem.W.Frag} {H : Hp} {xs : List V} {acs : List (Int × Str)} (hd : DpAll K H xs (acs.map accD)) (ho : ∀ p ∈ acs, AccOk p) : ∀ {ys : List V}, (∀ y ∈ ys, y ∈ xs) → ∃ ds, DpAll K H ys ds ∧ (∀ d ∈ ds, okM 1 918 d) ∧ ds.length = ys.length
  | [], _ => ⟨[], .nil, fun d h => (by cases h), rfl⟩
  | y :: ys, h => by
    obtain ⟨ds, h1, h2, h3⟩ := acc_sub hd ho (ys := ys) fun z hz => h z (List.mem_cons_of_mem _ hz)
    obtain ⟨i, hi, e⟩ := List.mem_iff_getElem.mp (h y (List.mem_cons_self ..))
    have hl := dpAll_len hd
    rw [List.length_map] at hl
    have hy := dpAll_get hd (i := i) (by rw [List.getElem?_eq_getElem hi, e])
    rw [List.getD_eq_getElem?_getD, List.getElem?_map, List.getElem?_eq_getElem (by omega)] at hy
    refine ⟨accD (acs[i]'(by omega)) :: ds, .cons hy h1, fun d hd => ?_, by rw [List.length_cons, List.length_cons, h3]⟩
    rcases List.mem_cons.mp hd with rfl | hd
    · exact acc_okM (ho _ (List.getElem_mem _))
    · exact h2 d hd
theorem acc_fit {K : PySem.W.Frag} {H : Hp} {c : Addr} {xs ys : List V} {acs : List (Int × Str)} (h : SqT K H c ys) (hd : DpAll K H xs (acs.map accD)) (ho : ∀ p ∈ acs, AccOk p) (hi : ∀ y ∈ ys, y ∈ xs) (hl : ys.length ≤ 18) : Fit K H (.ref c) := by
  obtain ⟨ds, h1, h2, h3⟩ := acc_sub hd ho hi
  exact ⟨_, .dp (.tup h h1), okM_data (okM.tup h2 (by omega)) (by decide) (by decide)⟩
theorem acc_fitL {K : PySem.W.Frag} {H : Hp} {c : Addr} {xs : List V} {acs : List (Int × Str)} (h : SqL K H c xs) (hd : DpAll K H xs (acs.map accD)) (ho : ∀ p ∈ acs, AccOk p) (hl : xs.length ≤ 18) : Fit K H (.ref c) := by
  obtain ⟨ds, h1, h2, h3⟩ := acc_sub hd ho (ys := xs) fun y hy => hy
  exact ⟨_, .dp (.lst h h1), okM_data (okM.lst h2 (by omega)) (by decide) (by decide)⟩
theorem acc_bd {acs : List (Int × Str)} (ho : ∀ p ∈ acs, AccOk p) (h1 : 1 ≤ acs.length) (h2 : acs.length ≤ 2) : BD 2 (.tuple (acs.map accD)) := by
  refine .tup (fun e => ?_) (by rw [List.length_map]; omega) fun d hd => ?_
  · have := congrArg List.length e
    rw [List.length_map] at this
    simp at this
    rw [this] at h1
    exact absurd h1 (by decide)
  · obtain ⟨p, hp, rfl⟩ := List.mem_map.mp hd
    obtain ⟨a0, a1, a2⟩ := ho p hp
    refine .tup (by simp) (by show 2 ≤ 16; decide) fun d hd => ?_
    simp only [List.mem_cons, List.not_mem_nil, or_false] at hd
    rcases hd with rfl | rfl
    · exact .int (by omega) (by omega)
    · simp only [lets3, List.mem_cons, List.not_mem_nil, or_false] at a2
      rcases a2 with e | e | e <;> rw [e]
      all_goals exact .str ⟨by decide, str_chars _⟩ ⟨by decide +kernel, by decide +kernel⟩ (by decide)
theorem ExtP.trans2 {H H1 H2 : Hp} {p : Addr} (e : ExtP p H H1) (s : ExtP p H1 H2) : ExtP p H H2 := fun b o z ne nt => s b o (e b o z ne nt) ne nt
theorem seq_cut {a rest : TS} {D : Ends} {σ : L2.St} {H : Hp} (PS : L2.St → Hp → Prop) (h : ∀ N : L2.St → Hp → Prop, (∀ σ' H', PS σ' H' → N σ' H') → a { D with nx := N } σ H) (q : ∀ σ' H', PS σ' H' → rest D σ' H') : tSeq a rest D σ H := h _ q
def lamsF : Stmt → List LamD
  | .For _ _ b _ _ => (b.map lamsV).flatten
  | _ => []
section
variable {P : Program} {w : World} {K : PySem.W.Frag} {mg : Str → Option Value} {base : Heap}
/-- what is bent: rights, or what BD tells -/
def spBentJ (K : PySem.W.Frag) : Sp := fun vs H Q E => spBentL K vs H Q E ∨ spBent K 2 vs H Q E
theorem ok_BentJ {k : Nat} {f : Addr} {fd : FuncData} {ps : List Str} (G0 : FnOk P w K mg base CX0 k f fd ps (spBentL K)) (GN : FnOk P w K mg base CX0 k f fd ps (spBent K 2)) : FnOk P w K mg base CX0 k f fd ps (spBentJ K) :=
  ⟨fun vs H Q E h => h.elim (G0.len vs H Q E) (GN.len vs H Q E), fun A outer s H args us vs Q E hr e0 hb r h => h.elim (G0.run A outer s H args us vs Q E hr e0 hb r) (GN.run A outer s H args us vs Q E hr e0 hb r)⟩
def lamRefusals (i : Nat) : LamD := (((defBody sRefusals).map lamsF).flatten).getD i ⟨⟨[], [], none, [], [], none, []⟩, .Constant .none 0 ⟨0, 0, 0, 0⟩, defScope sRefusals⟩
theorem lamRefusals_sc (i : Nat) (h : i < 2) : LamS (defScope sRefusals) (lamRefusals i).scope := by
  match i, h with
  | 0, _ => exact lamS_by (by decide +kernel)
  | 1, _ => exact lamS_by (by decide +kernel)
theorem ok_Refusals {k : Nat} {f : Addr} {fd : FuncData} {CL CA CS g cc Pt:Addr} {gd:FuncData} {T:List (Addr × Str)} (F : Fun K "_law_are_refusals_right" "_law_are_refusals_right" sRefusals f fd) (hcc : fd.code = .ref cc) (TB : TabB base mg cc Pt) (Tm : (Pt, Str.ofString "_law_are_refusals_right.<locals>." ++ "<lambda>") ∈ T) (T1 : ∀ p ∈ T, p.1 = Pt → p.2 = Str.ofString "_law_are_refusals_right.<locals>." ++ "<lambda>") (FH : Fun K "_law_heard" "_law_heard" sHeard g gd) (bH : L2.Binds K gd ["call"] []) (gH : mg "_law_heard" = some (.ref g)) (gS : mg "CoreError" = some (.ref CS)) (gOf : Cal P w K mg base CX0 (k + 9) "_law_of" ["pot", "some"] (spOf K)) (gTa : Cal P w K mg base CX0 (k + 9) "_law_take" ["pot", "upto"] spTake) (gAl : Cal P w K mg base CX0 (k + 9) "_law_all_letters" [] (spAll K)) (gFrD : Cal P w K mg base (L2.CX P w) (k + 9) "first_refused" ["letters", "accesses"] (spFirst K CL CA)) (gLt : Cal P w K mg base CX0 (k + 9) "_law_are_letters" ["value"] (spAreLetters K)) (gLc : Cal P w K mg base CX0 (k + 9) "_law_are_accesses" ["value"] (spAreAccs K)) (gBeJ : Cal P w K mg base CX0 (k + 9) "_law_bent" ["pot", "value"] (spBentJ K)) (gOd : Cal P w K mg base CX0 (k + 9) "_law_odd" ["pot"] (spOdd K)) (gFr : Cal P w K mg base (L2.CX P w) (k + 7) "first_refused" ["letters", "accesses"] (spFirst K CL CA)) (gBadLetters : mg "BadLetters" = some (.ref CL)) (gBadAccesses : mg "BadAccesses" = some (.ref CA)) (XL : Err1 K CS CL) (XA : Err1 K CS CA) (kLL : PySem.W.kitOne K (.ref CL) (.ref CL) = some true) (kAA : PySem.W.kitOne K (.ref CA) (.ref CA) = some true) (kLA : PySem.W.kitOne K (.ref CL) (.ref CA) = some false) (kNA : PySem.W.kitOne K (.type "NoneType") (.ref CA) = some false) (fisinstance : mg "isinstance" = none) (flist : mg "list" = none) (frange : mg "range" = none) (frepr : mg "repr" = none) (ftuple : mg "tuple" = none) : FnG P w K mg base (k + 10) f fd ["pot"] (spRefusals K T) := by
  obtain ⟨fOf, fdOf, GOf, kOf, bOf, mOf⟩ := gOf
  obtain ⟨fTa, fdTa, GTa, kTa, bTa, mTa⟩ := gTa
  obtain ⟨fAl, fdAl, GAl, kAl, bAl, mAl⟩ := gAl
  obtain ⟨fFrD, fdFrD, GFrD, kFrD, bFrD, mFrD⟩ := gFrD
  obtain ⟨fLt, fdLt, GLt, kLt, bLt, mLt⟩ := gLt
  obtain ⟨fLc, fdLc, GLc, kLc, bLc, mLc⟩ := gLc
  obtain ⟨fBeJ, fdBeJ, GBeJ, kBeJ, bBeJ, mBeJ⟩ := gBeJ
  obtain ⟨fOd, fdOd, GOd, kOd, bOd, mOd⟩ := gOd
  obtain ⟨fFr, fdFr, GFr, kFr, bFr, mFr⟩ := gFr
  refine fnG_code F hcc scRefusals (fun vs H Q E h => ?_) (fun A outer s H vs Q hr gd h => ?_)
  · obtain ⟨p, n, rfl, _⟩ := h
    rfl
  · have M : LamM (cxOf CX0 P w K mg base ["pot", "letters", "page", "accesses", "due", "address", "letter", "value", "caught", "is_bad"] "_law_are_refusals_right" (defScope sRefusals) f (.ref cc) A outer s H E0).nox T cc Pt := ⟨TB, rfl, Tm, T1⟩
    obtain ⟨p, n, rfl, hp, hn, hT, q⟩ := h
    refine ⟨_, (pss_cons (ps_set (i := 1) scRefusals.nd rfl (.inr rfl) (pe_callTy call_tuple_of (by rfl) ftuple (by decide +kernel) (pa_cons (pe_lc (own := [("page", 2)]) (g := (gName 2)) (tt := tYes) rfl scRefusals.nd (pi_range1 (by rfl) frange (pa_cons pe_int pa_nil)) (blkOk_by (N := ["pot", "letters", "page", "accesses", "due", "address", "letter", "value", "caught", "is_bad"]) (sc := defScope sRefusals) (by decide +kernel)) (fun _ _ _ _ _ => (pg_name (i := 2) scRefusals.nd rfl (.inl rfl))) (fun _ _ _ _ _ => pts_nil) (fun _ _ _ _ _ => (pe_call GOf hr (by rfl) mOf kOf bOf .nil pass0 (pa_cons (pv 0) (pa_cons (pe_call0 GAl hr (by rfl) mAl kAl bAl .nil pass0) pa_nil))))) pa_nil))) (pss_cons (ps_set (i := 3) scRefusals.nd rfl (.inl rfl) (pe_tup (pa_cons (pe_tup (pa_cons (pe_call GTa hr (by rfl) mTa kTa bTa .nil pass0 (pa_cons (pv 0) (pa_cons pe_int pa_nil))) (pa_cons pe_str pa_nil))) pa_nil))) (pss_cons (ps_if (pt_cmpR op_gt (pe_call GTa hr (by rfl) mTa kTa bTa .nil pass0 (pa_cons (pv 0) (pa_cons pe_int pa_nil))) pe_int (nomark _)) (pss_one (ps_set (i := 3) scRefusals.nd rfl (.inl rfl) (pe_op op_catA (pv 3) (pe_tup (pa_cons (pe_tup (pa_cons (pe_call GTa hr (by rfl) mTa kTa bTa .nil pass0 (pa_cons (pv 0) (pa_cons pe_int pa_nil))) (pa_cons (pe_call GOf hr (by rfl) mOf kOf bOf .nil pass0 (pa_cons (pv 0) (pa_cons (pe_lst (pa_cons pe_str (pa_cons pe_str pa_nil))) pa_nil))) pa_nil))) pa_nil))))) pss_nil) (pss_cons (ps_setLc (i := 4) (own := [("address", 5), ("letter", 6)]) (g := (gTup K 2 (gCons (gName 5) (gCons (gName 6) gNil)))) (tt := _) rfl scRefusals.nd rfl rfl (by rfl) (pi_tup (pv 3)) (blkOk_by (N := ["pot", "letters", "page", "accesses", "due", "address", "letter", "value", "caught", "is_bad"]) (sc := defScope sRefusals) (by decide +kernel)) (fun _ _ _ _ _ => (pg_tup (by rfl) (pgs_cons (pg_name (i := 5) scRefusals.nd rfl (.inl rfl)) (pgs_cons (pg_name (i := 6) scRefusals.nd rfl (.inl rfl)) pgs_nil)))) (fun _ _ _ _ _ => (pts_one (pt_cmpR op_notIn_sign (pv 6) (pe_ix (show IxR _ (rIxT K) from ix_tup) (pv 1) (pe_op op_fdiv (pv 5) pe_int) (fun _ _ => rfl)) (by rfl)))) (fun _ _ _ _ _ => (pe_tup (pa_cons pe_str (pa_cons (pv 6) (pa_cons (pv 5) pa_nil)))))) (pss_cons (ps_if (pt_cmpR op_ne (pe_callB (call_repr gd hr.units) (by rfl) frepr (by decide +kernel) (pa_cons (pe_call GFrD hr (by rfl) mFrD kFrD bFrD .nil passX (pa_cons (pv 1) (pa_cons (pv 3) pa_nil))) pa_nil)) (pe_callB (call_repr gd hr.units) (by rfl) frepr (by decide +kernel) (pa_cons (pe_ifExp (pt_cmpR (op_neD hr.units) (pv 4) (pe_lst pa_nil) (nomark _)) (pe_ix ix_list (pv 4) pe_int (fun _ _ => rfl)) pe_non) pa_nil)) (nomark _)) (pss_one (ps_ret pe_bl)) pss_nil) (pss_cons (ps_for PassesOwn.never rfl (pi_list (pe_lst (pa_cons (pe_callTy call_list_of (by rfl) flist (by decide +kernel) (pa_cons (pv 1) pa_nil)) (pa_cons (pe_slice sl_tupA (pv 1) po_none (po_some pe_int)) (pa_cons (pe_op op_catA (pv 1) (pe_tup (pa_cons pe_str pa_nil))) (pa_cons (pe_call GBeJ hr (by rfl) mBeJ kBeJ bBeJ .nil pass0 (pa_cons (pv 0) (pa_cons (pv 1) pa_nil))) (pa_cons (pe_call GOd hr (by rfl) mOd kOd bOd .nil pass0 (pa_cons (pv 0) pa_nil)) pa_nil))))))) (pg_name (i := 7) scRefusals.nd rfl (.inr rfl)) (pss_cons (ps_set (i := 8) scRefusals.nd rfl (.inl rfl) (pe_ix ix_tup (pe_heard (ι := Unit) (D := fun _ => lamRefusals 0) (k := (k+7)) FH bH (by rfl) gH gS hr (pe_lam M (lamRefusals_sc 0 (by omega)) (by rfl)) (fun _ => lamRefusals_sc 0 (by omega)) (fun _ _ _ _ => by rfl) (fun _ A' outer' s' H' E' f' c' hr' => pe_call (X := lamCx _ A' outer' s' H' E' (lamRefusals 0).scope f' c') GFr hr' (by rfl) mFr kFr bFr .nil VG.passL (pa_cons (pv 7) (pa_cons pe_non pa_nil)))) pe_int (fun _ _ => rfl))) (pss_one (ps_if (pt_not (pt_val (pe_call GLt hr (by rfl) mLt kLt bLt .nil pass0 (pa_cons (pv 7) pa_nil)))) (pss_one (ps_if (PW.pt (pw_or (pt_not (pt_val (pe_callB call_isB (by rfl) fisinstance (by decide +kernel) (pa_cons (pv 8) (pa_cons (pgr (by rfl) gBadLetters) pa_nil))))) (pw_or1 (pt_cmpR op_ne (pe_callB (call_reprQ gd hr.units) (by rfl) frepr (by decide +kernel) (pa_cons (pe_errF (pv 8)) pa_nil)) (pe_callB (call_reprQ gd hr.units) (by rfl) frepr (by decide +kernel) (pa_cons (pv 7) pa_nil)) (nomark _))))) (pss_one (ps_ret pe_bl)) pss_nil)) pss_nil)))) (pss_cons (ps_for PassesOwn.never rfl (pi_list (pe_lst (pa_cons (pe_revT (pv 3)) (pa_cons (pe_op op_catA (pv 3) (pv 3)) (pa_cons (pe_tup pa_nil) (pa_cons (pe_callTy call_list_of (by rfl) flist (by decide +kernel) (pa_cons (pv 3) pa_nil)) (pa_cons (pe_call GBeJ hr (by rfl) mBeJ kBeJ bBeJ .nil pass0 (pa_cons (pv 0) (pa_cons (pv 3) pa_nil))) (pa_cons (pe_call GOd hr (by rfl) mOd kOd bOd .nil pass0 (pa_cons (pv 0) pa_nil)) pa_nil)))))))) (pg_name (i := 7) scRefusals.nd rfl (.inr rfl)) (pss_cons (ps_set (i := 8) scRefusals.nd rfl (.inl rfl) (pe_ix ix_tup (pe_heard (ι := Unit) (D := fun _ => lamRefusals 1) (k := (k+7)) FH bH (by rfl) gH gS hr (pe_lam M (lamRefusals_sc 1 (by omega)) (by rfl)) (fun _ => lamRefusals_sc 1 (by omega)) (fun _ _ _ _ => by rfl) (fun _ A' outer' s' H' E' f' c' hr' => pe_call (X := lamCx _ A' outer' s' H' E' (lamRefusals 1).scope f' c') GFr hr' (by rfl) mFr kFr bFr .nil VG.passL (pa_cons (pv 1) (pa_cons (pv 7) pa_nil)))) pe_int (fun _ _ => rfl))) (pss_cons (ps_set (i := 9) scRefusals.nd rfl (.inl rfl) (pe_and (pe_callB call_isB (by rfl) fisinstance (by decide +kernel) (pa_cons (pv 8) (pa_cons (pgr (by rfl) gBadAccesses) pa_nil))) (pe_one (pe_cmpR op_eq (pe_callB (call_reprQ gd hr.units) (by rfl) frepr (by decide +kernel) (pa_cons (pe_errF (pv 8)) pa_nil)) (pe_callB (call_reprQ gd hr.units) (by rfl) frepr (by decide +kernel) (pa_cons (pv 7) pa_nil)) (nomark _))))) (pss_one (ps_if (pt_cmpR op_eq (pv 9) (pe_call GLc hr (by rfl) mLc kLc bLc .nil pass0 (pa_cons (pv 7) pa_nil)) (nomark _)) (pss_one (ps_ret pe_bl)) pss_nil))))) (pss_one (ps_ret pe_bl))))))))), ?_⟩
    have hpl := pot_lst hp
    refine ⟨16, rfl, by decide, by decide, fun D nD => ?_⟩
    have eD := hp.ne nD
    refine lc_range (lo := 0) (n := 16) (fun i H' => ∃ ls : List Str, H' D = some (.lst (ls.map V.str)) ∧ ls.length = i ∧ (∀ z ∈ ls, z ∈ all8) ∧ Pot H' p (n + i) ∧ Same (wo H p) (wo H' p)) ⟨[], upd_same, rfl, fun z h => (by cases h), hp.upd eD, wo_same_of (same_upd nD)⟩ (fun i H' hi hP => ?_) fun H1 hP => ?_
    · obtain ⟨ls, hD, lz, az, hp, sw⟩ := hP
      refine ⟨rfl, yesT ?_⟩
      refine ⟨.ref p, rfl, rfl, fun l H2 s2 hl nl => ⟨p, l, _, _, rfl, SqL.of (wo_at hl (hp.ne nl)), by decide, by decide, hp.same s2, by omega, fun x hx H3 hp3 s3 => ?_⟩⟩
      obtain ⟨z, hz, rfl⟩ := List.mem_map.mp hx
      have hD3 := wo_le _ _ (s3 _ _ (wo_at (s2 _ _ hD) eD))
      have zD : H D = none := nD
      refine ⟨_, hD3, small1000 (by rw [List.length_map]; omega), ls ++ [z], ?_, by rw [List.length_append, lz]; rfl, fun y hy => ?_, hp3.upd eD, wo_updNew ((sw.trans (wo_same_of s2)).trans s3) zD⟩
      · rw [upd_same, List.map_append]
        rfl
      · rcases List.mem_append.mp hy with h | h
        · exact az y h
        · rw [List.mem_singleton.mp h]; exact hz
    · obtain ⟨ls, hD, lz, az, hp, sw⟩ := hP
      refine ⟨D, _, rfl, .inl ⟨SqL.of hD, fun La nLa => ?_⟩⟩
      have eLa := hp.ne nLa
      have u1 := same_upd (o := .tup (ls.map V.str)) nLa
      have hLa : SqT K (wo (upd H1 La (.tup (ls.map V.str))) p) La (ls.map V.str) := SqT.of (wo_at upd_same eLa)
      have hp := hp.same u1
      have sw := sw.trans (wo_same_of u1)
      generalize upd H1 La (.tup (ls.map V.str)) = H2 at hLa hp sw ⊢
      clear u1 hD nLa nD
      have hll : ls.length = 16 := lz
      refine ⟨.ref p, rfl, p, 256, _, rfl, by decide, by decide, hp, by omega, fun d1 H3 d10 d11 hp3 s3 => ?_⟩
      have hLa := Same.seqT s3 hLa
      have sw := sw.trans s3
      refine ⟨by show 2 ≤ sizeLine; decide, fun P1 nP1 => ⟨by show 1 ≤ sizeLine; decide, fun A1 nA1 => ?_⟩⟩
      have eP1 := hp3.ne nP1
      have uP := same_upd (o := .tup [V.int d1, .str "x"]) nP1
      have eA1 := (hp3.same uP).ne nA1
      have uA := same_upd (o := .tup [V.ref P1]) nA1
      have hA1 : Dp K (wo (upd (upd H3 P1 (.tup [V.int d1, .str "x"])) A1 (.tup [V.ref P1])) p) (.ref A1) (.tuple [accD (d1, "x")]) := .tup (SqT.of (wo_at upd_same eA1)) (.cons (.tup (SqT.of (wo_at (uA _ _ upd_same) eP1)) (.cons (.int _) (.cons (.str _) .nil))) .nil)
      have hp4 := hp3.same (uP.trans uA)
      have hLa := Same.seqT (wo_same_of (uP.trans uA)) hLa
      have sw := sw.trans (wo_same_of (uP.trans uA))
      generalize upd (upd H3 P1 (.tup [V.int d1, .str "x"])) A1 (.tup [V.ref P1]) = H4 at hA1 hp4 hLa sw ⊢
      clear uP uA nA1 nP1 eA1 eP1 hp3 s3 hp
      dsimp only [gName]
      refine seq_cut (fun σ' H' => ∃ (Ac : Addr) (acs : List (Int × Str)), σ' = [some (.ref p), some (.ref La), none, some (.ref Ac), none, none, none, none, none, none] ∧ Pot H' p (n + 20) ∧ Same (wo H p) (wo H' p) ∧ SqT K (wo H' p) La (ls.map V.str) ∧ Dp K (wo H' p) (.ref Ac) (.tuple (acs.map accD)) ∧ accB (.tuple (acs.map accD)) = true) (fun N hN => ?_) (fun σ' H' hq => ?_)
      rotate_left
      · obtain ⟨Ac, acs, rfl, hp, sw, hLa, hAc, acok⟩ := hq
        have hLaH := Same.seqT wo_le hLa
        obtain ⟨acs', eacs, hacs, al1, al2⟩ := accB_shape acok
        have eacs2 : acs = acs' := accD_inj (PyData.tuple.inj eacs)
        subst eacs2
        cases hAc with
        | @tup _ xs _ hsA haA =>
        have hsAH := Same.seqT wo_le hsA
        have hxl := dpAll_len haA
        rw [List.length_map] at hxl
        refine ⟨.ref Ac, rfl, Ac, rfl, ⟨_, hsAH⟩, fun Du nDu => ?_⟩
        have eDu := hp.ne nDu
        refine lc_tup (xs := xs) (fun i H2 => ∃ rs : List Addr, H2 Du = some (.lst (rs.map V.ref)) ∧ Same H' H2 ∧ rs.length ≤ i ∧ DueAt K H2 Du rs (refL ls (acs.take i))) ⟨[], upd_same, same_upd nDu, Nat.le_refl _, trivial⟩ (fun i H2 _ hP => by obtain ⟨_, _, s, _⟩ := hP; exact Same.seqT s hsAH) (fun i x H2 hx hP => ?_) fun H2 hP => ?_
        · obtain ⟨rs, hDu, s2, lr, hr⟩ := hP
          have hi := (List.getElem?_eq_some_iff.mp hx).1
          rw [hxl] at hi
          have hdx := dpAll_get haA hx
          rw [List.getD_eq_getElem?_getD, List.getElem?_map, List.getElem?_eq_getElem hi] at hdx
          have hdx : Dp K (wo H' p) x (accD acs[i]) := hdx
          have hok := hacs _ (List.getElem_mem hi)
          have et : acs.take (i + 1) = acs.take i ++ [acs[i]] := by rw [List.take_add_one, List.getElem?_eq_getElem hi]; rfl
          rw [et, refL_app]
          generalize acs[i] = pr at hdx hok ⊢
          obtain ⟨ad, l⟩ := pr
          obtain ⟨o0, o1, o2⟩ := hok
          have o0 : 0 ≤ ad := o0
          have o1 : ad ≤ 255 := o1
          obtain ⟨c, rfl⟩ := one_sign o2
          cases hdx with
          | @tup t zs _ hst hat =>
          obtain ⟨_, _, rfl, g1, g2⟩ := dpAll_two hat
          cases g1; cases g2
          have hst2 := Same.seqT s2 (Same.seqT wo_le hst)
          have hat : atI (ls.map V.str) (ad / 16) = some (.str (ls.getD (ad / 16).toNat "")) := at_of (j := (ad / 16).toNat) (by omega) (by
            rw [List.getElem?_map, List.getElem?_eq_getElem (show (ad / 16).toNat < ls.length by omega), List.getD_eq_getElem?_getD, List.getElem?_eq_getElem (show (ad / 16).toNat < ls.length by omega)]; rfl)
          have er2 : refL ls [(ad, (⟨#[c]⟩ : Str))] = if decide (c ∈ (ls.getD (ad / 16).toNat "").cps.toList) = true then [] else [(⟨#[c]⟩, ad)] := by
            show (if (([c] : List Nat).all fun c => decide (c ∈ (ls.getD (ad / 16).toNat "").cps.toList)) = true then _ else _) = _
            rw [List.all_cons, List.all_nil, Bool.and_true]
            rfl
          rw [er2]
          refine ⟨t, _, rfl, hst2, rfl, _, _, rfl, _, _, rfl, rfl, rfl, ?_⟩
          refine ⟨_, rfl, .ref La, rfl, .int ad, rfl, ad, 16, rfl, rfl, ⟨by decide, by decide⟩, La, _, _, _, rfl, rfl, Same.seqT s2 hLaH, hat, c, _, rfl, rfl, _, rfl, ?_⟩
          by_cases hc : c ∈ (ls.getD (ad / 16).toNat "").cps.toList
          · rw [decide_eq_true hc]
            refine iteF ⟨rs, hDu, s2, by omega, ?_⟩
            rw [if_pos rfl, List.append_nil]
            exact hr
          · rw [decide_eq_false hc]
            refine iteT ⟨_, rfl, .int ad, rfl, by show 3 ≤ sizeLine; decide, fun t2 nt2 => ?_⟩
            have u2 := same_upd (o := .tup [V.str "page", .str ⟨#[c]⟩, .int ad]) nt2
            refine ⟨_, u2 _ _ hDu, small1000 (by rw [List.length_map]; omega), rs ++ [t2], ?_, Same.updNew (s2.trans u2) nDu, by rw [List.length_append]; show rs.length + 1 ≤ i + 1; omega, ?_⟩
            · rw [upd_same, List.map_append]
              rfl
            · rw [if_neg Bool.false_ne_true]
              exact DueAt.app (sqT_upd (SqT.of upd_same) (u2 _ _ hDu)) (hr.mono fun t xs h => sqT_upd (Same.seqT u2 h) (u2 _ _ hDu))
        · obtain ⟨rs, hDu, s2, lr, hr⟩ := hP
          rw [hxl, List.take_length] at hr
          have hLs : lettersB (.tuple (ls.map .str)) = true := by
            show (decide ((ls.map PyData.str).length = 16) && ((ls.map PyData.str).map isLE).all id) = true
            rw [List.length_map, decide_eq_true hll, Bool.true_and, List.map_map, List.all_map, List.all_eq_true]
            intro z hz
            show isLE (.str z) = true
            rw [isLE_law]
            exact decide_eq_true (az z hz)
          have okL : okData (.tuple (ls.map .str)) = true := okM_data (okM.tup (k := 0) (m := 50) (fun d hd => by
            obtain ⟨z, hz, rfl⟩ := List.mem_map.mp hd
            exact all8_okM (az z hz)) (by rw [List.length_map]; omega)) (by decide) (by decide)
          have okA : okData (.tuple (acs.map accD)) = true := okM_data (okM.tup (k := 1) (m := 918) (fun d hd => by
            obtain ⟨z, hz, rfl⟩ := List.mem_map.mp hd
            exact acc_okM (hacs z hz)) (by rw [List.length_map]; omega)) (by decide) (by decide)
          have dstr : ∀ {H : Hp} {l : List Str}, DpAll K H (l.map V.str) (l.map .str) := fun {H l} => by
            induction l with
            | nil => exact .nil
            | cons z l ih => exact .cons (.str z) ih
          have hLa2 := Same.seqT s2 hLaH
          have hAc2 : Dp K H2 (.ref Ac) (.tuple (acs.map accD)) := .tup (Same.seqT s2 hsAH) (dpAll_same s2 _ _ (dpAll_same wo_le _ _ haA))
          dsimp only
          refine seq_cut (fun σ' H3 => σ' = [some (.ref p), some (.ref La), none, some (.ref Ac), some (.ref Du), none, none, none, none, none] ∧ Same H2 H3) (fun N hN => ?_) (fun σ' H3 hq => ?_)
          rotate_left
          · obtain ⟨rfl, s3⟩ := hq
            have hp := hp.same (s2.trans s3)
            have sw := sw.trans (wo_same_of (s2.trans s3))
            have hLa := Same.seqT (wo_same_of (s2.trans s3)) hLa
            have fA : FitA K (wo H3 p) Ac acs := ⟨.tup (Same.seqT (wo_same_of (s2.trans s3)) hsA) (dpAll_same (wo_same_of (s2.trans s3)) _ _ haA)⟩
            have fL : FitL K (wo H3 p) La ls := ⟨hLa⟩
            clear hLa hsA haA hsAH hLaH hDu hr s2 s3
            refine ⟨.ref La, rfl, La, _, rfl, .inr (Same.seqT wo_le fL.t), fun V1 nV1 => ?_⟩
            have sV1 := same_upd (o := (.lst (ls.map V.str))) nV1
            have eV1 : V1 ≠ p := hp.ne nV1
            have hV1 : upd H3 V1 (.lst (ls.map V.str)) V1 = some (.lst (ls.map V.str)) := upd_same
            have fA := fA.same (wo_same_of sV1)
            have fL := fL.same (wo_same_of sV1)
            have hp := hp.same sV1
            have sw := sw.trans (wo_same_of sV1)
            generalize upd H3 V1 (.lst (ls.map V.str)) = Hz1 at hV1 fA fL hp sw ⊢
            clear sV1 nV1
            have f1 : FitQ K (wo Hz1 p) (.ref V1) := fitq_lst (SqL.of (wo_at hV1 eV1)) az hll
            refine ⟨.ref La, rfl, 15, rfl, slice_to (j := 15) (Same.seqT wo_le fL.t) fun c2 Hc hc2 sc2 => ?_⟩
            have fA := fA.same (wo_same_of sc2)
            have fL := fL.same (wo_same_of sc2)
            have f1 := f1.same (wo_same_of sc2)
            have hp := hp.same sc2
            have sw := sw.trans (wo_same_of sc2)
            have f2 : FitQ K (wo Hc p) (.ref c2) := by
              obtain ⟨qa, qb, qc, hpe, _⟩ := id hp
              rw [← List.map_take] at hc2
              exact fitq_tup (sqT_wo hc2 hpe) (fun z hz => all8_okM (az z (List.mem_of_mem_take hz))) (by rw [List.length_take]; omega)
            refine ⟨.ref La, rfl, ?_⟩
            refine ⟨by show 1 ≤ sizeLine; decide, fun T3 nT3 => ?_⟩
            have sT3 := same_upd (o := (.tup [V.str "r"])) nT3
            have eT3 : T3 ≠ p := hp.ne nT3
            have hT3 : upd Hc T3 (.tup [V.str "r"]) T3 = some (.tup [V.str "r"]) := upd_same
            have fA := fA.same (wo_same_of sT3)
            have fL := fL.same (wo_same_of sT3)
            have f1 := f1.same (wo_same_of sT3)
            have f2 := f2.same (wo_same_of sT3)
            have hp := hp.same sT3
            have sw := sw.trans (wo_same_of sT3)
            generalize upd Hc T3 (.tup [V.str "r"]) = Hz2 at hT3 fA fL f1 f2 hp sw ⊢
            clear sT3 nT3
            refine catA_one (Same.seqT wo_le fL.t) (SqT.of hT3) (sl (by rw [List.length_map]; show _ + 1 ≤ 1000; omega)) fun c3 Hd hc3 sc3 => ?_
            have hT3 := sc3 _ _ hT3
            have fA := fA.same (wo_same_of sc3)
            have fL := fL.same (wo_same_of sc3)
            have f1 := f1.same (wo_same_of sc3)
            have f2 := f2.same (wo_same_of sc3)
            have hp := hp.same sc3
            have sw := sw.trans (wo_same_of sc3)
            have f3 : FitQ K (wo Hd p) (.ref c3) := by
              obtain ⟨qa, qb, qc, hpe, _⟩ := id hp
              have e : ls.map V.str ++ [V.str "r"] = (ls ++ [Str.ofString "r"]).map V.str := by rw [List.map_append]; rfl
              rw [e] at hc3
              exact fitq_tup (sqT_wo hc3 hpe) (fun z hz => (List.mem_append.mp hz).elim (fun h => all8_okM (az z h)) (fun h => by rw [List.mem_singleton.mp h]; exact okM_lit (by decide))) (by rw [List.length_append]; show _ + 1 ≤ 18; omega)
            refine ⟨.ref p, rfl, .ref La, rfl, .inl ⟨p, La, _, ls, rfl, fL.t, hll, fun z hz => all8_RText (az z hz), hp, by omega, fun u e He hpe se hde oke => ?_⟩⟩
            have f4 : FitQ K (wo He p) u := ⟨e, hde.same (nl_wo (pot_lst hp)), oke⟩
            have fA := fA.same se
            have fL := fL.same se
            have f1 := f1.same se
            have f2 := f2.same se
            have f3 := f3.same se
            have sw := sw.trans se
            have hp := hpe
            refine ⟨.ref p, rfl, p, _, rfl, hp, by omega, fun v5 d5 Hf hpf sf hdf okf => ?_⟩
            have f5 : FitQ K (wo Hf p) v5 := ⟨d5, (Dq.dk hdf (okOdd_e okf).1).same (nl_wo (pot_lst hp)), okData_q (okOdd_e okf).1⟩
            have fA := fA.same sf
            have fL := fL.same sf
            have f1 := f1.same sf
            have f2 := f2.same sf
            have f3 := f3.same sf
            have f4 := f4.same sf
            have sw := sw.trans sf
            have hp := hpf
            refine ⟨by show 5 ≤ sizeLine; decide, fun F nF => ?_⟩
            have sF := same_upd (o := (.lst [V.ref V1, .ref c2, .ref c3, u, v5])) nF
            have eF : F ≠ p := hp.ne nF
            have hF : upd Hf F (.lst [V.ref V1, .ref c2, .ref c3, u, v5]) F = some (.lst [V.ref V1, .ref c2, .ref c3, u, v5]) := upd_same
            have fA := fA.same (wo_same_of sF)
            have fL := fL.same (wo_same_of sF)
            have f1 := f1.same (wo_same_of sF)
            have f2 := f2.same (wo_same_of sF)
            have f3 := f3.same (wo_same_of sF)
            have f4 := f4.same (wo_same_of sF)
            have f5 := f5.same (wo_same_of sF)
            have hp := hp.same sF
            have sw := sw.trans (wo_same_of sF)
            generalize upd Hf F (.lst [V.ref V1, .ref c2, .ref c3, u, v5]) = Hz3 at hF fA fL f1 f2 f3 f4 f5 hp sw ⊢
            clear sF nF
            have hT3 := tabs_wo hT hpl sw
            have allq : ∀ x ∈ [V.ref V1, .ref c2, .ref c3, u, v5], FitQ K (wo Hz3 p) x := fun x hx => by
              simp only [List.mem_cons, List.not_mem_nil, or_false] at hx
              rcases hx with rfl | rfl | rfl | rfl | rfl
              · exact f1
              · exact f2
              · exact f3
              · exact f4
              · exact f5
            clear f1 f2 f3 f4 f5
            refine ⟨F, rfl, ⟨_, SqL.of hF⟩, ?_⟩
            refine for_list (xs := [V.ref V1, .ref c2, .ref c3, u, v5]) (fun i σ H' => ∃ y7 y8, σ = [some (.ref p), some (.ref La), none, some (.ref Ac), some (.ref Du), none, none, y7, y8, none] ∧ ExtN Hz3 H' ∧ Tabs T H') ⟨none, none, rfl, fun b o e _ => e, hT3⟩ (fun i σ H' _ hP => ?_) (fun i x σ H' hxi hP => ?_) fun σ H' hP => ?_
            · obtain ⟨_, _, _, e, _⟩ := hP
              exact SqL.of (e _ _ hF (fun ps z => by cases z))
            · obtain ⟨y7, y8, rfl, eN, tN⟩ := hP
              obtain ⟨d, hd, okd⟩ := allq x (List.mem_of_getElem? hxi)
              have hdN := dq_extN (hd.same wo_le) eN
              refine ⟨tN, fun f0 F0 e0 t0 l0 nf0 => ⟨(), f0, rfl, l0, fun H5 s5 E' Q' hE hB => ?_⟩⟩
              have e5 := e0.trans (ExtN.of s5)
              have t5 := t0.ext s5
              refine ⟨x, rfl, x, .non, d, .none, rfl, dq_extN hdN e5, .dp .non, by decide, fun el H6 dd s6 nd => hE _ _ _ ⟨XL.x, CL, dd, rfl, rfl, fun ea pt nea npt => ?_⟩, fun el _ H6 dd s6 nd => hE _ _ _ ⟨XA.x, CA, dd, rfl, rfl, fun ea pt nea npt => ?_⟩, fun ls' acs' _ ed => by cases ed⟩
              · clear hE hB
                have sd := same_upd (o := .xd [("value", x)]) nd
                have se := same_upd (o := ErrO CL dd ea) nea
                have sp := same_upd (o := .tup [V.ref ea, .non]) npt
                have herr := sp _ _ (upd_same (H := upd H6 dd (.xd [("value", x)])) (a := ea) (o := ErrO CL dd ea))
                have hdd := (se.trans sp) _ _ (upd_same (H := H6) (a := dd) (o := .xd [("value", x)]))
                have hpt : upd (upd (upd H6 dd (.xd [("value", x)])) ea (ErrO CL dd ea)) pt (.tup [V.ref ea, .non]) pt = some (.tup [V.ref ea, .non]) := upd_same
                have s11 := s6.trans ((sd.trans se).trans sp)
                generalize upd (upd (upd H6 dd (.xd [("value", x)])) ea (ErrO CL dd ea)) pt (.tup [V.ref ea, .non]) = H7 at herr hdd hpt s11 ⊢
                have e7 := e5.trans (ExtN.of s11)
                have t7 := t5.ext s11
                refine ⟨pt, _, _, .ref ea, rfl, rfl, SqT.of hpt, at0, ?_⟩
                refine ⟨x, rfl, x, d, rfl, dq_extN hdN e7, fun H9 s9 => ⟨_, rfl, ?_⟩⟩
                rw [el]
                refine iteT ⟨.ref ea, rfl, .inl ⟨ea, CL, CL, dd, _, true, rfl, s9 _ _ herr, s9 _ _ hdd, XL.i, kLL, _, rfl, iteF ?_⟩⟩
                have e9 := e7.trans (ExtN.of s9)
                refine ⟨.ref ea, rfl, ea, CL, dd, [("value", x)], x, rfl, s9 _ _ herr, XL.i.f, XL.n, s9 _ _ hdd, rfl, x, d, rfl, dq_extN hdN e9, okd, x, rfl, x, d, rfl, dq_extN hdN e9, okd, rfl, _, rfl, ?_⟩
                rw [same_f]
                exact iteF ⟨_, _, rfl, eN.trans e9, t7.ext s9⟩
              · clear hE hB
                have sd := same_upd (o := .xd [("value", V.non)]) nd
                have se := same_upd (o := ErrO CA dd ea) nea
                have sp := same_upd (o := .tup [V.ref ea, .non]) npt
                have hpt : upd (upd (upd H6 dd (.xd [("value", V.non)])) ea (ErrO CA dd ea)) pt (.tup [V.ref ea, .non]) pt = some (.tup [V.ref ea, .non]) := upd_same
                have s11 := s6.trans ((sd.trans se).trans sp)
                generalize upd (upd (upd H6 dd (.xd [("value", V.non)])) ea (ErrO CA dd ea)) pt (.tup [V.ref ea, .non]) = H7 at hpt s11 ⊢
                have e7 := e5.trans (ExtN.of s11)
                have t7 := t5.ext s11
                refine ⟨pt, _, _, .ref ea, rfl, rfl, SqT.of hpt, at0, ?_⟩
                refine ⟨x, rfl, x, d, rfl, dq_extN hdN e7, fun H9 s9 => ⟨_, rfl, ?_⟩⟩
                rw [el]
                exact iteF ⟨_, _, rfl, eN.trans (e7.trans (ExtN.of s9)), t7.ext s9⟩
            · obtain ⟨y7, y8, rfl, eN, tN⟩ := hP
              have hpl2 := pot_lst (pot_extN hp eN)
              have hp := pot_extN hp eN
              have eW := extN_wo (p := p) eN
              have eP := ExtP.ext (ExtP.wo sw) eN
              have sw2 : Same (wo H' p) (wo H' p) := Same.refl _
              have fA0 := fA.t
              have fL := (FitL.ext fL eW)
              have fA0 := dp_extN eW _ _ fA0
              obtain ⟨xs2, fX⟩ : ∃ xs2, FitX K (wo H' p) Ac xs2 acs := by
                cases fA0 with
                | tup h1 h2 => exact ⟨_, h1, h2⟩
              clear fA fA0 sw hT3 allq hF eW
              have tW := tN
              have hbd : BD 2 (.tuple (acs.map accD)) := acc_bd hacs al1 al2
              have xl2 := fX.len
              refine ⟨.ref Ac, rfl, Ac, xs2, rfl, Same.seqT wo_le fX.t, fun y1 R1 in1 le1 nR1 => ?_⟩
              have sR1 := same_upd (o := (.tup y1)) nR1
              have eR1 : R1 ≠ p := hp.ne nR1
              have hR1 : upd H' R1 (.tup y1) R1 = some (.tup y1) := upd_same
              have fL := fL.same (wo_same_of sR1)
              have fX := fX.same (wo_same_of sR1)
              have hp := hp.same sR1
              have sw2 := sw2.trans (wo_same_of sR1)
              generalize upd H' R1 (.tup y1) = Hz1 at hR1 fL fX hp sw2 ⊢
              clear sR1 nR1
              have g1 : Fit K (wo Hz1 p) (.ref R1) := acc_fit (SqT.of (wo_at hR1 eR1)) fX.d hacs in1 (by omega)
              refine ⟨.ref Ac, rfl, .ref Ac, rfl, ?_⟩
              refine catA_one (Same.seqT wo_le fX.t) (Same.seqT wo_le fX.t) (sl (by omega)) fun c2 Hc hc2 sc2 => ?_
              have fL := fL.same (wo_same_of sc2)
              have fX := fX.same (wo_same_of sc2)
              have g1 := g1.same (wo_same_of sc2)
              have hp := hp.same sc2
              have sw2 := sw2.trans (wo_same_of sc2)
              have g2 : Fit K (wo Hc p) (.ref c2) := by
                obtain ⟨qa, qb, qc, hpe, _⟩ := id hp
                exact acc_fit (sqT_wo hc2 hpe) fX.d hacs (fun y hy => (List.mem_append.mp hy).elim id id) (by rw [List.length_append]; omega)
              refine ⟨by show 0 ≤ sizeLine; decide, fun E3 nE3 => ?_⟩
              have sE3 := same_upd (o := (.tup [])) nE3
              have eE3 : E3 ≠ p := hp.ne nE3
              have hE3 : upd Hc E3 (.tup []) E3 = some (.tup []) := upd_same
              have fL := fL.same (wo_same_of sE3)
              have fX := fX.same (wo_same_of sE3)
              have g1 := g1.same (wo_same_of sE3)
              have g2 := g2.same (wo_same_of sE3)
              have hp := hp.same sE3
              have sw2 := sw2.trans (wo_same_of sE3)
              generalize upd Hc E3 (.tup []) = Hz2 at hE3 fL fX g1 g2 hp sw2 ⊢
              clear sE3 nE3
              have g3 : Fit K (wo Hz2 p) (.ref E3) := acc_fit (SqT.of (wo_at hE3 eE3)) fX.d hacs (fun y hy => by cases hy) (by show 0 ≤ 18; decide)
              refine ⟨.ref Ac, rfl, Ac, xs2, rfl, .inr (Same.seqT wo_le fX.t), fun V4 nV4 => ?_⟩
              have sV4 := same_upd (o := (.lst xs2)) nV4
              have eV4 : V4 ≠ p := hp.ne nV4
              have hV4 : upd Hz2 V4 (.lst xs2) V4 = some (.lst xs2) := upd_same
              have fL := fL.same (wo_same_of sV4)
              have fX := fX.same (wo_same_of sV4)
              have g1 := g1.same (wo_same_of sV4)
              have g2 := g2.same (wo_same_of sV4)
              have g3 := g3.same (wo_same_of sV4)
              have hp := hp.same sV4
              have sw2 := sw2.trans (wo_same_of sV4)
              generalize upd Hz2 V4 (.lst xs2) = Hz3 at hV4 fL fX g1 g2 g3 hp sw2 ⊢
              clear sV4 nV4
              have g4 : Fit K (wo Hz3 p) (.ref V4) := acc_fitL (SqL.of (wo_at hV4 eV4)) fX.d hacs (by omega)
              refine ⟨.ref p, rfl, .ref Ac, rfl, .inr ⟨p, _, .ref Ac, .tuple (acs.map accD), rfl, .tup fX.t fX.d, hbd, by decide, hp, by omega, fun u2 e2 He hpe se hde oke => ?_⟩⟩
              have g5 : Fit K (wo He p) u2 := ⟨e2, (Dk.dp hde).same (nl_wo (pot_lst hp)), oke.1.ok (by decide) (by decide)⟩
              have fL := fL.same se
              have fX := fX.same se
              have g1 := g1.same se
              have g2 := g2.same se
              have g3 := g3.same se
              have g4 := g4.same se
              have sw2 := sw2.trans se
              have hp := hpe
              refine ⟨.ref p, rfl, p, _, rfl, hp, by omega, fun v6 d6 Hf hpf sf hdf okf => ?_⟩
              have g6 : Fit K (wo Hf p) v6 := ⟨d6, hdf.same (nl_wo (pot_lst hp)), (okOdd_e okf).1⟩
              have fL := fL.same sf
              have fX := fX.same sf
              have g1 := g1.same sf
              have g2 := g2.same sf
              have g3 := g3.same sf
              have g4 := g4.same sf
              have g5 := g5.same sf
              have sw2 := sw2.trans sf
              have hp := hpf
              refine ⟨by show 6 ≤ sizeLine; decide, fun F2 nF2 => ?_⟩
              have sF2 := same_upd (o := (.lst [V.ref R1, .ref c2, .ref E3, .ref V4, u2, v6])) nF2
              have eF2 : F2 ≠ p := hp.ne nF2
              have hF2 : upd Hf F2 (.lst [V.ref R1, .ref c2, .ref E3, .ref V4, u2, v6]) F2 = some (.lst [V.ref R1, .ref c2, .ref E3, .ref V4, u2, v6]) := upd_same
              have fL := fL.same (wo_same_of sF2)
              have fX := fX.same (wo_same_of sF2)
              have g1 := g1.same (wo_same_of sF2)
              have g2 := g2.same (wo_same_of sF2)
              have g3 := g3.same (wo_same_of sF2)
              have g4 := g4.same (wo_same_of sF2)
              have g5 := g5.same (wo_same_of sF2)
              have g6 := g6.same (wo_same_of sF2)
              have hp := hp.same sF2
              have sw2 := sw2.trans (wo_same_of sF2)
              generalize upd Hf F2 (.lst [V.ref R1, .ref c2, .ref E3, .ref V4, u2, v6]) = Hz4 at hF2 fL fX g1 g2 g3 g4 g5 g6 hp sw2 ⊢
              clear sF2 nF2
              have tY := tabs_wo tW hpl2 sw2
              have allg : ∀ x ∈ [V.ref R1, .ref c2, .ref E3, .ref V4, u2, v6], Fit K (wo Hz4 p) x := fun x hx => by
                simp only [List.mem_cons, List.not_mem_nil, or_false] at hx
                rcases hx with rfl | rfl | rfl | rfl | rfl | rfl
                · exact g1
                · exact g2
                · exact g3
                · exact g4
                · exact g5
                · exact g6
              clear g1 g2 g3 g4 g5 g6
              have eP2 := ExtP.trans2 eP (ExtP.wo sw2)
              refine ⟨F2, rfl, ⟨_, SqL.of hF2⟩, ?_⟩
              refine for_list (xs := [V.ref R1, .ref c2, .ref E3, .ref V4, u2, v6]) (fun i σ H'' => ∃ y7 y8 y9, σ = [some (.ref p), some (.ref La), none, some (.ref Ac), some (.ref Du), none, none, y7, y8, y9] ∧ ExtN Hz4 H'' ∧ Tabs T H'') ⟨y7, y8, none, rfl, fun b o e _ => e, tY⟩ (fun i σ H'' _ hP => ?_) (fun i x σ H'' hxi hP => ?_) fun σ H'' hP => ?_
              · obtain ⟨_, _, _, _, e, _⟩ := hP
                exact SqL.of (e _ _ hF2 (fun ps z => by cases z))
              · obtain ⟨y7, y8, y9, rfl, eN, tN⟩ := hP
                obtain ⟨d, hd, okd⟩ := allg x (List.mem_of_getElem? hxi)
                have hdN := dk_extN (hd.same wo_le) eN
                have hLN := sqT_extN (Same.seqT wo_le fL.t) eN
                refine ⟨tN, fun f0 F0 e0 t0 l0 nf0 => ⟨(), f0, rfl, l0, fun H5 s5 E' Q' hE hB => ?_⟩⟩
                have e5 := e0.trans (ExtN.of s5)
                have t5 := t0.ext s5
                refine ⟨.ref La, rfl, x, rfl, .ref La, x, _, d, rfl, .dk (.dp (.tup (sqT_extN hLN e5) str_dps)) okL, dk_extN hdN e5, okd, fun el => (by rw [hLs] at el; cases el), fun _ ew H6 dd s6 nd => hE _ _ _ ⟨XA.x, CA, dd, rfl, rfl, fun ea pt nea npt => ?_⟩, fun ls' acs' e1 e2 _ aw H6 s6 => ⟨fun en => hB _ _ fun pt npt => ?_, fun l a t en ht => hB _ _ fun pt npt => ?_⟩⟩
                · clear hE hB
                  have sd := same_upd (o := .xd [("value", x)]) nd
                  have se := same_upd (o := ErrO CA dd ea) nea
                  have sp := same_upd (o := .tup [V.ref ea, .non]) npt
                  have herr := sp _ _ (upd_same (H := upd H6 dd (.xd [("value", x)])) (a := ea) (o := ErrO CA dd ea))
                  have hdd := (se.trans sp) _ _ (upd_same (H := H6) (a := dd) (o := .xd [("value", x)]))
                  have hpt : upd (upd (upd H6 dd (.xd [("value", x)])) ea (ErrO CA dd ea)) pt (.tup [V.ref ea, .non]) pt = some (.tup [V.ref ea, .non]) := upd_same
                  have s11 := s6.trans ((sd.trans se).trans sp)
                  generalize upd (upd (upd H6 dd (.xd [("value", x)])) ea (ErrO CA dd ea)) pt (.tup [V.ref ea, .non]) = H7 at herr hdd hpt s11 ⊢
                  have e7 := e5.trans (ExtN.of s11)
                  have t7 := t5.ext s11
                  have hq7 := Dq.dk (dk_extN hdN e7) okd
                  refine ⟨pt, _, _, .ref ea, rfl, rfl, SqT.of hpt, at0, ?_⟩
                  refine ⟨.ref ea, rfl, .inl ⟨ea, CA, CA, dd, _, true, rfl, herr, hdd, XA.i, kAA, _, rfl, iteT ?_⟩⟩
                  refine ⟨.ref ea, rfl, ea, CA, dd, [("value", x)], x, rfl, herr, XA.i.f, XA.n, hdd, rfl, x, d, rfl, hq7, okData_q okd, x, rfl, x, d, rfl, hq7, okData_q okd, rfl, ?_⟩
                  rw [decide_eq_true rfl]
                  refine ⟨_, rfl, x, rfl, x, d, rfl, dk_extN hdN e7, fun H9 s9 => ⟨rfl, _, rfl, ?_⟩⟩
                  rw [ew]
                  exact iteF ⟨_, _, _, rfl, eN.trans (e7.trans (ExtN.of s9)), t7.ext s9⟩
                · clear hE hB
                  have sp := same_upd (o := .tup [V.non, .non]) npt
                  have hpt : upd H6 pt (.tup [V.non, .non]) pt = some (.tup [V.non, .non]) := upd_same
                  have s11 := s6.trans sp
                  generalize upd H6 pt (.tup [V.non, .non]) = H7 at hpt s11 ⊢
                  have e7 := e5.trans (ExtN.of s11)
                  have t7 := t5.ext s11
                  refine ⟨pt, _, _, .non, rfl, rfl, SqT.of hpt, at0, ?_⟩
                  refine ⟨.non, rfl, .inr ⟨.non, .ref CA, .type "NoneType", .ref CA, false, rfl, .own CA, .base .non, kNA, _, rfl, iteF ?_⟩⟩
                  refine ⟨_, rfl, x, rfl, x, d, rfl, dk_extN hdN e7, fun H9 s9 => ⟨rfl, _, rfl, ?_⟩⟩
                  rw [aw]
                  exact iteF ⟨_, _, _, rfl, eN.trans (e7.trans (ExtN.of s9)), t7.ext s9⟩
                · clear hE hB
                  have sp := same_upd (o := .tup [V.non, .ref t]) npt
                  have hpt : upd H6 pt (.tup [V.non, .ref t]) pt = some (.tup [V.non, .ref t]) := upd_same
                  have s11 := s6.trans sp
                  generalize upd H6 pt (.tup [V.non, .ref t]) = H7 at hpt s11 ⊢
                  have e7 := e5.trans (ExtN.of s11)
                  have t7 := t5.ext s11
                  refine ⟨pt, _, _, .non, rfl, rfl, SqT.of hpt, at0, ?_⟩
                  refine ⟨.non, rfl, .inr ⟨.non, .ref CA, .type "NoneType", .ref CA, false, rfl, .own CA, .base .non, kNA, _, rfl, iteF ?_⟩⟩
                  refine ⟨_, rfl, x, rfl, x, d, rfl, dk_extN hdN e7, fun H9 s9 => ⟨rfl, _, rfl, ?_⟩⟩
                  rw [aw]
                  exact iteF ⟨_, _, _, rfl, eN.trans (e7.trans (ExtN.of s9)), t7.ext s9⟩
              · obtain ⟨y7, y8, y9, rfl, eN2, tN2⟩ := hP
                exact q _ ((pot_extN hp eN2).mono (by omega)) (ExtP.ext eP2 eN2) tN2
          refine ⟨.ref La, rfl, .ref Ac, rfl, .ref La, .ref Ac, _, _, rfl, .dk (.dp (.tup hLa2 dstr)) okL, .dp hAc2, okA, fun h => (by rw [hLs] at h; cases h), fun _ h => (by rw [acok] at h; cases h), fun ls' acs' e1 e2 _ _ H3 s3 => ?_⟩
          obtain rfl := strs_inj (PyData.tuple.inj e1)
          obtain rfl := accD_inj (PyData.tuple.inj e2)
          have hDu3 := s3 _ _ hDu
          have hr3 := hr.mono (Du := Du) fun t xs h => Same.seqT s3 h
          have hdD := dueAt_data hr3
          have shD : SeqAt.shaped (.list ((refL ls acs).map dueD)) = true := shaped_of (okM.lst (k := 1) (m := 918) (fun d hd => by
            obtain ⟨e, he, rfl⟩ := List.mem_map.mp hd
            exact due_okM (refL_ok hacs e he)) (by rw [List.length_map]; have := refL_len (ls := ls) (as := acs); omega)).1 (by decide)
          constructor
          · intro en
            rw [refL_head] at en
            have e0 := List.head?_eq_none_iff.mp en
            rw [e0] at hdD shD
            refine ⟨.non, .none, rfl, .dp .non, by decide, .ref Du, rfl, by show 0 ≤ sizeLine; decide, fun Ee nE => ?_⟩
            have uE := same_upd (o := .lst []) nE
            refine ⟨.list [], .list [], .lst (SqL.of (uE _ _ hDu3)) (dpAll_same uE _ _ hdD), .lst (SqL.of upd_same) .nil, shD, by decide, _, rfl, iteF ?_⟩
            refine ⟨.non, .none, rfl, .dp .non, by decide, rfl, _, rfl, ?_⟩
            rw [same_f]
            exact iteF (hN _ _ ⟨rfl, s3.trans uE⟩)
          · intro l a t en ht
            rw [refL_head] at en
            obtain ⟨L, e0⟩ : ∃ L, refL ls acs = (l, a) :: L := by
              cases e : refL ls acs with
              | nil => rw [e] at en; cases en
              | cons x L => rw [e] at en; cases en; exact ⟨L, rfl⟩
            have okd : okData (dueD (l, a)) = true := okM_data (due_okM (refL_ok hacs (l, a) (by rw [e0]; exact List.mem_cons_self ..))) (by decide) (by decide)
            rw [e0] at hdD shD hr3
            cases rs with
            | nil => exact hr3.elim
            | cons t0 rs =>
              have ht0 : SqT K H3 t0 [.str "page", .str l, .int a] := hr3.1
              have dat : ∀ {H : Hp} {t : Addr}, SqT K H t [.str "page", .str l, .int a] → Dk K H (.ref t) (dueD (l, a)) := fun h => .dp (.tup h (.cons (.str _) (.cons (.str _) (.cons (.int _) .nil))))
              refine ⟨.ref t, dueD (l, a), rfl, dat ht, okd, .ref Du, rfl, by show 0 ≤ sizeLine; decide, fun Ee nE => ?_⟩
              have uE := same_upd (o := .lst []) nE
              refine ⟨_, .list [], .lst (SqL.of (uE _ _ hDu3)) (dpAll_same uE _ _ hdD), .lst (SqL.of upd_same) .nil, shD, by decide, _, rfl, iteT ?_⟩
              refine ⟨.ref Du, rfl, Du, _, 0, .ref t0, rfl, rfl, SqL.of (uE _ _ hDu3), at0, ?_⟩
              refine ⟨.ref t0, dueD (l, a), rfl, dat (Same.seqT uE ht0), okd, rfl, _, rfl, ?_⟩
              rw [same_f]
              exact iteF (hN _ _ ⟨rfl, s3.trans uE⟩)
      refine ⟨.ref p, rfl, p, 3, _, rfl, by decide, by decide, hp4, by omega, fun d2 H5 d20 d21 hp5 s5 => ?_⟩
      have hA1 := dp_same s5 _ _ hA1
      have hLa := Same.seqT s5 hLa
      have sw := sw.trans s5
      clear hp4 s5
      refine ⟨d2, 0, rfl, rfl, _, rfl, ?_⟩
      by_cases c : d2 > 0
      · refine iteD c ?_
        refine ⟨.ref A1, rfl, .ref p, rfl, p, 256, _, rfl, by decide, by decide, hp5, by omega, fun d3 H6 d30 d31 hp6 s6 => ?_⟩
        have hA1 := dp_same s6 _ _ hA1
        have hLa := Same.seqT s6 hLa
        have sw := sw.trans s6
        refine ⟨.ref p, rfl, by show 2 ≤ sizeLine; decide, fun L1 nL1 => ?_⟩
        have eL1 := hp6.ne nL1
        have uL := same_upd (o := .lst [V.str "r", .str "w"]) nL1
        refine ⟨p, L1, _, _, rfl, SqL.of (wo_at upd_same eL1), by simp, by show 2 ≤ 1000; decide, hp6.same uL, by omega, fun x mx H7 hp7 s7 => ?_⟩
        obtain ⟨l, rfl, hl⟩ : ∃ l : Str, x = .str l ∧ l ∈ (["r", "w"] : List Str) := by
          simp only [List.mem_cons, List.not_mem_nil, or_false] at mx
          rcases mx with rfl | rfl
          · exact ⟨_, rfl, by decide⟩
          · exact ⟨_, rfl, by decide⟩
        have g7 := (wo_same_of (a := p) uL).trans s7
        have hA1 := dp_same g7 _ _ hA1
        have hLa := Same.seqT g7 hLa
        have sw := sw.trans g7
        refine ⟨by show 2 ≤ sizeLine; decide, fun P2 nP2 => ⟨by show 1 ≤ sizeLine; decide, fun A2 nA2 => ?_⟩⟩
        have eP2 := hp7.ne nP2
        have uP := same_upd (o := .tup [V.int d3, .str l]) nP2
        have eA2 := (hp7.same uP).ne nA2
        have uA := same_upd (o := .tup [V.ref P2]) nA2
        cases hA1 with
        | @tup _ ys _ hsA haA =>
        obtain ⟨y1, rfl, hy1⟩ := dpAll_one haA
        refine catA_one (Same.seqT (uP.trans uA) (Same.seqT wo_le hsA)) (SqT.of upd_same) (sl (by show 1 + 1 ≤ 1000; decide)) fun A3 H8 hA3 s8 => ?_
        have u8 := (uP.trans uA).trans s8
        have hp8 := hp7.same u8
        have hLa := Same.seqT (wo_same_of u8) hLa
        have sw := sw.trans (wo_same_of u8)
        obtain ⟨qa, qb, qc, hpe, _⟩ := id hp8
        have hAc : Dp K (wo H8 p) (.ref A3) (.tuple ([(d1, Str.ofString "x"), (d3, l)].map accD)) := .tup (sqT_wo hA3 hpe) (.cons (dp_same (wo_same_of u8) _ _ hy1) (.cons (.tup (SqT.of (wo_at ((uA.trans s8) _ _ upd_same) eP2)) (.cons (.int _) (.cons (.str _) .nil))) .nil))
        have acok : accB (.tuple ([(d1, Str.ofString "x"), (d3, l)].map accD)) = true := by
          show ((isW (.int d1) 0 255 && decide (Str.ofString "x" ∈ (["x"] : List Str))) && (isW (.int d3) 0 255 && decide (l ∈ (["r", "w"] : List Str)))) = true
          rw [isW_of d10 (by omega), isW_of d30 (by omega), decide_eq_true hl]
          rfl
        exact hN _ _ ⟨A3, _, rfl, hp8.mono (by omega), sw, hLa, hAc, acok⟩
      · refine iteE c ?_
        have acok : accB (.tuple ([(d1, Str.ofString "x")].map accD)) = true := by
          show (isW (.int d1) 0 255 && decide (Str.ofString "x" ∈ (["x"] : List Str))) = true
          rw [isW_of d10 (by omega)]
          rfl
        exact hN _ _ ⟨A1, [(d1, Str.ofString "x")], rfl, hp5.mono (by omega), sw, hLa, hA1, acok⟩
end
end K26

set_option maxRecDepth 100000
set_option maxHeartbeats 8000000
/-! k26: faults that are none, places that are none, words. -/
namespace K26
open PySem PySem.Spec PyProof.Rows L2 LamX VG TL
theorem scValues : FnScope ["pot", "fault", "place", "near", "value", "due", "caught", "late", "one", "is_bad", "words", "lap"] ["pot", "fault", "place"] (defScope sValues) := ⟨rfl, rfl, rfl, by decide +kernel, rfl, by decide +kernel, by decide +kernel⟩
def lamsL : Stmt → List LamD
  | .Assign _ (.List [v] _) _ => lamsE v
  | .Assign _ v _ => lamsE v
  | .Expr (.Call _ [v] _ _) _ => lamsE v
  | _ => []
def lamsG : Stmt → List LamD
  | .For _ _ b _ _ => (b.map lamsL).flatten
  | _ => []
def lamValues (i : Nat) : LamD := (((defBody sValues).map lamsG).flatten).getD i ⟨⟨[], [], none, [], [], none, []⟩, .Constant .none 0 ⟨0, 0, 0, 0⟩, defScope sValues⟩
theorem lamValues_sc (i : Nat) (h : i < 4) : LamS (defScope sValues) (lamValues i).scope := by
  match i, h with
  | 0, _ => exact lamS_by (by decide +kernel)
  | 1, _ => exact lamS_by (by decide +kernel)
  | 2, _ => exact lamS_by (by decide +kernel)
  | 3, _ => exact lamS_by (by decide +kernel)
section
variable {P : Program} {w : World} {K : PySem.W.Frag} {mg : Str → Option Value} {base : Heap}
structure FitF (K : PySem.W.Frag) (H : Hp) (a : Addr) (f : Fl) : Prop where
  t : SqT K H a f.vs
theorem FitF.same {K : PySem.W.Frag} {H H' : Hp} {a : Addr} {f : Fl} (h : FitF K H a f) (s : Same H H') : FitF K H' a f := ⟨Same.seqT s h.t⟩
theorem fit_two {K : PySem.W.Frag} {H : Hp} {t : Addr} {z : Str} {i : Int} (h : SqT K H t [.str z, .int i]) (hz : okM 0 50 (.str z)) (h0 : 0 ≤ i) (h1 : i ≤ 65535) : Fit K H (.ref t) :=
  ⟨.tuple [.str z, .int i], .dp (.tup h (.cons (.str _) (.cons (.int _) .nil))), okM_data (okM.tup (k := 0) (m := 50) (fun d hd => by
    simp only [List.mem_cons, List.not_mem_nil, or_false] at hd
    rcases hd with rfl | rfl
    · exact hz
    · exact okM.int (by omega) (by omega)) (by show 2 ≤ 18; decide)) (by decide) (by decide)⟩
theorem fl_len {f : Fl} : f.vs.length ≤ 3 := by
  cases f with
  | page l n => exact Nat.le_refl _
  | two k n => show 2 ≤ 3; decide
theorem fl_parts {f : Fl} (ok : f.ok) : ∀ d ∈ f.ds, okM 0 50 d := fun d hd => by
  cases f with
  | page l n =>
    obtain ⟨h1, h2, h3⟩ := ok
    simp only [Fl.ds, List.mem_cons, List.not_mem_nil, or_false] at hd
    rcases hd with rfl | rfl | rfl
    · exact okM_lit (by decide)
    · exact lets_okM h1
    · exact okM.int (by omega) (by omega)
  | two k n =>
    obtain ⟨h1, h2, h3⟩ := ok
    simp only [Fl.ds, List.mem_cons, List.not_mem_nil, or_false] at hd
    rcases hd with rfl | rfl
    · exact kinds_okM h1
    · exact okM.int (by omega) (by omega)
theorem fl_dlen {f : Fl} : f.ds.length ≤ 3 := by
  cases f with
  | page l n => exact Nat.le_refl _
  | two k n => show 2 ≤ 3; decide
theorem fl_fitL {K : PySem.W.Frag} {H : Hp} {c : Addr} {f : Fl} (h : SqL K H c f.vs) (ok : f.ok) : Fit K H (.ref c) :=
  ⟨.list f.ds, .dp (.lst h fl_data), okM_data (okM.lst (k := 0) (m := 50) (fl_parts ok) (by have := fl_dlen (f := f); omega)) (by decide) (by decide)⟩
theorem fl_fit0 {K : PySem.W.Frag} {H : Hp} {c : Addr} {f : Fl} (h : SqT K H c (f.vs ++ [.int 0])) (ok : f.ok) : Fit K H (.ref c) :=
  ⟨.tuple (f.ds ++ [.int 0]), .dp (.tup h (dpAll_app fl_data (.cons (.int 0) .nil))), okM_data (okM.tup (k := 0) (m := 50) (fun d hd => (List.mem_append.mp hd).elim (fl_parts ok d) fun h => by rw [List.mem_singleton.mp h]; exact okM.int (by decide) (by decide)) (by have := fl_dlen (f := f); rw [List.length_append]; show _ + 1 ≤ 18; omega)) (by decide) (by decide)⟩
theorem bd_lit {n : Nat} {z : Str} (h : z ∈ lets3 ∨ z ∈ kindsF ∨ z = "page") : BD n (.str z) := by
  simp only [lets3, kindsF, List.mem_cons, List.not_mem_nil, or_false] at h
  rcases h with (rfl | rfl | rfl) | (rfl | rfl | rfl | rfl) | rfl
  all_goals exact .str ⟨by decide, str_chars _⟩ ⟨by decide +kernel, by decide +kernel⟩ (by decide)
theorem fl_bd {f : Fl} (ok : f.ok) : BD 1 (.tuple f.ds) := by
  refine .tup (by cases f <;> simp [Fl.ds]) (by have := fl_dlen (f := f); omega) fun d hd => ?_
  cases f with
  | page l n =>
    obtain ⟨h1, h2, h3⟩ := ok
    simp only [Fl.ds, List.mem_cons, List.not_mem_nil, or_false] at hd
    rcases hd with rfl | rfl | rfl
    · exact bd_lit (.inr (.inr rfl))
    · exact bd_lit (.inl h1)
    · exact .int (by omega) (by omega)
  | two k n =>
    obtain ⟨h1, h2, h3⟩ := ok
    simp only [Fl.ds, List.mem_cons, List.not_mem_nil, or_false] at hd
    rcases hd with rfl | rfl
    · exact bd_lit (.inr (.inl h1))
    · exact .int (by omega) (by omega)
theorem FitF.ext {K : PySem.W.Frag} {H H' : Hp} {a : Addr} {f : Fl} (h : FitF K H a f) (s : ExtN H H') : FitF K H' a f := ⟨sqT_extN h.t s⟩
theorem iteP {c : Bool} {A B : Prop} (h : c = true) (x : A) : if c = true then A else B := by rw [if_pos h]; exact x
theorem iteN {c : Bool} {A B : Prop} (h : c = false) (x : B) : if c = true then A else B := by rw [if_neg (by rw [h]; exact Bool.false_ne_true)]; exact x
/-- a kept error of this class, with this very value, where it is due -/
def Late (H : Hp) (C : Addr) (x : V) (bad : Bool) (c : V) : Prop := bad = true → ∃ ea dd, c = .ref ea ∧ H ea = some (ErrO C dd ea) ∧ H dd = some (.xd [("value", x)])
theorem Late.ext {H H' : Hp} {C : Addr} {x c : V} {bad : Bool} (h : Late H C x bad c) (e : ExtN H H') : Late H' C x bad c := fun hb => by
  obtain ⟨ea, dd, e1, e2, e3⟩ := h hb
  exact ⟨ea, dd, e1, e _ _ e2 (fun ps z => by cases z), e _ _ e3 (fun ps z => by cases z)⟩
theorem Late.upd {H : Hp} {C L : Addr} {x c : V} {bad : Bool} {ys : List V} {o : HO} (h : Late H C x bad c) (hL : H L = some (.lst ys)) : Late (upd H L o) C x bad c := fun hb => by
  obtain ⟨ea, dd, e1, e2, e3⟩ := h hb
  refine ⟨ea, dd, e1, ?_, ?_⟩
  · rw [upd_ne (fun z => by rw [z, hL] at e2; cases e2)]; exact e2
  · rw [upd_ne (fun z => by rw [z, hL] at e3; cases e3)]; exact e3
theorem extN_upd {H H' : Hp} {L : Addr} {o : HO} (e : ExtN H H') (n : ∀ b o, H b = some o → (∀ ps, o ≠ .tbl ps) → b ≠ L) : ExtN H (upd H' L o) := fun b x h nt => by
  rw [upd_ne (n b x h nt)]
  exact e b x h nt
structure SqF (K : PySem.W.Frag) (H : Hp) (a : Addr) (xs : List V) : Prop where
  t : SqT K H a xs
theorem SqF.same {K : PySem.W.Frag} {H H' : Hp} {a : Addr} {xs : List V} (h : SqF K H a xs) (s : Same H H') : SqF K H' a xs := ⟨Same.seqT s h.t⟩
theorem SqF.ext {K : PySem.W.Frag} {H H' : Hp} {a : Addr} {xs : List V} (h : SqF K H a xs) (s : ExtN H H') : SqF K H' a xs := ⟨sqT_extN h.t s⟩
theorem slice_fromN {K : PySem.W.Frag} {σ : L2.St} {H : Hp} {a : Addr} {xs : List V} {j : Nat} {Q : VK} (h : SqT K H a xs) (q : ∀ p H', SqT K H' p (xs.drop j) → Same H H' → (p = a ∨ H p = none) → Q (.ref p) H') : tNoPart σ H (fun u H3 => rSlA K (.ref a) (some (j : Int)) u H3 Q) := slice_from h q
theorem ints_okM {ns : List Int} (hb : ∀ n ∈ ns, -70000 ≤ n ∧ n ≤ 70000) : ∀ d ∈ ns.map PyData.int, okM 0 50 d := fun d hd => by
  obtain ⟨n, hn, rfl⟩ := List.mem_map.mp hd
  have := hb n hn
  exact okM.int (by omega) (by omega)
theorem ints_fit {K : PySem.W.Frag} {H : Hp} {c : Addr} {ns : List Int} (h : SqT K H c (ns.map V.int)) (hb : ∀ n ∈ ns, -70000 ≤ n ∧ n ≤ 70000) (hl : ns.length ≤ 18) : Fit K H (.ref c) :=
  ⟨_, .dp (.tup h (dpI (ns := ns))), okM_data (okM.tup (k := 0) (m := 50) (ints_okM hb) (by rw [List.length_map]; exact hl)) (by decide) (by decide)⟩
theorem ints_fitL {K : PySem.W.Frag} {H : Hp} {c : Addr} {ns : List Int} (h : SqL K H c (ns.map V.int)) (hb : ∀ n ∈ ns, -70000 ≤ n ∧ n ≤ 70000) (hl : ns.length ≤ 18) : Fit K H (.ref c) :=
  ⟨_, .dp (.lst h (dpI (ns := ns))), okM_data (okM.lst (k := 0) (m := 50) (ints_okM hb) (by rw [List.length_map]; exact hl)) (by decide) (by decide)⟩
theorem codeF_int {f : Fl} : 1 ≤ codeF f ∧ codeF f ≤ 7 := by
  cases f <;> unfold codeF <;> repeat' split <;> omega
theorem extN_extP {H H' : Hp} {p : Addr} (e : ExtP p H H') : ExtN (wo H p) (wo H' p) := fun b o h nt => by
  have nb : b ≠ p := fun z => by rw [z, wo_same] at h; cases h
  exact wo_at (e b o (wo_le _ _ h) nb nt) nb
/-- what is bent: a fault or words, or a place -/
def spBentK (K : PySem.W.Frag) : Sp := fun vs H Q E => spBent K 1 vs H Q E ∨ spBent K 0 vs H Q E
theorem ok_BentK {k : Nat} {f : Addr} {fd : FuncData} {ps : List Str} (G0 : FnOk P w K mg base CX0 k f fd ps (spBent K 1)) (GN : FnOk P w K mg base CX0 k f fd ps (spBent K 0)) : FnOk P w K mg base CX0 k f fd ps (spBentK K) :=
  ⟨fun vs H Q E h => h.elim (G0.len vs H Q E) (GN.len vs H Q E), fun A outer s H args us vs Q E hr e0 hb r h => h.elim (G0.run A outer s H args us vs Q E hr e0 hb r) (GN.run A outer s H args us vs Q E hr e0 hb r)⟩
theorem ok_Values {k : Nat} {f : Addr} {fd : FuncData} {CF CP C3 CS g cc Pt:Addr} {gd:FuncData} {T:List (Addr × Str)} (F : Fun K "_law_are_values_right" "_law_are_values_right" sValues f fd) (hcc : fd.code = .ref cc) (TB : TabB base mg cc Pt) (Tm : (Pt, Str.ofString "_law_are_values_right.<locals>." ++ "<lambda>") ∈ T) (T1 : ∀ p ∈ T, p.1 = Pt → p.2 = Str.ofString "_law_are_values_right.<locals>." ++ "<lambda>") (FH : Fun K "_law_heard" "_law_heard" sHeard g gd) (bH : L2.Binds K gd ["call"] []) (gH : mg "_law_heard" = some (.ref g)) (gS : mg "CoreError" = some (.ref CS)) (gOf : Cal P w K mg base CX0 (k + 10) "_law_of" ["pot", "some"] (spOf K)) (gTa : Cal P w K mg base CX0 (k + 10) "_law_take" ["pot", "upto"] spTake) (gOd : Cal P w K mg base CX0 (k + 10) "_law_odd" ["pot"] (spOdd K)) (gBeK : Cal P w K mg base CX0 (k + 10) "_law_bent" ["pot", "value"] (spBentK K)) (gFd : Cal P w K mg base CX0 (k + 10) "_law_fault_due" ["value"] (spDue K)) (gPd : Cal P w K mg base CX0 (k + 10) "_law_is_place_due" ["fault", "place"] (spPlaceDue K)) (gCo : Cal P w K mg base CX0 (k + 10) "_law_code" ["fault"] (spCode K)) (gVr : CalG P w K mg base (k + 10) "_law_is_value_right" ["fault", "value"] (spValueRight K T)) (gDr : Cal P w K mg base (L2.CX P w) (k + 8) "door_of" ["fault"] (spDoor K CF)) (gFw : Cal P w K mg base (L2.CX P w) (k + 8) "fault_words" ["fault", "place"] (spWords K CF CP)) (gBh : Cal P w K mg base (L2.CX P w) (k + 8) "behind_answer" ["fault", "words"] (spBehind K CF C3)) (gBadFault : mg "BadFault" = some (.ref CF)) (gBadPlace : mg "BadPlace" = some (.ref CP)) (XF : Err1 K CS CF) (XP : Err1 K CS CP) (X3 : Err1 K CS C3) (kFF : PySem.W.kitOne K (.ref CF) (.ref CF) = some true) (kPP : PySem.W.kitOne K (.ref CP) (.ref CP) = some true) (kNF : PySem.W.kitOne K (.type "NoneType") (.ref CF) = some false) (kNP : PySem.W.kitOne K (.type "NoneType") (.ref CP) = some false) (fall : mg "all" = none) (fisinstance : mg "isinstance" = none) (flist : mg "list" = none) (frange : mg "range" = none) (frepr : mg "repr" = none) : FnG P w K mg base (k + 11) f fd ["pot", "fault", "place"] (spValues K T) := by
  obtain ⟨fOf, fdOf, GOf, kOf, bOf, mOf⟩ := gOf
  obtain ⟨fTa, fdTa, GTa, kTa, bTa, mTa⟩ := gTa
  obtain ⟨fOd, fdOd, GOd, kOd, bOd, mOd⟩ := gOd
  obtain ⟨fBeK, fdBeK, GBeK, kBeK, bBeK, mBeK⟩ := gBeK
  obtain ⟨fFd, fdFd, GFd, kFd, bFd, mFd⟩ := gFd
  obtain ⟨fPd, fdPd, GPd, kPd, bPd, mPd⟩ := gPd
  obtain ⟨fCo, fdCo, GCo, kCo, bCo, mCo⟩ := gCo
  obtain ⟨fVr, fdVr, GVr, kVr, bVr, mVr⟩ := gVr
  obtain ⟨fDr, fdDr, GDr, kDr, bDr, mDr⟩ := gDr
  obtain ⟨fFw, fdFw, GFw, kFw, bFw, mFw⟩ := gFw
  obtain ⟨fBh, fdBh, GBh, kBh, bBh, mBh⟩ := gBh
  refine fnG_code F hcc scValues (fun vs H Q E h => ?_) (fun A outer s H vs Q hr gd h => ?_)
  · obtain ⟨p, a, n, f, i, rfl, _⟩ := h
    rfl
  · have M : LamM (cxOf CX0 P w K mg base ["pot", "fault", "place", "near", "value", "due", "caught", "late", "one", "is_bad", "words", "lap"] "_law_are_values_right" (defScope sValues) f (.ref cc) A outer s H E0).nox T cc Pt := ⟨TB, rfl, Tm, T1⟩
    obtain ⟨p, a, n, f, i, rfl, hs, ok, fb, i0, i1, hc, hp, hn, hT, q⟩ := h
    refine ⟨_, (pss_cons (ps_set (i := 3) scValues.nd rfl (.inl rfl) (pe_lst (pa_cons (pe_tup (pa_cons pe_str (pa_cons (pe_call GOf hr (by rfl) mOf kOf bOf .nil pass0 (pa_cons (pv 0) (pa_cons (pe_lst (pa_cons pe_int (pa_cons pe_int (pa_cons pe_int pa_nil)))) pa_nil))) pa_nil))) (pa_cons (pe_tup (pa_cons pe_str (pa_cons (pe_call GOf hr (by rfl) mOf kOf bOf .nil pass0 (pa_cons (pv 0) (pa_cons (pe_lst (pa_cons pe_int (pa_cons pe_int (pa_cons pe_int (pa_cons pe_int (pa_cons pe_int (pa_cons pe_int pa_nil))))))) pa_nil))) pa_nil))) pa_nil)))) (pss_cons (ps_for PassesOwn.never rfl (pi_list (pe_op op_cat (pe_op op_cat (pe_lst (pa_cons (pv 1) (pa_cons (pe_call GBeK hr (by rfl) mBeK kBeK bBeK .nil pass0 (pa_cons (pv 0) (pa_cons (pv 1) pa_nil))) (pa_cons (pe_call GBeK hr (by rfl) mBeK kBeK bBeK .nil pass0 (pa_cons (pv 0) (pa_cons (pv 1) pa_nil))) (pa_cons (pe_callTy call_list_of (by rfl) flist (by decide +kernel) (pa_cons (pv 1) pa_nil)) (pa_cons (pe_op op_catA (pv 1) (pe_tup (pa_cons pe_int pa_nil))) pa_nil)))))) (pv 3)) (pe_lst (pa_cons (pe_call GOd hr (by rfl) mOd kOd bOd .nil pass0 (pa_cons (pv 0) pa_nil)) pa_nil)))) (pg_name (i := 4) scValues.nd rfl (.inr rfl)) (pss_cons (ps_set (i := 5) scValues.nd rfl (.inl rfl) (pe_call GFd hr (by rfl) mFd kFd bFd .nil pass0 (pa_cons (pv 4) pa_nil))) (pss_cons (ps_set (i := 6) scValues.nd rfl (.inl rfl) (pe_ix ix_tup (pe_heard (ι := Unit) (D := fun _ => lamValues 0) (k := (k+8)) FH bH (by rfl) gH gS hr (pe_lam M (lamValues_sc 0 (by omega)) (by rfl)) (fun _ => lamValues_sc 0 (by omega)) (fun _ _ _ _ => by rfl) (fun _ A' outer' s' H' E' f' c' hr' => pe_call (X := lamCx _ A' outer' s' H' E' (lamValues 0).scope f' c') GDr hr' (by rfl) mDr kDr bDr .nil VG.passL (pa_cons (pv 4) pa_nil))) pe_int (fun _ _ => rfl))) (pss_cons (ps_if (PW.pt (pw_and (pt_not (pt_val (pv 5))) (pw_and1 (PW.pt (pw_or (pt_not (pt_val (pe_callB call_isB (by rfl) fisinstance (by decide +kernel) (pa_cons (pv 6) (pa_cons (pgr (by rfl) gBadFault) pa_nil))))) (pw_or1 (pt_cmpR op_ne (pe_callB (call_repr gd hr.units) (by rfl) frepr (by decide +kernel) (pa_cons (pe_errF (pv 6)) pa_nil)) (pe_callB (call_repr gd hr.units) (by rfl) frepr (by decide +kernel) (pa_cons (pv 4) pa_nil)) (nomark _)))))))) (pss_one (ps_ret pe_bl)) pss_nil) (pss_cons (ps_if (PW.pt (pw_and (pt_val (pv 5)) (pw_and1 (pt_cmpR op_notN (pv 6) pe_non (nomark _))))) (pss_one (ps_ret pe_bl)) pss_nil) (pss_cons (ps_set (i := 7) scValues.nd rfl (.inl rfl) (pe_lst (pa_cons (pe_ix ix_tup (pe_heard (ι := Unit) (D := fun _ => lamValues 1) (k := (k+8)) FH bH (by rfl) gH gS hr (pe_lam M (lamValues_sc 1 (by omega)) (by rfl)) (fun _ => lamValues_sc 1 (by omega)) (fun _ _ _ _ => by rfl) (fun _ A' outer' s' H' E' f' c' hr' => pe_call (X := lamCx _ A' outer' s' H' E' (lamValues 1).scope f' c') GFw hr' (by rfl) mFw kFw bFw .nil VG.passL (pa_cons (pv 4) (pa_cons pe_non pa_nil)))) pe_int (fun _ _ => rfl)) pa_nil))) (pss_cons (ps_expr (pe_bm PySem.F.plainAttrs_list PySem.F.slot_list_append PySem.F.type_list_append mt_append (pv 7) (pa_cons (pe_ix ix_tup (pe_heard (ι := Unit) (D := fun _ => lamValues 2) (k := (k+8)) FH bH (by rfl) gH gS hr (pe_lam M (lamValues_sc 2 (by omega)) (by rfl)) (fun _ => lamValues_sc 2 (by omega)) (fun _ _ _ _ => by rfl) (fun _ A' outer' s' H' E' f' c' hr' => pe_call (X := lamCx _ A' outer' s' H' E' (lamValues 2).scope f' c') GBh hr' (by rfl) mBh kBh bBh .nil VG.passL (pa_cons (pv 4) (pa_cons pe_non pa_nil)))) pe_int (fun _ _ => rfl)) pa_nil))) (pss_one (ps_for PassesOwn.never rfl (pi_list (pv 7)) (pg_name (i := 8) scValues.nd rfl (.inl rfl)) (pss_one (ps_if (PW.pt (pw_and (pt_not (pt_val (pv 5))) (pw_and1 (PW.pt (pw_or (pt_not (pt_val (pe_callB call_isB (by rfl) fisinstance (by decide +kernel) (pa_cons (pv 8) (pa_cons (pgr (by rfl) gBadFault) pa_nil))))) (pw_or1 (pt_cmpR op_ne (pe_callB (call_repr gd hr.units) (by rfl) frepr (by decide +kernel) (pa_cons (pe_errF (pv 8)) pa_nil)) (pe_callB (call_repr gd hr.units) (by rfl) frepr (by decide +kernel) (pa_cons (pv 4) pa_nil)) (nomark _)))))))) (pss_one (ps_ret pe_bl)) pss_nil))))))))))) (pss_cons (ps_for PassesOwn.never rfl (pi_list (pe_lst (pa_cons (pv 2) (pa_cons pe_non (pa_cons pe_int (pa_cons (pe_un un_neg pe_int) (pa_cons pe_bl (pa_cons (pe_call GBeK hr (by rfl) mBeK kBeK bBeK .nil pass0 (pa_cons (pv 0) (pa_cons (pv 2) pa_nil))) (pa_cons (pe_call GTa hr (by rfl) mTa kTa bTa .nil pass0 (pa_cons (pv 0) (pa_cons pe_int pa_nil))) (pa_cons (pe_call GOd hr (by rfl) mOd kOd bOd .nil pass0 (pa_cons (pv 0) pa_nil)) pa_nil)))))))))) (pg_name (i := 4) scValues.nd rfl (.inr rfl)) (pss_cons (ps_set (i := 6) scValues.nd rfl (.inl rfl) (pe_ix ix_tup (pe_heard (ι := Unit) (D := fun _ => lamValues 3) (k := (k+8)) FH bH (by rfl) gH gS hr (pe_lam M (lamValues_sc 3 (by omega)) (by rfl)) (fun _ => lamValues_sc 3 (by omega)) (fun _ _ _ _ => by rfl) (fun _ A' outer' s' H' E' f' c' hr' => pe_call (X := lamCx _ A' outer' s' H' E' (lamValues 3).scope f' c') GFw hr' (by rfl) mFw kFw bFw .nil VG.passL (pa_cons (pv 1) (pa_cons (pv 4) pa_nil)))) pe_int (fun _ _ => rfl))) (pss_cons (ps_set (i := 9) scValues.nd rfl (.inl rfl) (pe_and (pe_callB call_isB (by rfl) fisinstance (by decide +kernel) (pa_cons (pv 6) (pa_cons (pgr (by rfl) gBadPlace) pa_nil))) (pe_one (pe_cmpR op_eq (pe_callB (call_repr gd hr.units) (by rfl) frepr (by decide +kernel) (pa_cons (pe_errF (pv 6)) pa_nil)) (pe_callB (call_repr gd hr.units) (by rfl) frepr (by decide +kernel) (pa_cons (pv 4) pa_nil)) (nomark _))))) (pss_one (ps_if (pt_cmpR op_eq (pv 9) (pe_call GPd hr (by rfl) mPd kPd bPd .nil pass0 (pa_cons (pv 1) (pa_cons (pv 4) pa_nil))) (nomark _)) (pss_one (ps_ret pe_bl)) pss_nil))))) (pss_cons (ps_set (i := 10) scValues.nd rfl (.inr rfl) (pe_op op_catA (pe_call GCo hr (by rfl) mCo kCo bCo .nil pass0 (pa_cons (pv 1) pa_nil)) (pe_tup (pa_cons (pv 2) (pa_cons pe_int pa_nil))))) (pss_cons (ps_for PassesOwn.never rfl (pi_list (pe_lst (pa_cons (pv 10) (pa_cons (pe_slice sl_tupA (pv 10) po_none (po_some pe_int)) (pa_cons (pe_op op_catA (pv 10) (pe_tup (pa_cons pe_int pa_nil))) (pa_cons (pe_callTy call_list_of (by rfl) flist (by decide +kernel) (pa_cons (pv 10) pa_nil)) (pa_cons (pe_op op_catA (pe_slice sl_tupA (pv 10) po_none (po_some pe_int)) (pe_tup (pa_cons pe_int pa_nil))) (pa_cons (pe_op op_catA (pe_tup (pa_cons pe_int pa_nil)) (pe_slice sl_tupA (pv 10) (po_some pe_int) po_none)) (pa_cons (pe_op op_catA (pe_tup (pa_cons pe_int pa_nil)) (pe_slice sl_tupA (pv 10) (po_some pe_int) po_none)) pa_nil))))))))) (pg_name (i := 4) scValues.nd rfl (.inr rfl)) (pss_one (ps_if (pt_not (pt_val (pe_callG GVr hr gd (by rfl) mVr kVr bVr (pa_cons (pv 1) (pa_cons (pv 4) pa_nil))))) (pss_one (ps_ret pe_bl)) pss_nil))) (pss_one (ps_ret (pe_callB (cr_all rfl) (by rfl) fall (by decide +kernel) (pa_cons (pe_lc (own := [("lap", 11)]) (g := (gName 11)) (tt := tYes) rfl scValues.nd (pi_range1 (by rfl) frange (pa_cons pe_int pa_nil)) (blkOk_by (N := ["pot", "fault", "place", "near", "value", "due", "caught", "late", "one", "is_bad", "words", "lap"]) (sc := defScope sValues) (by decide +kernel)) (fun _ _ _ _ _ => (pg_name (i := 11) scValues.nd rfl (.inl rfl))) (fun _ _ _ _ _ => pts_nil) (fun _ _ _ _ _ => (pe_callG GVr hr gd (by rfl) mVr kVr bVr (pa_cons (pv 1) (pa_cons (pe_call GOf hr (by rfl) mOf kOf bOf .nil pass0 (pa_cons (pv 0) (pa_cons (pe_lst (pa_cons (pe_call GBeK hr (by rfl) mBeK kBeK bBeK .nil pass0 (pa_cons (pv 0) (pa_cons (pv 10) pa_nil))) (pa_cons (pe_call GOd hr (by rfl) mOd kOd bOd .nil pass0 (pa_cons (pv 0) pa_nil)) pa_nil))) pa_nil))) pa_nil))))) pa_nil))))))))), ?_⟩
    have hpl := pot_lst hp
    have hs0 := hs
    have sw : Same (wo H p) (wo H p) := Same.refl _
    have fF : FitF K (wo H p) a f := ⟨hs⟩
    refine ⟨.ref p, rfl, ?_⟩
    refine ⟨by show 3 ≤ sizeLine; decide, fun L1 nL1 => ?_⟩
    have sL1 := same_upd (o := (.lst [V.int 255, .int 256, .int 0])) nL1
    have eL1 : L1 ≠ p := hp.ne nL1
    have hL1 : upd H L1 (.lst [V.int 255, .int 256, .int 0]) L1 = some (.lst [V.int 255, .int 256, .int 0]) := upd_same
    have fF := fF.same (wo_same_of sL1)
    have hp := hp.same sL1
    have sw := sw.trans (wo_same_of sL1)
    generalize upd H L1 (.lst [V.int 255, .int 256, .int 0]) = Hz1 at hL1 fF hp sw ⊢
    clear sL1 nL1
    refine ⟨p, L1, _, _, rfl, SqL.of (wo_at hL1 eL1), by simp, by show 3 ≤ 1000; decide, hp, by omega, fun x1 mx1 Hd1 hp1 s1 => ?_⟩
    have fF := fF.same s1
    have sw := sw.trans s1
    have hp := hp1
    obtain ⟨i1, rfl, i10, i11⟩ : ∃ i : Int, x1 = .int i ∧ 0 ≤ i ∧ i ≤ 65535 := by
      simp only [List.mem_cons, List.not_mem_nil, or_false] at mx1
      rcases mx1 with rfl | rfl | rfl
      all_goals exact ⟨_, rfl, by decide, by decide⟩
    refine ⟨by show 2 ≤ sizeLine; decide, fun T1 nT1 => ?_⟩
    have sT1 := same_upd (o := (.tup [V.str "beyond", .int i1])) nT1
    have eT1 : T1 ≠ p := hp.ne nT1
    have hT1 : upd Hd1 T1 (.tup [V.str "beyond", .int i1]) T1 = some (.tup [V.str "beyond", .int i1]) := upd_same
    have fF := fF.same (wo_same_of sT1)
    have hp := hp.same sT1
    have sw := sw.trans (wo_same_of sT1)
    generalize upd Hd1 T1 (.tup [V.str "beyond", .int i1]) = Hz2 at hT1 fF hp sw ⊢
    clear sT1 nT1
    have g1 : Fit K (wo Hz2 p) (.ref T1) := fit_two (SqT.of (wo_at hT1 eT1)) (kinds_okM (by decide)) i10 i11
    refine ⟨.ref p, rfl, ?_⟩
    refine ⟨by show 6 ≤ sizeLine; decide, fun L2 nL2 => ?_⟩
    have sL2 := same_upd (o := (.lst [V.int 4096, .int 8192, .int 12288, .int 12298, .int 12299, .int 57600])) nL2
    have eL2 : L2 ≠ p := hp.ne nL2
    have hL2 : upd Hz2 L2 (.lst [V.int 4096, .int 8192, .int 12288, .int 12298, .int 12299, .int 57600]) L2 = some (.lst [V.int 4096, .int 8192, .int 12288, .int 12298, .int 12299, .int 57600]) := upd_same
    have fF := fF.same (wo_same_of sL2)
    have g1 := g1.same (wo_same_of sL2)
    have hp := hp.same sL2
    have sw := sw.trans (wo_same_of sL2)
    generalize upd Hz2 L2 (.lst [V.int 4096, .int 8192, .int 12288, .int 12298, .int 12299, .int 57600]) = Hz3 at hL2 fF g1 hp sw ⊢
    clear sL2 nL2
    refine ⟨p, L2, _, _, rfl, SqL.of (wo_at hL2 eL2), by simp, by show 6 ≤ 1000; decide, hp, by omega, fun x2 mx2 Hd2 hp2 s2 => ?_⟩
    have fF := fF.same s2
    have g1 := g1.same s2
    have sw := sw.trans s2
    have hp := hp2
    obtain ⟨i2, rfl, i20, i21⟩ : ∃ i : Int, x2 = .int i ∧ 0 ≤ i ∧ i ≤ 65535 := by
      simp only [List.mem_cons, List.not_mem_nil, or_false] at mx2
      rcases mx2 with rfl | rfl | rfl | rfl | rfl | rfl
      all_goals exact ⟨_, rfl, by decide, by decide⟩
    refine ⟨by show 2 ≤ sizeLine; decide, fun T2 nT2 => ?_⟩
    have sT2 := same_upd (o := (.tup [V.str "row", .int i2])) nT2
    have eT2 : T2 ≠ p := hp.ne nT2
    have hT2 : upd Hd2 T2 (.tup [V.str "row", .int i2]) T2 = some (.tup [V.str "row", .int i2]) := upd_same
    have fF := fF.same (wo_same_of sT2)
    have g1 := g1.same (wo_same_of sT2)
    have hp := hp.same sT2
    have sw := sw.trans (wo_same_of sT2)
    generalize upd Hd2 T2 (.tup [V.str "row", .int i2]) = Hz4 at hT2 fF g1 hp sw ⊢
    clear sT2 nT2
    have g2 : Fit K (wo Hz4 p) (.ref T2) := fit_two (SqT.of (wo_at hT2 eT2)) (kinds_okM (by decide)) i20 i21
    refine ⟨by show 2 ≤ sizeLine; decide, fun N nN => ?_⟩
    have sN := same_upd (o := (.lst [V.ref T1, .ref T2])) nN
    have eN : N ≠ p := hp.ne nN
    have hN : upd Hz4 N (.lst [V.ref T1, .ref T2]) N = some (.lst [V.ref T1, .ref T2]) := upd_same
    have fF := fF.same (wo_same_of sN)
    have g1 := g1.same (wo_same_of sN)
    have g2 := g2.same (wo_same_of sN)
    have hp := hp.same sN
    have sw := sw.trans (wo_same_of sN)
    generalize upd Hz4 N (.lst [V.ref T1, .ref T2]) = Hz5 at hN fF g1 g2 hp sw ⊢
    clear sN nN
    have hbd : BD 1 (.tuple f.ds) := fl_bd ok
    refine ⟨.ref a, rfl, .ref p, rfl, .ref a, rfl, .inl ⟨p, _, .ref a, .tuple f.ds, rfl, .tup fF.t fl_data, hbd, by decide, hp, by omega, fun u3 e3 He3 hpe3 se3 hde3 oke3 => ?_⟩⟩
    have g3 : Fit K (wo He3 p) u3 := ⟨e3, (Dk.dp hde3).same (nl_wo (pot_lst hp)), oke3.1.ok (by decide) (by decide)⟩
    have hN := wo_le _ _ (se3 _ _ (wo_at hN eN))
    have fF := fF.same se3
    have g1 := g1.same se3
    have g2 := g2.same se3
    have sw := sw.trans se3
    have hp := hpe3
    refine ⟨.ref p, rfl, .ref a, rfl, .inl ⟨p, _, .ref a, .tuple f.ds, rfl, .tup fF.t fl_data, hbd, by decide, hp, by omega, fun u4 e4 He4 hpe4 se4 hde4 oke4 => ?_⟩⟩
    have g4 : Fit K (wo He4 p) u4 := ⟨e4, (Dk.dp hde4).same (nl_wo (pot_lst hp)), oke4.1.ok (by decide) (by decide)⟩
    have hN := wo_le _ _ (se4 _ _ (wo_at hN eN))
    have fF := fF.same se4
    have g1 := g1.same se4
    have g2 := g2.same se4
    have g3 := g3.same se4
    have sw := sw.trans se4
    have hp := hpe4
    refine ⟨.ref a, rfl, a, _, rfl, .inr (Same.seqT wo_le fF.t), fun V5 nV5 => ?_⟩
    have sV5 := same_upd (o := (.lst f.vs)) nV5
    have eV5 : V5 ≠ p := hp.ne nV5
    have hV5 : upd He4 V5 (.lst f.vs) V5 = some (.lst f.vs) := upd_same
    have hN := sV5 _ _ hN
    have fF := fF.same (wo_same_of sV5)
    have g1 := g1.same (wo_same_of sV5)
    have g2 := g2.same (wo_same_of sV5)
    have g3 := g3.same (wo_same_of sV5)
    have g4 := g4.same (wo_same_of sV5)
    have hp := hp.same sV5
    have sw := sw.trans (wo_same_of sV5)
    generalize upd He4 V5 (.lst f.vs) = Hz6 at hV5 hN fF g1 g2 g3 g4 hp sw ⊢
    clear sV5 nV5
    have g5 : Fit K (wo Hz6 p) (.ref V5) := fl_fitL (SqL.of (wo_at hV5 eV5)) ok
    refine ⟨.ref a, rfl, ?_⟩
    refine ⟨by show 1 ≤ sizeLine; decide, fun Z6 nZ6 => ?_⟩
    have sZ6 := same_upd (o := (.tup [V.int 0])) nZ6
    have eZ6 : Z6 ≠ p := hp.ne nZ6
    have hZ6 : upd Hz6 Z6 (.tup [V.int 0]) Z6 = some (.tup [V.int 0]) := upd_same
    have hN := sZ6 _ _ hN
    have fF := fF.same (wo_same_of sZ6)
    have g1 := g1.same (wo_same_of sZ6)
    have g2 := g2.same (wo_same_of sZ6)
    have g3 := g3.same (wo_same_of sZ6)
    have g4 := g4.same (wo_same_of sZ6)
    have g5 := g5.same (wo_same_of sZ6)
    have hp := hp.same sZ6
    have sw := sw.trans (wo_same_of sZ6)
    generalize upd Hz6 Z6 (.tup [V.int 0]) = Hz7 at hZ6 hN fF g1 g2 g3 g4 g5 hp sw ⊢
    clear sZ6 nZ6
    refine catA_one (Same.seqT wo_le fF.t) (SqT.of hZ6) (sl (by have := fl_len (f := f); show _ + 1 ≤ 1000; omega)) fun c6 Hc hc6 sc6 => ?_
    have hN := sc6 _ _ hN
    have hZ6 := sc6 _ _ hZ6
    have fF := fF.same (wo_same_of sc6)
    have g1 := g1.same (wo_same_of sc6)
    have g2 := g2.same (wo_same_of sc6)
    have g3 := g3.same (wo_same_of sc6)
    have g4 := g4.same (wo_same_of sc6)
    have g5 := g5.same (wo_same_of sc6)
    have hp := hp.same sc6
    have sw := sw.trans (wo_same_of sc6)
    have g6 : Fit K (wo Hc p) (.ref c6) := by
      obtain ⟨qa, qb, qc, hpe, _⟩ := id hp
      exact fl_fit0 (sqT_wo hc6 hpe) ok
    refine ⟨by show 5 ≤ sizeLine; decide, fun F1 nF1 => ?_⟩
    have sF1 := same_upd (o := (.lst [V.ref a, u3, u4, .ref V5, .ref c6])) nF1
    have eF1 : F1 ≠ p := hp.ne nF1
    have hF1 : upd Hc F1 (.lst [V.ref a, u3, u4, .ref V5, .ref c6]) F1 = some (.lst [V.ref a, u3, u4, .ref V5, .ref c6]) := upd_same
    have hN := sF1 _ _ hN
    have fF := fF.same (wo_same_of sF1)
    have g1 := g1.same (wo_same_of sF1)
    have g2 := g2.same (wo_same_of sF1)
    have g3 := g3.same (wo_same_of sF1)
    have g4 := g4.same (wo_same_of sF1)
    have g5 := g5.same (wo_same_of sF1)
    have g6 := g6.same (wo_same_of sF1)
    have hp := hp.same sF1
    have sw := sw.trans (wo_same_of sF1)
    generalize upd Hc F1 (.lst [V.ref a, u3, u4, .ref V5, .ref c6]) = Hz8 at hF1 hN fF g1 g2 g3 g4 g5 g6 hp sw ⊢
    clear sF1 nF1
    refine ⟨.ref N, rfl, F1, N, _, _, rfl, rfl, hF1, hN, by show 5 + 2 ≤ sizeLine; decide, fun F2 nF2 => ?_⟩
    have sF2 := same_upd (o := (.lst ([V.ref a, u3, u4, .ref V5, .ref c6] ++ [V.ref T1, .ref T2]))) nF2
    have eF2 : F2 ≠ p := hp.ne nF2
    have hF2 : upd Hz8 F2 (.lst ([V.ref a, u3, u4, .ref V5, .ref c6] ++ [V.ref T1, .ref T2])) F2 = some (.lst ([V.ref a, u3, u4, .ref V5, .ref c6] ++ [V.ref T1, .ref T2])) := upd_same
    have hN := sF2 _ _ hN
    have hF1 := sF2 _ _ hF1
    have fF := fF.same (wo_same_of sF2)
    have g1 := g1.same (wo_same_of sF2)
    have g2 := g2.same (wo_same_of sF2)
    have g3 := g3.same (wo_same_of sF2)
    have g4 := g4.same (wo_same_of sF2)
    have g5 := g5.same (wo_same_of sF2)
    have g6 := g6.same (wo_same_of sF2)
    have hp := hp.same sF2
    have sw := sw.trans (wo_same_of sF2)
    generalize upd Hz8 F2 (.lst ([V.ref a, u3, u4, .ref V5, .ref c6] ++ [V.ref T1, .ref T2])) = Hz9 at hF2 hN hF1 fF g1 g2 g3 g4 g5 g6 hp sw ⊢
    clear sF2 nF2
    refine ⟨.ref p, rfl, p, _, rfl, hp, by omega, fun v7 d7 Hf hpf sf hdf okf => ?_⟩
    have g7 : Fit K (wo Hf p) v7 := ⟨d7, hdf.same (nl_wo (pot_lst hp)), (okOdd_e okf).1⟩
    have hN := wo_le _ _ (sf _ _ (wo_at hN eN))
    have hF1 := wo_le _ _ (sf _ _ (wo_at hF1 eF1))
    have hF2 := wo_le _ _ (sf _ _ (wo_at hF2 eF2))
    have fF := fF.same sf
    have g1 := g1.same sf
    have g2 := g2.same sf
    have g3 := g3.same sf
    have g4 := g4.same sf
    have g5 := g5.same sf
    have g6 := g6.same sf
    have sw := sw.trans sf
    have hp := hpf
    refine ⟨by show 1 ≤ sizeLine; decide, fun F3 nF3 => ?_⟩
    have sF3 := same_upd (o := (.lst [v7])) nF3
    have eF3 : F3 ≠ p := hp.ne nF3
    have hF3 : upd Hf F3 (.lst [v7]) F3 = some (.lst [v7]) := upd_same
    have hN := sF3 _ _ hN
    have hF1 := sF3 _ _ hF1
    have hF2 := sF3 _ _ hF2
    have fF := fF.same (wo_same_of sF3)
    have g1 := g1.same (wo_same_of sF3)
    have g2 := g2.same (wo_same_of sF3)
    have g3 := g3.same (wo_same_of sF3)
    have g4 := g4.same (wo_same_of sF3)
    have g5 := g5.same (wo_same_of sF3)
    have g6 := g6.same (wo_same_of sF3)
    have g7 := g7.same (wo_same_of sF3)
    have hp := hp.same sF3
    have sw := sw.trans (wo_same_of sF3)
    generalize upd Hf F3 (.lst [v7]) = Hz10 at hF3 hN hF1 hF2 fF g1 g2 g3 g4 g5 g6 g7 hp sw ⊢
    clear sF3 nF3
    refine ⟨F2, F3, _, _, rfl, rfl, hF2, hF3, by show 7 + 1 ≤ sizeLine; decide, fun F nF => ?_⟩
    have sF := same_upd (o := (.lst ([V.ref a, u3, u4, .ref V5, .ref c6] ++ [V.ref T1, .ref T2] ++ [v7]))) nF
    have eF : F ≠ p := hp.ne nF
    have hF : upd Hz10 F (.lst ([V.ref a, u3, u4, .ref V5, .ref c6] ++ [V.ref T1, .ref T2] ++ [v7])) F = some (.lst ([V.ref a, u3, u4, .ref V5, .ref c6] ++ [V.ref T1, .ref T2] ++ [v7])) := upd_same
    have fF := fF.same (wo_same_of sF)
    have g1 := g1.same (wo_same_of sF)
    have g2 := g2.same (wo_same_of sF)
    have g3 := g3.same (wo_same_of sF)
    have g4 := g4.same (wo_same_of sF)
    have g5 := g5.same (wo_same_of sF)
    have g6 := g6.same (wo_same_of sF)
    have g7 := g7.same (wo_same_of sF)
    have hp := hp.same sF
    have sw := sw.trans (wo_same_of sF)
    generalize upd Hz10 F (.lst ([V.ref a, u3, u4, .ref V5, .ref c6] ++ [V.ref T1, .ref T2] ++ [v7])) = Hz11 at hF fF g1 g2 g3 g4 g5 g6 g7 hp sw ⊢
    clear sF nF
    have g0 : Fit K (wo Hz11 p) (.ref a) := ⟨.tuple f.ds, .dp (.tup fF.t fl_data), okM_data (fl_okM ok) (by decide) (by decide)⟩
    have allg : ∀ x ∈ [V.ref a, u3, u4, .ref V5, .ref c6] ++ [V.ref T1, .ref T2] ++ [v7], Fit K (wo Hz11 p) x := fun x hx => by
      simp only [List.mem_append, List.mem_cons, List.not_mem_nil, or_false] at hx
      rcases hx with ((rfl | rfl | rfl | rfl | rfl) | rfl | rfl) | rfl
      · exact g0
      · exact g3
      · exact g4
      · exact g5
      · exact g6
      · exact g1
      · exact g2
      · exact g7
    clear g0 g1 g2 g3 g4 g5 g6 g7
    have tY := tabs_wo hT hpl sw
    refine ⟨F, rfl, ⟨_, SqL.of hF⟩, ?_⟩
    refine for_list (xs := [V.ref a, u3, u4, .ref V5, .ref c6] ++ [V.ref T1, .ref T2] ++ [v7]) (fun i' σ H' => ∃ y4 y5 y6 y7 y8, σ = [some (.ref p), some (.ref a), some (.int i), some (.ref N), y4, y5, y6, y7, y8, none, none, none] ∧ ExtN Hz11 H' ∧ Tabs T H') ⟨none, none, none, none, none, rfl, fun b o e _ => e, tY⟩ (fun i' σ H' _ hP => ?_) (fun i' x σ H' hxi hP => ?_) fun σ H' hP => ?_
    · obtain ⟨_, _, _, _, _, _, e, _⟩ := hP
      exact SqL.of (e _ _ hF (fun ps z => by cases z))
    · obtain ⟨y4, y5, y6, y7, y8, rfl, eN, tN⟩ := hP
      obtain ⟨d, hd, okd⟩ := allg x (List.mem_of_getElem? hxi)
      have hd0 := hd.same wo_le
      have psh := partsSh_ok okd
      clear allg hd
      refine ⟨x, rfl, x, d, rfl, dk_extN hd0 eN, fun H1 s1 => ?_⟩
      have e1 := eN.trans (ExtN.of s1)
      have t1 := tN.ext s1
      clear eN tN s1
      dsimp only [gName]
      refine seq_val (PV := fun v H' => ((faultB d = false ∧ ∃ ea dd, v = .ref ea ∧ H' ea = some (ErrO CF dd ea) ∧ H' dd = some (.xd [("value", x)])) ∨ (faultB d = true ∧ v = .non)) ∧ ExtN Hz11 H' ∧ Tabs T H') (fun Q1 q1 => ?_) (fun c1 H2 hc => ?_)
      · refine ⟨t1, fun f0 F0 e0 t0 l0 nf0 => ⟨(), f0, rfl, l0, fun H5 s5 E' Q' hE hB => ?_⟩⟩
        have e5 := e1.trans (e0.trans (ExtN.of s5))
        have t5 := t0.ext s5
        refine ⟨x, rfl, x, d, rfl, dk_extN hd0 e5, psh, fun ef H6 dd s6 nd => hE _ _ _ ⟨XF.x, CF, dd, rfl, rfl, fun ea pt nea npt => ?_⟩, fun f' ed ef H6 s6 => hB _ _ fun pt npt => ?_⟩
        · clear hE hB
          have sd := same_upd (o := .xd [("value", x)]) nd
          have se := same_upd (o := ErrO CF dd ea) nea
          have sp := same_upd (o := .tup [V.ref ea, .non]) npt
          have herr := sp _ _ (upd_same (H := upd H6 dd (.xd [("value", x)])) (a := ea) (o := ErrO CF dd ea))
          have hdd := (se.trans sp) _ _ (upd_same (H := H6) (a := dd) (o := .xd [("value", x)]))
          have hpt : upd (upd (upd H6 dd (.xd [("value", x)])) ea (ErrO CF dd ea)) pt (.tup [V.ref ea, .non]) pt = some (.tup [V.ref ea, .non]) := upd_same
          have s11 := s6.trans ((sd.trans se).trans sp)
          generalize upd (upd (upd H6 dd (.xd [("value", x)])) ea (ErrO CF dd ea)) pt (.tup [V.ref ea, .non]) = H7 at herr hdd hpt s11 ⊢
          have e7 := e5.trans (ExtN.of s11)
          have t7 := t5.ext s11
          refine ⟨pt, _, _, .ref ea, rfl, rfl, SqT.of hpt, at0, ?_⟩
          exact q1 _ _ ⟨.inl ⟨ef, ea, dd, rfl, herr, hdd⟩, e7, t7⟩
        · clear hE hB
          have sp := same_upd (o := .tup [V.non, (.str (if f'.isPage = true then "pager" else "handler"))]) npt
          have hpt : upd H6 pt (.tup [V.non, (.str (if f'.isPage = true then "pager" else "handler"))]) pt = some (.tup [V.non, (.str (if f'.isPage = true then "pager" else "handler"))]) := upd_same
          have s11 := s6.trans sp
          generalize upd H6 pt (.tup [V.non, (.str (if f'.isPage = true then "pager" else "handler"))]) = H7 at hpt s11 ⊢
          have e7 := e5.trans (ExtN.of s11)
          have t7 := t5.ext s11
          refine ⟨pt, _, _, .non, rfl, rfl, SqT.of hpt, at0, ?_⟩
          exact q1 _ _ ⟨.inr ⟨ef, rfl⟩, e7, t7⟩
      obtain ⟨hc, e2, t2⟩ := hc
      clear e1 t1
      dsimp only [gName]
      refine seq_cut (fun σ' H' => σ' = [some (.ref p), some (.ref a), some (.int i), some (.ref N), some x, some (.bl (faultB d)), some c1, y7, y8, none, none, none] ∧ H' = H2) (fun Nn hN => ?_) (fun σ' H' hq => ?_)
      · rcases hc with ⟨ef, ea, dd, rfl, herr, hdd⟩ | ⟨ef, rfl⟩
        · refine ⟨.bl (faultB d), rfl, _, rfl, iteP (by rw [ef]; rfl) ⟨.ref ea, rfl, .inl ⟨ea, CF, CF, dd, _, true, rfl, herr, hdd, XF.i, kFF, _, rfl, iteF ?_⟩⟩⟩
          have hdx := dk_extN hd0 e2
          refine ⟨.ref ea, rfl, ea, CF, dd, [("value", x)], x, rfl, herr, XF.i.f, XF.n, hdd, rfl, x, d, rfl, hdx, okd, x, rfl, x, d, rfl, hdx, okd, rfl, _, rfl, ?_⟩
          rw [same_f]
          exact iteF (hN _ _ ⟨rfl, rfl⟩)
        · exact ⟨.bl (faultB d), rfl, _, rfl, iteN (by rw [ef]; rfl) (hN _ _ ⟨rfl, rfl⟩)⟩
      obtain ⟨rfl, rfl⟩ := hq
      refine seq_cut (fun σ' H3 => σ' = [some (.ref p), some (.ref a), some (.int i), some (.ref N), some x, some (.bl (faultB d)), some c1, y7, y8, none, none, none] ∧ H3 = H') (fun Nn hN => ?_) (fun σ' H3 hq => ?_)
      · rcases hc with ⟨ef, ea, dd, rfl, herr, hdd⟩ | ⟨ef, rfl⟩
        · exact ⟨.bl (faultB d), rfl, _, rfl, iteN ef (hN _ _ ⟨rfl, rfl⟩)⟩
        · exact ⟨.bl (faultB d), rfl, _, rfl, iteP ef ⟨.non, rfl, rfl, _, rfl, iteF (hN _ _ ⟨rfl, rfl⟩)⟩⟩
      obtain ⟨rfl, rfl⟩ := hq
      clear hc
      refine seq_val (PV := fun v H' => ∃ L c, v = .ref L ∧ H' L = some (.lst [c]) ∧ Late H' CF x (!faultB d) c ∧ ExtN Hz11 H' ∧ Tabs T H' ∧ ∀ b o, Hz11 b = some o → (∀ ps, o ≠ .tbl ps) → b ≠ L) (fun Q1 q1 => ?_) (fun cL H2 hc => ?_)
      · have fin : ∀ {c : V} {H7 : Hp}, ExtN Hz11 H7 → Tabs T H7 → Late H7 CF x (!faultB d) c → ∀ L, H7 L = none → Q1 (.ref L) (upd H7 L (.lst [c])) := fun {c H7} e7 t7 lc L nL => by
          have sL := same_upd (o := .lst [c]) nL
          exact q1 _ _ ⟨L, c, rfl, upd_same, lc.ext (ExtN.of sL), e7.trans (ExtN.of sL), t7.ext sL, fun b o hb nt => ne_of_none (e7 b o hb nt) nL⟩
        refine ⟨t2, fun f0 F0 e0 t0 l0 nf0 => ⟨(), f0, rfl, l0, fun H5 s5 E' Q' hE hB => ?_⟩⟩
        have e5 := e2.trans (e0.trans (ExtN.of s5))
        have t5 := t0.ext s5
        refine ⟨x, rfl, x, .non, d, .none, rfl, dk_extN hd0 e5, psh, .dp .non, fun ef H6 dd s6 nd => hE _ _ _ ⟨XF.x, CF, dd, rfl, rfl, fun ea pt nea npt => ?_⟩, fun f' ed ef _ H6 dd s6 nd => hE _ _ _ ⟨XP.x, CP, dd, rfl, rfl, fun ea pt nea npt => ?_⟩, fun f' p' _ _ ed => by cases ed⟩
        · clear hE hB
          have sd := same_upd (o := .xd [("value", x)]) nd
          have se := same_upd (o := ErrO CF dd ea) nea
          have sp := same_upd (o := .tup [V.ref ea, .non]) npt
          have herr := sp _ _ (upd_same (H := upd H6 dd (.xd [("value", x)])) (a := ea) (o := ErrO CF dd ea))
          have hdd := (se.trans sp) _ _ (upd_same (H := H6) (a := dd) (o := .xd [("value", x)]))
          have hpt : upd (upd (upd H6 dd (.xd [("value", x)])) ea (ErrO CF dd ea)) pt (.tup [V.ref ea, .non]) pt = some (.tup [V.ref ea, .non]) := upd_same
          have s11 := s6.trans ((sd.trans se).trans sp)
          generalize upd (upd (upd H6 dd (.xd [("value", x)])) ea (ErrO CF dd ea)) pt (.tup [V.ref ea, .non]) = H7 at herr hdd hpt s11 ⊢
          have e7 := e5.trans (ExtN.of s11)
          have t7 := t5.ext s11
          refine ⟨pt, _, _, .ref ea, rfl, rfl, SqT.of hpt, at0, ?_⟩
          exact ⟨by show 1 ≤ sizeLine; decide, fin e7 t7 fun _ => ⟨ea, dd, rfl, herr, hdd⟩⟩
        · clear hE hB
          have sd := same_upd (o := .xd [("value", V.non)]) nd
          have se := same_upd (o := ErrO CP dd ea) nea
          have sp := same_upd (o := .tup [V.ref ea, .non]) npt
          have herr := sp _ _ (upd_same (H := upd H6 dd (.xd [("value", V.non)])) (a := ea) (o := ErrO CP dd ea))
          have hdd := (se.trans sp) _ _ (upd_same (H := H6) (a := dd) (o := .xd [("value", V.non)]))
          have hpt : upd (upd (upd H6 dd (.xd [("value", V.non)])) ea (ErrO CP dd ea)) pt (.tup [V.ref ea, .non]) pt = some (.tup [V.ref ea, .non]) := upd_same
          have s11 := s6.trans ((sd.trans se).trans sp)
          generalize upd (upd (upd H6 dd (.xd [("value", V.non)])) ea (ErrO CP dd ea)) pt (.tup [V.ref ea, .non]) = H7 at herr hdd hpt s11 ⊢
          have e7 := e5.trans (ExtN.of s11)
          have t7 := t5.ext s11
          refine ⟨pt, _, _, .ref ea, rfl, rfl, SqT.of hpt, at0, ?_⟩
          exact ⟨by show 1 ≤ sizeLine; decide, fin e7 t7 fun z => (by rw [ef] at z; cases z)⟩
      obtain ⟨L, k1, rfl, hL, lt1, e3, t3, neL⟩ := hc
      clear e2 t2
      dsimp only [gName]
      refine seq_cut (fun σ' H3 => σ' = [some (.ref p), some (.ref a), some (.int i), some (.ref N), some x, some (.bl (faultB d)), some c1, some (.ref L), y8, none, none, none] ∧ ∃ k2, H3 L = some (.lst [k1, k2]) ∧ Late H3 CF x (!faultB d) k1 ∧ Late H3 CF x (!faultB d) k2 ∧ ExtN Hz11 H3 ∧ Tabs T H3) (fun Nn hN => ?_) (fun σ' H3 hq => ?_)
      · have fin : ∀ {c : V} {H7 : Hp}, ExtN Hz11 H7 → ExtN H2 H7 → Tabs T H7 → Late H7 CF x (!faultB d) c → rAppend (.ref L) [c] H7 (fun _ H8 => Nn [some (.ref p), some (.ref a), some (.int i), some (.ref N), some x, some (.bl (faultB d)), some c1, some (.ref L), y8, none, none, none] H8) := fun {c H7} e7 e27 t7 lc => by
          have hL7 := e27 _ _ hL (fun ps z => by cases z)
          refine ⟨L, _, _, rfl, rfl, hL7, small1000 (by show 1 ≤ 1000; decide), hN _ _ ⟨rfl, c, ?_, (lt1.ext e27).upd hL7, lc.upd hL7, extN_upd e7 neL, tabs_upd t7 hL7⟩⟩
          rw [upd_same]
          rfl
        refine ⟨.ref L, rfl, .inl ⟨rfl, _, SqL.of hL⟩, ?_⟩
        refine ⟨t3, fun f0 F0 e0 t0 l0 nf0 => ⟨(), f0, rfl, l0, fun H5 s5 E' Q' hE hB => ?_⟩⟩
        have e25 := e0.trans (ExtN.of s5)
        have e5 := e3.trans e25
        have t5 := t0.ext s5
        refine ⟨x, rfl, x, .non, d, .none, rfl, dk_extN hd0 e5, psh, .dp .non, fun ef H6 dd s6 nd => hE _ _ _ ⟨XF.x, CF, dd, rfl, rfl, fun ea pt nea npt => ?_⟩, fun ef _ H6 dd s6 nd => hE _ _ _ ⟨X3.x, C3, dd, rfl, rfl, fun ea pt nea npt => ?_⟩, fun f' p' _ _ _ _ _ ed => by cases ed⟩
        · clear hE hB
          have sd := same_upd (o := .xd [("value", x)]) nd
          have se := same_upd (o := ErrO CF dd ea) nea
          have sp := same_upd (o := .tup [V.ref ea, .non]) npt
          have herr := sp _ _ (upd_same (H := upd H6 dd (.xd [("value", x)])) (a := ea) (o := ErrO CF dd ea))
          have hdd := (se.trans sp) _ _ (upd_same (H := H6) (a := dd) (o := .xd [("value", x)]))
          have hpt : upd (upd (upd H6 dd (.xd [("value", x)])) ea (ErrO CF dd ea)) pt (.tup [V.ref ea, .non]) pt = some (.tup [V.ref ea, .non]) := upd_same
          have s11 := s6.trans ((sd.trans se).trans sp)
          generalize upd (upd (upd H6 dd (.xd [("value", x)])) ea (ErrO CF dd ea)) pt (.tup [V.ref ea, .non]) = H7 at herr hdd hpt s11 ⊢
          have e7 := e5.trans (ExtN.of s11)
          have t7 := t5.ext s11
          refine ⟨pt, _, _, .ref ea, rfl, rfl, SqT.of hpt, at0, ?_⟩
          exact fin e7 (e25.trans (ExtN.of s11)) t7 fun _ => ⟨ea, dd, rfl, herr, hdd⟩
        · clear hE hB
          have sd := same_upd (o := .xd [("value", V.non)]) nd
          have se := same_upd (o := ErrO C3 dd ea) nea
          have sp := same_upd (o := .tup [V.ref ea, .non]) npt
          have herr := sp _ _ (upd_same (H := upd H6 dd (.xd [("value", V.non)])) (a := ea) (o := ErrO C3 dd ea))
          have hdd := (se.trans sp) _ _ (upd_same (H := H6) (a := dd) (o := .xd [("value", V.non)]))
          have hpt : upd (upd (upd H6 dd (.xd [("value", V.non)])) ea (ErrO C3 dd ea)) pt (.tup [V.ref ea, .non]) pt = some (.tup [V.ref ea, .non]) := upd_same
          have s11 := s6.trans ((sd.trans se).trans sp)
          generalize upd (upd (upd H6 dd (.xd [("value", V.non)])) ea (ErrO C3 dd ea)) pt (.tup [V.ref ea, .non]) = H7 at herr hdd hpt s11 ⊢
          have e7 := e5.trans (ExtN.of s11)
          have t7 := t5.ext s11
          refine ⟨pt, _, _, .ref ea, rfl, rfl, SqT.of hpt, at0, ?_⟩
          exact fin e7 (e25.trans (ExtN.of s11)) t7 fun z => (by rw [ef] at z; cases z)
      obtain ⟨rfl, k2, hL, lt1, lt2, e3, t3⟩ := hq
      refine ⟨.ref L, rfl, L, rfl, ⟨_, SqL.of hL⟩, ?_⟩
      refine for_list (xs := [k1, k2]) (fun j σ H' => ∃ y8, σ = [some (.ref p), some (.ref a), some (.int i), some (.ref N), some x, some (.bl (faultB d)), some c1, some (.ref L), y8, none, none, none] ∧ H' = H3) ⟨y8, rfl, rfl⟩ (fun j σ H' _ hP => ?_) (fun j c σ H' hxj hP => ?_) fun σ H' hP => ?_
      · obtain ⟨_, _, rfl⟩ := hP
        exact SqL.of hL
      · obtain ⟨y9, rfl, rfl⟩ := hP
        have lt : Late H' CF x (!faultB d) c := by
          have hm := List.mem_of_getElem? hxj
          simp only [List.mem_cons, List.not_mem_nil, or_false] at hm
          rcases hm with rfl | rfl
          · exact lt1
          · exact lt2
        cases ef : faultB d with
        | true => exact ⟨_, rfl, _, rfl, iteF ⟨_, rfl, rfl⟩⟩
        | false =>
          obtain ⟨ea, dd, rfl, herr, hdd⟩ := lt (by rw [ef]; rfl)
          refine ⟨_, rfl, _, rfl, iteT ⟨.ref ea, rfl, .inl ⟨ea, CF, CF, dd, _, true, rfl, herr, hdd, XF.i, kFF, _, rfl, iteF ?_⟩⟩⟩
          have hdx := dk_extN hd0 e3
          refine ⟨.ref ea, rfl, ea, CF, dd, [("value", x)], x, rfl, herr, XF.i.f, XF.n, hdd, rfl, x, d, rfl, hdx, okd, x, rfl, x, d, rfl, hdx, okd, rfl, _, rfl, ?_⟩
          rw [same_f]
          exact iteF ⟨_, rfl, rfl⟩
      · obtain ⟨y9, rfl, rfl⟩ := hP
        exact ⟨_, _, _, _, _, rfl, e3, t3⟩
    · obtain ⟨y4, y5, y6, y7, y8, rfl, eN, tN⟩ := hP
      have hp := pot_extN hp eN
      have eW := extN_wo (p := p) eN
      have eP := ExtP.ext (ExtP.wo sw) eN
      have sw2 : Same (wo H' p) (wo H' p) := Same.refl _
      have fF := fF.ext eW
      clear sw tY allg hF eW hpl hbd eN
      have hplZ := pot_lst hp
      have hbi : BD 0 (.int i) := .int (by omega) (by omega)
      refine ⟨.int i, rfl, 1, rfl, ?_⟩
      refine ⟨.ref p, rfl, .int i, rfl, .inr ⟨p, _, .int i, .int i, rfl, .int i, hbi, by decide, hp, by omega, fun u3 e3 He3 hpe3 se3 hde3 oke3 => ?_⟩⟩
      have g3 : Fit K (wo He3 p) u3 := ⟨e3, (Dk.dp hde3).same (nl_wo (pot_lst hp)), oke3.1.ok (by decide) (by decide)⟩
      have fF := fF.same se3
      have sw2 := sw2.trans se3
      have hp := hpe3
      refine ⟨.ref p, rfl, p, 256, _, rfl, by decide, by decide, hp, by omega, fun d4 Hd4 d40 d41 hp4 s4 => ?_⟩
      have fF := fF.same s4
      have g3 := g3.same s4
      have sw2 := sw2.trans s4
      have hp := hp4
      refine ⟨.ref p, rfl, p, _, rfl, hp, by omega, fun v5 d5 Hf hpf sf hdf okf => ?_⟩
      have g5 : Fit K (wo Hf p) v5 := ⟨d5, hdf.same (nl_wo (pot_lst hp)), (okOdd_e okf).1⟩
      have fF := fF.same sf
      have g3 := g3.same sf
      have sw2 := sw2.trans sf
      have hp := hpf
      refine ⟨by show 8 ≤ sizeLine; decide, fun F nF => ?_⟩
      have sF := same_upd (o := (.lst [V.int i, .non, .int 256, .int (-1), .bl true, u3, .int d4, v5])) nF
      have eF : F ≠ p := hp.ne nF
      have hF : upd Hf F (.lst [V.int i, .non, .int 256, .int (-1), .bl true, u3, .int d4, v5]) F = some (.lst [V.int i, .non, .int 256, .int (-1), .bl true, u3, .int d4, v5]) := upd_same
      have fF := fF.same (wo_same_of sF)
      have g3 := g3.same (wo_same_of sF)
      have g5 := g5.same (wo_same_of sF)
      have hp := hp.same sF
      have sw2 := sw2.trans (wo_same_of sF)
      generalize upd Hf F (.lst [V.int i, .non, .int 256, .int (-1), .bl true, u3, .int d4, v5]) = Hz1 at hF fF g3 g5 hp sw2 ⊢
      clear sF nF
      have gi : ∀ {n : Int}, -70000 ≤ n → n ≤ 70000 → Fit K (wo Hz1 p) (.int n) := fun {n} h1 h2 => ⟨.int n, .dp (.int n), okM_data (okM.int (by omega) (by omega)) (by decide) (by decide)⟩
      have allg : ∀ x ∈ [V.int i, .non, .int 256, .int (-1), .bl true, u3, .int d4, v5], Fit K (wo Hz1 p) x := fun x hx => by
        simp only [List.mem_cons, List.not_mem_nil, or_false] at hx
        rcases hx with rfl | rfl | rfl | rfl | rfl | rfl | rfl | rfl
        · exact gi (by omega) (by omega)
        · exact ⟨.none, .dp .non, by decide⟩
        · exact gi (by omega) (by omega)
        · exact gi (by omega) (by omega)
        · exact ⟨.bool true, .dp (.bl true), by decide⟩
        · exact g3
        · exact gi (by omega) (by omega)
        · exact g5
      clear g3 g5 gi
      have tY := tabs_wo tN hplZ sw2
      have eP := ExtP.trans2 eP (ExtP.wo sw2)
      clear sw2 tN
      refine ⟨F, rfl, ⟨_, SqL.of hF⟩, ?_⟩
      refine for_list (xs := [V.int i, .non, .int 256, .int (-1), .bl true, u3, .int d4, v5]) (fun i' σ H' => ∃ y4 y5 y6 y7 y8 y9, σ = [some (.ref p), some (.ref a), some (.int i), some (.ref N), y4, y5, y6, y7, y8, y9, none, none] ∧ ExtN Hz1 H' ∧ Tabs T H') ⟨_, _, _, _, _, _, rfl, fun b o e _ => e, tY⟩ (fun i' σ H' _ hP => ?_) (fun i' x σ H' hxi hP => ?_) fun σ H' hP => ?_
      · obtain ⟨_, _, _, _, _, _, _, e, _⟩ := hP
        exact SqL.of (e _ _ hF (fun ps z => by cases z))
      · obtain ⟨y4, y5, y6, y7, y8, y9, rfl, eN, tN⟩ := hP
        obtain ⟨d, hd, okd⟩ := allg x (List.mem_of_getElem? hxi)
        have hd0 := hd.same wo_le
        have hs0 := Same.seqT wo_le fF.t
        refine seq_val (PV := fun v H' => ((placeF f d = false ∧ ∃ ea dd, v = .ref ea ∧ H' ea = some (ErrO CP dd ea) ∧ H' dd = some (.xd [("value", x)])) ∨ (placeF f d = true ∧ v = .non)) ∧ ExtN Hz1 H' ∧ Tabs T H') (fun Q1 q1 => ?_) (fun c1 H2 hc => ?_)
        · refine ⟨tN, fun f0 F0 e0 t0 l0 nf0 => ⟨(), f0, rfl, l0, fun H5 s5 E' Q' hE hB => ?_⟩⟩
          have e5 := eN.trans (e0.trans (ExtN.of s5))
          have t5 := t0.ext s5
          refine ⟨.ref a, rfl, x, rfl, .ref a, x, .tuple f.ds, d, rfl, .dp (.tup (sqT_extN hs0 e5) fl_data), sh_fl ok, dk_extN hd0 e5, fun h => (by rw [fb] at h; cases h), fun f' ef2 fb2 pf H6 dd s6 nd => hE _ _ _ ⟨XP.x, CP, dd, rfl, rfl, fun ea pt nea npt => ?_⟩, fun f' p' ef2 fb2 ed pf H6 t s6 ht => hB _ _ fun pt npt => ?_⟩
          · clear hE hB
            obtain rfl := fl_inj ef2
            have sd := same_upd (o := .xd [("value", x)]) nd
            have se := same_upd (o := ErrO CP dd ea) nea
            have sp := same_upd (o := .tup [V.ref ea, .non]) npt
            have herr := sp _ _ (upd_same (H := upd H6 dd (.xd [("value", x)])) (a := ea) (o := ErrO CP dd ea))
            have hdd := (se.trans sp) _ _ (upd_same (H := H6) (a := dd) (o := .xd [("value", x)]))
            have hpt : upd (upd (upd H6 dd (.xd [("value", x)])) ea (ErrO CP dd ea)) pt (.tup [V.ref ea, .non]) pt = some (.tup [V.ref ea, .non]) := upd_same
            have s11 := s6.trans ((sd.trans se).trans sp)
            generalize upd (upd (upd H6 dd (.xd [("value", x)])) ea (ErrO CP dd ea)) pt (.tup [V.ref ea, .non]) = H7 at herr hdd hpt s11 ⊢
            have e7 := e5.trans (ExtN.of s11)
            have t7 := t5.ext s11
            refine ⟨pt, _, _, .ref ea, rfl, rfl, SqT.of hpt, at0, ?_⟩
            exact q1 _ _ ⟨.inl ⟨pf, ea, dd, rfl, herr, hdd⟩, e7, t7⟩
          · clear hE hB
            obtain rfl := fl_inj ef2
            have sp := same_upd (o := .tup [V.non, .ref t]) npt
            have hpt : upd H6 pt (.tup [V.non, .ref t]) pt = some (.tup [V.non, .ref t]) := upd_same
            have s11 := s6.trans sp
            generalize upd H6 pt (.tup [V.non, .ref t]) = H7 at hpt s11 ⊢
            have e7 := e5.trans (ExtN.of s11)
            have t7 := t5.ext s11
            refine ⟨pt, _, _, .non, rfl, rfl, SqT.of hpt, at0, ?_⟩
            exact q1 _ _ ⟨.inr ⟨pf, rfl⟩, e7, t7⟩
        obtain ⟨hc, e2, t2⟩ := hc
        dsimp only [gName]
        have hdx := dk_extN hd0 e2
        have hsx := sqT_extN hs0 e2
        rcases hc with ⟨pf, ea, dd, rfl, herr, hdd⟩ | ⟨pf, rfl⟩
        · refine ⟨.ref ea, rfl, .inl ⟨ea, CP, CP, dd, _, true, rfl, herr, hdd, XP.i, kPP, _, rfl, iteT ?_⟩⟩
          refine ⟨.ref ea, rfl, ea, CP, dd, [("value", x)], x, rfl, herr, XP.i.f, XP.n, hdd, rfl, x, d, rfl, hdx, okd, x, rfl, x, d, rfl, hdx, okd, rfl, ?_⟩
          rw [decide_eq_true rfl]
          refine ⟨_, rfl, .ref a, rfl, x, rfl, a, f, x, d, rfl, hsx, ok, hdx, fun H9 s9 => ⟨rfl, _, rfl, ?_⟩⟩
          rw [pf]
          exact iteF ⟨_, _, _, _, _, _, rfl, e2.trans (ExtN.of s9), t2.ext s9⟩
        · refine ⟨.non, rfl, .inr ⟨.non, .ref CP, .type "NoneType", .ref CP, false, rfl, .own CP, .base .non, kNP, _, rfl, iteF ?_⟩⟩
          refine ⟨_, rfl, .ref a, rfl, x, rfl, a, f, x, d, rfl, hsx, ok, hdx, fun H9 s9 => ⟨rfl, _, rfl, ?_⟩⟩
          rw [pf]
          exact iteF ⟨_, _, _, _, _, _, rfl, e2.trans (ExtN.of s9), t2.ext s9⟩
      · obtain ⟨y4, y5, y6, y7, y8, y9, rfl, eN, tN⟩ := hP
        have hp := pot_extN hp eN
        have eW := extN_wo (p := p) eN
        have eP := ExtP.ext eP eN
        have sw2 : Same (wo H' p) (wo H' p) := Same.refl _
        have fF := fF.ext eW
        clear tY allg hF eW hplZ eN hbi
        have hplZ := pot_lst hp
        refine ⟨.ref a, rfl, a, f, rfl, Same.seqT wo_le fF.t, ok, fun Hc cw sc hcw => ?_⟩
        have fF := fF.same (wo_same_of sc)
        have hp := hp.same sc
        have sw2 := sw2.trans (wo_same_of sc)
        refine ⟨.int i, rfl, by show 2 ≤ sizeLine; decide, fun Z nZ => catA_one (Same.seqT (same_upd nZ) hcw) (SqT.of upd_same) (sl (by show 2 + 2 ≤ 1000; decide)) fun W Hw hW sw0 => ?_⟩
        have sW : Same Hc Hw := (same_upd nZ).trans sw0
        have fF := fF.same (wo_same_of sW)
        have hp := hp.same sW
        have sw2 := sw2.trans (wo_same_of sW)
        have fW : SqF K (wo Hw p) W ([codeF f, f.n, i, 0].map V.int) := by
          obtain ⟨qa, qb, qc, hpe, _⟩ := id hp
          exact ⟨sqT_wo (show SqT K Hw W ([codeF f, f.n, i, 0].map V.int) from hW) hpe⟩
        clear hcw hW sc sW sw0 nZ
        dsimp only [gName]
        have hcd := codeF_int (f := f)
        have hnn := fl_n ok
        refine ⟨.ref W, rfl, ?_⟩
        have g1 : Fit K (wo Hw p) (.ref W) := by
          obtain ⟨qa, qb, qc, hpe, _⟩ := id hp
          exact ints_fit (ns := [codeF f, f.n, i, 0]) (fW.t) (by
            intro n hn
            simp only [List.mem_cons, List.not_mem_nil, or_false] at hn
            omega) (by show 4 ≤ 18; decide)
        refine ⟨.ref W, rfl, 3, rfl, slice_to (j := 3) (Same.seqT wo_le fW.t) fun c2 Hc2 hc2 sc2 => ?_⟩
        have fF := fF.same (wo_same_of sc2)
        have fW := fW.same (wo_same_of sc2)
        have g1 := g1.same (wo_same_of sc2)
        have hp := hp.same sc2
        have sw2 := sw2.trans (wo_same_of sc2)
        have g2 : Fit K (wo Hc2 p) (.ref c2) := by
          obtain ⟨qa, qb, qc, hpe, _⟩ := id hp
          exact ints_fit (ns := [codeF f, f.n, i]) (sqT_wo hc2 hpe) (by
            intro n hn
            simp only [List.mem_cons, List.not_mem_nil, or_false] at hn
            omega) (by show 3 ≤ 18; decide)
        refine ⟨.ref W, rfl, ?_⟩
        refine ⟨by show 1 ≤ sizeLine; decide, fun Z3 nZ3 => ?_⟩
        have sZ3 := same_upd (o := (.tup [V.int 0])) nZ3
        have eZ3 : Z3 ≠ p := hp.ne nZ3
        have hZ3 : upd Hc2 Z3 (.tup [V.int 0]) Z3 = some (.tup [V.int 0]) := upd_same
        have fF := fF.same (wo_same_of sZ3)
        have fW := fW.same (wo_same_of sZ3)
        have g1 := g1.same (wo_same_of sZ3)
        have g2 := g2.same (wo_same_of sZ3)
        have hp := hp.same sZ3
        have sw2 := sw2.trans (wo_same_of sZ3)
        generalize upd Hc2 Z3 (.tup [V.int 0]) = Hz1 at hZ3 fF fW g1 g2 hp sw2 ⊢
        clear sZ3 nZ3
        refine catA_one (Same.seqT wo_le fW.t) (SqT.of hZ3) (sl (by show 4 + 1 ≤ 1000; decide)) fun c3 Hc3 hc3 sc3 => ?_
        have fF := fF.same (wo_same_of sc3)
        have fW := fW.same (wo_same_of sc3)
        have g1 := g1.same (wo_same_of sc3)
        have g2 := g2.same (wo_same_of sc3)
        have hp := hp.same sc3
        have sw2 := sw2.trans (wo_same_of sc3)
        have g3 : Fit K (wo Hc3 p) (.ref c3) := by
          obtain ⟨qa, qb, qc, hpe, _⟩ := id hp
          exact ints_fit (ns := [codeF f, f.n, i, 0, 0]) (sqT_wo hc3 hpe) (by
            intro n hn
            simp only [List.mem_cons, List.not_mem_nil, or_false] at hn
            omega) (by show 5 ≤ 18; decide)
        refine ⟨.ref W, rfl, W, _, rfl, .inr (Same.seqT wo_le fW.t), fun V4 nV4 => ?_⟩
        have sV4 := same_upd (o := (.lst ([codeF f, f.n, i, 0].map V.int))) nV4
        have eV4 : V4 ≠ p := hp.ne nV4
        have hV4 : upd Hc3 V4 (.lst ([codeF f, f.n, i, 0].map V.int)) V4 = some (.lst ([codeF f, f.n, i, 0].map V.int)) := upd_same
        have fF := fF.same (wo_same_of sV4)
        have fW := fW.same (wo_same_of sV4)
        have g1 := g1.same (wo_same_of sV4)
        have g2 := g2.same (wo_same_of sV4)
        have g3 := g3.same (wo_same_of sV4)
        have hp := hp.same sV4
        have sw2 := sw2.trans (wo_same_of sV4)
        generalize upd Hc3 V4 (.lst ([codeF f, f.n, i, 0].map V.int)) = Hz2 at hV4 fF fW g1 g2 g3 hp sw2 ⊢
        clear sV4 nV4
        have g4 : Fit K (wo Hz2 p) (.ref V4) := by
          obtain ⟨qa, qb, qc, hpe, _⟩ := id hp
          exact ints_fitL (ns := [codeF f, f.n, i, 0]) (SqL.of (wo_at hV4 eV4)) (by
            intro n hn
            simp only [List.mem_cons, List.not_mem_nil, or_false] at hn
            omega) (by show 4 ≤ 18; decide)
        refine ⟨.ref W, rfl, 3, rfl, slice_to (j := 3) (Same.seqT wo_le fW.t) fun c5 Hc5 hc5 sc5 => ?_⟩
        have fF := fF.same (wo_same_of sc5)
        have fW := fW.same (wo_same_of sc5)
        have g1 := g1.same (wo_same_of sc5)
        have g2 := g2.same (wo_same_of sc5)
        have g3 := g3.same (wo_same_of sc5)
        have g4 := g4.same (wo_same_of sc5)
        have hp := hp.same sc5
        have sw2 := sw2.trans (wo_same_of sc5)
        have f5 : SqF K (wo Hc5 p) c5 ([codeF f, f.n, i].map V.int) := by
          obtain ⟨qa, qb, qc, hpe, _⟩ := id hp
          exact ⟨sqT_wo hc5 hpe⟩
        refine ⟨by show 1 ≤ sizeLine; decide, fun Z5 nZ5 => ?_⟩
        have sZ5 := same_upd (o := (.tup [V.int 1])) nZ5
        have eZ5 : Z5 ≠ p := hp.ne nZ5
        have hZ5 : upd Hc5 Z5 (.tup [V.int 1]) Z5 = some (.tup [V.int 1]) := upd_same
        have fF := fF.same (wo_same_of sZ5)
        have fW := fW.same (wo_same_of sZ5)
        have g1 := g1.same (wo_same_of sZ5)
        have g2 := g2.same (wo_same_of sZ5)
        have g3 := g3.same (wo_same_of sZ5)
        have g4 := g4.same (wo_same_of sZ5)
        have f5 := f5.same (wo_same_of sZ5)
        have hp := hp.same sZ5
        have sw2 := sw2.trans (wo_same_of sZ5)
        generalize upd Hc5 Z5 (.tup [V.int 1]) = Hz3 at hZ5 fF fW g1 g2 g3 g4 f5 hp sw2 ⊢
        clear sZ5 nZ5
        refine catA_one (Same.seqT wo_le f5.t) (SqT.of hZ5) (sl (by show 3 + 1 ≤ 1000; decide)) fun e5 He5 he5 se5 => ?_
        have fF := fF.same (wo_same_of se5)
        have fW := fW.same (wo_same_of se5)
        have g1 := g1.same (wo_same_of se5)
        have g2 := g2.same (wo_same_of se5)
        have g3 := g3.same (wo_same_of se5)
        have g4 := g4.same (wo_same_of se5)
        have hp := hp.same se5
        have sw2 := sw2.trans (wo_same_of se5)
        have g5 : Fit K (wo He5 p) (.ref e5) := by
          obtain ⟨qa, qb, qc, hpe, _⟩ := id hp
          exact ints_fit (ns := [codeF f, f.n, i, 1]) (sqT_wo he5 hpe) (by
            intro n hn
            simp only [List.mem_cons, List.not_mem_nil, or_false] at hn
            omega) (by show 4 ≤ 18; decide)
        refine ⟨by show 1 ≤ sizeLine; decide, fun Z6 nZ6 => ?_⟩
        have sZ6 := same_upd (o := (.tup [V.int 0])) nZ6
        have eZ6 : Z6 ≠ p := hp.ne nZ6
        have hZ6 : upd He5 Z6 (.tup [V.int 0]) Z6 = some (.tup [V.int 0]) := upd_same
        have fF := fF.same (wo_same_of sZ6)
        have fW := fW.same (wo_same_of sZ6)
        have g1 := g1.same (wo_same_of sZ6)
        have g2 := g2.same (wo_same_of sZ6)
        have g3 := g3.same (wo_same_of sZ6)
        have g4 := g4.same (wo_same_of sZ6)
        have g5 := g5.same (wo_same_of sZ6)
        have hp := hp.same sZ6
        have sw2 := sw2.trans (wo_same_of sZ6)
        generalize upd He5 Z6 (.tup [V.int 0]) = Hz4 at hZ6 fF fW g1 g2 g3 g4 g5 hp sw2 ⊢
        clear sZ6 nZ6
        refine ⟨.ref W, rfl, 1, rfl, slice_fromN (j := 1) (Same.seqT wo_le fW.t) fun c6 Hc6 hc6 sc6 _ => ?_⟩
        have hZ6 := sc6 _ _ hZ6
        have fF := fF.same (wo_same_of sc6)
        have fW := fW.same (wo_same_of sc6)
        have g1 := g1.same (wo_same_of sc6)
        have g2 := g2.same (wo_same_of sc6)
        have g3 := g3.same (wo_same_of sc6)
        have g4 := g4.same (wo_same_of sc6)
        have g5 := g5.same (wo_same_of sc6)
        have hp := hp.same sc6
        have sw2 := sw2.trans (wo_same_of sc6)
        refine catA_one (SqT.of hZ6) hc6 (sl (by show 1 + 3 ≤ 1000; decide)) fun e6 He6 he6 se6 => ?_
        have fF := fF.same (wo_same_of se6)
        have fW := fW.same (wo_same_of se6)
        have g1 := g1.same (wo_same_of se6)
        have g2 := g2.same (wo_same_of se6)
        have g3 := g3.same (wo_same_of se6)
        have g4 := g4.same (wo_same_of se6)
        have g5 := g5.same (wo_same_of se6)
        have hp := hp.same se6
        have sw2 := sw2.trans (wo_same_of se6)
        have g6 : Fit K (wo He6 p) (.ref e6) := by
          obtain ⟨qa, qb, qc, hpe, _⟩ := id hp
          exact ints_fit (ns := [0, f.n, i, 0]) (sqT_wo he6 hpe) (by
            intro n hn
            simp only [List.mem_cons, List.not_mem_nil, or_false] at hn
            omega) (by show 4 ≤ 18; decide)
        refine ⟨by show 1 ≤ sizeLine; decide, fun Z7 nZ7 => ?_⟩
        have sZ7 := same_upd (o := (.tup [V.int 8])) nZ7
        have eZ7 : Z7 ≠ p := hp.ne nZ7
        have hZ7 : upd He6 Z7 (.tup [V.int 8]) Z7 = some (.tup [V.int 8]) := upd_same
        have fF := fF.same (wo_same_of sZ7)
        have fW := fW.same (wo_same_of sZ7)
        have g1 := g1.same (wo_same_of sZ7)
        have g2 := g2.same (wo_same_of sZ7)
        have g3 := g3.same (wo_same_of sZ7)
        have g4 := g4.same (wo_same_of sZ7)
        have g5 := g5.same (wo_same_of sZ7)
        have g6 := g6.same (wo_same_of sZ7)
        have hp := hp.same sZ7
        have sw2 := sw2.trans (wo_same_of sZ7)
        generalize upd He6 Z7 (.tup [V.int 8]) = Hz5 at hZ7 fF fW g1 g2 g3 g4 g5 g6 hp sw2 ⊢
        clear sZ7 nZ7
        refine ⟨.ref W, rfl, 1, rfl, slice_fromN (j := 1) (Same.seqT wo_le fW.t) fun c7 Hc7 hc7 sc7 _ => ?_⟩
        have hZ7 := sc7 _ _ hZ7
        have fF := fF.same (wo_same_of sc7)
        have fW := fW.same (wo_same_of sc7)
        have g1 := g1.same (wo_same_of sc7)
        have g2 := g2.same (wo_same_of sc7)
        have g3 := g3.same (wo_same_of sc7)
        have g4 := g4.same (wo_same_of sc7)
        have g5 := g5.same (wo_same_of sc7)
        have g6 := g6.same (wo_same_of sc7)
        have hp := hp.same sc7
        have sw2 := sw2.trans (wo_same_of sc7)
        refine catA_one (SqT.of hZ7) hc7 (sl (by show 1 + 3 ≤ 1000; decide)) fun e7 He7 he7 se7 => ?_
        have fF := fF.same (wo_same_of se7)
        have fW := fW.same (wo_same_of se7)
        have g1 := g1.same (wo_same_of se7)
        have g2 := g2.same (wo_same_of se7)
        have g3 := g3.same (wo_same_of se7)
        have g4 := g4.same (wo_same_of se7)
        have g5 := g5.same (wo_same_of se7)
        have g6 := g6.same (wo_same_of se7)
        have hp := hp.same se7
        have sw2 := sw2.trans (wo_same_of se7)
        have g7 : Fit K (wo He7 p) (.ref e7) := by
          obtain ⟨qa, qb, qc, hpe, _⟩ := id hp
          exact ints_fit (ns := [8, f.n, i, 0]) (sqT_wo he7 hpe) (by
            intro n hn
            simp only [List.mem_cons, List.not_mem_nil, or_false] at hn
            omega) (by show 4 ≤ 18; decide)
        refine ⟨by show 7 ≤ sizeLine; decide, fun F nF => ?_⟩
        have sF := same_upd (o := (.lst [V.ref W, .ref c2, .ref c3, .ref V4, .ref e5, .ref e6, .ref e7])) nF
        have eF : F ≠ p := hp.ne nF
        have hF : upd He7 F (.lst [V.ref W, .ref c2, .ref c3, .ref V4, .ref e5, .ref e6, .ref e7]) F = some (.lst [V.ref W, .ref c2, .ref c3, .ref V4, .ref e5, .ref e6, .ref e7]) := upd_same
        have fF := fF.same (wo_same_of sF)
        have fW := fW.same (wo_same_of sF)
        have g1 := g1.same (wo_same_of sF)
        have g2 := g2.same (wo_same_of sF)
        have g3 := g3.same (wo_same_of sF)
        have g4 := g4.same (wo_same_of sF)
        have g5 := g5.same (wo_same_of sF)
        have g6 := g6.same (wo_same_of sF)
        have g7 := g7.same (wo_same_of sF)
        have hp := hp.same sF
        have sw2 := sw2.trans (wo_same_of sF)
        generalize upd He7 F (.lst [V.ref W, .ref c2, .ref c3, .ref V4, .ref e5, .ref e6, .ref e7]) = Hz6 at hF fF fW g1 g2 g3 g4 g5 g6 g7 hp sw2 ⊢
        clear sF nF
        have allg : ∀ x ∈ [V.ref W, .ref c2, .ref c3, .ref V4, .ref e5, .ref e6, .ref e7], Fit K (wo Hz6 p) x := fun x hx => by
          simp only [List.mem_cons, List.not_mem_nil, or_false] at hx
          rcases hx with rfl | rfl | rfl | rfl | rfl | rfl | rfl
          · exact g1
          · exact g2
          · exact g3
          · exact g4
          · exact g5
          · exact g6
          · exact g7
        clear g1 g2 g3 g4 g5 g6 g7
        have tY := tabs_wo tN hplZ sw2
        have eP := ExtP.trans2 eP (ExtP.wo sw2)
        clear sw2 tN
        refine ⟨F, rfl, ⟨_, SqL.of hF⟩, ?_⟩
        refine for_list (xs := [V.ref W, .ref c2, .ref c3, .ref V4, .ref e5, .ref e6, .ref e7]) (fun i' σ H' => ∃ y4 y5 y6 y7 y8 y9, σ = [some (.ref p), some (.ref a), some (.int i), some (.ref N), y4, y5, y6, y7, y8, y9, some (.ref W), none] ∧ ExtN Hz6 H' ∧ Tabs T H') ⟨_, _, _, _, _, _, rfl, fun b o e _ => e, tY⟩ (fun i' σ H' _ hP => ?_) (fun i' x σ H' hxi hP => ?_) fun σ H' hP => ?_
        · obtain ⟨_, _, _, _, _, _, _, e, _⟩ := hP
          exact SqL.of (e _ _ hF (fun ps z => by cases z))
        · obtain ⟨y4, y5, y6, y7, y8, y9, rfl, eN, tN⟩ := hP
          obtain ⟨d, hd, okd⟩ := allg x (List.mem_of_getElem? hxi)
          have hd0 := dk_extN (hd.same wo_le) eN
          have hs0 := sqT_extN (Same.seqT wo_le fF.t) eN
          exact ⟨.ref a, rfl, x, rfl, a, f, x, d, rfl, hs0, ok, fb, hd0, okd, tN, fun H5 e5 t5 => ⟨_, rfl, iteF ⟨_, _, _, _, _, _, rfl, eN.trans e5, t5⟩⟩⟩
        · obtain ⟨y4, y5, y6, y7, y8, y9, rfl, eN, tN⟩ := hP
          have hp := pot_extN hp eN
          have eW := extN_wo (p := p) eN
          have eP := ExtP.ext eP eN
          have fF := fF.ext eW
          have fW := fW.ext eW
          clear tY allg hF eW hplZ eN
          have hbw : BD 1 (wordsD f i) := .tup (by simp) (by show 4 ≤ 16; decide) fun d hd => by
            simp only [List.mem_cons, List.not_mem_nil, or_false] at hd
            rcases hd with rfl | rfl | rfl | rfl
            · exact .int (by omega) (by omega)
            · exact .int (by omega) (by omega)
            · exact .int (by omega) (by omega)
            · exact .int (by omega) (by omega)
          refine ⟨4, rfl, by decide, by decide, fun D nD => ?_⟩
          have sD := same_upd (o := .lst []) nD
          have eD := hp.ne nD
          refine lc_range (lo := 0) (n := 4) (fun j Hj => Pot Hj p (n + 200 + 45 * j) ∧ ExtP p H' Hj ∧ Tabs T Hj ∧ Hj D = some (.lst ((List.replicate j true).map V.bl))) ⟨(hp.same sD).mono (by omega), fun b o e _ _ => sD _ _ e, tN.ext sD, upd_same⟩ (fun j Hj hj hP => ?_) fun H2 hP => ?_
          · obtain ⟨hpj, ej, tj, hD⟩ := hP
            have fFj := fF.ext (extN_extP ej)
            have fWj := fW.ext (extN_extP ej)
            refine ⟨rfl, yesT ?_⟩
            refine ⟨.ref a, rfl, .ref p, rfl, .ref p, rfl, .ref W, rfl, .inl ⟨p, _, .ref W, wordsD f i, rfl, .tup fWj.t (dpI (ns := [codeF f, f.n, i, 0])), hbw, by decide, hpj, by omega, fun u e He hpe se hde oke => ?_⟩⟩
            have g1 : Fit K (wo He p) u := ⟨e, (Dk.dp hde).same (nl_wo (pot_lst hpj)), oke.1.ok (by decide) (by decide)⟩
            refine ⟨.ref p, rfl, p, _, rfl, hpe, by omega, fun v5 d5 Hf hpf sf hdf okf => ?_⟩
            have g2 : Fit K (wo Hf p) v5 := ⟨d5, hdf.same (nl_wo (pot_lst hpe)), (okOdd_e okf).1⟩
            have g1 := g1.same sf
            refine ⟨by show 2 ≤ sizeLine; decide, fun L nL => ?_⟩
            have eL := hpf.ne nL
            have sL := same_upd (o := .lst [u, v5]) nL
            refine ⟨p, L, _, _, rfl, SqL.of (wo_at upd_same eL), by simp, by show 2 ≤ 1000; decide, hpf.same sL, by omega, fun x mx Hx hpx sx => ?_⟩
            have g : Fit K Hx x := by
              simp only [List.mem_cons, List.not_mem_nil, or_false] at mx
              rcases mx with rfl | rfl
              · exact ((g1.same (wo_same_of sL)).same sx).same wo_le
              · exact ((g2.same (wo_same_of sL)).same sx).same wo_le
            obtain ⟨d, hd, okd⟩ := g
            have sall := ((se.trans sf).trans (wo_same_of sL)).trans sx
            have tx := tabs_wo tj (pot_lst hpj) sall
            have hDx := wo_le _ _ (sall _ _ (wo_at hD eD))
            have ex := ExtP.trans2 ej (ExtP.wo sall)
            refine ⟨a, f, x, d, rfl, Same.seqT wo_le (fFj.same sall).t, ok, fb, hd, okd, tx, fun H5 e5 t5 => ?_⟩
            have hD5 := e5 _ _ hDx (fun ps z => by cases z)
            refine ⟨_, hD5, small1000 (by rw [List.length_map, List.length_replicate]; omega), ?_⟩
            refine ⟨((pot_extN hpx e5).upd eD).mono (by omega), fun b o h1 h2 h3 => ?_, tabs_upd t5 hD5, ?_⟩
            · rw [upd_ne (ne_of_none h1 nD)]
              exact ExtP.ext ex e5 b o h1 h2 h3
            · rw [upd_same, List.replicate_succ', List.map_append]
              rfl
          · obtain ⟨hpj, ej, tj, hD⟩ := hP
            have ea : (List.replicate 4 true).all id = true := by decide
            refine ⟨D, List.replicate 4 true, rfl, SqL.of hD, ?_⟩
            rw [ea]
            exact q _ (hpj.mono (by omega)) (ExtP.trans2 eP ej) tj
end
end K26

set_option maxRecDepth 100000
set_option maxHeartbeats 8000000
/-! k26: twelve laps; the law. -/
namespace K26
open PySem PySem.Spec PyProof.Rows L2 LamX VG TL
theorem scRight : FnScope ["pot", "lap", "fault", "place"] ["pot"] (defScope sRight) := ⟨rfl, rfl, rfl, by decide +kernel, rfl, by decide +kernel, by decide +kernel⟩
theorem scLaw : FnScope ["script", "place"] ["script"] (defScope sLaw) := ⟨rfl, rfl, rfl, by decide +kernel, rfl, by decide +kernel, by decide +kernel⟩
theorem ExtP.trans {H H1 H2 : Hp} {p : Addr} (e : ExtP p H H1) (s : ExtP p H1 H2) : ExtP p H H2 := fun b o z ne nt => s b o (e b o z ne nt) ne nt
section
variable {P : Program} {w : World} {K : PySem.W.Frag} {mg : Str → Option Value} {base : Heap}
theorem ok_Right {k : Nat} {f : Addr} {fd : FuncData} {T:List (Addr × Str)} (F : Fun K "_law_right" "_law_right" sRight f fd) (gDf : Cal P w K mg base CX0 (k + 11) "_law_drawn_fault" ["pot"] (spDrawnF K)) (gDp : Cal P w K mg base CX0 (k + 11) "_law_drawn_place" ["pot", "fault"] (spDrawnP K)) (gRr : CalG P w K mg base (k + 11) "_law_is_fault_right" ["pot", "fault", "place"] (spFaultRight K)) (gVa : CalG P w K mg base (k + 11) "_law_are_values_right" ["pot", "fault", "place"] (spValues K T)) (gRf : CalG P w K mg base (k + 11) "_law_are_refusals_right" ["pot"] (spRefusals K T))  (frange : mg "range" = none) : FnG P w K mg base (k + 12) f fd ["pot"] (spRight K T) := by
  obtain ⟨fDf, fdDf, GDf, kDf, bDf, mDf⟩ := gDf
  obtain ⟨fDp, fdDp, GDp, kDp, bDp, mDp⟩ := gDp
  obtain ⟨fRr, fdRr, GRr, kRr, bRr, mRr⟩ := gRr
  obtain ⟨fVa, fdVa, GVa, kVa, bVa, mVa⟩ := gVa
  obtain ⟨fRf, fdRf, GRf, kRf, bRf, mRf⟩ := gRf
  refine fnG_of F scRight (fun vs H Q E h => ?_) (fun cdv A outer s H vs Q hr gd h => ?_)
  · obtain ⟨p, rfl, _⟩ := h
    rfl
  · obtain ⟨p, rfl, hp, hT, q⟩ := h
    refine ⟨_, (pss_cons (ps_for PassesOwn.never rfl (pi_range1 (by rfl) frange (pa_cons pe_int pa_nil)) (pg_name (i := 1) scRight.nd rfl (.inl rfl)) (pss_cons (ps_set (i := 2) scRight.nd rfl (.inl rfl) (pe_call GDf hr (by rfl) mDf kDf bDf .nil pass0 (pa_cons (pv 0) pa_nil))) (pss_cons (ps_set (i := 3) scRight.nd rfl (.inl rfl) (pe_call GDp hr (by rfl) mDp kDp bDp .nil pass0 (pa_cons (pv 0) (pa_cons (pv 2) pa_nil)))) (pss_cons (ps_if (pt_not (pt_val (pe_callG GRr hr gd (by rfl) mRr kRr bRr (pa_cons (pv 0) (pa_cons (pv 2) (pa_cons (pv 3) pa_nil)))))) (pss_one (ps_ret pe_bl)) pss_nil) (pss_cons (ps_if (PW.pt (pw_and (pt_cmpR op_lt (pv 1) pe_int (nomark _)) (pw_and1 (pt_not (pt_val (pe_callG GVa hr gd (by rfl) mVa kVa bVa (pa_cons (pv 0) (pa_cons (pv 2) (pa_cons (pv 3) pa_nil))))))))) (pss_one (ps_ret pe_bl)) pss_nil) (pss_one (ps_if (PW.pt (pw_and (pt_cmpR op_lt (pv 1) pe_int (nomark _)) (pw_and1 (pt_not (pt_val (pe_callG GRf hr gd (by rfl) mRf kRf bRf (pa_cons (pv 0) pa_nil))))))) (pss_one (ps_ret pe_bl)) pss_nil))))))) (pss_one (ps_ret pe_bl))), ?_⟩
    refine ⟨12, rfl, by decide, by decide, ?_⟩
    refine for_range (lo := 0) (n := 12) (fun i σ H' => ∃ y1 y2 y3, σ = [some (.ref p), y1, y2, y3] ∧ Pot H' p (2000 * i) ∧ ExtP p H H' ∧ Tabs T H') ⟨none, none, none, rfl, hp, fun b o e _ _ => e, hT⟩ (fun i σ H' hi hP => ?_) fun σ H' hP => ?_
    · obtain ⟨y1, y2, y3, rfl, hp, eP, hT⟩ := hP
      refine ⟨.ref p, rfl, p, _, rfl, hp, by omega, fun t f H1 hp1 s1 ht ok fb => ?_⟩
      refine ⟨.ref p, rfl, .ref t, rfl, p, t, _, f, rfl, ht, ok, fb, hp1, by omega, fun j H2 hp2 s2 j0 j1 hc => ?_⟩
      have ht2 := Same.seqT s2 ht
      refine ⟨.ref p, rfl, .ref t, rfl, .int j, rfl, p, t, _, f, j, rfl, ht2, ok, fb, j0, j1, hc, hp2, by omega, fun H3 hp3 s3 => ⟨_, rfl, iteF ?_⟩⟩
      have ht3 := Same.seqT s3 ht2
      have s13 := (s1.trans s2).trans s3
      have e3 := ExtP.trans eP (ExtP.wo s13)
      have t3 := tabs_wo hT (pot_lst hp) s13
      refine ⟨_, rfl, _, 4, rfl, rfl, _, rfl, ?_⟩
      by_cases c : (0 : Int) + (i : Nat) < 4
      · refine iteD c ⟨.ref p, rfl, .ref t, rfl, .int j, rfl, p, t, _, f, j, rfl, ht3, ok, fb, j0, j1, hc, hp3, by omega, t3, fun H4 hp4 e4 t4 => ⟨_, rfl, iteF ?_⟩⟩
        refine ⟨_, rfl, _, 4, rfl, rfl, _, rfl, iteD c ⟨.ref p, rfl, p, _, rfl, hp4, by omega, t4, fun H5 hp5 e5 t5 => ⟨_, rfl, iteF ?_⟩⟩⟩
        exact ⟨_, _, _, rfl, hp5.mono (by omega), ExtP.trans (ExtP.trans e3 e4) e5, t5⟩
      · refine iteE c ⟨_, rfl, _, 4, rfl, rfl, _, rfl, iteE c ?_⟩
        exact ⟨_, _, _, rfl, hp3.mono (by omega), e3, t3⟩
    · obtain ⟨y1, y2, y3, rfl, hp, eP, hT⟩ := hP
      exact q _ eP hT
def spLaw (K : PySem.W.Frag) (T : List (Addr × Str)) : Sp := fun vs H Q _ => ∃ (a : Addr) (ns : List Int), vs = [.ref a] ∧ SqL K H a (ns.map V.int) ∧ ns.length ≤ 63 ∧ Tabs T H ∧ ∀ H', Q (.bl true) H'
theorem ok_Law {k : Nat} {f : Addr} {fd : FuncData} {T:List (Addr × Str)} (F : Fun K "law" "law" sLaw f fd) (gRt : CalG P w K mg base (k + 12) "_law_right" ["pot"] (spRight K T)) (gPo : Cal P w K mg base CX0 (k + 12) "_law_pot" ["script", "place"] (spPot K)) (gCe : Cal P w K mg base CX0 (k + 12) "_law_cells" ["script", "most"] (spCells K))  (fall : mg "all" = none) : FnG P w K mg base (k + 13) f fd ["script"] (spLaw K T) := by
  obtain ⟨fRt, fdRt, GRt, kRt, bRt, mRt⟩ := gRt
  obtain ⟨fPo, fdPo, GPo, kPo, bPo, mPo⟩ := gPo
  obtain ⟨fCe, fdCe, GCe, kCe, bCe, mCe⟩ := gCe
  refine fnG_of F scLaw (fun vs H Q E h => ?_) (fun cdv A outer s H vs Q hr gd h => ?_)
  · obtain ⟨a, ns, rfl, _⟩ := h
    rfl
  · obtain ⟨a, ns, rfl, hs, hn, hT, q⟩ := h
    refine ⟨_, (pss_one (ps_ret (pe_callB (cr_all rfl) (by rfl) fall (by decide +kernel) (pa_cons (pe_lc (own := [("place", 1)]) (g := (gName 1)) (tt := tYes) rfl scLaw.nd (pi_list (pe_call GCe hr (by rfl) mCe kCe bCe .nil pass0 (pa_cons (pv 0) (pa_cons pe_int pa_nil)))) (blkOk_by (N := ["script", "place"]) (sc := defScope sLaw) (by decide +kernel)) (fun _ _ _ _ _ => (pg_name (i := 1) scLaw.nd rfl (.inl rfl))) (fun _ _ _ _ _ => pts_nil) (fun _ _ _ _ _ => (pe_callG GRt hr gd (by rfl) mRt kRt bRt (pa_cons (pe_call GPo hr (by rfl) mPo kPo bPo .nil pass0 (pa_cons (pv 0) (pa_cons (pv 1) pa_nil))) pa_nil)))) pa_nil)))), ?_⟩
    refine ⟨.ref a, rfl, a, ns, rfl, hs, hn, fun l m hm nl => ?_⟩
    have s1 := same_upd (o := .lst ((List.range m).map fun i => V.int (i : Nat))) nl
    refine ⟨l, rfl, ⟨_, SqL.of upd_same⟩, fun D nD => ?_⟩
    have s2 := same_upd (o := .lst []) nD
    have hs1 := s1.seq hs
    have hl1 : SqL K (upd H l (.lst ((List.range m).map fun i => V.int (i : Nat)))) l ((List.range m).map fun i => V.int (i : Nat)) := SqL.of upd_same
    have hT1 := hT.ext s1
    generalize upd H l (.lst ((List.range m).map fun i => V.int (i : Nat))) = H0 at nD s2 hs1 hl1 hT1 ⊢
    refine lc_list (xs := (List.range m).map fun i => V.int (i : Nat)) (fun i H' => ExtN H0 H' ∧ Tabs T H' ∧ H' D = some (.lst ((List.replicate i true).map V.bl)))
      ⟨ExtN.of s2, hT1.ext s2, upd_same⟩ (fun i H' _ hP => sqL_extN hl1 hP.1) (fun i x H' hx hP => ?_) fun H2 hP => ?_
    · obtain ⟨en, ht, hD⟩ := hP
      obtain ⟨j, hj, rfl⟩ := List.mem_map.mp (List.mem_of_getElem? hx)
      have hjm := List.mem_range.mp hj
      have hi : i < m := by have := (List.getElem?_eq_some_iff.mp hx).1; rw [List.length_map, List.length_range] at this; exact this
      refine ⟨rfl, ?_⟩
      unfold tYes
      refine iteT ⟨.ref a, rfl, .int (j : Nat), rfl, a, ns, j, rfl, sqL_extN hs1 en, hn, by omega, fun p H3 np s3 hp => ⟨p, rfl, hp, ht.ext s3, fun H4 e4 t4 => ?_⟩⟩
      have nDp : D ≠ p := fun z => by rw [z, np] at hD; cases hD
      have hD4 := e4 _ _ (s3 _ _ hD) nDp (fun ps z => by cases z)
      refine ⟨_, hD4, small1000 (by rw [List.length_map, List.length_replicate]; omega), fun b o e nt => ?_, tabs_upd t4 hD4, ?_⟩
      · rw [upd_ne (ne_of_none e nD)]
        have eb := en b o e nt
        exact e4 b o (s3 b o eb) (fun z => by rw [z, np] at eb; cases eb) nt
      · rw [upd_same, List.replicate_succ', List.map_append]
        rfl
    · obtain ⟨en, ht, hD⟩ := hP
      have ea : (List.replicate ((List.range m).map fun i => V.int (i : Nat)).length true).all id = true := List.all_eq_true.mpr fun x hx => by
        rw [List.eq_of_mem_replicate hx]
        rfl
      refine ⟨D, List.replicate ((List.range m).map fun i => V.int (i : Nat)).length true, rfl, SqL.of hD, ?_⟩
      rw [ea]
      exact q _
end
end K26

set_option maxRecDepth 100000
set_option maxHeartbeats 2000000
/-! k36: the law's call from outside, with some empty tables. -/
namespace K26
open PySem PySem.Spec PyProof.Rows L2 LamX VG
/-- the tables, and the script where the written part has it not -/
def startT (K : PySem.W.Frag) (Ps : List Addr) (a : Addr) (o : Obj) (xs : List V) : Hp := fun b =>
  if b ∈ Ps then some (.tbl #[]) else if b = a then (match K.lookup a with
    | none => some (.frz o (.lst xs))
    | some _ => none) else none
theorem startT_cases {K : PySem.W.Frag} {Ps : List Addr} {a b : Addr} {o : Obj} {xs : List V} {u : HO} (h : startT K Ps a o xs b = some u) : (b ∈ Ps ∧ u = .tbl #[]) ∨ (b = a ∧ K.lookup a = none ∧ u = .frz o (.lst xs)) := by
  unfold startT at h
  by_cases c : b ∈ Ps
  · rw [if_pos c] at h
    exact .inl ⟨c, (Option.some.inj h).symm⟩
  · rw [if_neg c] at h
    by_cases c2 : b = a
    · rw [if_pos c2] at h
      cases hk : K.lookup a with
      | some x =>
        rw [hk] at h
        cases h
      | none =>
        rw [hk] at h
        exact .inr ⟨c2, rfl, (Option.some.inj h).symm⟩
    · rw [if_neg c2] at h
      cases h
theorem call_tops {P : Program} {w : World} {K : PySem.W.Frag} {mg mb : Str → Option Value} {k : Nat} {fa a : Addr} {Ts : List (Addr × Addr)} {fd : FuncData} {x : Str} {sp : Sp} {s : Shared} {us : List Value} {ns : List Int}
    (kin : K.In s.heap) (gl : s.heap.Ns mainGlobals mg) (bl : s.heap.Ns builtinsNs mb) (blb : ∀ y : Str, y ≠ "__name__" → mb y = bootBuiltins y) (nol : s.heap.NoLimit) (gens : s.gens = #[])
    (tabs : ∀ t ∈ Ts, s.heap.get? t.2 = some { cls := .none, data := .fields #[] }) (tabsK : ∀ t ∈ Ts, K.lookup t.2 = none) (cods : ∀ t ∈ Ts, PySem.W.CodeHd s.heap t.1 t.2)
    (bmain : ∃ (bm : Addr) (ob : Obj), mg "__builtins__" = some (.ref bm) ∧ bm ≠ builtinsNs ∧ s.heap.get? bm = some ob ∧ ob.cls = .type "module" ∧ ob.dict = some builtinsNs ∧ ob.data = .plain)
    (scr : s.heap.get? a = some { cls := .type "list", data := .seq us.toArray }) (areI : IntsAre us ns) (short : ns.length ≤ sizeLine) (room : Room k callerA)
    (F : ∀ base : Heap, K.In base → base.Ns mainGlobals mg → (∀ t ∈ Ts, TabB base mg t.1 t.2) → FnG P w K mg base k fa fd [x] sp) (bind : ∀ (s : Shared) (u : Value), BindsTo s fd ⟨[u], []⟩ [(x, u)])
    (keep : ∀ H : Hp, (∀ t ∈ Ts, H t.2 = some (.tbl #[])) → SqL K H a (ns.map V.int) → sp [.ref a] H (fun v _ => v = .bl true) E0) :
    codeAny (model P w) callerA (.call (.ref fa) ⟨[.ref a], []⟩) (fun r s' => r = .ok (.ret (.bool true)) ∧ OldK s.heap s'.heap ∧ s'.os = s.os ∧ AllBare s'.gens) s := by
  have vals := vals_ints areI
  have same_len := areI.length
  have tab : ∀ b ∈ Ts.map (·.2), s.heap.get? b = some { cls := .none, data := .fields #[] } := fun b hb => by
    obtain ⟨t, ht, rfl⟩ := List.mem_map.mp hb
    exact tabs t ht
  generalize hH : startT K (Ts.map (·.2)) a { cls := .type "list", data := .seq us.toArray } (ns.map V.int) = H
  have look : ∀ {b : Addr} {u : HO}, H b = some u → (b ∈ Ts.map (·.2) ∧ u = .tbl #[]) ∨ (b = a ∧ K.lookup a = none ∧ u = .frz { cls := .type "list", data := .seq us.toArray } (.lst (ns.map V.int))) := fun {b u} e => startT_cases (hH ▸ e)
  have apart : a ∉ Ts.map (·.2) := fun z => by
    have e := tab a z
    rw [e] at scr
    exact absurd (congrArg Obj.data (Option.some.inj scr)) (fun y => nomatch y)
  have hP : ∀ b ∈ Ts.map (·.2), H b = some (.tbl #[]) := fun b hb => by rw [← hH]; exact if_pos hb
  have hPt : ∀ t ∈ Ts, H t.2 = some (.tbl #[]) := fun t ht => hP _ (List.mem_map.mpr ⟨t, ht, rfl⟩)
  have hseq : SqL K H a (ns.map V.int) := by
    cases hk : K.lookup a with
    | some o =>
      have e := (kin a o hk).symm.trans scr
      exact .inr ⟨_, us.toArray, _, by rw [hk, Option.some.inj e], rfl, rfl, rfl, by rw [List.size_toArray, same_len]; exact short, by simpa using vals⟩
    | none =>
      refine .inl (.inr ⟨{ cls := .type "list", data := .seq us.toArray }, ?_⟩)
      rw [← hH]
      unfold startT
      rw [if_neg apart, if_pos rfl, hk]
  have sound : HOk P w H s.heap := fun b u e => by
    rcases look e with ⟨hb, rfl⟩ | ⟨rfl, _, rfl⟩
    · exact tab b hb
    · exact ⟨scr, by rw [List.length_map]; exact short, us, _, vals, scr⟩
  -- what is no list and no empty record is not tracked
  have out : ∀ {b : Addr} {o : Obj}, s.heap.get? b = some o → (∀ is n, o.data ≠ .seq is n) → o.data ≠ .fields #[] → H b = none := fun {b o} e n1 n2 => by
    cases q : H b with
    | none => rfl
    | some u =>
      rcases look q with ⟨hb, _⟩ | ⟨rfl, _⟩
      · exact absurd (congrArg Obj.data (Option.some.inj ((tab b hb).symm.trans e))).symm n2
      · exact absurd (congrArg Obj.data (Option.some.inj (scr.symm.trans e))).symm (n1 _ _)
  have outD : ∀ {b : Addr} {o : Obj} {es : Array DictEntry} {n : Nat}, s.heap.get? b = some o → o.data = .dict es n → H b = none := fun {b o es n} e d => out e (fun _ _ z => by rw [d] at z; cases z) fun z => by rw [d] at z; cases z
  have dictK : ∀ {b : Addr} {m : Str → Option Value}, s.heap.Ns b m → (hidT s.heap H).Ns b m := fun {b m} hn => by
    obtain ⟨o, es, n, e, d, r⟩ := hn
    exact ⟨o, es, n, hidT_get e (outD e d), d, r⟩
  have kinB : K.In (hidT s.heap H) := fun b o e => hidT_get (kin b o e) (by
    cases q : H b with
    | none => rfl
    | some u =>
      rcases look q with ⟨hb, _⟩ | ⟨rfl, z, _⟩
      · obtain ⟨t, ht, rfl⟩ := List.mem_map.mp hb
        exact absurd ((tabsK t ht).symm.trans e) fun y => nomatch y
      · exact absurd (z.symm.trans e) fun y => nomatch y)
  have module : L2.Mod K mg (hidT s.heap H) := by
    obtain ⟨ml, e1, e2⟩ := nol
    exact ⟨kinB, dictK gl, ⟨mb, dictK bl, blb⟩, ml, dictK e1, e2⟩
  have table : ∀ t ∈ Ts, TabB (hidT s.heap H) mg t.1 t.2 := fun t ht => by
    have cod := cods t ht
    have tab := tabs t ht
    refine ⟨?_, ?_, fun z => ?_⟩
    · obtain ⟨o, vs, file, tf, flags, tg, inF, text, tt, e1, e2, e3, e4, rest⟩ := cod
      refine ⟨o, vs, file, tf, flags, tg, inF, text, tt, hidT_get e1 (out e1 (fun _ _ y => by rw [e3] at y; cases y) fun y => ?_), e2, e3, e4, rest⟩
      rw [e3] at y
      have y' : vs = #[] := Data.fields.inj y
      rw [y'] at e4
      cases e4
    · obtain ⟨bm, ob, m1, m2, m3, m4, m5, m6⟩ := bmain
      refine ⟨bm, ob, m1, m2, fun y => ?_, fun y => ?_, hidT_get m3 (out m3 (fun _ _ y => by rw [m6] at y; cases y) fun y => by rw [m6] at y; cases y), m4, m5, m6⟩
      · obtain ⟨o, es, n, e, d, _⟩ := gl
        rw [← y, m3] at e
        rw [← Option.some.inj e, m6] at d
        cases d
      · have e := m3.symm.trans (y ▸ tab)
        have d := m6
        rw [Option.some.inj e] at d
        cases d
    · obtain ⟨o, es, n, e, d, _⟩ := gl
      have e' := e.symm.trans (z ▸ tab)
      rw [Option.some.inj e'] at d
      cases d
  have env : Env0 P w K mg (hidT s.heap H) callerA [] s H := ⟨rfl, module, fun b o e => of_hidT e, Nat.le_of_eq (hidT_size _ _), trivial, fun b hb => (List.not_mem_nil hb).elim, sound, .of_eq gens⟩
  refine codeAny_mono ((F _ kinB (dictK gl) table).run callerA [] s H ⟨[.ref a], []⟩ [.ref a] [.ref a] _ room rfl env (bind s (.ref a)) (.cons rfl .nil) (keep H hPt hseq)) fun r s' res => ?_
  match r, res with
  | .ok (.ret u), res =>
    obtain ⟨v, H', same_os, bare, un, sound', rv, ev⟩ := res
    have ev' : v = .bl true := ev
    subst ev'
    obtain rfl : u = Value.bool true := rv
    have stays : ∀ b o, b ∉ Ts.map (·.2) → s.heap.get? b = some o → s'.heap.get? b = some o := fun b o nb e => by
      cases q : H b with
      | none => exact un.keep b o e q (fun z => (List.not_mem_nil z).elim) (by simp)
      | some u =>
        rcases look q with ⟨z, _⟩ | ⟨rfl, _, rfl⟩
        · exact absurd z nb
        · have g := (sound' b _ (un.frzs b _ _ q)).1
          rw [← Option.some.inj (scr.symm.trans e)]
          exact g
    refine ⟨rfl, ⟨fun b o e => ?_, fun b o e => ?_⟩, same_os, bare⟩
    · by_cases hb : b ∈ Ts.map (·.2)
      · obtain ⟨more, hm⟩ := un.tbls b #[] (hP b hb)
        have after : s'.heap.get? b = some { cls := .none, data := .fields (#[] ++ more) } := sound' b _ hm
        obtain ⟨t, ht, rfl⟩ := List.mem_map.mp hb
        obtain rfl := Option.some.inj ((tabs t ht).symm.trans e)
        refine .inr (.inl ⟨((cods t ht).tab (tabs t ht)).isCodeTable, rfl, #[], more, rfl, ?_⟩)
        rw [after]
      · exact .inl (stays b o hb e)
    · by_cases hb : b ∈ Ts.map (·.2)
      · obtain ⟨more, hm⟩ := un.tbls b #[] (hP b hb)
        exact ⟨_, sound' b _ hm⟩
      · exact ⟨o, stays b o hb e⟩
  | .ok .next, res => exact False.elim res
  | .ok .brk, res => exact False.elim res
  | .ok .cont, res => exact False.elim res
  | .error e, res => exact False.elim res
end K26

set_option maxRecDepth 100000
set_option maxHeartbeats 16000000
/-! k26: the end. -/
namespace K26
open PySem PySem.Spec PyProof.Rows L2 LamX VG
def dd (x : Str) (st : Stmt) : He.DefD := ⟨(x, none), x, x, defArgs st, defBody st, defScope st, [], []⟩
def dIni (C : Str) : He.DefD := ⟨(C, some "__init__"), "__init__", "CoreError.__init__", defArgs sInit, defBody sInit, defScope sInit, [], []⟩
def fns : List He.DefD := [dd "is_within" sWithin, dd "is_word" sIsWord, dd "is_address" sIsAddress, dd "is_tuple_of" sIsTupleOf, dd "is_word_tuple" sIsWordTuple, dd "is_letters" sIsLetters, dd "row_of" sRowOf, dd "_name_of" sNameOf, dd "first_refused" sFirst, dd "fault_words" sWords, dd "fault_of" sFaultOf, dd "door_of" sDoor, dd "behind_answer" sBehind, dd "_is_accesses" sIsAccesses, dd "_is_access" sIsAccess, dd "_check_fault" sCheckFault, dd "is_fault" sIsFault, dd "_comes_at" sComes, dd "_fault_with" sFaultWith, dd "_law_pot" sPot, dd "_law_take" sTake, dd "_law_is_int" sIsInt, dd "_law_cell_row" sCellRow, dd "_law_of" sOf, dd "_law_some" sSome, dd "_law_odd" sOdd, dd "_law_bent" sBent, dd "_law_heard" sHeard, dd "_law_cells" sCells, dd "_law_all_letters" sAllLetters, dd "_law_are_letters" sAreLetters, dd "_law_are_accesses" sAreAccesses, dd "_law_fault_due" sFaultDue, dd "_law_code" sCode, dd "_law_is_place_due" sPlaceDue, dd "_law_drawn_fault" sDrawnFault, dd "_law_drawn_place" sDrawnPlace, dd "_law_are_refusals_right" sRefusals, dd "_law_is_fault_right" sFaultRight, dd "_law_are_words" sAreWords, dd "_law_told_words" sToldWords, dd "_law_are_values_right" sValues, dd "_law_is_value_right" sValueRight, dd "_law_right" sRight, dd "law" sLaw, dIni "BadWord", dIni "BadWords", dIni "BadLetters", dIni "BadAccesses", dIni "BadFault", dIni "BadPlace"]
def PlainT (K : PySem.W.Frag) (p : Addr) : Prop := ∃ o, K.lookup p = some o ∧ o.cls = .type "tuple" ∧ o.dict = none
theorem fnFalse {P : Program} {w : World} {K : PySem.W.Frag} {mg : Str → Option Value} {base : Heap} {k : Nat} {f : Addr} {fd : FuncData} {ps : List Str} : FnOk P w K mg base CX0 k f fd ps (fun _ _ _ _ => False) := ⟨fun _ _ _ _ h => h.elim, fun _ _ _ _ _ _ _ _ _ _ _ _ _ h => h.elim⟩
/-- the table of rows -/
def shB (K : PySem.W.Frag) (d : Addr) : Bool := shapes.all fun q => match PySem.W.nsIn K d q.1 with
  | some (some (.ref t)) => ktB K t [.int q.2.1, .int (q.2.2.1 : Nat), match q.2.2.2 with | none => .non | some m => .int m]
  | _ => false
theorem keys_none {P : Params} {z : Str} : ∀ {l : List DictEntry} {ks : List Str}, l.map He.keyOf = He.keysIn P ks → z ∉ ks → (l.find? (·.key.isStr z) = none) ∧ l.any (·.refKey) = false
  | [], _, _, _ => ⟨rfl, rfl⟩
  | e :: r, [], h, _ => by cases h
  | e :: r, k :: ks, h, nz => by
    have h1 : He.keyOf e :: r.map He.keyOf = some (k, PyData.keyHash P k) :: He.keysIn P ks := h
    injection h1 with h2 h3
    obtain ⟨i1, i2⟩ := keys_none h3 fun y => nz (List.mem_cons_of_mem _ y)
    unfold He.keyOf at h2
    split at h2
    · rename_i x t hk
      obtain ⟨rfl, _⟩ := Prod.mk.inj (Option.some.inj h2)
      have ne : x ≠ z := fun y => nz (y ▸ List.mem_cons_self)
      have e1 : e.key.isStr z = false := by rw [hk]; simpa [Value.isStr] using ne
      have e2 : e.refKey = false := by unfold DictEntry.refKey; rw [hk]
      exact ⟨by rw [List.find?_cons, e1]; exact i1, by rw [List.any_cons, e2, i2]; rfl⟩
    · cases h2
theorem dicW_none {K : PySem.W.Frag} {P : Params} {a : Addr} {ks : List Str} {z : Str} (h : He.dicW K a = some (He.keysIn P ks)) (nz : z ∉ ks) : PySem.W.nsIn K a z = some none := by
  unfold He.dicW at h
  split at h
  · rename_i c es n sl ho
    split at h
    · obtain ⟨e1, e2⟩ := keys_none (Option.some.inj h) nz
      unfold PySem.W.nsIn
      rw [ho]
      show (match es.toList.find? (·.key.isStr z) with | some e => some (some e.val) | none => if es.toList.any (·.refKey) then none else some none) = some none
      rw [e1]
      show (if es.toList.any (·.refKey) = true then none else some none) = some none
      rw [e2]
      rfl
    · cases h
  · cases h
theorem not_mem_of_lookup {z : Str} : ∀ {l : List (Str × Int × Nat × Option Int)}, l.lookup z = none → z ∉ l.map (·.1)
  | [], _ => fun y => nomatch y
  | (k, s) :: r, h => fun y => by
    rw [List.lookup_cons] at h
    cases c : (z == k) with
    | true =>
      rw [c] at h
      cases h
    | false =>
      rw [c] at h
      rcases List.mem_cons.mp y with e | e
      · have e' : z = k := e
        rw [e', beq_self_eq_true] at c
        cases c
      · exact not_mem_of_lookup h e
theorem shT_of {K : PySem.W.Frag} {w : World} {d : Addr} (h1 : He.dicW K d = some (He.keysIn w.params (shapes.map (·.1)))) (h2 : shB K d = true) : ShT K w d := by
  refine ⟨He.dicW_ok h1, fun z hz => dicW_none h1 (not_mem_of_lookup hz), fun z s hs => ?_⟩
  have hq := List.all_eq_true.mp h2 _ (mem_of_lookup hs)
  split at hq
  · rename_i t e
    exact ⟨t, e, ktB_ok hq⟩
  · cases hq
def coB (K : PySem.W.Frag) (d : Addr) : Bool := codes.all fun q => match PySem.W.nsIn K d q.1 with
  | some (some (.int i _)) => decide (i = q.2)
  | _ => false
theorem shC_of {K : PySem.W.Frag} {w : World} {d : Addr} (h1 : He.dicW K d = some (He.keysIn w.params kindsF)) (h2 : coB K d = true) : ShC K w d := by
  refine ⟨kKeys_of h1, fun z n hz => ?_⟩
  obtain ⟨es, m, D⟩ := He.dicW_ok h1
  have hq := List.all_eq_true.mp h2 _ hz
  split at hq
  · rename_i i t e
    obtain rfl := of_decide_eq_true hq
    exact ⟨es, m, _, D.at_, D.lit, e, ⟨_, rfl⟩⟩
  · cases hq
def fas : List He.Fa := [.glo "is_within", .glo "is_word", .glo "is_address", .glo "is_tuple_of", .glo "is_word_tuple", .glo "is_letters", .glo "row_of", .glo "_name_of", .glo "first_refused", .glo "fault_words", .glo "fault_of", .glo "door_of", .glo "behind_answer", .glo "_is_accesses", .glo "_is_access", .glo "_check_fault", .glo "is_fault", .glo "_comes_at", .glo "_fault_with", .glo "_law_pot", .glo "_law_take", .glo "_law_is_int", .glo "_law_cell_row", .glo "_law_of", .glo "_law_some", .glo "_law_odd", .glo "_law_bent", .glo "_law_heard", .glo "_law_cells", .glo "_law_all_letters", .glo "_law_are_letters", .glo "_law_are_accesses", .glo "_law_fault_due", .glo "_law_code", .glo "_law_is_place_due", .glo "_law_drawn_fault", .glo "_law_drawn_place", .glo "_law_are_refusals_right", .glo "_law_is_fault_right", .glo "_law_are_words", .glo "_law_told_words", .glo "_law_are_values_right", .glo "_law_is_value_right", .glo "_law_right", .glo "law", .glo "LETTERS", .glo "NAMES", .glo "RECKONED", .glo "WEIGHTS", .glo "CoreError", .glo "BadWord", .glo "BadWords", .glo "BadLetters", .glo "BadAccesses", .glo "BadFault", .glo "BadPlace", .glo "SHAPES", .glo "CODES", .free "abs", .free "all", .free "bool", .free "int", .free "isinstance", .free "len", .free "list", .free "max", .free "min", .free "range", .free "repr", .free "str", .free "sum", .free "tuple", .free "type"]
def tbs : List He.Tab := [((fun K => He.ga K "SHAPES"), shapes.map (·.1)), ((fun K => He.ga K "CODES"), kindsF)]
def rfd1 : He.Defn := ("_law_is_value_right", none)
def rfd2 : He.Defn := ("_law_are_refusals_right", none)
def rfd3 : He.Defn := ("_law_are_values_right", none)
def cds : List He.Defn := [rfd1, rfd2, rfd3]
/-- a tuple with no dict -/
def plB (K : PySem.W.Frag) (a : Addr) : Bool := match K.lookup a with
  | some o => decide (o.cls = .type "tuple") && o.dict.isNone
  | none => false
theorem plB_ok {K : PySem.W.Frag} {a : Addr} (h : plB K a = true) : PlainT K a := by
  unfold plB at h
  split at h
  · rename_i o ho
    simp only [Bool.and_eq_true, decide_eq_true_eq, Option.isNone_iff_eq_none] at h
    exact ⟨o, ho, h.1, h.2⟩
  · cases h
def kiB (K : PySem.W.Frag) (a b : Addr) (r : Bool) : Bool := decide (PySem.W.kitOne K (.ref a) (.ref b) = some r)
def er (K : PySem.W.Frag) (C : Str) : Bool := errB K (He.ga K C) (He.ma K (He.ga K C) "__init__") (He.ga K "CoreError") && isCB K (He.ga K C)
theorem er_ok {K : PySem.W.Frag} {C : Str} (h : er K C = true) : ErrC K (He.ga K C) (He.ma K (He.ga K C) "__init__") ∧ Err1 K (He.ga K "CoreError") (He.ga K C) := by
  unfold er at h
  obtain ⟨a, b⟩ := Bool.and_eq_true_iff.mp h
  obtain ⟨E, _, m⟩ := errB_ok a
  exact ⟨E, isCB_ok b, E.noV, m⟩
def tuB (K : PySem.W.Frag) (x : Str) (vs : List V) : Bool := ktB K (He.ga K x) vs && plB K (He.ga K x)
def exs (K : PySem.W.Frag) : Bool := er K "BadWord" && (er K "BadWords" && (er K "BadLetters" && (er K "BadAccesses" && (er K "BadFault" && (er K "BadPlace" && (kiB K (He.ga K "BadWords") (He.ga K "BadWords") true && (kiB K (He.ga K "BadLetters") (He.ga K "BadLetters") true && (kiB K (He.ga K "BadAccesses") (He.ga K "BadAccesses") true && (kiB K (He.ga K "BadLetters") (He.ga K "BadAccesses") false && (kiB K (He.ga K "BadFault") (He.ga K "BadFault") true && (kiB K (He.ga K "BadPlace") (He.ga K "BadPlace") true && (tuB K "LETTERS" (lets3.map V.str) && (tuB K "NAMES" (names.map optS) && (tuB K "RECKONED" (reck.map V.str) && (tuB K "WEIGHTS" weights && (shB K (He.ga K "SHAPES") && (coB K (He.ga K "CODES") && (decide (PySem.W.kitOne K (.type "NoneType") (.ref (He.ga K "BadWords")) = some false) && (decide (PySem.W.kitOne K (.type "NoneType") (.ref (He.ga K "BadAccesses")) = some false) && (decide (PySem.W.kitOne K (.type "NoneType") (.ref (He.ga K "BadFault")) = some false) && (decide (PySem.W.kitOne K (.type "NoneType") (.ref (He.ga K "BadPlace")) = some false) && (decide ((He.cT K rfd1).2 ≠ (He.cT K rfd2).2) && (decide ((He.cT K rfd1).2 ≠ (He.cT K rfd3).2) && (decide ((He.cT K rfd2).2 ≠ (He.cT K rfd3).2)))))))))))))))))))))))))
def tabL (A0 A1 A2 : Addr) : List (Addr × Str) := [(A0, Str.ofString "_law_is_value_right.<locals>." ++ "<lambda>"), (A1, Str.ofString "_law_are_refusals_right.<locals>." ++ "<lambda>"), (A2, Str.ofString "_law_are_values_right.<locals>." ++ "<lambda>")]
def cTs (K : PySem.W.Frag) : List (Addr × Addr) := [He.cT K rfd1, He.cT K rfd2, He.cT K rfd3]
theorem all_in {P : Program} {w : World} {K : PySem.W.Frag} {h : Heap} {mg : Str → Option Value} (X : K.In h) (G : h.Ns mainGlobals mg) (c : He.SaysX fas fns tbs cds exs w h K) :
    ∃ fd : FuncData, (∀ (s : Shared) (u : Value), BindsTo s fd ⟨[u], []⟩ [("script", u)]) ∧ mg "law" = some (.ref (He.ga K "law")) ∧
      ∀ base : Heap, K.In base → base.Ns mainGlobals mg → (∀ t ∈ cTs K, TabB base mg t.1 t.2) → FnG P w K mg base 13 (He.ga K "law") fd ["script"] (spLaw K (tabL (He.cT K rfd1).2 (He.cT K rfd2).2 (He.cT K rfd3).2)) := by
  have sd := c.t.d
  obtain ⟨fd0, D0⟩ := sd.def_ 0 (d := dd "is_within" sWithin) rfl
  have F0 : Fun K "is_within" "is_within" sWithin (He.ga K "is_within") fd0 := defFun D0
  have b0 : L2.Binds K fd0 ["value", "low", "high"] [] := F0.binds (ps := ["value", "low", "high"]) fun _ _ _ _ _ _ us hl => match us, hl with | [_, _, _], _ => rfl
  have g0 := He.glo_ok X G (sd.fact 0 (f := .glo "is_within") rfl)
  obtain ⟨fd1, D1⟩ := sd.def_ 1 (d := dd "is_word" sIsWord) rfl
  have F1 : Fun K "is_word" "is_word" sIsWord (He.ga K "is_word") fd1 := defFun D1
  have b1 : L2.Binds K fd1 ["value"] [] := F1.binds (ps := ["value"]) fun _ _ _ _ _ _ us hl => match us, hl with | [_], _ => rfl
  have g1 := He.glo_ok X G (sd.fact 1 (f := .glo "is_word") rfl)
  obtain ⟨fd2, D2⟩ := sd.def_ 2 (d := dd "is_address" sIsAddress) rfl
  have F2 : Fun K "is_address" "is_address" sIsAddress (He.ga K "is_address") fd2 := defFun D2
  have b2 : L2.Binds K fd2 ["value"] [] := F2.binds (ps := ["value"]) fun _ _ _ _ _ _ us hl => match us, hl with | [_], _ => rfl
  have g2 := He.glo_ok X G (sd.fact 2 (f := .glo "is_address") rfl)
  obtain ⟨fd3, D3⟩ := sd.def_ 3 (d := dd "is_tuple_of" sIsTupleOf) rfl
  have F3 : Fun K "is_tuple_of" "is_tuple_of" sIsTupleOf (He.ga K "is_tuple_of") fd3 := defFun D3
  have b3 : L2.Binds K fd3 ["value", "many"] [] := F3.binds (ps := ["value", "many"]) fun _ _ _ _ _ _ us hl => match us, hl with | [_, _], _ => rfl
  have g3 := He.glo_ok X G (sd.fact 3 (f := .glo "is_tuple_of") rfl)
  obtain ⟨fd4, D4⟩ := sd.def_ 4 (d := dd "is_word_tuple" sIsWordTuple) rfl
  have F4 : Fun K "is_word_tuple" "is_word_tuple" sIsWordTuple (He.ga K "is_word_tuple") fd4 := defFun D4
  have b4 : L2.Binds K fd4 ["value", "many"] [] := F4.binds (ps := ["value", "many"]) fun _ _ _ _ _ _ us hl => match us, hl with | [_, _], _ => rfl
  have g4 := He.glo_ok X G (sd.fact 4 (f := .glo "is_word_tuple") rfl)
  obtain ⟨fd5, D5⟩ := sd.def_ 5 (d := dd "is_letters" sIsLetters) rfl
  have F5 : Fun K "is_letters" "is_letters" sIsLetters (He.ga K "is_letters") fd5 := defFun D5
  have b5 : L2.Binds K fd5 ["value"] [] := F5.binds (ps := ["value"]) fun _ _ _ _ _ _ us hl => match us, hl with | [_], _ => rfl
  have g5 := He.glo_ok X G (sd.fact 5 (f := .glo "is_letters") rfl)
  obtain ⟨fd6, D6⟩ := sd.def_ 6 (d := dd "row_of" sRowOf) rfl
  have F6 : Fun K "row_of" "row_of" sRowOf (He.ga K "row_of") fd6 := defFun D6
  have b6 : L2.Binds K fd6 ["word"] [] := F6.binds (ps := ["word"]) fun _ _ _ _ _ _ us hl => match us, hl with | [_], _ => rfl
  have g6 := He.glo_ok X G (sd.fact 6 (f := .glo "row_of") rfl)
  obtain ⟨fd7, D7⟩ := sd.def_ 7 (d := dd "_name_of" sNameOf) rfl
  have F7 : Fun K "_name_of" "_name_of" sNameOf (He.ga K "_name_of") fd7 := defFun D7
  have b7 : L2.Binds K fd7 ["word"] [] := F7.binds (ps := ["word"]) fun _ _ _ _ _ _ us hl => match us, hl with | [_], _ => rfl
  have g7 := He.glo_ok X G (sd.fact 7 (f := .glo "_name_of") rfl)
  obtain ⟨fd8, D8⟩ := sd.def_ 8 (d := dd "first_refused" sFirst) rfl
  have F8 : Fun K "first_refused" "first_refused" sFirst (He.ga K "first_refused") fd8 := defFun D8
  have b8 : L2.Binds K fd8 ["letters", "accesses"] [] := F8.binds (ps := ["letters", "accesses"]) fun _ _ _ _ _ _ us hl => match us, hl with | [_, _], _ => rfl
  have g8 := He.glo_ok X G (sd.fact 8 (f := .glo "first_refused") rfl)
  obtain ⟨fd9, D9⟩ := sd.def_ 9 (d := dd "fault_words" sWords) rfl
  have F9 : Fun K "fault_words" "fault_words" sWords (He.ga K "fault_words") fd9 := defFun D9
  have b9 : L2.Binds K fd9 ["fault", "place"] [] := F9.binds (ps := ["fault", "place"]) fun _ _ _ _ _ _ us hl => match us, hl with | [_, _], _ => rfl
  have g9 := He.glo_ok X G (sd.fact 9 (f := .glo "fault_words") rfl)
  obtain ⟨fd10, D10⟩ := sd.def_ 10 (d := dd "fault_of" sFaultOf) rfl
  have F10 : Fun K "fault_of" "fault_of" sFaultOf (He.ga K "fault_of") fd10 := defFun D10
  have b10 : L2.Binds K fd10 ["words"] [] := F10.binds (ps := ["words"]) fun _ _ _ _ _ _ us hl => match us, hl with | [_], _ => rfl
  have g10 := He.glo_ok X G (sd.fact 10 (f := .glo "fault_of") rfl)
  obtain ⟨fd11, D11⟩ := sd.def_ 11 (d := dd "door_of" sDoor) rfl
  have F11 : Fun K "door_of" "door_of" sDoor (He.ga K "door_of") fd11 := defFun D11
  have b11 : L2.Binds K fd11 ["fault"] [] := F11.binds (ps := ["fault"]) fun _ _ _ _ _ _ us hl => match us, hl with | [_], _ => rfl
  have g11 := He.glo_ok X G (sd.fact 11 (f := .glo "door_of") rfl)
  obtain ⟨fd12, D12⟩ := sd.def_ 12 (d := dd "behind_answer" sBehind) rfl
  have F12 : Fun K "behind_answer" "behind_answer" sBehind (He.ga K "behind_answer") fd12 := defFun D12
  have b12 : L2.Binds K fd12 ["fault", "words"] [] := F12.binds (ps := ["fault", "words"]) fun _ _ _ _ _ _ us hl => match us, hl with | [_, _], _ => rfl
  have g12 := He.glo_ok X G (sd.fact 12 (f := .glo "behind_answer") rfl)
  obtain ⟨fd13, D13⟩ := sd.def_ 13 (d := dd "_is_accesses" sIsAccesses) rfl
  have F13 : Fun K "_is_accesses" "_is_accesses" sIsAccesses (He.ga K "_is_accesses") fd13 := defFun D13
  have b13 : L2.Binds K fd13 ["value"] [] := F13.binds (ps := ["value"]) fun _ _ _ _ _ _ us hl => match us, hl with | [_], _ => rfl
  have g13 := He.glo_ok X G (sd.fact 13 (f := .glo "_is_accesses") rfl)
  obtain ⟨fd14, D14⟩ := sd.def_ 14 (d := dd "_is_access" sIsAccess) rfl
  have F14 : Fun K "_is_access" "_is_access" sIsAccess (He.ga K "_is_access") fd14 := defFun D14
  have b14 : L2.Binds K fd14 ["value", "letters"] [] := F14.binds (ps := ["value", "letters"]) fun _ _ _ _ _ _ us hl => match us, hl with | [_, _], _ => rfl
  have g14 := He.glo_ok X G (sd.fact 14 (f := .glo "_is_access") rfl)
  obtain ⟨fd15, D15⟩ := sd.def_ 15 (d := dd "_check_fault" sCheckFault) rfl
  have F15 : Fun K "_check_fault" "_check_fault" sCheckFault (He.ga K "_check_fault") fd15 := defFun D15
  have b15 : L2.Binds K fd15 ["value"] [] := F15.binds (ps := ["value"]) fun _ _ _ _ _ _ us hl => match us, hl with | [_], _ => rfl
  have g15 := He.glo_ok X G (sd.fact 15 (f := .glo "_check_fault") rfl)
  obtain ⟨fd16, D16⟩ := sd.def_ 16 (d := dd "is_fault" sIsFault) rfl
  have F16 : Fun K "is_fault" "is_fault" sIsFault (He.ga K "is_fault") fd16 := defFun D16
  have b16 : L2.Binds K fd16 ["value"] [] := F16.binds (ps := ["value"]) fun _ _ _ _ _ _ us hl => match us, hl with | [_], _ => rfl
  have g16 := He.glo_ok X G (sd.fact 16 (f := .glo "is_fault") rfl)
  obtain ⟨fd17, D17⟩ := sd.def_ 17 (d := dd "_comes_at" sComes) rfl
  have F17 : Fun K "_comes_at" "_comes_at" sComes (He.ga K "_comes_at") fd17 := defFun D17
  have b17 : L2.Binds K fd17 ["fault", "place"] [] := F17.binds (ps := ["fault", "place"]) fun _ _ _ _ _ _ us hl => match us, hl with | [_, _], _ => rfl
  have g17 := He.glo_ok X G (sd.fact 17 (f := .glo "_comes_at") rfl)
  obtain ⟨fd18, D18⟩ := sd.def_ 18 (d := dd "_fault_with" sFaultWith) rfl
  have F18 : Fun K "_fault_with" "_fault_with" sFaultWith (He.ga K "_fault_with") fd18 := defFun D18
  have b18 : L2.Binds K fd18 ["code", "number"] [] := F18.binds (ps := ["code", "number"]) fun _ _ _ _ _ _ us hl => match us, hl with | [_, _], _ => rfl
  have g18 := He.glo_ok X G (sd.fact 18 (f := .glo "_fault_with") rfl)
  obtain ⟨fd19, D19⟩ := sd.def_ 19 (d := dd "_law_pot" sPot) rfl
  have F19 : Fun K "_law_pot" "_law_pot" sPot (He.ga K "_law_pot") fd19 := defFun D19
  have b19 : L2.Binds K fd19 ["script", "place"] [] := F19.binds (ps := ["script", "place"]) fun _ _ _ _ _ _ us hl => match us, hl with | [_, _], _ => rfl
  have g19 := He.glo_ok X G (sd.fact 19 (f := .glo "_law_pot") rfl)
  obtain ⟨fd20, D20⟩ := sd.def_ 20 (d := dd "_law_take" sTake) rfl
  have F20 : Fun K "_law_take" "_law_take" sTake (He.ga K "_law_take") fd20 := defFun D20
  have b20 : L2.Binds K fd20 ["pot", "upto"] [] := F20.binds (ps := ["pot", "upto"]) fun _ _ _ _ _ _ us hl => match us, hl with | [_, _], _ => rfl
  have g20 := He.glo_ok X G (sd.fact 20 (f := .glo "_law_take") rfl)
  obtain ⟨fd21, D21⟩ := sd.def_ 21 (d := dd "_law_is_int" sIsInt) rfl
  have F21 : Fun K "_law_is_int" "_law_is_int" sIsInt (He.ga K "_law_is_int") fd21 := defFun D21
  have b21 : L2.Binds K fd21 ["value", "low", "high"] [] := F21.binds (ps := ["value", "low", "high"]) fun _ _ _ _ _ _ us hl => match us, hl with | [_, _, _], _ => rfl
  have g21 := He.glo_ok X G (sd.fact 21 (f := .glo "_law_is_int") rfl)
  obtain ⟨fd22, D22⟩ := sd.def_ 22 (d := dd "_law_cell_row" sCellRow) rfl
  have F22 : Fun K "_law_cell_row" "_law_cell_row" sCellRow (He.ga K "_law_cell_row") fd22 := defFun D22
  have b22 : L2.Binds K fd22 ["word"] [] := F22.binds (ps := ["word"]) fun _ _ _ _ _ _ us hl => match us, hl with | [_], _ => rfl
  have g22 := He.glo_ok X G (sd.fact 22 (f := .glo "_law_cell_row") rfl)
  obtain ⟨fd23, D23⟩ := sd.def_ 23 (d := dd "_law_of" sOf) rfl
  have F23 : Fun K "_law_of" "_law_of" sOf (He.ga K "_law_of") fd23 := defFun D23
  have b23 : L2.Binds K fd23 ["pot", "some"] [] := F23.binds (ps := ["pot", "some"]) fun _ _ _ _ _ _ us hl => match us, hl with | [_, _], _ => rfl
  have g23 := He.glo_ok X G (sd.fact 23 (f := .glo "_law_of") rfl)
  obtain ⟨fd24, D24⟩ := sd.def_ 24 (d := dd "_law_some" sSome) rfl
  have F24 : Fun K "_law_some" "_law_some" sSome (He.ga K "_law_some") fd24 := defFun D24
  have b24 : L2.Binds K fd24 ["pot", "pool", "many"] [] := F24.binds (ps := ["pot", "pool", "many"]) fun _ _ _ _ _ _ us hl => match us, hl with | [_, _, _], _ => rfl
  have g24 := He.glo_ok X G (sd.fact 24 (f := .glo "_law_some") rfl)
  obtain ⟨fd25, D25⟩ := sd.def_ 25 (d := dd "_law_odd" sOdd) rfl
  have F25 : Fun K "_law_odd" "_law_odd" sOdd (He.ga K "_law_odd") fd25 := defFun D25
  have b25 : L2.Binds K fd25 ["pot"] [] := F25.binds (ps := ["pot"]) fun _ _ _ _ _ _ us hl => match us, hl with | [_], _ => rfl
  have g25 := He.glo_ok X G (sd.fact 25 (f := .glo "_law_odd") rfl)
  obtain ⟨fd26, D26⟩ := sd.def_ 26 (d := dd "_law_bent" sBent) rfl
  have F26 : Fun K "_law_bent" "_law_bent" sBent (He.ga K "_law_bent") fd26 := defFun D26
  have b26 : L2.Binds K fd26 ["pot", "value"] [] := F26.binds (ps := ["pot", "value"]) fun _ _ _ _ _ _ us hl => match us, hl with | [_, _], _ => rfl
  have g26 := He.glo_ok X G (sd.fact 26 (f := .glo "_law_bent") rfl)
  obtain ⟨fd27, D27⟩ := sd.def_ 27 (d := dd "_law_heard" sHeard) rfl
  have F27 : Fun K "_law_heard" "_law_heard" sHeard (He.ga K "_law_heard") fd27 := defFun D27
  have b27 : L2.Binds K fd27 ["call"] [] := F27.binds (ps := ["call"]) fun _ _ _ _ _ _ us hl => match us, hl with | [_], _ => rfl
  have g27 := He.glo_ok X G (sd.fact 27 (f := .glo "_law_heard") rfl)
  obtain ⟨fd28, D28⟩ := sd.def_ 28 (d := dd "_law_cells" sCells) rfl
  have F28 : Fun K "_law_cells" "_law_cells" sCells (He.ga K "_law_cells") fd28 := defFun D28
  have b28 : L2.Binds K fd28 ["script", "most"] [] := F28.binds (ps := ["script", "most"]) fun _ _ _ _ _ _ us hl => match us, hl with | [_, _], _ => rfl
  have g28 := He.glo_ok X G (sd.fact 28 (f := .glo "_law_cells") rfl)
  obtain ⟨fd29, D29⟩ := sd.def_ 29 (d := dd "_law_all_letters" sAllLetters) rfl
  have F29 : Fun K "_law_all_letters" "_law_all_letters" sAllLetters (He.ga K "_law_all_letters") fd29 := defFun D29
  have b29 : L2.Binds K fd29 [] [] := F29.binds (ps := []) fun _ _ _ _ _ _ us hl => match us, hl with | [], _ => rfl
  have g29 := He.glo_ok X G (sd.fact 29 (f := .glo "_law_all_letters") rfl)
  obtain ⟨fd30, D30⟩ := sd.def_ 30 (d := dd "_law_are_letters" sAreLetters) rfl
  have F30 : Fun K "_law_are_letters" "_law_are_letters" sAreLetters (He.ga K "_law_are_letters") fd30 := defFun D30
  have b30 : L2.Binds K fd30 ["value"] [] := F30.binds (ps := ["value"]) fun _ _ _ _ _ _ us hl => match us, hl with | [_], _ => rfl
  have g30 := He.glo_ok X G (sd.fact 30 (f := .glo "_law_are_letters") rfl)
  obtain ⟨fd31, D31⟩ := sd.def_ 31 (d := dd "_law_are_accesses" sAreAccesses) rfl
  have F31 : Fun K "_law_are_accesses" "_law_are_accesses" sAreAccesses (He.ga K "_law_are_accesses") fd31 := defFun D31
  have b31 : L2.Binds K fd31 ["value"] [] := F31.binds (ps := ["value"]) fun _ _ _ _ _ _ us hl => match us, hl with | [_], _ => rfl
  have g31 := He.glo_ok X G (sd.fact 31 (f := .glo "_law_are_accesses") rfl)
  obtain ⟨fd32, D32⟩ := sd.def_ 32 (d := dd "_law_fault_due" sFaultDue) rfl
  have F32 : Fun K "_law_fault_due" "_law_fault_due" sFaultDue (He.ga K "_law_fault_due") fd32 := defFun D32
  have b32 : L2.Binds K fd32 ["value"] [] := F32.binds (ps := ["value"]) fun _ _ _ _ _ _ us hl => match us, hl with | [_], _ => rfl
  have g32 := He.glo_ok X G (sd.fact 32 (f := .glo "_law_fault_due") rfl)
  obtain ⟨fd33, D33⟩ := sd.def_ 33 (d := dd "_law_code" sCode) rfl
  have F33 : Fun K "_law_code" "_law_code" sCode (He.ga K "_law_code") fd33 := defFun D33
  have b33 : L2.Binds K fd33 ["fault"] [] := F33.binds (ps := ["fault"]) fun _ _ _ _ _ _ us hl => match us, hl with | [_], _ => rfl
  have g33 := He.glo_ok X G (sd.fact 33 (f := .glo "_law_code") rfl)
  obtain ⟨fd34, D34⟩ := sd.def_ 34 (d := dd "_law_is_place_due" sPlaceDue) rfl
  have F34 : Fun K "_law_is_place_due" "_law_is_place_due" sPlaceDue (He.ga K "_law_is_place_due") fd34 := defFun D34
  have b34 : L2.Binds K fd34 ["fault", "place"] [] := F34.binds (ps := ["fault", "place"]) fun _ _ _ _ _ _ us hl => match us, hl with | [_, _], _ => rfl
  have g34 := He.glo_ok X G (sd.fact 34 (f := .glo "_law_is_place_due") rfl)
  obtain ⟨fd35, D35⟩ := sd.def_ 35 (d := dd "_law_drawn_fault" sDrawnFault) rfl
  have F35 : Fun K "_law_drawn_fault" "_law_drawn_fault" sDrawnFault (He.ga K "_law_drawn_fault") fd35 := defFun D35
  have b35 : L2.Binds K fd35 ["pot"] [] := F35.binds (ps := ["pot"]) fun _ _ _ _ _ _ us hl => match us, hl with | [_], _ => rfl
  have g35 := He.glo_ok X G (sd.fact 35 (f := .glo "_law_drawn_fault") rfl)
  obtain ⟨fd36, D36⟩ := sd.def_ 36 (d := dd "_law_drawn_place" sDrawnPlace) rfl
  have F36 : Fun K "_law_drawn_place" "_law_drawn_place" sDrawnPlace (He.ga K "_law_drawn_place") fd36 := defFun D36
  have b36 : L2.Binds K fd36 ["pot", "fault"] [] := F36.binds (ps := ["pot", "fault"]) fun _ _ _ _ _ _ us hl => match us, hl with | [_, _], _ => rfl
  have g36 := He.glo_ok X G (sd.fact 36 (f := .glo "_law_drawn_place") rfl)
  obtain ⟨fd37, D37⟩ := sd.def_ 37 (d := dd "_law_are_refusals_right" sRefusals) rfl
  have F37 : Fun K "_law_are_refusals_right" "_law_are_refusals_right" sRefusals (He.ga K "_law_are_refusals_right") fd37 := defFun D37
  have b37 : L2.Binds K fd37 ["pot"] [] := F37.binds (ps := ["pot"]) fun _ _ _ _ _ _ us hl => match us, hl with | [_], _ => rfl
  have g37 := He.glo_ok X G (sd.fact 37 (f := .glo "_law_are_refusals_right") rfl)
  obtain ⟨fd38, D38⟩ := sd.def_ 38 (d := dd "_law_is_fault_right" sFaultRight) rfl
  have F38 : Fun K "_law_is_fault_right" "_law_is_fault_right" sFaultRight (He.ga K "_law_is_fault_right") fd38 := defFun D38
  have b38 : L2.Binds K fd38 ["pot", "fault", "place"] [] := F38.binds (ps := ["pot", "fault", "place"]) fun _ _ _ _ _ _ us hl => match us, hl with | [_, _, _], _ => rfl
  have g38 := He.glo_ok X G (sd.fact 38 (f := .glo "_law_is_fault_right") rfl)
  obtain ⟨fd39, D39⟩ := sd.def_ 39 (d := dd "_law_are_words" sAreWords) rfl
  have F39 : Fun K "_law_are_words" "_law_are_words" sAreWords (He.ga K "_law_are_words") fd39 := defFun D39
  have b39 : L2.Binds K fd39 ["value"] [] := F39.binds (ps := ["value"]) fun _ _ _ _ _ _ us hl => match us, hl with | [_], _ => rfl
  have g39 := He.glo_ok X G (sd.fact 39 (f := .glo "_law_are_words") rfl)
  obtain ⟨fd40, D40⟩ := sd.def_ 40 (d := dd "_law_told_words" sToldWords) rfl
  have F40 : Fun K "_law_told_words" "_law_told_words" sToldWords (He.ga K "_law_told_words") fd40 := defFun D40
  have b40 : L2.Binds K fd40 ["value"] [] := F40.binds (ps := ["value"]) fun _ _ _ _ _ _ us hl => match us, hl with | [_], _ => rfl
  have g40 := He.glo_ok X G (sd.fact 40 (f := .glo "_law_told_words") rfl)
  obtain ⟨fd41, D41⟩ := sd.def_ 41 (d := dd "_law_are_values_right" sValues) rfl
  have F41 : Fun K "_law_are_values_right" "_law_are_values_right" sValues (He.ga K "_law_are_values_right") fd41 := defFun D41
  have b41 : L2.Binds K fd41 ["pot", "fault", "place"] [] := F41.binds (ps := ["pot", "fault", "place"]) fun _ _ _ _ _ _ us hl => match us, hl with | [_, _, _], _ => rfl
  have g41 := He.glo_ok X G (sd.fact 41 (f := .glo "_law_are_values_right") rfl)
  obtain ⟨fd42, D42⟩ := sd.def_ 42 (d := dd "_law_is_value_right" sValueRight) rfl
  have F42 : Fun K "_law_is_value_right" "_law_is_value_right" sValueRight (He.ga K "_law_is_value_right") fd42 := defFun D42
  have b42 : L2.Binds K fd42 ["fault", "value"] [] := F42.binds (ps := ["fault", "value"]) fun _ _ _ _ _ _ us hl => match us, hl with | [_, _], _ => rfl
  have g42 := He.glo_ok X G (sd.fact 42 (f := .glo "_law_is_value_right") rfl)
  obtain ⟨fd43, D43⟩ := sd.def_ 43 (d := dd "_law_right" sRight) rfl
  have F43 : Fun K "_law_right" "_law_right" sRight (He.ga K "_law_right") fd43 := defFun D43
  have b43 : L2.Binds K fd43 ["pot"] [] := F43.binds (ps := ["pot"]) fun _ _ _ _ _ _ us hl => match us, hl with | [_], _ => rfl
  have g43 := He.glo_ok X G (sd.fact 43 (f := .glo "_law_right") rfl)
  obtain ⟨fd44, D44⟩ := sd.def_ 44 (d := dd "law" sLaw) rfl
  have F44 : Fun K "law" "law" sLaw (He.ga K "law") fd44 := defFun D44
  have b44 : L2.Binds K fd44 ["script"] [] := F44.binds (ps := ["script"]) fun _ _ _ _ _ _ us hl => match us, hl with | [_], _ => rfl
  have g44 := He.glo_ok X G (sd.fact 44 (f := .glo "law") rfl)
  obtain ⟨fd45, D45⟩ := sd.def_ 45 (d := dIni "BadWord") rfl
  have F45 : Fun K "__init__" "CoreError.__init__" sInit (He.ma K (He.ga K "BadWord") "__init__") fd45 := defFun D45
  have b45 : L2.Binds K fd45 ["self", "value"] [] := F45.binds (ps := ["self", "value"]) fun _ _ _ _ _ _ us hl => match us, hl with | [_, _], _ => rfl
  obtain ⟨fd46, D46⟩ := sd.def_ 46 (d := dIni "BadWords") rfl
  have F46 : Fun K "__init__" "CoreError.__init__" sInit (He.ma K (He.ga K "BadWords") "__init__") fd46 := defFun D46
  have b46 : L2.Binds K fd46 ["self", "value"] [] := F46.binds (ps := ["self", "value"]) fun _ _ _ _ _ _ us hl => match us, hl with | [_, _], _ => rfl
  obtain ⟨fd47, D47⟩ := sd.def_ 47 (d := dIni "BadLetters") rfl
  have F47 : Fun K "__init__" "CoreError.__init__" sInit (He.ma K (He.ga K "BadLetters") "__init__") fd47 := defFun D47
  have b47 : L2.Binds K fd47 ["self", "value"] [] := F47.binds (ps := ["self", "value"]) fun _ _ _ _ _ _ us hl => match us, hl with | [_, _], _ => rfl
  obtain ⟨fd48, D48⟩ := sd.def_ 48 (d := dIni "BadAccesses") rfl
  have F48 : Fun K "__init__" "CoreError.__init__" sInit (He.ma K (He.ga K "BadAccesses") "__init__") fd48 := defFun D48
  have b48 : L2.Binds K fd48 ["self", "value"] [] := F48.binds (ps := ["self", "value"]) fun _ _ _ _ _ _ us hl => match us, hl with | [_, _], _ => rfl
  obtain ⟨fd49, D49⟩ := sd.def_ 49 (d := dIni "BadFault") rfl
  have F49 : Fun K "__init__" "CoreError.__init__" sInit (He.ma K (He.ga K "BadFault") "__init__") fd49 := defFun D49
  have b49 : L2.Binds K fd49 ["self", "value"] [] := F49.binds (ps := ["self", "value"]) fun _ _ _ _ _ _ us hl => match us, hl with | [_, _], _ => rfl
  obtain ⟨fd50, D50⟩ := sd.def_ 50 (d := dIni "BadPlace") rfl
  have F50 : Fun K "__init__" "CoreError.__init__" sInit (He.ma K (He.ga K "BadPlace") "__init__") fd50 := defFun D50
  have b50 : L2.Binds K fd50 ["self", "value"] [] := F50.binds (ps := ["self", "value"]) fun _ _ _ _ _ _ us hl => match us, hl with | [_, _], _ => rfl
  have gLETTERS := He.glo_ok X G (sd.fact 45 (f := .glo "LETTERS") rfl)
  have gNAMES := He.glo_ok X G (sd.fact 46 (f := .glo "NAMES") rfl)
  have gRECKONED := He.glo_ok X G (sd.fact 47 (f := .glo "RECKONED") rfl)
  have gWEIGHTS := He.glo_ok X G (sd.fact 48 (f := .glo "WEIGHTS") rfl)
  have gCoreError := He.glo_ok X G (sd.fact 49 (f := .glo "CoreError") rfl)
  have gBadWord := He.glo_ok X G (sd.fact 50 (f := .glo "BadWord") rfl)
  have gBadWords := He.glo_ok X G (sd.fact 51 (f := .glo "BadWords") rfl)
  have gBadLetters := He.glo_ok X G (sd.fact 52 (f := .glo "BadLetters") rfl)
  have gBadAccesses := He.glo_ok X G (sd.fact 53 (f := .glo "BadAccesses") rfl)
  have gBadFault := He.glo_ok X G (sd.fact 54 (f := .glo "BadFault") rfl)
  have gBadPlace := He.glo_ok X G (sd.fact 55 (f := .glo "BadPlace") rfl)
  have gSHAPES := He.glo_ok X G (sd.fact 56 (f := .glo "SHAPES") rfl)
  have gCODES := He.glo_ok X G (sd.fact 57 (f := .glo "CODES") rfl)
  have fabs := He.free_ok X G (sd.fact 58 (f := .free "abs") rfl)
  have fall := He.free_ok X G (sd.fact 59 (f := .free "all") rfl)
  have fbool := He.free_ok X G (sd.fact 60 (f := .free "bool") rfl)
  have fint := He.free_ok X G (sd.fact 61 (f := .free "int") rfl)
  have fisinstance := He.free_ok X G (sd.fact 62 (f := .free "isinstance") rfl)
  have flen := He.free_ok X G (sd.fact 63 (f := .free "len") rfl)
  have flist := He.free_ok X G (sd.fact 64 (f := .free "list") rfl)
  have fmax := He.free_ok X G (sd.fact 65 (f := .free "max") rfl)
  have fmin := He.free_ok X G (sd.fact 66 (f := .free "min") rfl)
  have frange := He.free_ok X G (sd.fact 67 (f := .free "range") rfl)
  have frepr := He.free_ok X G (sd.fact 68 (f := .free "repr") rfl)
  have fstr := He.free_ok X G (sd.fact 69 (f := .free "str") rfl)
  have fsum := He.free_ok X G (sd.fact 70 (f := .free "sum") rfl)
  have ftuple := He.free_ok X G (sd.fact 71 (f := .free "tuple") rfl)
  have ftype := He.free_ok X G (sd.fact 72 (f := .free "type") rfl)
  obtain ⟨xeW, xeS, xeL, xeA, xeF, xeP, xk0, xk1, xk2, xk3, xk4, xk5, xt0, xt1, xt2, xt3, xsh, xco, kn3, kNA, kNF, kNP, xn01, xn02, xn12⟩ : er K "BadWord" = true ∧ (er K "BadWords" = true ∧ (er K "BadLetters" = true ∧ (er K "BadAccesses" = true ∧ (er K "BadFault" = true ∧ (er K "BadPlace" = true ∧ (kiB K (He.ga K "BadWords") (He.ga K "BadWords") true = true ∧ (kiB K (He.ga K "BadLetters") (He.ga K "BadLetters") true = true ∧ (kiB K (He.ga K "BadAccesses") (He.ga K "BadAccesses") true = true ∧ (kiB K (He.ga K "BadLetters") (He.ga K "BadAccesses") false = true ∧ (kiB K (He.ga K "BadFault") (He.ga K "BadFault") true = true ∧ (kiB K (He.ga K "BadPlace") (He.ga K "BadPlace") true = true ∧ (tuB K "LETTERS" (lets3.map V.str) = true ∧ (tuB K "NAMES" (names.map optS) = true ∧ (tuB K "RECKONED" (reck.map V.str) = true ∧ (tuB K "WEIGHTS" weights = true ∧ (shB K (He.ga K "SHAPES") = true ∧ (coB K (He.ga K "CODES") = true ∧ (PySem.W.kitOne K (.type "NoneType") (.ref (He.ga K "BadWords")) = some false ∧ (PySem.W.kitOne K (.type "NoneType") (.ref (He.ga K "BadAccesses")) = some false ∧ (PySem.W.kitOne K (.type "NoneType") (.ref (He.ga K "BadFault")) = some false ∧ (PySem.W.kitOne K (.type "NoneType") (.ref (He.ga K "BadPlace")) = some false ∧ ((He.cT K rfd1).2 ≠ (He.cT K rfd2).2 ∧ ((He.cT K rfd1).2 ≠ (He.cT K rfd3).2 ∧ ((He.cT K rfd2).2 ≠ (He.cT K rfd3).2)))))))))))))))))))))))) := by
    have m := c.more
    unfold exs at m
    simpa only [Bool.and_eq_true, decide_eq_true_eq] using m
  obtain ⟨EW, XW⟩ := er_ok xeW
  obtain ⟨ES, XS⟩ := er_ok xeS
  obtain ⟨EL, XL⟩ := er_ok xeL
  obtain ⟨EA, XA⟩ := er_ok xeA
  obtain ⟨EF, XF⟩ := er_ok xeF
  obtain ⟨EP, XP⟩ := er_ok xeP
  have kt3 : PySem.W.kitOne K (.ref (He.ga K "BadWords")) (.ref (He.ga K "BadWords")) = some true := of_decide_eq_true xk0
  have kLL : PySem.W.kitOne K (.ref (He.ga K "BadLetters")) (.ref (He.ga K "BadLetters")) = some true := of_decide_eq_true xk1
  have kAA : PySem.W.kitOne K (.ref (He.ga K "BadAccesses")) (.ref (He.ga K "BadAccesses")) = some true := of_decide_eq_true xk2
  have kLA : PySem.W.kitOne K (.ref (He.ga K "BadLetters")) (.ref (He.ga K "BadAccesses")) = some false := of_decide_eq_true xk3
  have kFF : PySem.W.kitOne K (.ref (He.ga K "BadFault")) (.ref (He.ga K "BadFault")) = some true := of_decide_eq_true xk4
  have kPP : PySem.W.kitOne K (.ref (He.ga K "BadPlace")) (.ref (He.ga K "BadPlace")) = some true := of_decide_eq_true xk5
  have sh : ShT K w (He.ga K "SHAPES") := shT_of (congrArg (fun z : He.AlT => z.2.getD 0 none) c.t) xsh
  have sc : ShC K w (He.ga K "CODES") := shC_of (congrArg (fun z : He.AlT => z.2.getD 1 none) c.t) xco
  have tL := ktB_ok (Bool.and_eq_true_iff.mp xt0).1
  have pL := plB_ok (Bool.and_eq_true_iff.mp xt0).2
  have tNA := ktB_ok (Bool.and_eq_true_iff.mp xt1).1
  have pNA := plB_ok (Bool.and_eq_true_iff.mp xt1).2
  have tRE := ktB_ok (Bool.and_eq_true_iff.mp xt2).1
  have pRE := plB_ok (Bool.and_eq_true_iff.mp xt2).2
  have tWE := ktB_ok (Bool.and_eq_true_iff.mp xt3).1
  have pWE := plB_ok (Bool.and_eq_true_iff.mp xt3).2
  have hcc1 : fd42.code = .ref (He.cT K rfd1).1 := by
    obtain ⟨oc, od, kV, doc, pm, an, cdv, ct, osl, e0, lk, hcd⟩ := F42.ex
    obtain ⟨cc, rfl⟩ := He.codeIn_ref hcd
    have e1 : fd42.code = .ref cc := by rw [e0]
    have e2 : He.codeOf K rfd1 = cc := He.codeOf_eq (p := rfd1) lk e1
    rw [e1, ← e2]
    rfl
  have hcc2 : fd37.code = .ref (He.cT K rfd2).1 := by
    obtain ⟨oc, od, kV, doc, pm, an, cdv, ct, osl, e0, lk, hcd⟩ := F37.ex
    obtain ⟨cc, rfl⟩ := He.codeIn_ref hcd
    have e1 : fd37.code = .ref cc := by rw [e0]
    have e2 : He.codeOf K rfd2 = cc := He.codeOf_eq (p := rfd2) lk e1
    rw [e1, ← e2]
    rfl
  have hcc3 : fd41.code = .ref (He.cT K rfd3).1 := by
    obtain ⟨oc, od, kV, doc, pm, an, cdv, ct, osl, e0, lk, hcd⟩ := F41.ex
    obtain ⟨cc, rfl⟩ := He.codeIn_ref hcd
    have e1 : fd41.code = .ref cc := by rw [e0]
    have e2 : He.codeOf K rfd3 = cc := He.codeOf_eq (p := rfd3) lk e1
    rw [e1, ← e2]
    rfl
  refine ⟨fd44, fun s u => .of_eq (by obtain ⟨oc, od, kV, doc, pm, an, cdv, ct, osl, e0, lk, hcd⟩ := F44.ex; rw [e0]; rfl), g44, fun base KB GB TBs => ?_⟩
  have TB1 := TBs _ List.mem_cons_self
  have TB2 := TBs _ (List.mem_cons_of_mem _ List.mem_cons_self)
  have TB3 := TBs _ (List.mem_cons_of_mem _ (List.mem_cons_of_mem _ List.mem_cons_self))
  have wwithin : FnOk P w K mg base CX0 1 _ fd0 _ (spWithin K) := ok_within (k := 0) F0 ftype fint
  have wisWord : FnOk P w K mg base CX0 2 _ fd1 _ (spIsWord K) := ok_isWord (k := 0) F1 F0 b0 g0 ftype fint
  have wpot : FnOk P w K mg base CX0 1 _ fd19 _ (spPot K) := ok_pot (k := 0) F19 flen fsum fint fabs
  have wtake : FnOk P w K mg base CX0 1 _ fd20 _ spTake := ok_take (k := 0) F20 fint
  have wof : FnOk P w K mg base CX0 2 _ fd23 _ (spOf K) := ok_of (k := 0) F23 wtake F20.kp b20 g20 flen
  have wsome : FnOk P w K mg base CX0 2 _ fd24 _ (spSome K) := ok_some (k := 0) F24 wtake F20.kp b20 g20 flist frange flen
  have wcells : FnOk P w K mg base CX0 1 _ fd28 _ (spCells K) := ok_cells (k := 0) F28 flist frange fmax fmin flen
  have wodd : FnOk P w K mg base CX0 3 _ fd25 _ (spOdd K) := ok_odd (k := 0) F25 wof F23.kp b23 g23
  have wisInt : FnOk P w K mg base CX0 1 _ fd21 _ (spWithin K) := ok_isInt (k := 0) F21 fisinstance fint fbool
  have wnameOf : FnOk P w K mg base CX0 1 _ fd7 _ spNameOf := ok_nameOf (k := 0) F7 gNAMES gRECKONED tNA tRE flen
  have wrowOf : FnOk P w K mg base (L2.CX P w) 3 _ fd6 _ (spRowOf K (He.ga K "BadWord")) := ok_rowOf (k := 0) F6 wisWord F1.kp b1 g1 wnameOf F7.kp b7 g7 EW F45 b45 gBadWord gSHAPES sh gWEIGHTS tWE
  have wcellRow : FnOk P w K mg base CX0 1 _ fd22 _ spCellRow := ok_cellRow (k := 0) F22
  have wbent0 : FnOk P w K mg base CX0 5 _ fd26 _ (spBent K 0) := ok_Bent (k := 0) (n := 0) F26 (gTa := ⟨_, _, (wtake.mono (by omega)), F20.kp, b20, g20⟩) (gOf := ⟨_, _, (wof.mono (by omega)), F23.kp, b23, g23⟩) (gSo := ⟨_, _, (wsome.mono (by omega)), F24.kp, b24, g24⟩) (gOd := ⟨_, _, (wodd.mono (by omega)), F25.kp, b25, g25⟩) (gBe := ⟨_, _, fnFalse, F26.kp, b26, g26⟩) (hR := (fun j e => by cases e)) (fbool := fbool) (fint := fint) (fisinstance := fisinstance) (flen := flen) (flist := flist) (fstr := fstr) (ftuple := ftuple)
  have wbent1 : FnOk P w K mg base CX0 6 _ fd26 _ (spBent K 1) := ok_Bent (k := 1) (n := 1) F26 (gTa := ⟨_, _, (wtake.mono (by omega)), F20.kp, b20, g20⟩) (gOf := ⟨_, _, (wof.mono (by omega)), F23.kp, b23, g23⟩) (gSo := ⟨_, _, (wsome.mono (by omega)), F24.kp, b24, g24⟩) (gOd := ⟨_, _, (wodd.mono (by omega)), F25.kp, b25, g25⟩) (gBe := ⟨_, _, wbent0, F26.kp, b26, g26⟩) (hR := (fun j e vs H Q E h => by cases e; exact h)) (fbool := fbool) (fint := fint) (fisinstance := fisinstance) (flen := flen) (flist := flist) (fstr := fstr) (ftuple := ftuple)
  have wbent2 : FnOk P w K mg base CX0 7 _ fd26 _ (spBent K 2) := ok_Bent (k := 2) (n := 2) F26 (gTa := ⟨_, _, (wtake.mono (by omega)), F20.kp, b20, g20⟩) (gOf := ⟨_, _, (wof.mono (by omega)), F23.kp, b23, g23⟩) (gSo := ⟨_, _, (wsome.mono (by omega)), F24.kp, b24, g24⟩) (gOd := ⟨_, _, (wodd.mono (by omega)), F25.kp, b25, g25⟩) (gBe := ⟨_, _, wbent1, F26.kp, b26, g26⟩) (hR := (fun j e vs H Q E h => by cases e; exact h)) (fbool := fbool) (fint := fint) (fisinstance := fisinstance) (flen := flen) (flist := flist) (fstr := fstr) (ftuple := ftuple)
  have wbentN : FnOk P w K mg base CX0 5 _ fd26 _ (spBentN K) := ok_BentN (k := 0) F26 (gOd := ⟨_, _, (wodd.mono (by omega)), F25.kp, b25, g25⟩) (fbool := fbool) (fint := fint) (fisinstance := fisinstance) (fstr := fstr) (ftuple := ftuple)
  have wbentE : FnOk P w K mg base CX0 5 _ fd26 _ (spBentE K) := ok_BentE wbent0 wbentN
  have wBentL : FnOk P w K mg base CX0 6 _ fd26 _ (spBentL K) := ok_BentL (k := 0) F26 (gTa := ⟨_, _, (wtake.mono (by omega)), F20.kp, b20, g20⟩) (gOf := ⟨_, _, (wof.mono (by omega)), F23.kp, b23, g23⟩) (gBeE := ⟨_, _, wbentE, F26.kp, b26, g26⟩) (fbool := fbool) (fint := fint) (fisinstance := fisinstance) (flen := flen) (flist := flist) (fstr := fstr) (ftuple := ftuple)
  have wbentJ : FnOk P w K mg base CX0 7 _ fd26 _ (spBentJ K) := ok_BentJ (wBentL.mono (by omega)) wbent2
  have wbentK : FnOk P w K mg base CX0 6 _ fd26 _ (spBentK K) := ok_BentK wbent1 (wbent0.mono (by omega))
  have wIsAddress : FnOk P w K mg base CX0 2 _ fd2 _ (spIsAddress K) := ok_IsAddress (k := 0) F2 (gWi := ⟨_, _, wwithin, F0.kp, b0, g0⟩)
  have wIsTupleOf : FnOk P w K mg base CX0 1 _ fd3 _ (spTup K) := ok_IsTupleOf (k := 0) F3 (flen := flen) (ftuple := ftuple) (ftype := ftype)
  have wIsWordTuple : FnOk P w K mg base CX0 3 _ fd4 _ (spWT K) := ok_IsWordTuple (k := 0) F4 (gIw := ⟨_, _, wisWord, F1.kp, b1, g1⟩) (gTo := ⟨_, _, wIsTupleOf.mono (by omega), F3.kp, b3, g3⟩) (fall := fall)
  have wIsLetters : FnOk P w K mg base CX0 1 _ fd5 _ (spLetters K) := ok_IsLetters (k := 0) F5 (fstr := fstr) (ftype := ftype)
  have wIsAccess : FnOk P w K mg base CX0 3 _ fd14 _ (spAcc K) := ok_IsAccess (k := 0) F14 (gTo := ⟨_, _, wIsTupleOf.mono (by omega), F3.kp, b3, g3⟩) (gIa := ⟨_, _, wIsAddress, F2.kp, b2, g2⟩)
  have wIsAccesses : FnOk P w K mg base CX0 4 _ fd13 _ (spAccs K) := ok_IsAccesses (k := 0) F13 (gAa := ⟨_, _, wIsAccess, F14.kp, b14, g14⟩) (flen := flen) (ftuple := ftuple) (ftype := ftype)
  have wIsFault : FnOk P w K mg base CX0 4 _ fd16 _ (spIsFault K) := ok_IsFault (k := 0) F16 (gTo := ⟨_, _, wIsTupleOf.mono (by omega), F3.kp, b3, g3⟩) (gIa := ⟨_, _, wIsAddress.mono (by omega), F2.kp, b2, g2⟩) (gWi := ⟨_, _, wwithin.mono (by omega), F0.kp, b0, g0⟩) (gIw := ⟨_, _, wisWord.mono (by omega), F1.kp, b1, g1⟩) (gRo := ⟨_, _, wrowOf, F6.kp, b6, g6⟩) (gLETTERS := gLETTERS) (tL := tL) (pL := pL)
  have wCheckFault : FnOk P w K mg base (L2.CX P w) 5 _ fd15 _ (spCheck K (He.ga K "BadFault")) := ok_CheckFault (k := 0) F15 (gIf := ⟨_, _, wIsFault, F16.kp, b16, g16⟩) (EF := EF) (IF := F49) (bIF := b49) (gBadFault := gBadFault)
  have wComes : FnOk P w K mg base CX0 1 _ fd17 _ (spComes K) := ok_Comes (k := 0) F17
  have wFaultWith : FnOk P w K mg base CX0 1 _ fd18 _ (spWith K) := ok_FaultWith (k := 0) F18 (gLETTERS := gLETTERS) (tL := tL) (pL := pL) (gCODES := gCODES) (hC := sc) (flen := flen)
  have wDoor : FnOk P w K mg base (L2.CX P w) 6 _ fd11 _ (spDoor K (He.ga K "BadFault")) := ok_Door (k := 0) F11 (gCf := ⟨_, _, wCheckFault, F15.kp, b15, g15⟩)
  have wBehind : FnOk P w K mg base (L2.CX P w) 6 _ fd12 _ (spBehind K (He.ga K "BadFault") (He.ga K "BadWords")) := ok_Behind (k := 0) F12 (gCf := ⟨_, _, wCheckFault, F15.kp, b15, g15⟩) (gWt := ⟨_, _, wIsWordTuple.mono (by omega), F4.kp, b4, g4⟩) (gIa := ⟨_, _, wIsAddress.mono (by omega), F2.kp, b2, g2⟩) (ES := ES) (IS := F46) (bIS := b46) (gBadWords := gBadWords)
  have wWords : FnOk P w K mg base (L2.CX P w) 6 _ fd9 _ (spWords K (He.ga K "BadFault") (He.ga K "BadPlace")) := ok_Words (k := 0) F9 (gCf := ⟨_, _, wCheckFault, F15.kp, b15, g15⟩) (gIa := ⟨_, _, wIsAddress.mono (by omega), F2.kp, b2, g2⟩) (gCt := ⟨_, _, wComes.mono (by omega), F17.kp, b17, g17⟩) (EP := EP) (IP := F50) (bIP := b50) (gBadPlace := gBadPlace) (gLETTERS := gLETTERS) (tL := tL) (pL := pL) (gCODES := gCODES) (hC := sc)
  have wFaultOf : FnOk P w K mg base (L2.CX P w) 6 _ fd10 _ (spFaultOf K (He.ga K "BadWords")) := ok_FaultOf (k := 0) F10 (gWt := ⟨_, _, wIsWordTuple.mono (by omega), F4.kp, b4, g4⟩) (gFh := ⟨_, _, wFaultWith.mono (by omega), F18.kp, b18, g18⟩) (gIf := ⟨_, _, wIsFault.mono (by omega), F16.kp, b16, g16⟩) (gIa := ⟨_, _, wIsAddress.mono (by omega), F2.kp, b2, g2⟩) (gCt := ⟨_, _, wComes.mono (by omega), F17.kp, b17, g17⟩) (ES := ES) (IS := F46) (bIS := b46) (gBadWords := gBadWords) (gLETTERS := gLETTERS) (tL := tL) (pL := pL) (gCODES := gCODES) (hC := sc)
  have wFirst : FnOk P w K mg base (L2.CX P w) 5 _ fd8 _ (spFirst K (He.ga K "BadLetters") (He.ga K "BadAccesses")) := ok_First (k := 0) F8 (gTo := ⟨_, _, wIsTupleOf.mono (by omega), F3.kp, b3, g3⟩) (gLe := ⟨_, _, wIsLetters.mono (by omega), F5.kp, b5, g5⟩) (gAc := ⟨_, _, wIsAccesses, F13.kp, b13, g13⟩) (EL := EL) (IL := F47) (bIL := b47) (gBadLetters := gBadLetters) (EA := EA) (IA := F48) (bIA := b48) (gBadAccesses := gBadAccesses) (fall := fall)
  have wAllLetters : FnOk P w K mg base CX0 1 _ fd29 _ (spAll K) := ok_AllLetters (k := 0) F29
  have wAreLetters : FnOk P w K mg base CX0 2 _ fd30 _ (spAreLetters K) := ok_AreLetters (k := 0) F30 (gAl := ⟨_, _, wAllLetters, F29.kp, b29, g29⟩) (fall := fall) (fisinstance := fisinstance) (flen := flen) (fstr := fstr) (ftuple := ftuple)
  have wAreAccesses : FnOk P w K mg base CX0 2 _ fd31 _ (spAreAccs K) := ok_AreAccesses (k := 0) F31 (gIi := ⟨_, _, wisInt, F21.kp, b21, g21⟩) (fall := fall) (fisinstance := fisinstance) (flen := flen) (fstr := fstr) (ftuple := ftuple)
  have wFaultDue : FnOk P w K mg base CX0 2 _ fd32 _ (spDue K) := ok_FaultDue (k := 0) F32 (gIi := ⟨_, _, wisInt, F21.kp, b21, g21⟩) (gCr := ⟨_, _, wcellRow, F22.kp, b22, g22⟩) (fisinstance := fisinstance) (flen := flen) (fstr := fstr) (ftuple := ftuple)
  have wCode : FnOk P w K mg base CX0 1 _ fd33 _ (spCode K) := ok_Code (k := 0) F33
  have wPlaceDue : FnOk P w K mg base CX0 2 _ fd34 _ (spPlaceDue K) := ok_PlaceDue (k := 0) F34 (gIi := ⟨_, _, wisInt, F21.kp, b21, g21⟩)
  have wAreWords : FnOk P w K mg base CX0 2 _ fd39 _ (spAreWords K) := ok_AreWords (k := 0) F39 (gIi := ⟨_, _, wisInt, F21.kp, b21, g21⟩) (fall := fall) (fisinstance := fisinstance) (flen := flen) (ftuple := ftuple)
  have wToldWords : FnOk P w K mg base CX0 3 _ fd40 _ (spTold K) := ok_ToldWords (k := 0) F40 (gFd := ⟨_, _, wFaultDue, F32.kp, b32, g32⟩) (gPd := ⟨_, _, wPlaceDue, F34.kp, b34, g34⟩) (gAw := ⟨_, _, wAreWords, F39.kp, b39, g39⟩)
  have wDrawnFault : FnOk P w K mg base CX0 4 _ fd35 _ (spDrawnF K) := ok_DrawnFault (k := 0) F35 (gTa := ⟨_, _, wtake.mono (by omega), F20.kp, b20, g20⟩) (gOf := ⟨_, _, wof.mono (by omega), F23.kp, b23, g23⟩)
  have wDrawnPlace : FnOk P w K mg base CX0 4 _ fd36 _ (spDrawnP K) := ok_DrawnPlace (k := 0) F36 (gTa := ⟨_, _, wtake.mono (by omega), F20.kp, b20, g20⟩) (gOf := ⟨_, _, wof.mono (by omega), F23.kp, b23, g23⟩)
  have wFaultRight : FnG P w K mg base 7 _ fd38 _ (spFaultRight K) := ok_FaultRight (k := 0) F38 (gCo := ⟨_, _, wCode.mono (by omega), F33.kp, b33, g33⟩) (gFw := ⟨_, _, wWords, F9.kp, b9, g9⟩) (gFo := ⟨_, _, wFaultOf, F10.kp, b10, g10⟩) (gDr := ⟨_, _, wDoor, F11.kp, b11, g11⟩) (gBh := ⟨_, _, wBehind, F12.kp, b12, g12⟩) (gOf := ⟨_, _, wof.mono (by omega), F23.kp, b23, g23⟩) (gTa := ⟨_, _, wtake.mono (by omega), F20.kp, b20, g20⟩) (frepr := frepr)
  have wValueRight : FnG P w K mg base 9 _ fd42 _ (spValueRight K (tabL (He.cT K rfd1).2 (He.cT K rfd2).2 (He.cT K rfd3).2)) := ok_ValueRight (k := 0) F42 hcc1 TB1 List.mem_cons_self (fun p hp ep => by
    rcases List.mem_cons.mp hp with rfl | hp
    · rfl
    rcases List.mem_cons.mp hp with rfl | hp
    · exact absurd ep.symm xn01
    rcases List.mem_singleton.mp hp with rfl
    exact absurd ep.symm xn02) F27 b27 g27 gCoreError (gTw := ⟨_, _, wToldWords.mono (by omega), F40.kp, b40, g40⟩) (gAw := ⟨_, _, wAreWords.mono (by omega), F39.kp, b39, g39⟩) (gFo := ⟨_, _, wFaultOf, F10.kp, b10, g10⟩) (gBh := ⟨_, _, wBehind, F12.kp, b12, g12⟩) (gBadWords := gBadWords) (X3 := XS) (kt3 := kt3) (kn3 := kn3) (fisinstance := fisinstance) (frepr := frepr)
  have wRefusals : FnG P w K mg base 10 _ fd37 _ (spRefusals K (tabL (He.cT K rfd1).2 (He.cT K rfd2).2 (He.cT K rfd3).2)) := ok_Refusals (k := 0) F37 hcc2 TB2 (List.mem_cons_of_mem _ List.mem_cons_self) (fun p hp ep => by
    rcases List.mem_cons.mp hp with rfl | hp
    · exact absurd ep xn01
    rcases List.mem_cons.mp hp with rfl | hp
    · rfl
    rcases List.mem_singleton.mp hp with rfl
    exact absurd ep.symm xn12) F27 b27 g27 gCoreError (gOf := ⟨_, _, wof.mono (by omega), F23.kp, b23, g23⟩) (gTa := ⟨_, _, wtake.mono (by omega), F20.kp, b20, g20⟩) (gAl := ⟨_, _, wAllLetters.mono (by omega), F29.kp, b29, g29⟩) (gFrD := ⟨_, _, wFirst.mono (by omega), F8.kp, b8, g8⟩) (gLt := ⟨_, _, wAreLetters.mono (by omega), F30.kp, b30, g30⟩) (gLc := ⟨_, _, wAreAccesses.mono (by omega), F31.kp, b31, g31⟩) (gBeJ := ⟨_, _, wbentJ.mono (by omega), F26.kp, b26, g26⟩) (gOd := ⟨_, _, wodd.mono (by omega), F25.kp, b25, g25⟩) (gFr := ⟨_, _, wFirst.mono (by omega), F8.kp, b8, g8⟩) (gBadLetters := gBadLetters) (gBadAccesses := gBadAccesses) (XL := XL) (XA := XA) (kLL := kLL) (kAA := kAA) (kLA := kLA) (kNA := kNA) (fisinstance := fisinstance) (flist := flist) (frange := frange) (frepr := frepr) (ftuple := ftuple)
  have wValues : FnG P w K mg base 11 _ fd41 _ (spValues K (tabL (He.cT K rfd1).2 (He.cT K rfd2).2 (He.cT K rfd3).2)) := ok_Values (k := 0) F41 hcc3 TB3 (List.mem_cons_of_mem _ (List.mem_cons_of_mem _ List.mem_cons_self)) (fun p hp ep => by
    rcases List.mem_cons.mp hp with rfl | hp
    · exact absurd ep xn02
    rcases List.mem_cons.mp hp with rfl | hp
    · exact absurd ep xn12
    rcases List.mem_singleton.mp hp with rfl
    rfl) F27 b27 g27 gCoreError (gOf := ⟨_, _, wof.mono (by omega), F23.kp, b23, g23⟩) (gTa := ⟨_, _, wtake.mono (by omega), F20.kp, b20, g20⟩) (gOd := ⟨_, _, wodd.mono (by omega), F25.kp, b25, g25⟩) (gBeK := ⟨_, _, wbentK.mono (by omega), F26.kp, b26, g26⟩) (gFd := ⟨_, _, wFaultDue.mono (by omega), F32.kp, b32, g32⟩) (gPd := ⟨_, _, wPlaceDue.mono (by omega), F34.kp, b34, g34⟩) (gCo := ⟨_, _, wCode.mono (by omega), F33.kp, b33, g33⟩) (gVr := ⟨_, _, wValueRight.lift (by omega), F42.kp, b42, g42⟩) (gDr := ⟨_, _, wDoor.mono (by omega), F11.kp, b11, g11⟩) (gFw := ⟨_, _, wWords.mono (by omega), F9.kp, b9, g9⟩) (gBh := ⟨_, _, wBehind.mono (by omega), F12.kp, b12, g12⟩) (gBadFault := gBadFault) (gBadPlace := gBadPlace) (XF := XF) (XP := XP) (X3 := XS) (kFF := kFF) (kPP := kPP) (kNF := kNF) (kNP := kNP) (fall := fall) (fisinstance := fisinstance) (flist := flist) (frange := frange) (frepr := frepr)
  have wRight : FnG P w K mg base 12 _ fd43 _ (spRight K (tabL (He.cT K rfd1).2 (He.cT K rfd2).2 (He.cT K rfd3).2)) := ok_Right (k := 0) F43 (gDf := ⟨_, _, wDrawnFault.mono (by omega), F35.kp, b35, g35⟩) (gDp := ⟨_, _, wDrawnPlace.mono (by omega), F36.kp, b36, g36⟩) (gRr := ⟨_, _, wFaultRight.lift (by omega), F38.kp, b38, g38⟩) (gVa := ⟨_, _, wValues, F41.kp, b41, g41⟩) (gRf := ⟨_, _, wRefusals.lift (by omega), F37.kp, b37, g37⟩) (frange := frange)
  have wLaw : FnG P w K mg base 13 _ fd44 _ (spLaw K (tabL (He.cT K rfd1).2 (He.cT K rfd2).2 (He.cT K rfd3).2)) := ok_Law (k := 0) F44 (gRt := ⟨_, _, wRight, F43.kp, b43, g43⟩) (gPo := ⟨_, _, wpot.mono (by omega), F19.kp, b19, g19⟩) (gCe := ⟨_, _, wcells.mono (by omega), F28.kp, b28, g28⟩) (fall := fall)
  exact wLaw
end K26

set_option maxRecDepth 100000
set_option maxHeartbeats 0
/-! k26: the top's run, and the law. -/
namespace K26
open PySem PySem.Spec PyProof.Rows L2 LamX VG
abbrev hook5 : PySem.W.Hook := He.hookX 5 fas fns tbs cds exs
def seen5 (s : PySem.W.SharedT) : He.AlX := He.obsX 5 fas fns tbs cds exs (HandSHeadRun.getT s)
theorem seen5_eq (s : PySem.W.SharedT) : seen5 s = hook5.obs s.abs := He.obsX_eq (HandSHeadRun.getT_eq s)
def bound1 : List Str := ["is_within", "is_word", "is_address", "is_tuple_of", "is_word_tuple", "is_letters", "row_of", "_name_of", "first_refused", "fault_words", "fault_of", "door_of"]
def bound2 : List Str := ["behind_answer", "_is_accesses", "_is_access", "_check_fault", "is_fault", "_comes_at", "_fault_with", "_law_pot", "_law_take", "_law_is_int", "_law_cell_row", "_law_of"]
def bound3 : List Str := ["_law_some", "_law_odd", "_law_bent", "_law_heard", "_law_cells", "_law_all_letters", "_law_are_letters", "_law_are_accesses", "_law_fault_due", "_law_code", "_law_is_place_due", "_law_drawn_fault"]
def bound4 : List Str := ["_law_drawn_place", "_law_are_refusals_right", "_law_is_fault_right", "_law_are_words", "_law_told_words", "_law_are_values_right", "_law_is_value_right", "_law_right", "law", "LETTERS", "NAMES", "RECKONED"]
def bound5 : List Str := ["WEIGHTS", "CoreError", "BadWord", "BadWords", "BadLetters", "BadAccesses", "BadFault", "BadPlace", "SHAPES", "CODES"]
def bound : List Str := bound1 ++ (bound2 ++ (bound3 ++ (bound4 ++ (bound5))))
abbrev RunAt (w : World) : Prop := HandSHeadRun.RunEq (PySem.W.OpenLaw.row PySem.Challenge.rw_clankernel_k26_faults_and_their_messages) (PySem.W.view (PySem.W.OpenLaw.row PySem.Challenge.rw_clankernel_k26_faults_and_their_messages).prog [63]) hook5 seen5 6000 bound w
theorem run_f (w : World) : RunAt (w.withFollow "special-get-raises" false) := by
  intro os
  kernel_rfl
theorem run_t (w : World) : RunAt (w.withFollow "special-get-raises" true) := by
  intro os
  kernel_rfl
theorem top_run (w : World) : RunAt w := PySem.W.byRow2 "special-get-raises" run_f run_t w
end K26

set_option maxRecDepth 100000
set_option maxHeartbeats 8000000
namespace K26
open PySem PySem.Spec PyProof.Rows L2 LamX VG
theorem walk_top : PySem.W.WalkO (PySem.W.view (PySem.W.OpenLaw.row PySem.Challenge.rw_clankernel_k26_faults_and_their_messages).prog [63]) bound (PySem.W.XL (PySem.W.view (PySem.W.OpenLaw.row PySem.Challenge.rw_clankernel_k26_faults_and_their_messages).prog [63]) []) hook5.says
    PySem.Challenge.rw_clankernel_k26_faults_and_their_messages.row.toRowW (HandSHeadRun.topDef (PySem.W.OpenLaw.row PySem.Challenge.rw_clankernel_k26_faults_and_their_messages).prog 63) [] (fun f vs => PySem.call f vs) := by
  refine Att.attach_callB (l := PySem.Challenge.rw_clankernel_k26_faults_and_their_messages) (n := 63) rfl (by kernel_rfl) fun w s₀ s₁ mg mb fa o pm cd doc a vs ns G Y ho hd hcd hmg hobj hints hlen _ hg => ?_
  obtain ⟨K, KX, c⟩ := Y
  obtain ⟨fd, hb, g, F⟩ := all_in (P := PySem.Challenge.rw_clankernel_k26_faults_and_their_messages.prog) KX G.T.g c
  have e : (HandSHeadRun.topDef (PySem.W.OpenLaw.row PySem.Challenge.rw_clankernel_k26_faults_and_their_messages).prog 63).name = ("law" : Str) := by kernel_rfl
  rw [e, g] at hmg
  obtain rfl := Value.ref.inj (Option.some.inj hmg)
  have mem : ∀ t ∈ cTs K, ∃ r, r ∈ cds ∧ t = He.cT K r := fun t ht => by
    unfold cTs at ht
    simp only [List.mem_cons, List.not_mem_nil, or_false] at ht
    rcases ht with rfl | rfl | rfl
    · exact ⟨rfd1, List.mem_cons_self, rfl⟩
    · exact ⟨rfd2, (List.mem_cons_of_mem _ List.mem_cons_self), rfl⟩
    · exact ⟨rfd3, (List.mem_cons_of_mem _ (List.mem_cons_of_mem _ List.mem_cons_self)), rfl⟩
  refine call_tops (Ts := cTs K) KX G.T.g G.T.b G.T.builtins G.T.nolimit hg (fun t ht => by obtain ⟨r, hr, rfl⟩ := mem t ht; exact c.empty _ hr) (fun t ht => by obtain ⟨r, hr, rfl⟩ := mem t ht; exact c.out _ hr) (fun t ht => by obtain ⟨r, hr, rfl⟩ := mem t ht; exact PySem.W.codeHd_of_K KX (c.hd _ hr)) G.T.bmain hobj hints (Nat.le_trans hlen (by decide)) ⟨rfl, by decide, by decide⟩ F hb fun H hT hS => ?_
  refine ⟨a, ns, rfl, hS, hlen, fun p hp => ?_, fun _ => rfl⟩
  have hp2 : H p.1 = some (.tbl #[]) := by
    unfold tabL at hp
    simp only [List.mem_cons, List.not_mem_nil, or_false] at hp
    rcases hp with rfl | rfl | rfl
    · exact hT (He.cT K rfd1) List.mem_cons_self
    · exact hT (He.cT K rfd2) (List.mem_cons_of_mem _ List.mem_cons_self)
    · exact hT (He.cT K rfd3) (List.mem_cons_of_mem _ (List.mem_cons_of_mem _ List.mem_cons_self))
  exact ⟨#[], hp2, trivial, fun pos cv hc => by cases hc⟩
end K26
open PySem PySem.W PySem.Calls PyProof.Rows
set_option maxRecDepth 100000 in
set_option maxHeartbeats 0 in
theorem PySem.Challenge.cw_clankernel_k26_faults_and_their_messages_holds : PySem.Challenge.rw_clankernel_k26_faults_and_their_messages.Holds := by
  w_on; o_law
  refine HandSHeadRun.head_any (r := OpenLaw.row PySem.Challenge.rw_clankernel_k26_faults_and_their_messages) (q := view (OpenLaw.row PySem.Challenge.rw_clankernel_k26_faults_and_their_messages).prog [63]) (H := K26.hook5) (ob := K26.seen5) (M := 6000) (loose := K26.bound) (d := HandSHeadRun.topDef (OpenLaw.row PySem.Challenge.rw_clankernel_k26_faults_and_their_messages).prog 63) (kwd := []) K26.seen5_eq
    (by kernel_rfl) (fun s => by kernel_rfl) K26.top_run (by kernel_rfl) (by kernel_rfl) (by kernel_rfl) (by rfl) (by first | assumption | decide +kernel) (by decide +kernel) ⟨rfl, rfl, rfl, rfl, rfl, by decide +kernel⟩ ?hw ?hc
  case hw => w_witness2
  case hc => exact K26.walk_top
