import PyProof.Rows.All
import Wide.All
import OpenK.AllK
import Wide.FinOn
import HandS.Base
import HandS.ForMost
import HandS.ForExc
import HandS.IsInst
import HandS.Zip
import HandS.Star
import HandS.Flow
import HandS.FStr
import HandS.TupAny
import HandS.Wide
import HandS.Conv
import HandS.ExcInit
import HandS.Steps
import HandS.Style
import HandS.ExcField
import HandS.ExcIs
import HandS.ExcValue
import HandS.Lambda
import PyProof.ReprRoads
import PyProof.ReprLen
import HandS.Strs
import HandS.SetFor
import HandS.SetKeys
import HandS.TupSets
import PyProof.SeqIndex
import PyProof.ListStr
import HandS.Defaults
import HandS.Head2
import HandS.HeadHook4
import HandS.HeadWalk
import KE.KStateDown
import HandS.TupMul
import KE.GoesMore
import KE.GoesEnum
import PyProof.Draws
import HandS.MakeKwOnly
import PySem.Challenge.RW_clankernel_k24_whole_strings_copied_and
set_option Elab.async false
set_option linter.all false
set_option maxRecDepth 100000
set_option maxHeartbeats 8000000
/-! What serves every law: data on the heap, the pot, kept errors and lambdas, repr, the end. -/
namespace VG
open PySem PySem.Spec PyProof.Rows L2 LamX
/-- a value of any kind: as Dp tells, or one of the dicts that are drawn -/
inductive Dk (K : PySem.W.Frag) (H : Hp) : V → PyData → Prop
  | dp {v : V} {d : PyData} : Dp K H v d → Dk K H v d
  | d0 {a : Addr} : H a = some (.dK []) → Dk K H (.ref a) (.dict [])
  | d1 {a : Addr} : H a = some (.dK [(.inr "a", .int 1)]) → Dk K H (.ref a) (.dict [(.str "a", .int 1)])
def tyName : PyData → String
  | .none => "NoneType"
  | .bool _ => "bool"
  | .int _ => "int"
  | .str _ => "str"
  | .list _ => "list"
  | .tuple _ => "tuple"
  | .dict _ => "dict"
theorem Dk.ty {K : PySem.W.Frag} {H : Hp} {v : V} {d : PyData} (h : Dk K H v d) : TyB K H v (tyName d) := by
  cases h with
  | dp h =>
    cases h with
    | non => exact .non
    | bl b => exact .bl b
    | int i => exact .int i
    | str x => exact .str x
    | lst hs _ => exact .lst hs
    | tup hs _ => exact .tup hs
  | d0 h => exact .dK h
  | d1 h => exact .dK h
theorem Same.seqT {K : PySem.W.Frag} {H H' : Hp} {a : Addr} {xs : List V} (e : Same H H') (h : SqT K H a xs) : SqT K H' a xs := by
  rcases h with (h | ⟨o, h⟩) | h
  · exact .inl (.inl (e _ _ h))
  · exact .inl (.inr ⟨o, e _ _ h⟩)
  · exact .inr h
mutual
theorem dp_same {K : PySem.W.Frag} {H H' : Hp} (e : Same H H') : ∀ (d : PyData) (v : V), Dp K H v d → Dp K H' v d
  | .none, _, h => by cases h; exact .non
  | .bool b, _, h => by cases h; exact .bl b
  | .int i, _, h => by cases h; exact .int i
  | .str x, _, h => by cases h; exact .str x
  | .list ds, _, h => by
    cases h with
    | lst hs ha => exact .lst (e.seq hs) (dpAll_same e ds _ ha)
  | .tuple ds, _, h => by
    cases h with
    | tup hs ha => exact .tup (Same.seqT e hs) (dpAll_same e ds _ ha)
  | .dict _, _, h => by cases h
theorem dpAll_same {K : PySem.W.Frag} {H H' : Hp} (e : Same H H') : ∀ (ds : List PyData) (vs : List V), DpAll K H vs ds → DpAll K H' vs ds
  | [], _, h => by cases h; exact .nil
  | d :: ds, _, h => by
    cases h with
    | cons h1 h2 => exact .cons (dp_same e d _ h1) (dpAll_same e ds _ h2)
end
theorem Dk.same {K : PySem.W.Frag} {H H' : Hp} (e : Same H H') {d : PyData} {v : V} (h : Dk K H v d) : Dk K H' v d := by
  cases h with
  | dp h => exact .dp (dp_same e _ _ h)
  | d0 h => exact .d0 (e _ _ h)
  | d1 h => exact .d1 (e _ _ h)
theorem same_upd {H : Hp} {p : Addr} {o : HO} (h : H p = none) : Same H (upd H p o) := fun b x e => by
  rw [upd_ne (ne_of_none e h)]
  exact e
def isW : PyData → Int → Int → Bool
  | .int i, lo, hi => decide (lo ≤ i) && decide (i ≤ hi)
  | _, _, _ => false
/-- a name of the module that holds an object -/
theorem pgr {X : Cx} {x : Str} {a : Addr} {pos : Pos} (hg : Gl X x) (hm : X.mg x = some (.ref a)) (hd : (x == ("__debug__" : Str)) = false := by decide) : PE X (.Name x pos) (tC (.ref a)) := pe_glob hg hm rfl hd
section
variable {P : Program} {w : World} {K : PySem.W.Frag} {mg : Str → Option Value} {base : Heap}
/-- a tuple of the written part -/
def KT (K : PySem.W.Frag) (a : Addr) (xs : List V) : Prop := ∃ (o : Obj) (its : Array Value) (n : Nat), K.lookup a = some o ∧ o.cls = .type "tuple" ∧ o.data = .seq its n ∧ its.size ≤ sizeLine ∧ Vals xs its.toList
theorem KT.sq {a : Addr} {xs : List V} (h : KT K a xs) {H : Hp} : SqT K H a xs := .inr h
def optS : Option Str → V
  | none => .non
  | some x => .str x
end
theorem cut_take (xs : List V) (j : Nat) : cutV xs none (some (j : Int)) = xs.take j := by
  unfold cutV
  rw [HT.sIx_none, HT.sIx_nat, List.drop_zero, Nat.sub_zero]
  by_cases h : j ≤ xs.length
  · rw [Nat.min_eq_left h]
  · rw [Nat.min_eq_right (by omega), List.take_of_length_le (Nat.le_refl _), List.take_of_length_le (by omega)]
/-- t[:j] of a written tuple -/
theorem slice_to {K : PySem.W.Frag} {H : Hp} {a : Addr} {xs : List V} {j : Nat} {Q : VK} (h : SqT K H a xs) (q : ∀ p H', SqT K H' p (xs.take j) → Same H H' → Q (.ref p) H') : rSlA K (.ref a) none (some (j : Int)) H Q := by
  refine ⟨a, xs, rfl, h, fun hw => q a H ?_ (Same.refl H), fun _ p hp => q p _ ?_ (same_upd hp)⟩
  · have e : xs.length ≤ j := by
      have := hw.2
      rw [HT.sIx_nat] at this
      omega
    rw [List.take_of_length_le e]
    exact h
  · rw [cut_take]
    exact SqT.of upd_same
theorem isW_int {d : PyData} {lo hi : Int} (h : isW d lo hi = true) : ∃ i, d = .int i ∧ lo ≤ i ∧ i ≤ hi := by
  cases d with
  | int i =>
    simp [isW] at h
    exact ⟨i, rfl, h.1, h.2⟩
  | none => cases h
  | bool _ => cases h
  | str _ => cases h
  | list _ => cases h
  | tuple _ => cases h
  | dict _ => cases h
section
variable {P : Program} {w : World} {K : PySem.W.Frag} {mg : Str → Option Value} {base : Heap}
theorem dk_int {H : Hp} {v : V} {i : Int} (h : Dk K H v (.int i)) : v = .int i := by
  cases h with
  | dp h => cases h; rfl
theorem sqT_upd {H : Hp} {a p : Addr} {xs ys : List V} {o : HO} (h : SqT K H a xs) (hp : H p = some (.lst ys)) : SqT K (upd H p o) a xs := by
  rcases h with (h | ⟨u, h⟩) | h
  · exact .inl (.inl (by rw [upd_ne (ne_of h hp (by intro z; cases z))]; exact h))
  · exact .inl (.inr ⟨u, by rw [upd_ne (ne_of h hp (by intro z; cases z))]; exact h⟩)
  · exact .inr h
theorem Same.updNew {H H' : Hp} {p : Addr} {o : HO} (s : Same H H') (h : H p = none) : Same H (upd H' p o) := fun b x e => by
  rw [upd_ne (ne_of_none e h)]
  exact s b x e
end
/-- a comprehension over anything that yields n things -/
theorem lc_any {J : It} {n : Nat} {g : TG} {tt : TT} {te : TE} {vs : List Nat} {σ : L2.St} {H1 : Hp} {D : Addr} {Qd : Hp → Prop} (Pv : Nat → Hp → Prop) (h0 : Pv 0 (upd H1 D (.lst []))) (hgo : ∀ i H, i < n → Pv i H → J.go i H) (hst : ∀ H, Pv n H → J.stop n H)
    (hs : ∀ i x H H', i < n → Pv i H → J.yld i H x H' → g x (wipe σ vs) H' fun σ2 H2 => wipe σ2 vs = wipe σ vs ∧ tt σ2 H2 fun b H3 =>
      if b = true then te σ2 H3 fun y H4 => ∃ acc, H4 D = some (.lst acc) ∧ acc.length < sizeLine ∧ Pv (i + 1) (upd H4 D (.lst (acc ++ [y]))) else Pv (i + 1) H3) (hd : ∀ H, Pv n H → Qd H) :
    ∃ W : Nat → Nat → Hp → Prop, (∃ m, W 0 m (upd H1 D (.lst []))) ∧ ∀ i m H, W i m H →
      (J.stop i H ∧ Qd H) ∨ (J.go i H ∧ ∃ Nx : Hp → Prop, (∀ H', Nx H' → ∃ m', m' < m ∧ W (i + 1) m' H') ∧ ∀ x H', J.yld i H x H' → g x (wipe σ vs) H' fun σ2 H2 => wipe σ2 vs = wipe σ vs ∧ tt σ2 H2 fun b H3 =>
        if b = true then te σ2 H3 fun y H4 => ∃ acc, H4 D = some (.lst acc) ∧ acc.length < sizeLine ∧ Nx (upd H4 D (.lst (acc ++ [y]))) else Nx H3) := by
  refine ⟨fun i m H => i + m = n ∧ Pv i H, ⟨n, Nat.zero_add n, h0⟩, ?_⟩
  rintro i m H ⟨e, p⟩
  by_cases c : i < n
  · exact .inr ⟨hgo i H c p, Pv (i + 1), fun H' q => ⟨m - 1, by omega, by omega, q⟩, fun x H' y => hs i x H H' c p y⟩
  · obtain rfl : i = n := by omega
    exact .inl ⟨hst H p, hd H p⟩
/-- a loop over anything that yields n things -/
theorem for_any {J : It} {n : Nat} {g : TG} {tb : TS} {D : Ends} {σ : L2.St} {H : Hp} (Pv : Nat → L2.St → Hp → Prop) (h0 : Pv 0 σ H) (hgo : ∀ i σ H, i < n → Pv i σ H → J.go i H) (hst : ∀ σ H, Pv n σ H → J.stop n H)
    (hs : ∀ i x σ H H', i < n → Pv i σ H → J.yld i H x H' → g x σ H' fun σ2 H2 => tb { D with nx := Pv (i + 1), ct := Pv (i + 1), bk := D.nx } σ2 H2) (hd : ∀ σ H, Pv n σ H → D.nx σ H) :
    ∃ W : Nat → Nat → L2.St → Hp → Prop, (∃ m, W 0 m σ H) ∧ ∀ i m σ H, W i m σ H →
      (J.stop i H ∧ D.nx σ H) ∨ (J.go i H ∧ ∃ N : L2.St → Hp → Prop, (∀ σ' H', N σ' H' → ∃ m', m' < m ∧ W (i + 1) m' σ' H') ∧ ∀ x H', J.yld i H x H' → g x σ H' fun σ2 H2 => tb { D with nx := N, ct := N, bk := D.nx } σ2 H2) := by
  refine ⟨fun i m σ H => i + m = n ∧ Pv i σ H, ⟨n, Nat.zero_add n, h0⟩, ?_⟩
  rintro i m σ H ⟨e, p⟩
  by_cases c : i < n
  · exact .inr ⟨hgo i σ H c p, Pv (i + 1), fun σ' H' q => ⟨m - 1, by omega, by omega, q⟩, fun x H' y => hs i x σ H H' c p y⟩
  · obtain rfl : i = n := by omega
    exact .inl ⟨hst σ H p, hd σ H p⟩
theorem cut_drop (xs : List V) (j : Nat) : cutV xs (some (j : Int)) none = xs.drop j := by
  unfold cutV
  rw [HT.sIx_none, HT.sIx_nat]
  by_cases h : j ≤ xs.length
  · rw [Nat.min_eq_left h, List.take_of_length_le (by rw [List.length_drop]; omega)]
  · rw [Nat.min_eq_right (by omega), Nat.sub_self, List.take_zero, List.drop_eq_nil_of_le (by omega)]
/-- t[j:] -/
theorem slice_from {K : PySem.W.Frag} {H : Hp} {a : Addr} {xs : List V} {j : Nat} {Q : VK} (h : SqT K H a xs) (q : ∀ p H', SqT K H' p (xs.drop j) → Same H H' → (p = a ∨ H p = none) → Q (.ref p) H') : rSlA K (.ref a) (some (j : Int)) none H Q := by
  refine ⟨a, xs, rfl, h, fun hw => q a H ?_ (Same.refl H) (.inl rfl), fun _ p hp => q p _ ?_ (same_upd hp) (.inr hp)⟩
  · have e := hw.1
    rw [HT.sIx_nat] at e
    by_cases c : xs.length = 0
    · have : xs = [] := List.length_eq_zero_iff.mp c
      subst this
      rw [List.drop_nil]
      exact h
    · obtain rfl : j = 0 := by omega
      exact h
  · rw [cut_drop]
    exact SqT.of upd_same
/-- the heap without a -/
def wo (H : Hp) (a : Addr) : Hp := fun b => if b = a then none else H b
theorem wo_ne {H : Hp} {a b : Addr} (h : b ≠ a) : wo H a b = H b := if_neg h
theorem wo_same {H : Hp} {a : Addr} : wo H a a = none := if_pos rfl
theorem wo_le {H : Hp} {a : Addr} : Same (wo H a) H := fun b o e => by
  by_cases h : b = a
  · rw [h, wo_same] at e
    cases e
  · rw [wo_ne h] at e
    exact e
theorem wo_same_of {H H' : Hp} {a : Addr} (s : Same H H') : Same (wo H a) (wo H' a) := fun b o e => by
  by_cases h : b = a
  · rw [h, wo_same] at e
    cases e
  · rw [wo_ne h] at e ⊢
    exact s b o e
theorem wo_upd {H : Hp} {a : Addr} {o : HO} : wo (upd H a o) a = wo H a := by
  funext b
  by_cases h : b = a
  · rw [h, wo_same, wo_same]
  · rw [wo_ne h, wo_ne h, upd_ne h]
theorem wo_at {H : Hp} {a b : Addr} {o : HO} (h : H b = some o) (n : b ≠ a) : wo H a b = some o := by rw [wo_ne n]; exact h
/-- the law's pot: three numbers, the last one below a bound that grows -/
def Pot (H : Hp) (p : Addr) (n : Nat) : Prop := ∃ a b c : Int, H p = some (.lst [.int a, .int b, .int c]) ∧ 0 ≤ b ∧ b < 2305843009213693951 ∧ 0 ≤ c ∧ c ≤ n
theorem Pot.same {H H' : Hp} {p : Addr} {n : Nat} (h : Pot H p n) (s : Same H H') : Pot H' p n := by
  obtain ⟨a, b, c, e, r⟩ := h
  exact ⟨a, b, c, s _ _ e, r⟩
theorem Pot.mono {H : Hp} {p : Addr} {n m : Nat} (h : Pot H p n) (l : n ≤ m) : Pot H p m := by
  obtain ⟨a, b, c, e, r1, r2, r3, r4⟩ := h
  exact ⟨a, b, c, e, r1, r2, r3, by omega⟩
theorem op_powB {X : Cx} : OpR X (binaryOp .Pow) (rI (fun i j => 0 ≤ j ∧ (Builtin.Int.intBits i : Int) * j ≤ 2 ^ 27) fun i j => .int (i ^ j.toNat)) := opI fun i j t u Q s _ hc q => pow_int hc.1 hc.2 q
theorem Pot.ne {H : Hp} {p c : Addr} {n : Nat} (h : Pot H p n) (nc : H c = none) : c ≠ p := fun z => by
  obtain ⟨a, b, d, e, _⟩ := h
  rw [z, e] at nc
  cases nc
theorem Pot.upd {H : Hp} {p c : Addr} {n : Nat} {o : HO} (h : Pot H p n) (ne : c ≠ p) : Pot (upd H c o) p n := by
  obtain ⟨a, b, d, e, r⟩ := h
  exact ⟨a, b, d, by rw [upd_ne ne.symm]; exact e, r⟩
theorem Dk.tyx {K : PySem.W.Frag} {H : Hp} {v : V} {d : PyData} (h : Dk K H v d) : TyX K H v (.type (tyName d)) := by
  cases h with
  | dp h =>
    cases h with
    | non => exact .base .non
    | bl b => exact .base (.bl b)
    | int i => exact .base (.int i)
    | str x => exact .base (.str x)
    | lst hs _ =>
      rcases hs with (e | ⟨o, e⟩) | ⟨o, its, n, e, c, _⟩
      · exact .base (.lst e)
      · exact .base (.frz e)
      · exact .kList e c
    | tup hs _ =>
      rcases hs with (e | ⟨o, e⟩) | ⟨o, its, n, e, c, _⟩
      · exact .base (.tup e)
      · exact .fTuple e
      · exact .kTuple e c
  | d0 h => exact .base (.dK h)
  | d1 h => exact .base (.dK h)
theorem inV_strs (x : Str) : ∀ l : List Str, inV (.str x) (l.map V.str) = decide (x ∈ l)
  | [] => rfl
  | y :: l => by
    have ih := inV_strs x l
    unfold inV at ih ⊢
    rw [List.map_cons, List.any_cons, ih]
    show ((y == x) || _) = _
    by_cases h : y = x
    · subst h
      simp
    · have h' : ¬ x = y := fun z => h z.symm
      simp [h, h']
theorem flat_strs (l : List Str) : (l.map V.str).all flatV = true := by
  induction l with
  | nil => rfl
  | cons a l ih =>
    rw [List.map_cons, List.all_cons, ih]
    rfl
/-- list.index of a text -/
theorem index_read {K : PySem.W.Frag} {H : Hp} {a : Addr} {l : List Str} {x : Str} {Q : VK} (h : SqL K H a (l.map V.str)) (hx : x ∈ l) (q : Q (.int (l.idxOf x : Nat)) H) : rIndex K (.ref a) [.str x] H Q := by
  have hlt : l.idxOf x < l.length := List.idxOf_lt_length_of_mem hx
  refine ⟨a, l.map V.str, .str x, l.idxOf x, .str x, rfl, rfl, h, rfl, flat_strs l, ?_, by simp [eqV], fun m z hm hz => ?_, q⟩
  · rw [List.getElem?_map, List.getElem?_eq_getElem hlt, List.getElem_idxOf hlt]
    rfl
  · rw [List.getElem?_map] at hz
    cases e : l[m]? with
    | none => rw [e] at hz; cases hz
    | some y =>
      rw [e] at hz
      have hz : V.str y = z := Option.some.inj hz
      subst hz
      show (y == x) = false
      have hne : y ≠ x := fun c => by
        subst c
        have hml : m < l.length := (List.getElem?_eq_some_iff.mp e).1
        have := List.not_of_lt_findIdx (xs := l) (p := (· == y)) (show m < l.findIdx (· == y) from hm)
        have e2 := (List.getElem?_eq_some_iff.mp e).2
        rw [e2] at this
        simp at this
      exact beq_eq_false_iff_ne.mpr hne
theorem wo_updNew {H H' : Hp} {p q : Addr} {o : HO} (s : Same (wo H p) (wo H' p)) (h : H q = none) : Same (wo H p) (wo (upd H' q o) p) := fun b x e => by
  have hb : b ≠ p := fun z => by rw [z, wo_same] at e; cases e
  have hq : b ≠ q := fun z => by rw [wo_ne hb, z, h] at e; cases e
  have := s b x e
  rw [wo_ne hb] at this ⊢
  rw [upd_ne hq]
  exact this
/-- what stands in the written part of an error's class -/
structure ErrC (K : PySem.W.Frag) (C fI : Addr) : Prop where
  oex : OexC K C
  iC : PySem.W.findIn K (.ref C) "__init__" = some (some (.ref fI))
  tI : PySem.W.typeIn K (.ref fI) = some (.type "function")
  noV : PySem.W.findIn K (.ref C) "value" = some none
section
variable {P : Program} {w : World} {K : PySem.W.Frag} {mg : Str → Option Value} {base : Heap}
def spInit (K : PySem.W.Frag) : Sp := fun vs H Q _ => ∃ (a C : Addr) (v : V), vs = [.ref a, v] ∧ H a = some (exo a C none) ∧ OexC K C ∧ PySem.W.findIn K (.ref C) "value" = some none ∧
  ∀ dx, H dx = none → dx ≠ a → Q .non (upd (upd H dx (exd dx [("value", v)])) a (exo a C (some dx)))
/-- the heap behind a made error: its own dict is new, nothing else -/
theorem err_heap {H : Hp} {a d C : Addr} {v : V} (ha : H a = none) (hne : d ≠ a) :
    upd (del (upd (upd (upd H a (exo a C none)) d (exd d [("value", v)])) a (exo a C (some d))) a) d (.xd [("value", v)]) = upd H d (.xd [("value", v)]) := by
  funext b
  by_cases hb : b = d
  · rw [hb, upd_same, upd_same]
  · rw [upd_ne hb, upd_ne hb]
    by_cases hc : b = a
    · rw [hc, del_same, ha]
    · rw [del_ne hc, upd_ne hc, upd_ne hb, upd_ne hc]
/-- what the making of C(v) asks -/
def Need (K : PySem.W.Frag) (C : Addr) (v : V) (H1 : Hp) (Q : XK) : Prop := [v].length ≤ 1000 ∧ ∀ a, H1 a = none → spInit K (.ref a :: ([v] ++ [])) (upd H1 a (exo a C none))
  (fun u H2 => u = .non ∧ ∃ (d : Addr) (fs : List (Str × V)), H2 a = some (exo a C (some d)) ∧ H2 d = some (exd d fs) ∧ H1 d = none ∧ Q (.ref C) (some d) (upd (del H2 a) d (.xd fs))) (fun _ _ _ => False)
theorem need_ok {C fI : Addr} {v : V} {H1 : Hp} {Q : XK} (T : ErrC K C fI) (h : ∀ d, H1 d = none → Q (.ref C) (some d) (upd H1 d (.xd [("value", v)]))) : Need K C v H1 Q := by
  refine ⟨by simp, fun a ha => ⟨a, C, v, rfl, upd_same, T.oex, T.noV, fun dx n ne => ⟨rfl, dx, [("value", v)], upd_same, ?_, ?_, ?_⟩⟩⟩
  · rw [upd_ne ne, upd_same]
  · rw [upd_ne ne] at n
    exact n
  · rw [upd_ne ne] at n
    rw [err_heap ha ne]
    exact h dx n
/-- raise C(e) -/
def tErr (K : PySem.W.Frag) (C : Addr) (W : WX) (te : TE) : TS := fun _ σ H => te σ H fun v H1 => Need K C v H1 fun cls d H' => W cls d σ H'
end
/-- the exception at a: of the class C, its fields in the dict at d -/
def ErrO (C d a : Addr) : HO := .ext fun h => ∃ (oe : Obj) (fv : Array Value), h.get? a = some oe ∧ Zc (.ref C) (some d) oe ∧ oe.data = .fields fv
theorem errO_ok {P : Program} {w : World} {H : Hp} {h : Heap} {a C d : Addr} {oe : Obj} {fv : Array Value} (e : h.get? a = some oe) (z : Zc (.ref C) (some d) oe) (f : oe.data = .fields fv) : ObjOk P w H h a (ErrO C d a) :=
  ⟨⟨oe, fv, e, z, f⟩, ⟨oe, e⟩, fun _ _ ⟨o1, f1, e1, r1⟩ k => ⟨o1, f1, k _ e1, r1⟩⟩
section
variable {X : Cx} {pins : List (Addr × Obj)} {σ : L2.St} {H : Hp} {s : Shared}
theorem err_get {a C d : Addr} (I : Inv X pins σ H s) (ha : H a = some (ErrO C d a)) : ∃ (oe : Obj) (fv : Array Value), s.heap.get? a = some oe ∧ Zc (.ref C) (some d) oe ∧ oe.data = .fields fv := (I.hok a _ ha).1
/-- from now on a is known -/
theorem track {a : Addr} {o : HO} (I : Inv X pins σ H s) (na : H a = none) (new : ∀ b ob, X.s_0.heap.get? b = some ob → X.H_0 b = none → b ∉ X.ex → b ≠ a) (nl : X.env.locals ≠ a) (nc : ∀ x c, X.env.cells.lookup x = some c → c ≠ a)
    (np : ∀ p ∈ X.pn ++ pins, p.1 ≠ a) (ok : ObjOk X.prog X.w (upd H a o) s.heap a o) : Inv X pins σ (upd H a o) s where
  ok := I.ok
  os := I.os
  bare := I.bare
  base := ⟨I.base.keep, I.base.slot, fun b ob e n hx => by rw [upd_ne (new b ob e n hx)]; exact I.base.free b ob e n hx, I.base.there, fun b xs e => by rw [upd_ne (ne_of_none (I.base.tups b xs e) na)]; exact I.base.tups b xs e,
    fun b ob u e => by rw [upd_ne (ne_of_none (I.base.frzs b ob u e) na)]; exact I.base.frzs b ob u e, fun b ps e => by
      obtain ⟨more, q⟩ := I.base.tbls b ps e
      exact ⟨more, by rw [upd_ne (ne_of_none q na)]; exact q⟩⟩
  loc := I.loc
  cell := I.cell
  free := by rw [upd_ne nl]; exact I.free
  freeC := fun x c e => by rw [upd_ne (nc x c e)]; exact I.freeC x c e
  pin := fun p hp => by
    obtain ⟨e1, e2, e3⟩ := I.pin p hp
    exact ⟨e1, by rw [upd_ne (np p hp)]; exact e2, e3⟩
  hok := I.hok.laidN (fun _ _ e => e) na ok
  len := I.len
/-- what 'except x as n: suite' makes of an exception of its own class: the caught one is known behind it -/
def wHeard (K : PySem.W.Frag) (c : Value) (i : Nat) (ts : Addr → Value → Option Addr → TS) (D : Ends) : WX := fun cls d σ H =>
  PySem.W.exmOne K cls c = some true ∧ ∃ (C dd : Addr), cls = .ref C ∧ d = some dd ∧ ∀ a, H a = none → ts a cls d { nx := fun σ' H' => H' a = none → D.nx (σ'.set i none) (upd H' a (ErrO C dd a)), rt := fun _ _ => False } (σ.set i (some (.ref a))) H
variable {x n : Str} {c : Value} {i : Nat} {body suite : List Stmt} {b₀ : Stmt} {np pos pos' : Pos} {tb : WX → TS} {ts : Addr → Value → Option Addr → TS}
theorem ps_heard (hs : X.stack = X.env :: X.outer) (hf : X.env.frame = some X.env.locals) (hN : X.N.Nodup) (hi : X.N[i]? = some n) (hln : X.env.kindOf n = some .local) (hc : Names X x c)
    (hb : ∀ (Wn : WX) (qn : List (Addr × Obj)) (xe : Value → Shared → Prop), Takes (X.tr qn xe) Wn → PassesOwn (model X.prog X.w) X.A X.env xe → PSs (X.tr qn xe) body (tb Wn))
    (hsu : ∀ (a : Addr) (oe : Obj) (cls : Value) (d : Option Addr) (qn : List (Addr × Obj)), Zc cls d oe → (∃ vs, oe.data = .fields vs) → PSs (X.suite a ((a, oe) :: qn)) (b₀ :: suite) (ts a cls d)) :
    PS X (.Try body [.ExceptHandler (some (.Name x np)) (some n) (b₀ :: suite) pos'] [] [] pos) (fun Dn σ H => tb (wHeard X.K c i ts Dn) Dn σ H) := by
  refine ⟨fun pins s σ H Dn I h => wpAny_Try_except ?_⟩
  have ok := I.ok
  have frames : X.A.frames = some (X.env :: X.outer) := by rw [ok.frames, hs]
  refine wpAny_mono ((hb (wHeard X.K c i ts Dn) (X.pn ++ pins) (fun e s₁ => wpAny (model X.prog X.w) X.A (noteFrame e X.env) (fun _ s₂ => wpAny (model X.prog X.w) X.A (setFlight e none) (fun _ s₃ =>
    wpAny (model X.prog X.w) X.A (handleBy e X.env [.ExceptHandler (some (.Name x np)) (some n) (b₀ :: suite) pos']) (SP X pins Dn) X.xe s₃) X.xe s₂) X.xe s₁) (fun u s' xx => ?_) PassesOwn.looking).run [] s σ H Dn (I.toTry _) h) (fun f s1 res => ?_) (fun e s1 he => he)
  · obtain ⟨a, B, s0E, pins', σ', H', cls, d, rfl, J', keeps_, grow, air, naa, osE, bareE, yes, C, dd, rfl, rfl, wish⟩ := xx
    have I0E : Inv X pins σ' H' s0E := J'.ofTry ok
    rw [show (X.tr (X.pn ++ pins) _).stack = X.env :: X.outer from hs] at air
    show wpAny (model X.prog X.w) X.A (noteFrame (.ref a) X.env) _ _ _
    refine Sky.land Zc.steady frames hf air fun hA fly3 more3 => ?_
    have Ba : B.get? a = none := fly3.2.1
    have IA : Inv X pins σ' H' { s' with heap := hA } := I0E.landed keeps_ fly3.1 (grow.trans more3) osE bareE
    obtain ⟨ob3, fv3, at3, zc3, dt3⟩ := fly3.there
    have ne0 : a ∉ frs (X.env :: X.outer) := fun hm => by
      obtain ⟨_, o', e', hnf⟩ := fly3.2.2.1.mem hm
      rw [at3] at e'; cases e'; exact hnf _ dt3
    have ne1 : a ≠ X.env.locals := fun z => ne0 (List.mem_filterMap.mpr ⟨X.env, List.mem_cons_self, by rw [hf, z]⟩)
    have ne2 : a ∉ X.fs := fun hm => by
      obtain ⟨e, he, q⟩ := List.mem_filterMap.mp hm
      exact ne0 (List.mem_filterMap.mpr ⟨e, List.mem_cons_of_mem _ he, q⟩)
    have noA : s0E.heap.get? a = none := by
      cases q : s0E.heap.get? a with
      | none => rfl
      | some o => exact absurd ((keeps_ a o q (by rw [hs]; exact ne0)).symm.trans Ba) (fun z => nomatch z)
    have newA : ∀ b ob, X.s_0.heap.get? b = some ob → X.H_0 b = none → b ∉ X.ex → b ≠ a := fun b ob e _ hx z => by
      obtain ⟨o', q⟩ := I0E.base.there b ob e hx
      rw [z, noA] at q; cases q
    have npA : ∀ p ∈ X.pn ++ pins, p.1 ≠ a := fun p hp z => by
      have q := (I0E.pin p hp).1
      rw [z, noA] at q; cases q
    have SA := IA.suite at3 dt3 naa ne1 ne2
    refine wpAny_handleBy_cons (codeAny_handlers_test ?_) (by intro q; cases q)
    have looks : PySem.W.Looks (model X.prog X.w) hA (typeOf (.ref a)) (.ref C) := fun A Q E s k q => wpAny_typeOf_ref (k _ _ at3) (by rw [zc3.1]; exact q)
    have meets_ := PySem.W.exm_one (M := model X.prog X.w) (IA.kIn) looks yes
    have tst : ∀ {Q : Value → Shared → Prop} {E : Value → Shared → Prop}, Q c { s' with heap := hA } → wpAny (model X.prog X.w) (X.A.mark (some (.ref a))) (eval (.Name x np) X.env) Q E { s' with heap := hA } := fun {Q E} q => by
      obtain ⟨g1, g2, g3 | ⟨g3, g4, g5⟩⟩ := hc
      · exact ld_glob (X := X.suite a ((a, ob3) :: (X.pn ++ pins))) SA g1 g3 q g2
      · exact ld_blt (X := X.suite a ((a, ob3) :: (X.pn ++ pins))) SA g1 g3 g4 q g5 g2
    refine tst (meets_.here (codeAny_handlers_suite_as (HandSPX.lands_againZ fly3 fun hB_ fly4 more4 => ?_)))
    have IB : Inv X pins σ' H' { s' with heap := hB_ } := I0E.landed keeps_ fly4.1 ((grow.trans more3).trans more4) osE bareE
    obtain ⟨ob4, fv4, at4, zc4, dt4⟩ := fly4.there
    refine store_ok (X := X.suite a ((a, ob4) :: (X.pn ++ pins))) (v := .ref a) (IB.suite at4 dt4 naa ne1 ne2) hN hi (.inl hln) rfl (fun sB SB => ?_) (.inr hln)
    refine wpAny_mono ((hsu a ob4 (.ref C) (some dd) (X.pn ++ pins) zc4 ⟨_, dt4⟩).run [] sB _ H' _ SB (wish a naa)) (fun f sC res => ?_) (fun _ _ z => False.elim z)
    cases f with
    | next =>
      obtain ⟨σ6, HC, SC, qC⟩ := res
      obtain ⟨p1, p2, p3, p4, p5⟩ := SC.pin (a, ob4) (List.mem_append_left _ List.mem_cons_self)
      have IC : Inv X pins σ6 HC sC := SC.unsuite ok
      have ID : Inv X pins σ6 (upd HC a (ErrO C dd a)) sC := track IC p2 newA ne1.symm (fun y c' e z => by
        obtain ⟨v, o, ho, hd⟩ := IC.cell y c' e
        rw [z, p1] at ho; cases ho; exact p5 _ hd) npA (errO_ok p1 zc4 dt4)
      exact gone_ok ID hN hi hln fun sE IE => ⟨_, _, IE, qC p2⟩
    | brk =>
      obtain ⟨_, _, _, qC⟩ := res
      exact qC.elim
    | cont =>
      obtain ⟨_, _, _, qC⟩ := res
      exact qC.elim
    | ret u =>
      obtain ⟨_, _, _, _, _, qC⟩ := res
      exact qC.elim
  · cases f with
    | next =>
      obtain ⟨σ', H', J', q⟩ := res
      exact wpAny_execs_nil ⟨σ', H', J'.ofTry ok, q⟩
    | brk => obtain ⟨σ', H', J', q⟩ := res; exact ⟨σ', H', J'.ofTry ok, q⟩
    | cont => obtain ⟨σ', H', J', q⟩ := res; exact ⟨σ', H', J'.ofTry ok, q⟩
    | ret u => obtain ⟨v, σ', H', J', r, q⟩ := res; exact ⟨v, σ', H', J'.ofTry ok, r, q⟩
/-- isinstance(e, C), e of the very class C -/
def rIsErr : List V → Hp → VK → Prop := fun xs H Q => ∃ (a C d : Addr), xs = [.ref a, .ref C] ∧ H a = some (ErrO C d a) ∧ Q (.bl true) H
theorem err_ans {a C : Addr} : Answers (fun s => ∃ oe, s.heap.get? a = some oe ∧ oe.cls = .ref C) (.ref a) (.ref C) true := by
  intro dep tk prog w A R s hs
  obtain ⟨⟨oe, he, hcl⟩, hq⟩ := hs
  unfold Builtin.«isinstance.nested»
  refine wpAny_bind (wpAny_typeOf_ref he ?_)
  rw [hcl, if_pos (beq_self_eq_true (Value.ref C))]
  first
    | exact wpAny_bind (wpAny_rule (wpAny_pure (hq _)))
    | exact wpAny_bind (wpAny_rule (hq _))
theorem call_isErr : CallR X (.builtin "isinstance") rIsErr := by
  intro pp s σ H xs vus Q I r h
  obtain ⟨a, C, d, rfl, ha, q⟩ := h
  obtain ⟨oe, fv, he, hz, hf⟩ := err_get I ha
  obtain ⟨u1, u2, rfl, r1, r2⟩ : ∃ u1 u2, vus = [u1, u2] ∧ RelV (.ref a) u1 ∧ RelV (.ref C) u2 := by
    cases r with
    | cons r rr => cases rr with | cons r' rr => cases rr; exact ⟨_, _, rfl, r, r'⟩
  cases r1; cases r2
  exact call_isinstance (S := fun _ R s => (∃ oe, s.heap.get? a = some oe ∧ oe.cls = .ref C) ∧ ∀ tk, R (.ok (.ret (.bool true))) { s with toks := tk })
    (fun prog w A R s hs => isinstance_outer (err_ans 0 _ prog w A R s hs) (fun z => nomatch z)) ⟨⟨oe, he, hz.1⟩, fun tk => ⟨.bl true, H, I.kept (t' := tk) fun _ _ z => z, rfl, q⟩⟩
/-- e.f, e a caught exception of an own class -/
def tErrF (K : PySem.W.Frag) (f : Str) (te : TE) : TE := fun σ H Q => te σ H fun x H1 => ∃ (a C d : Addr) (fs : List (Str × V)) (v : V), x = .ref a ∧ H1 a = some (ErrO C d a) ∧ XfC K C ∧ PySem.W.findIn K (.ref C) f = some none ∧ H1 d = some (.xd fs) ∧ fs.lookup f = some v ∧ Q v H1
theorem pe_errF {e : Expr} {te : TE} {pos : Pos} {f : Str} (he : PE X e te) (hb : attributeBase e f X.env (eval e X.env) = eval e X.env := by rfl) : PE X (.Attribute e f pos) (tErrF X.K f te) := by
  refine ⟨fun pp s σ H Q I h => attr_of hb (thn (he.run pp s σ H _ I h) fun u s1 hh => ?_)⟩
  obtain ⟨y, H1, I1, rxu, a, C, d, fs, v, rfl, ha, T, hno, hd, l, q⟩ := hh
  obtain rfl : u = Value.ref a := rxu
  obtain ⟨oe, fv, h1, hz, hfv⟩ := err_get I1 ha
  obtain ⟨mA, nsd, hr⟩ := (show ObjOk X.prog X.w H1 s1.heap d (.xd fs) from I1.hok d _ hd)
  obtain ⟨odd_, look_, lkd⟩ := lookIn_ns nsd
  obtain ⟨u2, atu, rvu⟩ := RelO.some_of (v := v) (o := mA f) (by rw [← l]; exact hr f)
  have J : PySem.W.InstAt s1.heap a oe C (some odd_) := ⟨h1, hz.1, by unfold PySem.W.notCls; rw [hfv] <;> rfl, by rw [hz.2]; exact look_⟩
  exact HandSPX.exc_get I1.kIn J T.ga T.gg T.exC (PySem.W.findObj_own T.hdC hno rfl (by rw [lkd, atu])) (handed_of rvu) ⟨v, H1, I1.tok _, rvu, q⟩
end
/-- a lambda's text -/
structure LamD where
  params : Arguments
  body : Expr
  scope : Scope
/-- the lambda at f: made in X -/
def LamO (X : Cx) (D : LamD) (f c' : Addr) : HO := .ext fun h => ∃ pm ctv : Value, h.get? f = some (PySem.W.kla_obj "<lambda>" (X.env.qual ++ "<lambda>") D.params D.body D.scope (cloFrom X.env.cells D.scope.names []) pm c' ctv)
/-- a known lambda and its code -/
def IsLam (X : Cx) (D : LamD) (f : Addr) (H : Hp) : Prop := ∃ c', H f = some (LamO X D f c') ∧ H c' = some (CodeO c' (X.env.qual ++ "<lambda>"))
theorem IsLam.ext {X : Cx} {D : LamD} {f : Addr} {H H' : Hp} (h : IsLam X D f H) (e : ExtN H H') : IsLam X D f H' := by
  obtain ⟨c', h1, h2⟩ := h
  exact ⟨c', e _ _ h1 (fun ps z => by unfold LamO at z; cases z), e _ _ h2 codeO_ne⟩
section
variable {X : Cx} {pins : List (Addr × Obj)} {σ : L2.St} {H : Hp} {s : Shared}
theorem lamO_ok {P : Program} {w : World} {H : Hp} {h : Heap} {D : LamD} {f c' : Addr} {pm ctv : Value} (e : h.get? f = some (PySem.W.kla_obj "<lambda>" (X.env.qual ++ "<lambda>") D.params D.body D.scope (cloFrom X.env.cells D.scope.names []) pm c' ctv)) : ObjOk P w H h f (LamO X D f c') :=
  ⟨⟨pm, ctv, e⟩, ⟨_, e⟩, fun _ _ ⟨a, b, e1⟩ k => ⟨a, b, k _ e1⟩⟩
/-- what the making asks: the maker's code object and table, the tables at hand -/
structure LamM (X : Cx) (T : List (Addr × Str)) (c P : Addr) : Prop where
  tb : TabB X.base X.mg c P
  code : X.env.code = .ref c
  mem : (P, X.env.qual ++ "<lambda>") ∈ T
  one : ∀ p ∈ T, p.1 = P → p.2 = X.env.qual ++ "<lambda>"
def tLamE (X : Cx) (T : List (Addr × Str)) (D : LamD) : TE := fun σ H Q => Tabs T H ∧ ∀ f H1, ExtN H H1 → Tabs T H1 → IsLam X D f H1 → H f = none → Q (.ref f) H1
theorem pe_lam {T : List (Addr × Str)} {c P : Addr} {params : Arguments} {body : Expr} {scope : Scope} {pos : Pos} (M : LamM X T c P) (L : LamS X.env.scope scope) (hdef : defaultsOf params X.env = ([], [])) : PE X (.Lambda params body scope pos) (tLamE X T ⟨params, body, scope⟩) := by
  refine ⟨fun pins s σ H Q I ⟨hT, q⟩ => ?_⟩
  obtain ⟨tbl, tblP, tri, all⟩ := hT _ M.mem
  have hP' : s.heap.get? P = some { cls := .none, data := .fields tbl } := I.hok P _ tblP
  have hcl := closure_ok (L.has I.ok)
  refine PySem.W.kla_eval hdef ?_
  cases hca : codeAmong pos tbl.toList with
  | some cv =>
    obtain ⟨c', rfl, hco⟩ := all pos cv hca
    refine PySem.W.kla_makeFunctionHit (mg := X.mg) (c := c) (P := P) (ps := tbl) hcl I.ok.glob (I.mod.glob.keeps I.bk) M.code (M.tb.code.keeps I.bk) hP' tri hca (M.tb.bm.keeps I.bk) fun ctv h' tk kept_ szle => ?_
    have I1 : Inv X pins σ H { s with heap := h', toks := tk } := I.kept kept_
    have nf : H h'.objs.size = none := I.hok.fresh szle
    have I2 := I1.laid (t' := tk) (o := LamO X ⟨params, body, scope⟩ h'.objs.size c') (h' := h'.push (PySem.W.kla_obj "<lambda>" (X.env.qual ++ "<lambda>") params body scope (cloFrom X.env.cells scope.names []) ((X.mg "__name__").getD .none) c' ctv)) (fun b o e => Heap.get?_push_of_some _ e) (Nat.le_refl _) (lamO_ok (D := ⟨params, body, scope⟩) (Heap.get?_push_size _ rfl))
    have e : ExtN H (upd H h'.objs.size (LamO X ⟨params, body, scope⟩ h'.objs.size c')) := fun b o z _ => by rw [upd_ne (ne_of_none z nf)]; exact z
    exact ⟨.ref h'.objs.size, _, I2, rfl, q _ _ e (hT.ext fun b o z => by rw [upd_ne (ne_of_none z nf)]; exact z) ⟨c', upd_same, e _ _ hco codeO_ne⟩ nf⟩
  | none =>
    refine PySem.W.kla_makeFunction (mg := X.mg) (c := c) (P := P) (ps := tbl) hcl I.ok.glob (I.mod.glob.keeps I.bk) M.code (M.tb.code.keeps I.bk) hP' tri hca M.tb.gP (M.tb.bm.keeps I.bk) fun c' ctv h' tk kept_ gec ltc rec_ htb => ?_
    obtain ⟨c2, oco, flds, t, ecode, hoc, dat, nmq⟩ := rec_
    cases ecode
    have szle : s.heap.objs.size ≤ h'.objs.size := Nat.le_trans gec (Nat.le_of_lt ltc)
    have nn : H c' = none := I.hok.fresh gec
    have I1 := inv_table (t' := tk) (more := #[rawInt pos.line, rawInt pos.col, .ref c']) (h' := h') I tblP (fun b o hb e => kept_ b o hb e) htb gec ⟨oco, flds, t, hoc, dat, nmq⟩
    have nP : h'.objs.size ≠ P := Nat.ne_of_gt (Nat.lt_of_lt_of_le (Heap.lt_size hP') szle)
    have nf0 : H h'.objs.size = none := I.hok.fresh szle
    have nf : upd (upd H P (.tbl (tbl ++ #[rawInt pos.line, rawInt pos.col, .ref c']))) c' (CodeO c' (X.env.qual ++ "<lambda>")) h'.objs.size = none := by rw [upd_ne (Nat.ne_of_gt ltc), upd_ne nP]; exact nf0
    have I2 := I1.laid (t' := tk) (o := LamO X ⟨params, body, scope⟩ h'.objs.size c') (h' := h'.push (PySem.W.kla_obj "<lambda>" (X.env.qual ++ "<lambda>") params body scope (cloFrom X.env.cells scope.names []) ((X.mg "__name__").getD .none) c' ctv)) (fun b o e => Heap.get?_push_of_some _ e) (Nat.le_refl _) (lamO_ok (D := ⟨params, body, scope⟩) (Heap.get?_push_size _ rfl))
    have e1 : ExtN H (upd (upd H P (.tbl (tbl ++ #[rawInt pos.line, rawInt pos.col, .ref c']))) c' (CodeO c' (X.env.qual ++ "<lambda>"))) := fun b o e n => by
      rw [upd_ne (ne_of_none e nn), upd_ne (fun z => n tbl (Option.some.inj (e.symm.trans (by rw [z]; exact tblP))))]
      exact e
    have T1 : Tabs T (upd (upd H P (.tbl (tbl ++ #[rawInt pos.line, rawInt pos.col, .ref c']))) c' (CodeO c' (X.env.qual ++ "<lambda>"))) := fun p hp => by
      have lst_ : (tbl ++ #[rawInt pos.line, rawInt pos.col, .ref c']).toList = tbl.toList ++ [rawInt pos.line, rawInt pos.col, .ref c'] := by simp
      by_cases hb : p.1 = P
      · rw [M.one p hp hb, hb]
        refine ⟨_, by rw [upd_ne (ne_of_none tblP nn), upd_same], by rw [lst_]; exact PySem.TriplesOk_snoc _ _ _ _ tri, fun p' cv hcv => ?_⟩
        rcases among_app _ tri (lst_ ▸ hcv) with z | z
        · obtain ⟨c0, a1, a2⟩ := all p' cv z
          exact ⟨c0, a1, e1 _ _ a2 codeO_ne⟩
        · exact ⟨c', z, upd_same⟩
      · obtain ⟨ps', a1, a2, a3⟩ := hT p hp
        refine ⟨ps', by rw [upd_ne (ne_of_none a1 nn), upd_ne hb]; exact a1, a2, fun p' cv hcv => ?_⟩
        obtain ⟨c0, b1, b2⟩ := a3 p' cv hcv
        exact ⟨c0, b1, e1 _ _ b2 codeO_ne⟩
    have keep : ∀ b o, upd (upd H P (.tbl (tbl ++ #[rawInt pos.line, rawInt pos.col, .ref c']))) c' (CodeO c' (X.env.qual ++ "<lambda>")) b = some o → upd (upd (upd H P (.tbl (tbl ++ #[rawInt pos.line, rawInt pos.col, .ref c']))) c' (CodeO c' (X.env.qual ++ "<lambda>"))) h'.objs.size (LamO X ⟨params, body, scope⟩ h'.objs.size c') b = some o := fun b o z => by
      rw [upd_ne (ne_of_none z nf)]; exact z
    exact ⟨.ref h'.objs.size, _, I2, rfl, q _ _ (e1.trans (ExtN.of keep)) (T1.ext keep) ⟨c', upd_same, keep _ _ upd_same⟩ nf0⟩
variable {HZ : Hp} {s1 : Shared}
/-- x(), in the def that got a known lambda: entered at s, X as it stood -/
theorem pe_actT {Ng : List Str} {qg : Str} {sg : Scope} {g f : Addr} {cdg : Value} {D : LamD} {CXg : CXT} {Eg : XK} {k i : Nat} {a : Str} {pn : List (Addr × Obj)} {xe : Value → Shared → Prop} {W : WX} {tb : XK → TE} {pp1 pp2 : Pos}
    (I : Inv X pins σ H s) (L : LamS X.env.scope D.scope) (hbind : ∀ (pm cv ctv : Value), bindArgs (PySem.W.kla_fn "<lambda>" (X.env.qual ++ "<lambda>") D.params D.body D.scope (cloFrom X.env.cells D.scope.names []) pm cv ctv) ⟨[], []⟩ = pure [])
    (tk : Takes ((cxOf CXg X.prog X.w X.K X.mg X.base Ng qg sg g cdg X.A X.stack s H Eg).tr pn xe) W) (hr : Room (k + 1) (X.A.deeper (envOfC qg sg s.heap.objs.size g cdg)))
    (hbody : ∀ (A : Around) (outer : List Env) (s : Shared) (H : Hp) (E : XK) (c' : Addr), Room k (A.deeper (lamEnv X D.scope s.heap.objs.size f c')) → PE (lamCx X A outer s H E D.scope f c') D.body (tb E))
    (hNg : Ng[i]? = some a) (hvis : Vis sg a) (dbg : (a == ("__debug__" : Str)) = false := by decide) (cdc : (a == ("__classdict__" : Str)) = false := by decide) :
    PE ((cxOf CXg X.prog X.w X.K X.mg X.base Ng qg sg g cdg X.A X.stack s H Eg).tr pn xe) (.Call (.Name a pp1) [] [] pp2)
      (fun σZ HZ Q => σZ[i]? = some (some (.ref f)) ∧ IsLam X D f HZ ∧ tb (fun cls d H' => W cls d σZ H') σ HZ Q) := by
  refine ⟨fun pinsZ sZ σZ HZ Q IZe ⟨slot, ⟨c', lamf, cod⟩, tbq⟩ => ?_⟩
  refine wpAny_Call_Name_kw (thn ((pe_var (pos := pp1) (i := i) hNg hvis dbg cdc).run pinsZ sZ σZ HZ (fun v H1 => v = .ref f ∧ H1 = HZ) IZe ⟨.ref f, slot, rfl, rfl⟩) fun u s1 ⟨v, H1, IA, rA, ev, eH⟩ => ?_)
  subst ev
  rw [eH] at IA
  obtain rfl : u = Value.ref f := rA
  obtain ⟨⟨pm, ctv, atf⟩, _, _⟩ := IA.hok f _ lamf
  obtain ⟨⟨oco, flds, t, atc, datc, nmc⟩, _, _⟩ := IA.hok c' _ cod
  refine PySem.W.callWith_F0 ⟨_, _, _, _, atf⟩ ?_
  have base_ : Un (frs X.stack) [] H HZ s.heap s1.heap := IA.base
  have run_ : codeAny (model X.prog X.w) (X.A.deeper (envOfC qg sg s.heap.objs.size g cdg)) (.call (.ref f) ⟨[], []⟩) (CR (L2.CX X.prog X.w) (envOfC qg sg s.heap.objs.size g cdg :: X.stack) X.prog X.w HZ s1 Q (fun cls d H' => W cls d σZ H')) s1 := by
    refine PySem.W.kla_callFunE hr.depth atf rfl L.co L.gen rfl ⟨c', oco, flds, t, rfl, atc, datc, nmc⟩ ?_
    rw [hbind]
    refine wpAny_pure (wpAny_newFunctionEnv (fun y hy => (L.own y hy).2) (fun y hy => absurd hy (by simp)) (fun h₁ nsn sbt => ⟨IA.nolimit.fresh _ sbt, ?_⟩) L.kind)
    show codeAny _ _ (.expr D.body (lamEnv X D.scope s1.heap.objs.size f c')) _ _
    have J : Inv (lamCx X (X.A.deeper (envOfC qg sg s.heap.objs.size g cdg)) (envOfC qg sg s.heap.objs.size g cdg :: X.stack) s1 HZ (fun cls d H' => W cls d σZ H') D.scope f c') [] σ HZ { s1 with heap := h₁, toks := s1.toks + ([] : List (Str × Value)).length } :=
      lam_start2 I L IA.env0 hr.hd base_ nsn fun b o e => sbt.extBut b o (Nat.ne_of_lt (Heap.lt_size e)) (Heap.get?_push_of_some _ e)
    refine PySem.W.kla_codeExpr (wpAny_mono ((hbody _ _ s1 HZ _ c' (hr.deeper _)).run [] _ _ HZ Q J tbq) (fun v s' ⟨w', H', J', rv, q⟩ => ⟨w', H', J'.os, J'.bare, J'.base, J'.hok, rv, q⟩) fun e s' hq => hq)
  refine wpAny_call (codeAny_mono run_ fun r s' hq => ?_)
  cases r with
  | error e => exact tk e s' (XE.of_call IA (fun cls d H' h => h) hq)
  | ok fl => cases fl with
    | ret u => exact IA.after hq
    | next => exact False.elim hq
    | brk => exact False.elim hq
    | cont => exact False.elim hq
/-- what the hearing makes of an error of the package, and of none -/
def HErr (K : PySem.W.Frag) (CS : Addr) (Q : VK) : XK := fun cls d H' => PySem.W.exmOne K cls (.ref CS) = some true ∧ ∃ (C dd : Addr), cls = .ref C ∧ d = some dd ∧
  ∀ a p, H' a = none → upd H' a (ErrO C dd a) p = none → Q (.ref p) (upd (upd H' a (ErrO C dd a)) p (.tup [.ref a, .non]))
def HBack (Q : VK) : VK := fun v H' => ∀ p, H' p = none → Q (.ref p) (upd H' p (.tup [.non, v]))
def TH (K : PySem.W.Frag) (CS : Addr) (tb : XK → TE) : TE := fun σ H Q => ∀ (E : XK) (Q' : VK), (∀ cls d H', HErr K CS Q cls d H' → E cls d H') → (∀ v H', HBack Q v H' → Q' v H') → tb E σ H Q'
def tHeard (X : Cx) {ι : Type} (CS : Addr) (D : ι → LamD) (tb : ι → XK → TE) (te : TE) : TE := fun σ H Q => te σ H fun v H1 => ∃ (j : ι) (f : Addr), v = .ref f ∧ IsLam X (D j) f H1 ∧ ∀ H2, Same H1 H2 → TH X.K CS (tb j) σ H2 Q
end
def isDict : PyData → Bool
  | .dict _ => true
  | _ => false
/-- data of a kind that can be shown, and compared -/
def okData (d : PyData) : Bool := d.leavesShort 13 && (decide (d.weight ≤ 2 ^ 20) && (d.showable && (decide (d.depth ≤ 8) && (d.canLay0 || isDict d))))
theorem okData.parts {d : PyData} (h : okData d = true) : d.leavesShort 13 = true ∧ d.weight ≤ 2 ^ 20 ∧ d.showable = true ∧ d.depth ≤ 8 ∧ (d.canLay0 = true ∨ isDict d = true) := by
  unfold okData at h
  simp only [Bool.and_eq_true, Bool.or_eq_true, decide_eq_true_eq] at h
  exact h
theorem okData.fits {d : PyData} (h : okData d = true) : d.shown.length ≤ sizeLine := PyData.shown_fits (B := 13) (by decide) (by decide) (okData.parts h).1 (okData.parts h).2.1
theorem okData.shaped {d : PyData} (h : okData d = true) : ∀ ds, d = .tuple ds → SeqAt.shaped d = true := fun ds e => by
  obtain ⟨_, _, _, h4, h5⟩ := okData.parts h
  subst e
  unfold SeqAt.shaped
  rw [Bool.and_eq_true, decide_eq_true_eq]
  exact ⟨h5.elim id (fun z => nomatch z), by omega⟩
mutual
theorem lay_noDict : ∀ d : PyData, d.canLay0 = true → d.hasDict = false
  | .none, _ => rfl
  | .bool _, _ => rfl
  | .int _, _ => rfl
  | .str _, _ => rfl
  | .list xs, h => by
    simp only [PyData.canLay0] at h
    simp only [PyData.hasDict]
    exact lay_noDictAll xs h
  | .tuple xs, h => by
    simp only [PyData.canLay0] at h
    simp only [PyData.hasDict]
    exact lay_noDictAll xs h
  | .dict _, h => by simp [PyData.canLay0] at h
theorem lay_noDictAll : ∀ ds : List PyData, PyData.canLayAll0 ds = true → PyData.hasDictAll ds = false
  | [], _ => rfl
  | d :: ds, h => by
    simp only [PyData.canLayAll0, Bool.and_eq_true] at h
    simp only [PyData.hasDictAll, lay_noDict d h.1, lay_noDictAll ds h.2, Bool.or_false]
end
section
variable {X : Cx} {pins : List (Addr × Obj)} {σ : L2.St} {H : Hp} {s : Shared}
theorem dk_reads (I : Inv X pins σ H s) {d : PyData} {v : V} {u : Value} (h : Dk X.K H v d) (r : RelV v u) : ∃ as, Reads s.heap u d as ∧ (d.hasDict = true → isDict d = true → sysModules ∉ as) := by
  cases h with
  | dp h =>
    obtain ⟨as, hr⟩ := Dp.reads I d v u h r
    refine ⟨as, hr, fun _ z => ?_⟩
    cases h <;> cases z
  | @d0 a h =>
    cases r
    obtain ⟨_, hsys, ws, rel, od, des, dep, ho, hex, hdat, _, hp, _⟩ := dk_of I.hok h
    cases rel
    have e : des = #[] := by
      cases des with | mk l => cases hp; rfl
    subst e
    refine ⟨_, Reads.dict (kvs := []) ho hex.1 hdat .nil .nil, fun _ _ hm => ?_⟩
    rcases List.mem_append.mp hm with hm | hm
    · rcases List.mem_cons.mp hm with rfl | hm
      · rw [beq_self_eq_true] at hsys; cases hsys
      · cases hm
    · cases hm
  | @d1 a h =>
    cases r
    obtain ⟨_, hsys, ws, rel, od, des, dep, ho, hex, hdat, _, hp, _⟩ := dk_of I.hok h
    cases rel with
    | @cons _ q _ _ h1 h2 =>
      cases h2
      obtain ⟨k, u⟩ := q
      obtain ⟨e1, e2⟩ := h1
      cases e1
      obtain ⟨t, rfl⟩ := e2
      cases des with
      | mk l =>
        cases hp with
        | @cons e _ es _ p1 p2 p3 =>
          cases p3
          obtain ⟨tk, ek⟩ := Value.isStrOf_shape (x := Str.ofString "a") (v := e.key) p1
          refine ⟨_, Reads.dict (kvs := [(.str "a", .int 1)]) ho hex.1 hdat (.cons (show Reads s.heap e.key (PyData.str "a") [] from by rw [ek]; exact .str _ _) .nil) (.cons (show Reads s.heap e.val (PyData.int 1) [] from by rw [p2]; exact .int _ _) .nil), fun _ _ hm => ?_⟩
          rcases List.mem_append.mp hm with hm | hm
          · rcases List.mem_cons.mp hm with rfl | hm
            · rw [beq_self_eq_true] at hsys; cases hsys
            · cases hm
          · cases hm
/-- repr(x), x data; nothing under way -/
def rRepr (K : PySem.W.Frag) : List V → Hp → VK → Prop := fun xs H Q => ∃ (v : V) (d : PyData), xs = [v] ∧ Dk K H v d ∧ okData d = true ∧ Q (.str d.shown) H
theorem call_repr (hg : X.A.guards = some []) (hu : X.A.units + 64 < cLine) : CallR X (.builtin "repr") (rRepr X.K) := by
  intro pins s σ H xs us Q I r h
  obtain ⟨v, d, rfl, hd, ho, q⟩ := h
  obtain ⟨u, rfl, rv⟩ := vals1 r
  obtain ⟨h1, h2, h3, h4, h5⟩ := okData.parts ho
  have fits := okData.fits ho
  obtain ⟨as, hr, hsys⟩ := dk_reads I hd rv
  have at_ref : ∀ a : Addr, u = .ref a → wpAny (model X.prog X.w) X.A (call (.builtin "repr") [u]) (EP X pins σ Q) X.xe s := fun a e => by
    subst e
    refine repr_of_reads' hr h3 (fun z => hsys z ?_) hg (by omega) (fun _ _ e => e) (fun h' w tk hk => ⟨.str d.shown, H, I.kept (t' := tk) hk, ⟨w, rfl⟩, q⟩) fits
    rcases h5 with c | c
    · rw [lay_noDict d c] at z; cases z
    · exact c
  cases hd with
  | d0 h => exact at_ref _ rv
  | d1 h => exact at_ref _ rv
  | dp hd =>
    cases hd with
    | lst _ _ => exact at_ref _ rv
    | tup _ _ => exact at_ref _ rv
    | non => cases rv; exact PySem.P.repr_of_none ⟨.str "None", H, I.tok _, ⟨_, rfl⟩, q⟩
    | bl b => cases rv; exact PySem.P.repr_of_bool ⟨.str (if b then "True" else "False"), H, I.tok _, ⟨_, by cases b <;> rfl⟩, by cases b <;> exact q⟩
    | int i =>
      obtain ⟨t, rfl⟩ := rv
      exact PySem.P.repr_of_int (by simpa [PyData.showable] using h3) ⟨.str (toString i), H, I.tok _, ⟨_, rfl⟩, q⟩
    | str x =>
      obtain ⟨t, rfl⟩ := rv
      exact PySem.P.repr_of_str ⟨.str (reprText x), H, I.tok _, ⟨_, rfl⟩, q⟩ fits
end
/-- as FnOk, of the rooms in which nothing guarded is under way -/
structure FnG (P : Program) (w : World) (K : PySem.W.Frag) (mg : Str → Option Value) (base : Heap) (k : Nat) (f : Addr) (fd : FuncData) (ps : List Str) (sp : Sp) : Prop where
  len : ∀ vs H Q E, sp vs H Q E → vs.length = ps.length
  run : ∀ (A : Around) (outer : List Env) (s : Shared) (H : Hp) (args : Args) (us : List Value) (vs : List V) (Q : VK), Room k A → A.guards = some [] → Env0 P w K mg base A outer s H → BindsTo s fd args (ps.zip us) → Vals vs us → sp vs H Q E0 →
    codeAny (model P w) A (.call (.ref f) args) (CR CX0 outer P w H s Q E0) s
section
variable {P : Program} {w : World} {K : PySem.W.Frag} {mg : Str → Option Value} {base : Heap}
theorem fnG_of {x qual : Str} {st : Stmt} {f : Addr} {fd : FuncData} {N ps : List Str} {k : Nat} {sp : Sp} (F : Fun K x qual st f fd) (S : FnScope N ps (defScope st)) (len : ∀ vs H Q E, sp vs H Q E → vs.length = ps.length)
    (hbody : ∀ (cdv : Value) (A : Around) (outer : List Env) (s : Shared) (H : Hp) (vs : List V) (Q : VK), Room k (A.deeper (envOfC qual (defScope st) s.heap.objs.size f cdv)) → (A.deeper (envOfC qual (defScope st) s.heap.objs.size f cdv)).guards = some [] → sp vs H Q E0 →
      ∃ t, PSs (cxOf CX0 P w K mg base N qual (defScope st) f cdv A outer s H E0).nox (defBody st) t ∧ t { nx := fun _ H' => Q .non H', rt := Q } (L2.start N vs) H) : FnG P w K mg base (k + 1) f fd ps sp := by
  obtain ⟨oc, od, kV, doc, pm, an, cdv, ct, osl, rfl, lk, hcd⟩ := F.ex
  refine ⟨len, fun A outer s H args us vs Q hr hg e0 hb r hsp => ?_⟩
  exact run_ofS lk hcd S hr e0 hb r (len _ _ _ _ hsp) fun hr' => by
    obtain ⟨t, h, q⟩ := hbody cdv A outer s H vs Q hr' hg hsp
    exact ⟨t, h.nox, q⟩
theorem FnG.ofOk {k : Nat} {f : Addr} {fd : FuncData} {ps : List Str} {sp : Sp} (F : FnOk P w K mg base CX0 k f fd ps sp) : FnG P w K mg base k f fd ps sp := ⟨F.len, fun A outer s H args us vs Q hr _ e0 hb r h => F.run A outer s H args us vs Q E0 hr e0 hb r h⟩
end
section
variable {X : Cx} {k : Nat} {f : Addr} {fd : FuncData} {ps : List Str} {sp : Sp} {x : Str} {p pos : Pos} {e : Expr} {es : List Expr} {t : TA}
theorem pe_callG (F : FnG X.prog X.w X.K X.mg X.base k f fd ps sp) (hr : Room k X.A) (gd : X.A.guards = some []) (hg : Gl X x) (hm : X.mg x = some (.ref f)) (hk : PySem.W.keepIn X.K (.ref f) = true) (hb : L2.Binds X.K fd ps [])
    (ha : PA X (e :: es) t) (hdb : (x == ("__debug__" : Str)) = false := by decide) (he : starEach (e :: es) X.env = (false, eval e X.env) :: starEach es X.env := by rfl) (hpl : (backTo pos (starEach es X.env)).any (·.1) = false := by rfl) :
    PE X (.Call (.Name x p) (e :: es) [] pos) (tCall sp [] E0 t) := by
  refine ⟨fun pins s σ H Q I h => wpAny_Call_Name_kw (ld_glob I hg hm ?_ hdb)⟩
  refine PySem.W.callWith_K (h₀ := X.base) I.ok.mod.kin hk (thn (ha.run pos pins s σ H _ I h) fun us s1 ⟨vs, H1, I1, r, q⟩ => ⟨I1.kIn, ?_⟩) he hpl
  have q' : sp vs H1 Q E0 := by
    have q0 : sp (vs ++ []) H1 Q E0 := q
    rw [List.append_nil] at q0
    exact q0
  have hl : us.length = ps.length := by rw [← r.length]; exact F.len _ _ _ _ q'
  have bt : BindsTo s1 fd ⟨us, []⟩ (ps.zip us) := by
    have z := hb s1 us I1.kIn (by rw [List.append_nil]; exact hl)
    rw [List.append_nil] at z
    exact z
  refine wpAny_call (codeAny_mono (F.run X.A X.stack s1 H1 ⟨us, []⟩ us vs Q hr gd I1.env0 bt r q') fun r s' hq => ?_)
  cases r with
  | error e => exact (show False from hq).elim
  | ok fl => cases fl with
    | ret u => exact I1.after hq
    | next => exact False.elim hq
    | brk => exact False.elim hq
    | cont => exact False.elim hq
end
/-- what stands in H', without what was a list in H -/
def nl (H H' : Hp) : Hp := fun b => match H b with
  | some (.lst _) => none
  | _ => H' b
theorem nl_not {H H' : Hp} {c : Addr} (h : ∀ xs, H c ≠ some (.lst xs)) : nl H H' c = H' c := by
  unfold nl
  split
  · exact absurd ‹_› (h _)
  · rfl
theorem nl_new {H H' : Hp} {c : Addr} (h : H c = none) : nl H H' c = H' c := nl_not fun xs z => by rw [h] at z; cases z
theorem nl_lst {H H' : Hp} {c : Addr} {xs : List V} (h : H c = some (.lst xs)) : nl H H' c = none := by
  unfold nl
  rw [h]
/-- what is found there was no list -/
theorem nl_out {H H' : Hp} {c : Addr} {o : HO} (h : nl H H' c = some o) : (∀ xs, H c ≠ some (.lst xs)) ∧ H' c = some o := by
  have a : ∀ xs, H c ≠ some (.lst xs) := fun xs z => by rw [nl_lst z] at h; cases h
  exact ⟨a, by rw [nl_not a] at h; exact h⟩
theorem nl_at {H H' : Hp} {p c : Addr} {o : HO} (g : Same (wo H p) (wo H' p)) (h : wo H' p c = some o) (no : ∀ xs, o ≠ .lst xs) : nl H H' c = some o := by
  have ne : c ≠ p := fun z => by rw [z, wo_same] at h; cases h
  rw [nl_not fun xs z => ?_]
  · exact wo_le _ _ h
  · have e := g _ _ (wo_at z ne)
    rw [h] at e
    exact no xs (Option.some.inj e)
theorem nl_wo {H H' : Hp} {p : Addr} (hp : ∃ xs, H p = some (.lst xs)) : Same (nl H H') (wo H' p) := fun b o e => by
  obtain ⟨xs, hp⟩ := hp
  obtain ⟨a, e⟩ := nl_out e
  exact wo_at e fun z => a xs (z ▸ hp)
theorem nl_fresh {H H' : Hp} {p c : Addr} (g : Same (wo H p) (wo H' p)) (h : H' c = none) (ne : c ≠ p) : H c = none := by
  cases e : H c with
  | none => rfl
  | some o =>
    have z := wo_le _ _ (g _ _ (wo_at e ne))
    rw [h] at z
    cases z
theorem nl_mono {H H1 H2 H3 : Hp} {p : Addr} (g : Same (wo H p) (wo H1 p)) (hp : ∃ xs, H1 p = some (.lst xs)) (s : Same H2 H3) : Same (nl H1 H2) (nl H H3) := fun b o e => by
  obtain ⟨ys, hp⟩ := hp
  obtain ⟨a, e⟩ := nl_out e
  have ne : b ≠ p := fun z => a ys (z ▸ hp)
  rw [nl_not fun xs z => a xs (wo_le _ _ (g _ _ (wo_at z ne)))]
  exact s _ _ e
theorem sqT_nl {K : PySem.W.Frag} {H H' : Hp} {p c : Addr} {xs : List V} (g : Same (wo H p) (wo H' p)) (h : SqT K (wo H' p) c xs) : SqT K (nl H H') c xs := by
  rcases h with (h | ⟨o, h⟩) | h
  · exact .inl (.inl (nl_at g h fun _ z => nomatch z))
  · exact .inl (.inr ⟨o, nl_at g h fun _ z => nomatch z⟩)
  · exact .inr h
theorem none_of {H H' : Hp} {c : Addr} (s : Same H H') (h : H' c = none) : H c = none := by
  cases e : H c with
  | none => rfl
  | some o =>
    have z := s _ _ e
    rw [h] at z
    cases z
theorem pot_lst {H : Hp} {p : Addr} {n : Nat} (h : Pot H p n) : ∃ xs, H p = some (.lst xs) := by
  obtain ⟨a, b, c, e, _⟩ := h
  exact ⟨_, e⟩
section
variable {P : Program} {w : World} {K : PySem.W.Frag} {mg : Str → Option Value} {base : Heap}
/-- all but the tables and the pot stay -/
def ExtP (p : Addr) (H H' : Hp) : Prop := ∀ b o, H b = some o → b ≠ p → (∀ ps, o ≠ .tbl ps) → H' b = some o
def CalG (P : Program) (w : World) (K : PySem.W.Frag) (mg : Str → Option Value) (base : Heap) (k : Nat) (x : Str) (ps : List Str) (sp : Sp) : Prop :=
  ∃ (f : Addr) (fd : FuncData), FnG P w K mg base k f fd ps sp ∧ PySem.W.keepIn K (.ref f) = true ∧ L2.Binds K fd ps [] ∧ mg x = some (.ref f)
theorem tabs_wo {T : List (Addr × Str)} {H H' : Hp} {p : Addr} (t : Tabs T H) (hp : ∃ xs, H p = some (.lst xs)) (s : Same (wo H p) (wo H' p)) : Tabs T H' := fun x hx => by
  obtain ⟨ps, h1, h2, h3⟩ := t x hx
  obtain ⟨xs, hl⟩ := hp
  refine ⟨ps, wo_le _ _ (s _ _ (wo_at h1 fun z => by rw [z, hl] at h1; cases h1)), h2, fun pos cv hc => ?_⟩
  obtain ⟨c, e1, e2⟩ := h3 pos cv hc
  exact ⟨c, e1, wo_le _ _ (s _ _ (wo_at e2 fun z => by rw [z, hl] at e2; unfold CodeO at e2; cases e2))⟩
end
/-- a def that may be called by its name -/
def Cal (P : Program) (w : World) (K : PySem.W.Frag) (mg : Str → Option Value) (base : Heap) (CX : CXT) (k : Nat) (x : Str) (ps : List Str) (sp : Sp) : Prop :=
  ∃ (f : Addr) (fd : FuncData), FnOk P w K mg base CX k f fd ps sp ∧ PySem.W.keepIn K (.ref f) = true ∧ L2.Binds K fd ps [] ∧ mg x = some (.ref f)
/-- what never raises passes -/
theorem passX {X : Cx} : Passes (L2.CX X.prog X.w) X E0 := fun _ _ _ _ _ _ _ ⟨_, _, _, _, _, _, _, _, _, _, _, _, h⟩ => h.elim
theorem same_ne {x : V} {Pr : Prop} (e : (!decide (x = x)) = true) : Pr := by simp at e
theorem eq_ne {x y : V} {Pr : Prop} (h : x = y) (e : (!decide (x = y)) = true) : Pr := by
  subst h
  exact same_ne e
/-- data without dicts, of nesting at most k and weight at most m -/
def okN (k m : Nat) (d : PyData) : Prop := d.leavesShort 13 = true ∧ d.weight ≤ m ∧ d.showable = true ∧ d.depth ≤ k ∧ d.canLay0 = true
theorem okN.mono {k m k' m' : Nat} {d : PyData} (h : okN k m d) (hk : k ≤ k') (hm : m ≤ m') : okN k' m' d := ⟨h.1, Nat.le_trans h.2.1 hm, h.2.2.1, Nat.le_trans h.2.2.2.1 hk, h.2.2.2.2⟩
theorem okN.ok {k m : Nat} {d : PyData} (h : okN k m d) (hk : k ≤ 8) (hm : m ≤ 2 ^ 20) : okData d = true := by
  unfold okData
  simp only [Bool.and_eq_true, Bool.or_eq_true, decide_eq_true_eq]
  exact ⟨h.1, Nat.le_trans h.2.1 hm, h.2.2.1, Nat.le_trans h.2.2.2.1 hk, .inl h.2.2.2.2⟩
theorem okN.all {k m : Nat} : ∀ {ds : List PyData}, (∀ d ∈ ds, okN k m d) → PyData.leavesShortAll 13 ds = true ∧ PyData.weightAll ds ≤ (m + 1) * ds.length ∧ PyData.showableAll ds = true ∧ PyData.depthAll ds ≤ k ∧ PyData.canLayAll0 ds = true
  | [], _ => ⟨rfl, Nat.le_refl _, rfl, Nat.zero_le _, rfl⟩
  | d :: ds, h => by
    obtain ⟨i1, i2, i3, i4, i5⟩ := okN.all fun y hy => h y (List.mem_cons_of_mem _ hy)
    obtain ⟨j1, j2, j3, j4, j5⟩ := h d List.mem_cons_self
    refine ⟨?_, ?_, ?_, ?_, ?_⟩
    · simp only [PyData.leavesShortAll, j1, i1, Bool.and_self]
    · simp only [PyData.weightAll, List.length_cons, Nat.mul_add, Nat.mul_one]
      omega
    · simp only [PyData.showableAll, j3, i3, Bool.and_self]
    · simp only [PyData.depthAll]
      omega
    · simp only [PyData.canLayAll0, j5, i5, Bool.and_self]
theorem okN.tup {k m : Nat} {ds : List PyData} (h : ∀ d ∈ ds, okN k m d) (hl : ds.length ≤ 8) : okN (k + 1) (8 * (m + 1)) (.tuple ds) := by
  obtain ⟨i1, i2, i3, i4, i5⟩ := okN.all h
  have : (m + 1) * ds.length ≤ (m + 1) * 8 := Nat.mul_le_mul_left _ hl
  refine ⟨by simpa [PyData.leavesShort] using i1, by simp only [PyData.weight]; omega, by simpa [PyData.showable] using i3, by simp only [PyData.depth]; omega, by simpa [PyData.canLay0] using i5⟩
theorem okN.lst {k m : Nat} {ds : List PyData} (h : ∀ d ∈ ds, okN k m d) (hl : ds.length ≤ 8) : okN (k + 1) (8 * (m + 1)) (.list ds) := by
  obtain ⟨i1, i2, i3, i4, i5⟩ := okN.all h
  have : (m + 1) * ds.length ≤ (m + 1) * 8 := Nat.mul_le_mul_left _ hl
  refine ⟨by simpa [PyData.leavesShort] using i1, by simp only [PyData.weight]; omega, by simpa [PyData.showable] using i3, by simp only [PyData.depth]; omega, by simpa [PyData.canLay0] using i5⟩
theorem okN.int {i : Int} (h0 : -100000 ≤ i) (h1 : i ≤ 1000000) : okN 0 50 (.int i) := by
  have ht : (Str.ofString (toString i)).length ≤ 13 := by
    by_cases c : 0 ≤ i
    · exact Nat.le_trans (toString_length_le (k := 7) c (by decide) (by omega)) (by decide)
    · obtain ⟨n, rfl⟩ : ∃ n : Nat, i = Int.negSucc n := by
        cases i with
        | ofNat n => exact absurd (Int.natCast_nonneg n) c
        | negSucc n => exact ⟨n, rfl⟩
      have hn : (n + 1 : Int) < 10 ^ 6 := by omega
      have e : toString (Int.negSucc n) = "-" ++ toString (n + 1) := rfl
      have t := toString_length_le (v := ((n + 1 : Nat) : Int)) (k := 6) (by omega) (by decide) (by exact_mod_cast hn)
      have len : ∀ a b : String, (Str.ofString (a ++ b)).length = (Str.ofString a).length + (Str.ofString b).length := fun a b => by
        show (Str.ofString (a ++ b)).cps.size = (Str.ofString a).cps.size + (Str.ofString b).cps.size
        rw [Str.ofString_eq_toList, Str.ofString_eq_toList, Str.ofString_eq_toList]
        simp [String.toList_append]
      rw [e, len]
      have h1' : (Str.ofString "-").length = 1 := by decide
      have t' : (Str.ofString (toString (n + 1))).length ≤ 6 := t
      omega
  have hl : i.natAbs.log2 ≤ 20 := by
    by_cases z : i.natAbs = 0
    · rw [z]; decide
    · exact Nat.le_of_lt_succ ((Nat.log2_lt z).mpr (by omega))
  refine ⟨by simp only [PyData.leavesShort, decide_eq_true_eq]; exact ht, ?_, ?_, Nat.le_refl 0, rfl⟩
  · simp only [PyData.weight]
    split <;> omega
  · simp only [PyData.showable, decide_eq_true_eq]
    omega
/-- texts that can be shown -/
def okS (n : Nat) (x : Str) : Prop := x.length ≤ n ∧ ∀ c ∈ x.cps.toList, c < 0x110000
theorem okS.ok {n : Nat} {x : Str} (h : okS n x) (hn : n ≤ 50) : okN 0 50 (.str x) := by
  refine ⟨?_, Nat.le_trans h.1 hn, rfl, Nat.le_refl 0, ?_⟩
  · simp only [PyData.leavesShort, List.all_eq_true, decide_eq_true_eq]
    exact fun c hc => Nat.lt_of_lt_of_le (h.2 c hc) (by decide)
  · simp only [PyData.canLay0, PyData.strOk]
    rw [← Array.all_toList, List.all_eq_true]
    exact fun c hc => decide_eq_true (h.2 c hc)
theorem str_chars (z : String) : ∀ c ∈ (Str.ofString z).cps.toList, c < 0x110000 := fun c hc => by
  rw [Str.ofString_eq_toList] at hc
  simp only [List.toList_toArray, List.mem_map] at hc
  obtain ⟨ch, _, rfl⟩ := hc
  rcases ch.valid with h | ⟨_, h⟩
  · exact Nat.lt_of_lt_of_le h (by decide)
  · exact h
theorem okS.cut {n : Nat} {x : Str} (h : okS n x) (lo hi : Option Int) : okS n (cutS x lo hi) := by
  refine ⟨Nat.le_trans (cutS_length x lo hi) h.1, fun c hc => h.2 c ?_⟩
  have hc : c ∈ ((x.cps.toList.drop (HT.sIx x.length 0 lo)).take (HT.sIx x.length x.length hi - HT.sIx x.length 0 lo)).toArray.toList := hc
  rw [List.toList_toArray] at hc
  exact List.mem_of_mem_drop (List.mem_of_mem_take hc)
theorem okS.cat {n m : Nat} {x y : Str} (h : okS n x) (g : okS m y) : okS (n + m) (x ++ y) := by
  have e : (x ++ y).cps = x.cps ++ y.cps := rfl
  refine ⟨?_, fun c hc => ?_⟩
  · show (x ++ y).cps.size ≤ _
    rw [e, Array.size_append]
    exact Nat.add_le_add h.1 g.1
  · rw [e, Array.toList_append] at hc
    exact (List.mem_append.mp hc).elim (h.2 c) (g.2 c)
theorem sqT_wo {K : PySem.W.Frag} {H : Hp} {c p : Addr} {xs ys : List V} (h : SqT K H c xs) (hp : H p = some (.lst ys)) : SqT K (wo H p) c xs := by
  rcases h with (h | ⟨o, h⟩) | h
  · exact .inl (.inl (wo_at h fun z => by rw [z, hp] at h; cases h))
  · exact .inl (.inr ⟨o, wo_at h fun z => by rw [z, hp] at h; cases h⟩)
  · exact .inr h
theorem catA_one {K : PySem.W.Frag} {H : Hp} {a b : Addr} {xs ys : List V} {Q : VK} (ha : SqT K H a xs) (hb : SqT K H b ys) (hl : xs.length + ys.length ≤ sizeLine) (q : ∀ c H', SqT K H' c (xs ++ ys) → Same H H' → Q (.ref c) H') : rCatA K (.ref a) (.ref b) H Q := by
  refine ⟨a, b, xs, ys, rfl, rfl, ha, hb, hl, fun e => ?_, fun _ e => ?_, fun _ _ p np => q p _ (SqT.of upd_same) (same_upd np)⟩
  · subst e
    exact q b H hb (Same.refl H)
  · subst e
    refine q a H ?_ (Same.refl H)
    rw [List.append_nil]
    exact ha
theorem slice_any {K : PySem.W.Frag} {H : Hp} {a : Addr} {xs : List V} {lo hi : Option Int} {Q : VK} (h : SqT K H a xs) (q : ∀ c H' ys, SqT K H' c ys → (∀ y ∈ ys, y ∈ xs) → ys.length ≤ xs.length → Same H H' → Q (.ref c) H') : rSlA K (.ref a) lo hi H Q :=
  ⟨a, xs, rfl, h, fun _ => q a H xs h (fun y hy => hy) (Nat.le_refl _) (Same.refl H), fun _ p np => q p _ _ (SqT.of upd_same) (fun y hy => List.mem_of_mem_drop (List.mem_of_mem_take hy)) (cutV_length xs lo hi) (same_upd np)⟩
theorem dpAll_app {K : PySem.W.Frag} {H : Hp} : ∀ {xs ys : List V} {ds es : List PyData}, DpAll K H xs ds → DpAll K H ys es → DpAll K H (xs ++ ys) (ds ++ es)
  | [], _, [], _, _, g => g
  | _ :: _, _, _ :: _, _, .cons h1 h2, g => .cons h1 (dpAll_app h2 g)
section
variable {P : Program} {w : World} {K : PySem.W.Frag} {mg : Str → Option Value} {base : Heap}
theorem sqL_extN {H H' : Hp} {c : Addr} {xs : List V} (h : SqL K H c xs) (e : ExtN H H') : SqL K H' c xs := by
  rcases h with (h | ⟨o, h⟩) | h
  · exact .inl (.inl (e _ _ h (fun ps z => by cases z)))
  · exact .inl (.inr ⟨o, e _ _ h (fun ps z => by cases z)⟩)
  · exact .inr h
theorem tabs_upd {T : List (Addr × Str)} {H : Hp} {D : Addr} {xs : List V} {o : HO} (t : Tabs T H) (hD : H D = some (.lst xs)) : Tabs T (upd H D o) := fun x hx => by
  obtain ⟨ps, h1, h2, h3⟩ := t x hx
  refine ⟨ps, by rw [upd_ne (fun z => by rw [z, hD] at h1; cases h1)]; exact h1, h2, fun pos cv hc => ?_⟩
  obtain ⟨c, e1, e2⟩ := h3 pos cv hc
  exact ⟨c, e1, by rw [upd_ne (fun z => by rw [z, hD] at e2; unfold CodeO at e2; cases e2)]; exact e2⟩
end
def lamsE : Expr → List LamD
  | .Lambda p b s _ => [⟨p, b, s⟩]
  | .Subscript o _ _ => lamsE o
  | .Call _ [e] _ _ => lamsE e
  | .List [e] _ => lamsE e
  | _ => []
def lamsS : Stmt → List LamD
  | .Assign _ v _ => lamsE v
  | .Expr v _ => lamsE v
  | _ => []
def bodyOf : Stmt → List Stmt
  | .For _ _ b _ _ => b
  | _ => []
/-- a callee's exception leaves the lambda -/
theorem passL {X : Cx} {A : Around} {outer : List Env} {s : Shared} {H : Hp} {E : XK} {scope : Scope} {f c' : Addr} : Passes (L2.CX X.prog X.w) (lamCx X A outer s H E scope f c') E :=
  passes_call (takes_of rfl rfl rfl rfl) fun _ _ _ _ h => h
section
variable {P : Program} {w : World} {K : PySem.W.Frag} {mg : Str → Option Value} {base : Heap}
theorem sqT_extN {H H' : Hp} {c : Addr} {xs : List V} (h : SqT K H c xs) (e : ExtN H H') : SqT K H' c xs := by
  rcases h with (h | ⟨o, h⟩) | h
  · exact .inl (.inl (e _ _ h (fun ps z => by cases z)))
  · exact .inl (.inr ⟨o, e _ _ h (fun ps z => by cases z)⟩)
  · exact .inr h
mutual
theorem dp_extN {H H' : Hp} (e : ExtN H H') : ∀ (d : PyData) (v : V), Dp K H v d → Dp K H' v d
  | .none, _, h => by cases h; exact .non
  | .bool _, _, h => by cases h; exact .bl _
  | .int _, _, h => by cases h; exact .int _
  | .str _, _, h => by cases h; exact .str _
  | .list ds, _, h => by
    cases h with
    | lst hs ha => exact .lst (sqL_extN hs e) (dpAll_extN e ds _ ha)
  | .tuple ds, _, h => by
    cases h with
    | tup hs ha => exact .tup (sqT_extN hs e) (dpAll_extN e ds _ ha)
  | .dict _, _, h => by cases h
theorem dpAll_extN {H H' : Hp} (e : ExtN H H') : ∀ (ds : List PyData) (vs : List V), DpAll K H vs ds → DpAll K H' vs ds
  | [], _, h => by cases h; exact .nil
  | d :: ds, _, h => by
    cases h with
    | cons h1 h2 => exact .cons (dp_extN e d _ h1) (dpAll_extN e ds _ h2)
end
theorem dk_extN {H H' : Hp} {v : V} {d : PyData} (h : Dk K H v d) (e : ExtN H H') : Dk K H' v d := by
  cases h with
  | dp h => exact .dp (dp_extN e _ _ h)
  | d0 h => exact .d0 (e _ _ h (fun ps z => by cases z))
  | d1 h => exact .d1 (e _ _ h (fun ps z => by cases z))
theorem nl_le {H H' : Hp} : Same (nl H H') H' := fun b o e => (nl_out e).2
theorem none_ext {H H' : Hp} {c : Addr} (e : ExtN H H') (h : H' c = none) : ∀ o, H c = some o → ∃ ps, o = .tbl ps := fun o z => by
  cases o with
  | tbl ps => exact ⟨ps, rfl⟩
  | _ => exact absurd ((e _ _ z (fun ps y => by cases y)).symm.trans h) (fun y => nomatch y)
/-- what stood stays over a new list -/
theorem extN_upd {H H' : Hp} {c : Addr} {o : HO} (e : ExtN H H') (h : ∀ o, H c = some o → ∃ ps, o = .tbl ps) : ExtN H (upd H' c o) := fun b x z nt => by
  rw [upd_ne fun y => ?_]
  · exact e b x z nt
  · obtain ⟨ps, q⟩ := h x (y ▸ z)
    exact nt ps q
theorem extN_comp {H1 H2 H3 : Hp} (e : ExtN H1 H2) (g : ExtN H2 H3) : ExtN H1 H3 := e.trans g
theorem IsLam.updL {X : Cx} {D : LamD} {f c : Addr} {H : Hp} {o : HO} {xs : List V} (h : IsLam X D f H) (hc : H c = some (.lst xs)) : IsLam X D f (upd H c o) := by
  obtain ⟨c', h1, h2⟩ := h
  refine ⟨c', ?_, ?_⟩
  · rw [upd_ne fun z => by rw [z, hc] at h1; unfold LamO at h1; cases h1]
    exact h1
  · rw [upd_ne fun z => by rw [z, hc] at h2; unfold CodeO at h2; cases h2]
    exact h2
theorem bent_old {HM HX H' : Hp} {D p : Addr} {o : HO} (hp : ∃ ys, HM p = some (.lst ys)) (nD : D ≠ p) (s : Same (wo HX p) (wo H' p)) : Same (nl (upd HM D (.lst [])) HX) (nl (upd HM D (.lst [])) (upd H' D o)) := fun b x e => by
  obtain ⟨x1, e⟩ := nl_out e
  have n1 : b ≠ D := fun z => x1 [] (by rw [z, upd_same])
  have n2 : b ≠ p := fun z => by
    obtain ⟨ys, hy⟩ := hp
    exact x1 ys (by rw [z, upd_ne (Ne.symm nD)]; exact hy)
  rw [nl_not x1, upd_ne n1]
  exact wo_le _ _ (s _ _ (wo_at e n2))
theorem bent_new {HM HX H' : Hp} {D p : Addr} {o : HO} {bs : List V} (hD : HX D = some (.lst bs)) (hp : ∃ ys, HX p = some (.lst ys)) (s : Same (wo HM p) (wo HX p)) : Same (nl HX H') (nl (upd HM D (.lst [])) (upd H' D o)) := fun b x e => by
  obtain ⟨x1, e⟩ := nl_out e
  have n1 : b ≠ D := fun z => x1 bs (by rw [z]; exact hD)
  have n2 : b ≠ p := fun z => by
    obtain ⟨ys, hy⟩ := hp
    exact x1 ys (by rw [z]; exact hy)
  rw [nl_not fun ys z => ?_, upd_ne n1]
  · exact e
  · rw [upd_ne n1] at z
    exact x1 ys (wo_le _ _ (s _ _ (wo_at z n2)))
/-- a small value -/
def Atom (x : V) : Prop := (∃ i : Int, x = .int i ∧ -100000 ≤ i ∧ i ≤ 1000000) ∨ (∃ z : Str, x = .str z ∧ okS 20 z) ∨ ∃ b, x = .bl b
theorem Atom.data {H : Hp} {x : V} (h : Atom x) : ∃ d, Dp K H x d ∧ okN 0 50 d := by
  rcases h with ⟨i, rfl, h0, h1⟩ | ⟨z, rfl, hz⟩ | ⟨b, rfl⟩
  · exact ⟨_, .int i, okN.int h0 h1⟩
  · exact ⟨_, .str z, hz.ok (by omega)⟩
  · exact ⟨_, .bl b, rfl, by simp [PyData.weight], rfl, Nat.le_refl 0, rfl⟩
theorem atoms_data {H : Hp} : ∀ {xs : List V}, (∀ x ∈ xs, Atom x) → ∃ ds, DpAll K H xs ds ∧ (∀ d ∈ ds, okN 0 50 d) ∧ ds.length = xs.length
  | [], _ => ⟨[], .nil, fun d hd => (List.not_mem_nil hd).elim, rfl⟩
  | x :: xs, h => by
    obtain ⟨ds, h1, h2, h3⟩ := atoms_data (H := H) fun y hy => h y (List.mem_cons_of_mem _ hy)
    obtain ⟨d, g1, g2⟩ := (h x List.mem_cons_self).data (K := K) (H := H)
    exact ⟨d :: ds, .cons g1 h1, fun e he => (List.mem_cons.mp he).elim (fun z => z ▸ g2) (h2 e), by rw [List.length_cons, List.length_cons, h3]⟩
/-- data that may be shown -/
def Fit (K : PySem.W.Frag) (H : Hp) (x : V) : Prop := ∃ d, Dk K H x d ∧ okData d = true
theorem Fit.same {H H' : Hp} {x : V} (h : Fit K H x) (s : Same H H') : Fit K H' x := by
  obtain ⟨d, h1, h2⟩ := h
  exact ⟨d, Dk.same s h1, h2⟩
theorem Fit.tup {H : Hp} {c : Addr} {xs : List V} (h : SqT K H c xs) (ha : ∀ x ∈ xs, Atom x) (hl : xs.length ≤ 8) : Fit K H (.ref c) := by
  obtain ⟨ds, h1, h2, h3⟩ := atoms_data (K := K) (H := H) ha
  exact ⟨.tuple ds, .dp (.tup h h1), (okN.tup h2 (by omega)).ok (by omega) (by decide)⟩
theorem Fit.lst {H : Hp} {c : Addr} {xs : List V} (h : SqL K H c xs) (ha : ∀ x ∈ xs, Atom x) (hl : xs.length ≤ 8) : Fit K H (.ref c) := by
  obtain ⟨ds, h1, h2, h3⟩ := atoms_data (K := K) (H := H) ha
  exact ⟨.list ds, .dp (.lst h h1), (okN.lst h2 (by omega)).ok (by omega) (by decide)⟩
theorem same_wo_new {H : Hp} {c : Addr} {o : HO} (h : H c = none) : Same H (wo (upd H c o) c) := fun b x e => by
  have ne : b ≠ c := ne_of_none e h
  rw [wo_ne ne, upd_ne ne]
  exact e
/-- a def whose code object is known -/
theorem fnG_code {x qual : Str} {st : Stmt} {f cc : Addr} {fd : FuncData} {N ps : List Str} {k : Nat} {sp : Sp} (F : Fun K x qual st f fd) (hcc : fd.code = .ref cc) (S : FnScope N ps (defScope st)) (len : ∀ vs H Q E, sp vs H Q E → vs.length = ps.length)
    (hbody : ∀ (A : Around) (outer : List Env) (s : Shared) (H : Hp) (vs : List V) (Q : VK), Room k (A.deeper (envOfC qual (defScope st) s.heap.objs.size f (.ref cc))) → (A.deeper (envOfC qual (defScope st) s.heap.objs.size f (.ref cc))).guards = some [] → sp vs H Q E0 →
      ∃ t, PSs (cxOf CX0 P w K mg base N qual (defScope st) f (.ref cc) A outer s H E0).nox (defBody st) t ∧ t { nx := fun _ H' => Q .non H', rt := Q } (L2.start N vs) H) : FnG P w K mg base (k + 1) f fd ps sp := by
  obtain ⟨oc, od, kV, doc, pm, an, cdv, ct, osl, rfl, lk, hcd⟩ := F.ex
  have e : cdv = .ref cc := hcc
  subst e
  refine ⟨len, fun A outer s H args us vs Q hr hg e0 hb r hsp => ?_⟩
  exact run_ofS lk hcd S hr e0 hb r (len _ _ _ _ hsp) fun hr' => by
    obtain ⟨t, h, q⟩ := hbody A outer s H vs Q hr' hg hsp
    exact ⟨t, h.nox, q⟩
end
theorem defFun {K : PySem.W.Frag} {x qual : Str} {st : Stmt} {f : Addr} {fd : FuncData} (F : FunD K x qual (defArgs st) (defBody st) (defScope st) [] [] f fd) : Fun K x qual st f fd := by
  obtain ⟨oc, od, dV, kV, doc, pm, an, cdv, ct, osl, h1, h2, h3, h4, _⟩ := F.ex
  rcases h4 with ⟨_, rfl⟩ | ⟨z, _⟩
  · exact ⟨⟨oc, od, kV, doc, pm, an, cdv, ct, osl, h1, h2, h3⟩, F.kp⟩
  · exact absurd rfl z
/-- a tuple that the top has laid -/
def ktB (K : PySem.W.Frag) (a : Addr) (vs : List V) : Bool := match K.lookup a with
  | some ⟨.type c, _, .seq its _, _⟩ => decide (c = "tuple") && (decide (its.size ≤ 1000) && He.relAll vs its.toList)
  | _ => false
theorem ktB_ok {K : PySem.W.Frag} {a : Addr} {vs : List V} (h : ktB K a vs = true) : KT K a vs := by
  unfold ktB at h
  split at h
  · rename_i c od its n sl ho
    simp only [Bool.and_eq_true, decide_eq_true_eq] at h
    obtain ⟨rfl, h2, h3⟩ := h
    exact ⟨_, its, n, ho, rfl, rfl, Nat.le_trans h2 (by decide), He.relAll_ok h3⟩
  · cases h
/-- an error's class -/
def oexB (K : PySem.W.Frag) (C : Addr) : Bool := match K.lookup C with
  | some ⟨.type c, _, .cls cd, sl⟩ => decide (c = "type") && (match cd.mro, sl.toList with
    | .ref D :: bm, [_, _, _, _, some (.builtin n), _] => decide (D = C) && (decide (n = "ValueError.__new__") && (!cd.hasDel && (cd.hasDict && PySem.HandSPX.refsVE bm)))
    | _, _ => false)
  | _ => false
theorem oexB_ok {K : PySem.W.Frag} {C : Addr} (h : oexB K C = true) : ∃ nm q N bs bm sn sub ab col dd k0 k1 k2 k3 k5, K.lookup C = some (excClassObj nm q C N bs bm true sn sub ab col dd k0 k1 k2 k3 k5 "ValueError.__new__") ∧ PySem.HandSPX.refsVE bm = true := by
  unfold oexB at h
  split at h
  · rename_i c dd cd sl ho
    simp only [Bool.and_eq_true, decide_eq_true_eq] at h
    obtain ⟨rfl, h⟩ := h
    split at h
    · rename_i D bm k0 k1 k2 k3 n k5 hm hs
      simp only [Bool.and_eq_true, decide_eq_true_eq, Bool.not_eq_true'] at h
      obtain ⟨rfl, rfl, h3, h4, h5⟩ := h
      obtain ⟨nm, bs, mro, ns, qn, hd, sn, sub, ab, col, del⟩ := cd
      dsimp only at hm h3 h4
      subst hm h3 h4
      obtain ⟨l⟩ := sl
      dsimp only at hs
      subst hs
      exact ⟨nm, qn, ns, bs, bm, sn, sub, ab, col, dd, k0, k1, k2, k3, k5, ho, h5⟩
    · cases h
  · cases h
/-- all that is asked of an error's class -/
def errB (K : PySem.W.Frag) (C fI CS : Addr) : Bool := oexB K C && (decide (PySem.W.findIn K (.ref C) "__setattr__" = some (some (.builtin "object.__setattr__"))) && (decide (PySem.W.typeIn K (.ref C) = some (.type "type")) && (PySem.W.keepIn K (.ref C) &&
  (decide (PySem.W.findIn K (.ref C) "__init__" = some (some (.ref fI))) && (decide (PySem.W.typeIn K (.ref fI) = some (.type "function")) && (decide (PySem.W.findIn K (.ref C) "value" = some none) && (xfB K C && decide (PySem.W.exmOne K (.ref C) (.ref CS) = some true))))))))
theorem errB_ok {K : PySem.W.Frag} {C fI CS : Addr} (h : errB K C fI CS = true) : ErrC K C fI ∧ XfC K C ∧ PySem.W.exmOne K (.ref C) (.ref CS) = some true := by
  unfold errB at h
  simp only [Bool.and_eq_true, decide_eq_true_eq] at h
  obtain ⟨h1, h2, h3, h4, h5, h6, h7, h8, h9⟩ := h
  have X := xfB_ok h8
  exact ⟨⟨⟨oexB_ok h1, h2, X.exC, h3, h4⟩, h5, h6, h7⟩, X, h9⟩
theorem keys_none {P : Params} {z : Str} : ∀ {l : List DictEntry} {ks : List Str}, l.map He.keyOf = He.keysIn P ks → z ∉ ks → (l.find? (·.key.isStr z) = none) ∧ l.any (·.refKey) = false
  | [], _, _, _ => ⟨rfl, rfl⟩
  | e :: r, [], h, _ => by cases h
  | e :: r, k :: ks, h, nz => by
    have h1 : He.keyOf e :: r.map He.keyOf = some (k, PyData.keyHash P k) :: He.keysIn P ks := h
    injection h1 with h2 h3
    obtain ⟨i1, i2⟩ := keys_none h3 fun y => nz (List.mem_cons_of_mem _ y)
    unfold He.keyOf at h2
    split at h2
    · rename_i x t hk
      obtain ⟨rfl, _⟩ := Prod.mk.inj (Option.some.inj h2)
      have ne : x ≠ z := fun y => nz (y ▸ List.mem_cons_self)
      have e1 : e.key.isStr z = false := by rw [hk]; simpa [Value.isStr] using ne
      have e2 : e.refKey = false := by unfold DictEntry.refKey; rw [hk]
      exact ⟨by rw [List.find?_cons, e1]; exact i1, by rw [List.any_cons, e2, i2]; rfl⟩
    · cases h2
theorem dicW_none {K : PySem.W.Frag} {P : Params} {a : Addr} {ks : List Str} {z : Str} (h : He.dicW K a = some (He.keysIn P ks)) (nz : z ∉ ks) : PySem.W.nsIn K a z = some none := by
  unfold He.dicW at h
  split at h
  · rename_i c es n sl ho
    split at h
    · obtain ⟨e1, e2⟩ := keys_none (Option.some.inj h) nz
      unfold PySem.W.nsIn
      rw [ho]
      show (match es.toList.find? (·.key.isStr z) with | some e => some (some e.val) | none => if es.toList.any (·.refKey) then none else some none) = some none
      rw [e1]
      show (if es.toList.any (·.refKey) = true then none else some none) = some none
      rw [e2]
      rfl
    · cases h
  · cases h
/-- the one table, and the script where the written part has it not -/
def start0 (K : PySem.W.Frag) (Pt a : Addr) (o : Obj) (xs : List V) : Hp := fun b =>
  if b = Pt then some (.tbl #[]) else if b = a then (match K.lookup a with
    | none => some (.frz o (.lst xs))
    | some _ => none) else none
theorem start0_cases {K : PySem.W.Frag} {Pt a b : Addr} {o : Obj} {xs : List V} {u : HO} (h : start0 K Pt a o xs b = some u) : (b = Pt ∧ u = .tbl #[]) ∨ (b = a ∧ K.lookup a = none ∧ u = .frz o (.lst xs)) := by
  unfold start0 at h
  by_cases c : b = Pt
  · rw [if_pos c] at h
    exact .inl ⟨c, (Option.some.inj h).symm⟩
  · rw [if_neg c] at h
    by_cases c2 : b = a
    · rw [if_pos c2] at h
      cases hk : K.lookup a with
      | some x =>
        rw [hk] at h
        cases h
      | none =>
        rw [hk] at h
        exact .inr ⟨c2, rfl, (Option.some.inj h).symm⟩
    · rw [if_neg c2] at h
      cases h
theorem call_top {P : Program} {w : World} {K : PySem.W.Frag} {mg mb : Str → Option Value} {k : Nat} {fa a c Pt : Addr} {fd : FuncData} {x : Str} {sp : Sp} {s : Shared} {us : List Value} {ns : List Int}
    (kin : K.In s.heap) (gl : s.heap.Ns mainGlobals mg) (bl : s.heap.Ns builtinsNs mb) (blb : ∀ y : Str, y ≠ "__name__" → mb y = bootBuiltins y) (nol : s.heap.NoLimit) (gens : s.gens = #[])
    (tab : s.heap.get? Pt = some { cls := .none, data := .fields #[] }) (tabK : K.lookup Pt = none) (cod : PySem.W.CodeHd s.heap c Pt)
    (bmain : ∃ (bm : Addr) (ob : Obj), mg "__builtins__" = some (.ref bm) ∧ bm ≠ builtinsNs ∧ s.heap.get? bm = some ob ∧ ob.cls = .type "module" ∧ ob.dict = some builtinsNs ∧ ob.data = .plain)
    (scr : s.heap.get? a = some { cls := .type "list", data := .seq us.toArray }) (areI : IntsAre us ns) (short : ns.length ≤ sizeLine) (room : Room k callerA)
    (F : ∀ base : Heap, K.In base → base.Ns mainGlobals mg → TabB base mg c Pt → FnG P w K mg base k fa fd [x] sp) (bind : ∀ (s : Shared) (u : Value), BindsTo s fd ⟨[u], []⟩ [(x, u)])
    (keep : ∀ H : Hp, H Pt = some (.tbl #[]) → SqL K H a (ns.map V.int) → sp [.ref a] H (fun v _ => v = .bl true) E0) :
    codeAny (model P w) callerA (.call (.ref fa) ⟨[.ref a], []⟩) (fun r s' => r = .ok (.ret (.bool true)) ∧ OldK s.heap s'.heap ∧ s'.os = s.os ∧ AllBare s'.gens) s := by
  have vals := vals_ints areI
  have same_len := areI.length
  generalize hH : start0 K Pt a { cls := .type "list", data := .seq us.toArray } (ns.map V.int) = H
  have look : ∀ {b : Addr} {u : HO}, H b = some u → (b = Pt ∧ u = .tbl #[]) ∨ (b = a ∧ K.lookup a = none ∧ u = .frz { cls := .type "list", data := .seq us.toArray } (.lst (ns.map V.int))) := fun {b u} e => start0_cases (hH ▸ e)
  have apart : a ≠ Pt := fun z => by
    rw [z, tab] at scr
    exact absurd (congrArg Obj.data (Option.some.inj scr)) (fun y => nomatch y)
  have hPt : H Pt = some (.tbl #[]) := by rw [← hH]; exact if_pos rfl
  have hseq : SqL K H a (ns.map V.int) := by
    cases hk : K.lookup a with
    | some o =>
      have e := (kin a o hk).symm.trans scr
      exact .inr ⟨_, us.toArray, _, by rw [hk, Option.some.inj e], rfl, rfl, rfl, by rw [List.size_toArray, same_len]; exact short, by simpa using vals⟩
    | none =>
      refine .inl (.inr ⟨{ cls := .type "list", data := .seq us.toArray }, ?_⟩)
      rw [← hH]
      unfold start0
      rw [if_neg apart, if_pos rfl, hk]
  have sound : HOk P w H s.heap := fun b u e => by
    rcases look e with ⟨rfl, rfl⟩ | ⟨rfl, _, rfl⟩
    · exact tab
    · exact ⟨scr, by rw [List.length_map]; exact short, us, _, vals, scr⟩
  -- what is no list and no empty record is not tracked
  have out : ∀ {b : Addr} {o : Obj}, s.heap.get? b = some o → (∀ is n, o.data ≠ .seq is n) → o.data ≠ .fields #[] → H b = none := fun {b o} e n1 n2 => by
    cases q : H b with
    | none => rfl
    | some u =>
      rcases look q with ⟨rfl, _⟩ | ⟨rfl, _⟩
      · exact absurd (congrArg Obj.data (Option.some.inj (tab.symm.trans e))).symm n2
      · exact absurd (congrArg Obj.data (Option.some.inj (scr.symm.trans e))).symm (n1 _ _)
  have outD : ∀ {b : Addr} {o : Obj} {es : Array DictEntry} {n : Nat}, s.heap.get? b = some o → o.data = .dict es n → H b = none := fun {b o es n} e d => out e (fun _ _ z => by rw [d] at z; cases z) fun z => by rw [d] at z; cases z
  have dictK : ∀ {b : Addr} {m : Str → Option Value}, s.heap.Ns b m → (hidT s.heap H).Ns b m := fun {b m} hn => by
    obtain ⟨o, es, n, e, d, r⟩ := hn
    exact ⟨o, es, n, hidT_get e (outD e d), d, r⟩
  have kinB : K.In (hidT s.heap H) := fun b o e => hidT_get (kin b o e) (by
    cases q : H b with
    | none => rfl
    | some u =>
      rcases look q with ⟨rfl, _⟩ | ⟨rfl, z, _⟩
      · exact absurd (tabK.symm.trans e) fun y => nomatch y
      · exact absurd (z.symm.trans e) fun y => nomatch y)
  have module : L2.Mod K mg (hidT s.heap H) := by
    obtain ⟨ml, e1, e2⟩ := nol
    exact ⟨kinB, dictK gl, ⟨mb, dictK bl, blb⟩, ml, dictK e1, e2⟩
  have table : TabB (hidT s.heap H) mg c Pt := by
    refine ⟨?_, ?_, fun z => ?_⟩
    · obtain ⟨o, vs, file, tf, flags, tg, inF, text, tt, e1, e2, e3, e4, rest⟩ := cod
      refine ⟨o, vs, file, tf, flags, tg, inF, text, tt, hidT_get e1 (out e1 (fun _ _ y => by rw [e3] at y; cases y) fun y => ?_), e2, e3, e4, rest⟩
      rw [e3] at y
      have y' : vs = #[] := Data.fields.inj y
      rw [y'] at e4
      cases e4
    · obtain ⟨bm, ob, m1, m2, m3, m4, m5, m6⟩ := bmain
      refine ⟨bm, ob, m1, m2, fun y => ?_, fun y => ?_, hidT_get m3 (out m3 (fun _ _ y => by rw [m6] at y; cases y) fun y => by rw [m6] at y; cases y), m4, m5, m6⟩
      · obtain ⟨o, es, n, e, d, _⟩ := gl
        rw [← y, m3] at e
        rw [← Option.some.inj e, m6] at d
        cases d
      · have e := m3.symm.trans (y ▸ tab)
        have d := m6
        rw [Option.some.inj e] at d
        cases d
    · obtain ⟨o, es, n, e, d, _⟩ := gl
      have e' := e.symm.trans (z ▸ tab)
      rw [Option.some.inj e'] at d
      cases d
  have env : Env0 P w K mg (hidT s.heap H) callerA [] s H := ⟨rfl, module, fun b o e => of_hidT e, Nat.le_of_eq (hidT_size _ _), trivial, fun b hb => (List.not_mem_nil hb).elim, sound, .of_eq gens⟩
  refine codeAny_mono ((F _ kinB (dictK gl) table).run callerA [] s H ⟨[.ref a], []⟩ [.ref a] [.ref a] _ room rfl env (bind s (.ref a)) (.cons rfl .nil) (keep H hPt hseq)) fun r s' res => ?_
  match r, res with
  | .ok (.ret u), res =>
    obtain ⟨v, H', same_os, bare, un, sound', rv, ev⟩ := res
    have ev' : v = .bl true := ev
    subst ev'
    obtain rfl : u = Value.bool true := rv
    obtain ⟨more, hm⟩ := un.tbls Pt #[] hPt
    have after : s'.heap.get? Pt = some { cls := .none, data := .fields (#[] ++ more) } := sound' Pt _ hm
    have stays : ∀ b o, b ≠ Pt → s.heap.get? b = some o → s'.heap.get? b = some o := fun b o nb e => by
      cases q : H b with
      | none => exact un.keep b o e q (fun z => (List.not_mem_nil z).elim) (by simp)
      | some u =>
        rcases look q with ⟨z, _⟩ | ⟨rfl, _, rfl⟩
        · exact absurd z nb
        · have g := (sound' b _ (un.frzs b _ _ q)).1
          rw [← Option.some.inj (scr.symm.trans e)]
          exact g
    refine ⟨rfl, ⟨fun b o e => ?_, fun b o e => ?_⟩, same_os, bare⟩
    · by_cases hb : b = Pt
      · subst hb
        obtain rfl := Option.some.inj (tab.symm.trans e)
        refine .inr (.inl ⟨(cod.tab tab).isCodeTable, rfl, #[], more, rfl, ?_⟩)
        rw [after]
      · exact .inl (stays b o hb e)
    · by_cases hb : b = Pt
      · exact ⟨_, by rw [hb]; exact after⟩
      · exact ⟨o, stays b o hb e⟩
  | .ok .next, res => exact False.elim res
  | .ok .brk, res => exact False.elim res
  | .ok .cont, res => exact False.elim res
  | .error e, res => exact False.elim res
theorem FnG.lift {P : Program} {w : World} {K : PySem.W.Frag} {mg : Str → Option Value} {base : Heap} {j k : Nat} {f : Addr} {fd : FuncData} {ps : List Str} {sp : Sp} (F : FnG P w K mg base j f fd ps sp) (h : j ≤ k) : FnG P w K mg base k f fd ps sp :=
  ⟨F.len, fun A outer s H args us vs Q hr => F.run A outer s H args us vs Q (hr.mono h)⟩
end VG

set_option maxRecDepth 100000
set_option maxHeartbeats 8000000
/-! Rules of our own: enumerate of a tuple, keywords alone, count and index of texts, isinstance of a kept error. -/
namespace VG
open PySem PySem.Spec PyProof.Rows L2 LamX
/-! ### enumerate(t) -/
theorem meets_enumB {v : Value} {ob : Obj} {Hh : Heap → Prop} (B : PySem.Begins v ob Hh) :
    Meets (Builtin.«enumerate.__new__» ⟨[.type "enumerate", v], []⟩) (fun _ R s => Hh s.heap ∧
      R (.ok (.ret (.ref (s.heap.push ob).objs.size))) { s with heap := (s.heap.push ob).push { cls := .type "enumerate", data := .fields #[.none, .bool false, .ref s.heap.objs.size, rawInt 0, .none, .none] } }) :=
  .of_wp fun prog w A R s all => by
    obtain ⟨hp, g, d, tk, os⟩ := s; obtain ⟨h1, fin⟩ := all
    have hsub := sub_enumerate
    have walk : ∀ {A' : Around} {E' : Value → Shared → Prop} {Q' : Value → Shared → Prop}, Q' (.ref hp.objs.size) ⟨hp.push ob, g, d, tk, os⟩ → wpAny (model prog w) A' (pyIter v) Q' E' ⟨hp, g, d, tk, os⟩ :=
      fun q => B.iter prog w _ _ ⟨hp, g, d, tk, os⟩ _ h1 q
    wp_walk using walk
    refine wpAny_stack_any fun stk => wpAny_pure ?_
    split
    · rename_i cc _ _ _ _ _
      cases (cc == Value.type "enumerate")
      · wp_walk using walk
        exact ⟨_, rfl, fin⟩
      · wp_walk using walk
        exact ⟨_, rfl, fin⟩
    · wp_walk using walk
      exact ⟨_, rfl, fin⟩
theorem call_enumB {P : Program} {w : World} {A : Around} {E : Value → Shared → Prop} {s : Shared} {v : Value} {ob : Obj} {Hh : Heap → Prop} {Q : Value → Shared → Prop} (B : PySem.Begins v ob Hh) (h1 : Hh s.heap)
    (q : ∀ h', IsEnum h' (s.heap.objs.size + 1) s.heap.objs.size 0 .none → h'.get? s.heap.objs.size = some ob → h'.objs.size = s.heap.objs.size + 2 → (∀ b o, s.heap.get? b = some o → h'.get? b = some o) → Q (.ref (s.heap.objs.size + 1)) { s with heap := h' }) :
    wpAny (model P w) A (call (.type "enumerate") [v]) Q E s := by
  refine callType_new F.called_enumerate (by decide) (F.typeCall_enumerate_1 _) (F.newCall_enumerate_1 _) (fun obj => F.args_object_init_2 obj _) F.entry_enumerate_new (meets_enumB B) ⟨h1, ?_⟩
  have two : (s.heap.push ob).objs.size = s.heap.objs.size + 1 := Heap.size_push ..
  show _ ∧ _
  rw [two]
  have made := Heap.get?_push_size (s.heap.push ob) (o := { cls := .type "enumerate", data := .fields #[.none, .bool false, .ref s.heap.objs.size, rawInt 0, .none, .none] }) rfl
  rw [two] at made
  exact ⟨⟨_, made, rfl⟩, q _ made (Heap.get?_push_of_some _ (Heap.get?_push_size _ B.free)) (by rw [Heap.size_push, two]) fun b o e => Heap.get?_push_of_some _ (Heap.get?_push_of_some _ e)⟩
/-- the tuple at a as it stands at each turn, each item in a new pair -/
def IteT (K : PySem.W.Frag) (a : Addr) : It :=
  ⟨fun i H => ∃ (xs : List V) (x : V), SqT K H a xs ∧ xs[i]? = some x, fun i H v H' => ∃ T x, v = .ref T ∧ H T = none ∧ H' = upd H T (.tup [.int (i : Nat), x]) ∧ ∀ xs, SqT K H a xs → xs[i]? = some x, fun i H => ∃ xs : List V, SqT K H a xs ∧ xs.length ≤ i⟩
theorem enum_not_tup {h : Heap} {e it a : Addr} {c : Int} {old : Value} {its : Array Value} (he : IsEnum h e it c old) (ht : h.IsTuple a its) : e ≠ a := fun z => by
  obtain ⟨o, ho, hc, _⟩ := ht
  rw [← z] at ho
  have e2 := Option.some.inj (he.symm.trans ho)
  rw [← e2] at hc
  have hc' : ("enumerate" : String) = "tuple" := Value.type.inj hc
  exact absurd hc' (by decide)
theorem turn_enumT {P : Program} {w : World} {K : PySem.W.Frag} {elts : List Expr} {kk : Nat} {tpos : Pos} (a e it : Addr) (hai : a ≠ it) :
    Turn P w K (.Tuple elts kk tpos) (IteT K a) [e, it] e (fun i h => (∃ old, IsEnum h e it ((i : Nat) : Int) old) ∧ h.IsTupleIter it a i ∧ e ≠ it) where
  mem := by simp
  obj := fun i h st b hb => by
    obtain ⟨⟨old, he⟩, ⟨o, ho, hc, hd⟩, _⟩ := st
    rcases (show b = e ∨ b = it by simpa using hb) with rfl | rfl
    · exact ⟨_, he, fun v q => nomatch q⟩
    · exact ⟨o, ho, fun v q => by rw [hd] at q; cases q⟩
  keep := fun i h h' st k => ⟨⟨st.1.choose, k e (by simp) _ st.1.choose_spec⟩, st.2.1.at fun o q => k it (by simp) o q, st.2.2⟩
  item := by
    intro X hP hw hK hc i pins s σ H E I hf st hg
    subst hP hw hK
    obtain ⟨⟨old, he⟩, hit, hne⟩ := st
    obtain ⟨xs, x, hq, hx⟩ := hg
    obtain ⟨its, rv, p, hz⟩ := I.tuple hq
    have p' : s.heap.IsTuple a its.toArray := p
    obtain ⟨u, hu, ru⟩ := rv.get hx
    have hea := enum_not_tup he p'
    have hel : e < s.heap.objs.size := Heap.lt_size he
    have hil : it < s.heap.objs.size := by obtain ⟨_, q, _⟩ := hit; exact Heap.lt_size q
    have hlt : i < its.toArray.size := by
      have := (List.getElem?_eq_some_iff.mp hu).1
      simpa using this
    refine wpAny_pyNext_enum_itemD (PySem.Draws.tuple (prog := X.prog) (w := X.w) (A := X.A.in1) (show X.A.in1.handled = none from I.ok.hd hc) it a hai its.toArray) he ⟨hit, p'⟩ hlt hne (by simp [hne, hea]) fun y h' tk hy ho st' hT hsz hk => ?_
    obtain rfl : u = y := by
      have hy' : its.toArray[i]? = some y := hy
      rw [List.getElem?_toArray, hu] at hy'
      exact Option.some.inj hy'
    refine ⟨_, rfl, wpAny_letOwnedTupleGo_enum (s := { s with heap := h', toks := tk + 1 }) ho fun h'' he' sb => ?_⟩
    have hT2 : h''.get? s.heap.objs.size = some { cls := .type "tuple", data := .seq #[.int i tk, u] } := (sb.2 _ (Nat.ne_of_gt hel)).trans hT
    have fresh_ : ObjOk X.prog X.w (upd H s.heap.objs.size (.tup [.int (i : Nat), x])) h'' s.heap.objs.size (.tup [.int (i : Nat), x]) :=
      ⟨by show 2 ≤ sizeLine; decide, [.int i tk, u], .cons ⟨_, rfl⟩ (.cons ru .nil), ⟨_, hT2, rfl, _, rfl⟩⟩
    have I1 : Inv X pins σ (upd H s.heap.objs.size (.tup [.int (i : Nat), x])) { s with heap := h'', toks := tk + 1 } :=
      I.turnedNew (ch := [e, it]) (fun b o hb q => (sb.2 b (fun z => hb (by simp [z]))).trans (hk b o (fun z => hb (by simp [z])) (fun z => hb (by simp [z])) q)) hf (Nat.le_refl _) fresh_
    refine ⟨.ref s.heap.objs.size, _, I1, rfl, ⟨_, x, rfl, I.hok.fresh (Nat.le_refl _), rfl, fun ys hy => by rw [I.tuple_inj hy hq]; exact hx⟩, ⟨⟨u, ?_⟩, st'.1.at fun o q => (sb.2 it (Ne.symm hne)).trans q, hne⟩, fun b hb => ?_⟩
    · rw [show ((i + 1 : Nat) : Int) = (i : Int) + 1 by omega]
      exact he'
    · have hb' : b < s.heap.objs.size := by
        rcases (show b = e ∨ b = it by simpa using hb) with rfl | rfl
        · exact hel
        · exact hil
      rw [upd_ne (Nat.ne_of_lt hb')]
      exact (hf b hb).1
  done := by
    intro X hP hw hK hc i pins s σ H E I hf st hg
    subst hP hw hK
    obtain ⟨⟨old, he⟩, hit, hne⟩ := st
    obtain ⟨xs, hq, hx⟩ := hg
    obtain ⟨its, rv, p, hz⟩ := I.tuple hq
    have p' : s.heap.IsTuple a its.toArray := p
    obtain ⟨f0, f1, f2, f3, f4, f5⟩ := hf it (by simp)
    have hl := rv.length
    have hnone : its.toArray[i]? = none := by simp; omega
    have hT : s.TypeIs (.ref e) "enumerate" := ⟨_, he, rfl⟩
    unfold pyNext
    refine wpAny_bind (wpAny_attempt (wpAny_callSpecial?_slot (name := Str.ofString "__next__") hT F.slot_enumerate_next (wpAny_call_entry F.slot_enumerate_next hT F.entry_enumerate_next ?_ (F.args_enumerate_next_1 _))))
    show wpAny _ _ (field (.ref e) 2 >>= _) _ _ _
    refine wpAny_bind (wpAny_field he rfl (x := .ref it) rfl ?_)
    refine wpAny_bind (PySem.wpAny_nextOf_tuple_end (I.ok.hd hc) hit p' hnone fun h' x eb hx' => ?_)
    obtain ⟨o, ho, hcl⟩ := hx'
    refine wpAny_bind (wpAny_isInstance (T := "StopIteration") (b := true) ⟨o, ho, hcl⟩ isSubtype_stop ?_)
    exact wpAny_pure ⟨rfl, I.turned (t' := s.toks) (fun b o hb q => eb b o hb q) f0 f1 f3 f4 f5⟩
  self := fun A i s Q E st h => wpAny_pyIter_enum st.1.choose_spec h
def iEnumT (K : PySem.W.Frag) (ta : TA) : TI := fun σ H R => ta σ H fun vs H1 => ∃ a xs, vs = [.ref a] ∧ SqT K H1 a xs ∧ R (IteT K a) H1
theorem pi_enumT {X : Cx} {e : Expr} {ta : TA} {p pos tpos : Pos} {elts : List Expr} {kk : Nat} (hg : Gl X "enumerate") (hm : X.mg "enumerate" = none) (ha : PA X [e] ta) (hs : starEach [e] X.env = [(false, eval e X.env)] := by rfl) :
    PI X (.Tuple elts kk tpos) (.Call (.Name "enumerate" p) [e] [] pos) (iEnumT X.K ta) := by
  refine ⟨fun pins s σ H R I h => Call_ (ld_blt I hg hm boot_enumerate (PyProof.Rows.callWith_type1 (thn (ha.run pos pins s σ H _ I h) fun us s1 ⟨vs, H1, I1, r1, a, xs, ex, hq, q⟩ => ?_) hs rfl))⟩
  subst ex
  cases r1 with
  | cons r rr =>
    cases rr
    cases r
    obtain ⟨its, rv, pt, hz⟩ := I1.tuple hq
    have hla : a < s1.heap.objs.size := by obtain ⟨_, z, _⟩ := id pt; exact Heap.lt_size z
    refine call_enumB (PySem.begins_tuple a its.toArray) pt fun h' he hit hsz hk => wpAny_pyIter_enum he ?_
    have I2 : Inv X pins σ H1 { s1 with heap := h' } := I1.kept (t' := s1.toks) hk
    refine ⟨s1.heap.objs.size + 1, [s1.heap.objs.size + 1, s1.heap.objs.size], _, _, H1, rfl, I2, turn_enumT a (s1.heap.objs.size + 1) s1.heap.objs.size (Nat.ne_of_lt hla), ⟨⟨.none, he⟩, ⟨_, hit, rfl, rfl⟩, Nat.succ_ne_self _⟩, fun b hb => ?_, q⟩
    have hle : s1.heap.objs.size ≤ b := by
      rcases (show b = s1.heap.objs.size + 1 ∨ b = s1.heap.objs.size by simpa using hb) with rfl | rfl
      · exact Nat.le_add_right _ _
      · exact Nat.le_refl _
    exact I1.fpOk hle (I1.hok.fresh hle)
/-! ### f(k = v, ..), keywords alone -/
theorem pe_callK0 {X : Cx} {CX : CXT} {k : Nat} {f : Addr} {fd : FuncData} {ps ks : List Str} {sp : Sp} {E : XK} {x : Str} {p pos : Pos} {kws : List Keyword} {tk : TA} {g : List Value → List Value → List Value} {gV : List V → List V → List V}
    (F : FnOk X.prog X.w X.K X.mg X.base CX k f fd ps sp) (hr : Room k X.A) (hg : Gl X x) (hm : X.mg x = some (.ref f)) (hk : PySem.W.keepIn X.K (.ref f) = true) (hb : KBinds X.K fd ps ks g gV) (hx : Passes CX X E) (hkw : PK X kws tk)
    (hall : (backToKw pos (keywordEach kws X.env)).all (·.1.isSome) = true := by rfl) (hks : (backToKw pos (keywordEach kws X.env)).filterMap (·.1) = ks := by rfl) (hdb : (x == ("__debug__" : Str)) = false := by decide)
    (hpl : ((backTo pos (starEach [] X.env)).any (·.1) || (backToKw pos (keywordEach kws X.env)).any (·.1.isNone)) = false := by rfl) :
    PE X (.Call (.Name x p) [] kws pos) (tCallK sp gV E tNil tk) := by
  refine ⟨fun pins s σ H Q I h => wpAny_Call_Name_kw (ld_glob I hg hm ?_ hdb)⟩
  refine PySem.W.callWith_KW0 (h₀ := X.base) I.ok.mod.kin hk hall (thn (hkw.run pos pins s σ H _ I h) fun ws s2 ⟨zs, H2, I2, rz, q2⟩ => ⟨I2.kIn, ?_⟩) hpl
  rw [hks]
  exact run_fnk (us := []) (vs := []) F hr hb hx I2 .nil rz q2
/-! ### xs.count(z), texts -/
theorem eqU_count {z : Str} {t : Tok} : ∀ {us : List Value} {ys : List Str}, Vals (ys.map V.str) us → us.countP (eqU (.str z)) = ys.count z
  | [], [], _ => rfl
  | u :: us, y :: ys, h => by
    cases h with
    | cons r rr =>
      have ih := eqU_count (z := z) (t := t) rr
      obtain ⟨t', rfl⟩ := r
      rw [List.countP_cons, List.count_cons, ih]
      rfl
  | [], _ :: _, h => by cases h
  | _ :: _, [], h => by cases h
def rCntS (K : PySem.W.Frag) : V → List V → Hp → VK → Prop := fun x xs H Q => ∃ (p : Addr) (ys : List Str) (z : Str), x = .ref p ∧ xs = [.str z] ∧ SqL K H p (ys.map V.str) ∧ Q (.int (ys.count z : Nat)) H
theorem mt_countS {X : Cx} : MtR X "list.count" (rCntS X.K) := by
  intro pins s σ H x xs v us Q I rx rxs h
  obtain ⟨p, ys, z, rfl, rfl, hs, q⟩ := h
  cases rx
  obtain ⟨u, rfl, t, rfl⟩ := vals1 rxs
  obtain ⟨its, rv, ⟨⟨cls, dd, data, sl⟩, n, ho, hc, hdn, hd⟩, hlen⟩ := I.list hs
  simp only at hc hd
  subst hc hd
  refine call_meets PySem.F.slot_list_count ⟨_, ho, rfl⟩ PySem.F.entry_list_count (PySem.F.args_list_count_2 _ _) (SeqAt.list_countAt p its.toArray n dd sl (.str z t) (eqU (.str z)))
    ⟨ho, fun w hw => mem_eqAt (x := .str z) ⟨t, rfl⟩ rfl rv (L2.flat_strs ys) w (by simpa using hw), .int (ys.count z : Nat), H, I.tok _, ⟨s.toks, ?_⟩, q⟩
  show Value.int ((its.toArray.toList.countP (eqU (.str z)) : Nat) : Int) s.toks = Value.int ((ys.count z : Nat) : Int) s.toks
  rw [show its.toArray.toList.countP (eqU (.str z)) = ys.count z from eqU_count (t := t) rv]
end VG

set_option maxRecDepth 100000
set_option maxHeartbeats 8000000
/-! isinstance(e, C), e a caught and kept error of an own class, C that class or another one; t.index of flat things. -/
namespace VG
open PySem PySem.Spec PySem.Calls PyProof.Rows L2 LamX
/-- what an error's class tells, so that its instances answer isinstance -/
structure IsC (K : PySem.W.Frag) (D : Addr) : Prop where
  f : XfC K D
  a : PySem.W.findIn K (.ref D) "__class__" = some (some (.builtin "object.__class__"))
  g : PySem.W.specialIn K (.builtin "object.__class__") "__get__" = some (some (.builtin "getset_descriptor.__get__"))
  t : PySem.W.takesIn K (.builtin "object.__class__") = some true
  m : PySem.W.mroIn K D (.type "object") = some true
def isCB (K : PySem.W.Frag) (D : Addr) : Bool := xfB K D && (decide (PySem.W.findIn K (.ref D) "__class__" = some (some (.builtin "object.__class__"))) && (decide (PySem.W.specialIn K (.builtin "object.__class__") "__get__" = some (some (.builtin "getset_descriptor.__get__"))) &&
  (decide (PySem.W.takesIn K (.builtin "object.__class__") = some true) && decide (PySem.W.mroIn K D (.type "object") = some true))))
theorem isCB_ok {K : PySem.W.Frag} {D : Addr} (h : isCB K D = true) : IsC K D := by
  unfold isCB at h
  simp only [Bool.and_eq_true, decide_eq_true_eq] at h
  exact ⟨xfB_ok h.1, h.2.1, h.2.2.1, h.2.2.2.1, h.2.2.2.2⟩
section
variable {K : PySem.W.Frag} {D x : Addr} {ob : Obj} {od : Option Obj}
theorem IsC.cls (C : IsC K D) : ∃ cd, PySem.W.clsIn K D = some cd := by
  obtain ⟨cd, e, _⟩ := PySem.W.any_some C.f.hdC
  exact ⟨cd, e⟩
theorem IsC.bound (C : IsC K D) : PySem.W.findObj K D od "__class__" = some (.bind (.builtin "getset_descriptor.__get__") (.builtin "object.__class__")) := by
  obtain ⟨cd, e⟩ := C.cls
  unfold PySem.W.findObj
  simp only [e, C.a, C.g, C.t, Option.bind_some]
/-- e.__class__ -/
theorem IsC.ask {prog : Program} {w : World} {A : Around} {E : Value → Shared → Prop} {s : Shared} {Q : Option Value → Shared → Prop} (C : IsC K D) (kin : K.In s.heap) (J : PySem.W.InstAt s.heap x ob D od) (q : Q (some (.ref D)) { s with toks := s.toks + 1 }) :
    wpAny (model prog w) A (getAttr? (.ref x) "__class__") Q E s := by
  obtain ⟨hp, gs, dr, tk, os⟩ := s
  have ty := J.type (M := model prog w)
  have below : PySem.W.Looks (model prog w) hp (isInstance (.ref x) (.type "BaseException")) true := ty.andThen (PySem.W.looks_subIn kin C.f.exC)
  have far : (Value.builtin "BaseException.__getattribute__" == Value.builtin "object.__getattribute__") = false := by decide +kernel
  have far2 : (onTheHeap (Value.ref D) && Value.builtin "BaseException.__getattribute__" == Value.builtin "object.__getattribute__") = false := by rw [far]; rfl
  unfold getAttr? getAttrBy? getAttrBy
  refine wpAny_bind (wpAny_mkText (wpAny_bind (wpAny_attempt (wpAny_holding (wpAny_bind (ty.at (wpAny_bind ((PySem.W.looks_findIn (M := model prog w) kin C.f.ga).at ?_))))))))
  show wpAny _ _ (if (onTheHeap (Value.ref D) && Value.builtin "BaseException.__getattribute__" == Value.builtin "object.__getattribute__") = true then _ else _) _ _ _
  rw [far2, if_neg Bool.false_ne_true]
  unfold getAttrByItsOwn hookBefore
  refine wpAny_bind ?_
  rw [if_pos (show onTheHeap (Value.ref D) = true from rfl)]
  refine (PySem.W.looks_findIn (M := model prog w) kin C.f.gg).at (wpAny_bind (wpAny_attempt (wpAny_holding ?_)))
  unfold callGetattribute
  rw [show (false && onTheHeap (Value.builtin "BaseException.__getattribute__")) = false from rfl, if_neg Bool.false_ne_true]
  unfold boundAndCalled
  rw [PySem.F.excAttr_ValueError.ga.bind (.ref x)]
  refine wpAny_bind (wpAny_pure ?_)
  show wpAny _ _ (call (.builtin "BaseException.__getattribute__") [.ref x, .str "__class__" tk]) _ _ _
  refine wpAny_call (codeAny_call_builtin PySem.F.excAttr_ValueError.ga.plain PySem.F.entry_bexc_ga (@PySem.W.check_slot (model prog w) _ _ ⟨hp, gs, dr, tk + 1, os⟩ "BaseException.__getattribute__" "BaseException" "__getattribute__" (.ref x) [.str "__class__" tk] [] _ (by decide +kernel) (by decide +kernel) below (PySem.F.args_bexc_ga (.ref x) (.str "__class__" tk)) ?_))
  unfold Builtin.«object.__getattribute__»
  refine wpAny_bind (wpAny_of_eq (a := ((Value.ref x : Value), [Value.str "__class__" tk])) (by first | rfl | (simp only [slotArgs]; rfl)) (wpAny_bind (wpAny_pure (wpAny_bind (ty.at (wpAny_bind ((PySem.W.looks_find (M := model prog w) kin J C.bound).at ?_)))))))
  show wpAny _ _ (holding [Value.builtin "object.__class__"] (call (.builtin "getset_descriptor.__get__") [.builtin "object.__class__", .ref x, .ref D]) >>= ret) _ _ _
  refine wpAny_bind (wpAny_holding (wpAny_call (PySem.W.class_get (s := ⟨hp, gs, dr, tk + 1, os⟩) (ox := ob) (od := od) kin J C.m (wpAny_pure ?_))))
  show wpAny _ _ (handedOut (.ref D)) _ _ _
  rw [PySem.W.handedOut_of (v := .ref D) rfl]
  first
    | exact wpAny_pure (wpAny_pure q)
    | exact wpAny_pure q
    | exact wpAny_pure (wpAny_bind (wpAny_pure (wpAny_pure q)))
theorem IsC.kit (C : IsC K D) : PySem.W.KitX K (.ref x) (.ref D) (fun h => PySem.W.InstAt h x ob D od) where
  ty := fun _ _ _ J => J.type
  it := fun _ h kin _ => by
    obtain ⟨cd, e⟩ := C.cls
    unfold PySem.W.clsIn at e
    split at e
    · rename_i c1 d1 cd1 sl1 ho
      intro A' Q' E' s' k q
      unfold isType loadHead
      exact wpAny_bind (wpAny_loadPart (k _ _ (kin _ _ ho)) (wpAny_pure q))
    · cases e
  ne := fun h tp dd its n sl kin htp => by
    obtain ⟨cd, e⟩ := C.cls
    refine Bool.eq_false_iff.mpr fun z => ?_
    obtain rfl := Value.ref.inj (beq_iff_eq.mp z)
    unfold PySem.W.clsIn at e
    split at e
    · rename_i c1 d1 cd1 sl1 ho
      have y := (kin _ _ ho).symm.trans htp
      cases y
    · cases e
  ca := fun kin J k => C.ask kin J k
end
/-- isinstance(e, C) -/
def rIsErrB (K : PySem.W.Frag) : List V → Hp → VK → Prop := fun xs H Q => ∃ (a D C d : Addr) (fs : List (Str × V)) (b : Bool), xs = [.ref a, .ref C] ∧ H a = some (ErrO D d a) ∧ H d = some (.xd fs) ∧ IsC K D ∧ PySem.W.kitOne K (.ref D) (.ref C) = some b ∧ Q (.bl b) H
theorem call_isErrB {X : Cx} : CallR X (.builtin "isinstance") (rIsErrB X.K) := by
  intro pp s σ H xs vus Q I r h
  obtain ⟨a, D, C, d, fs, b, rfl, ha, hd, T, e, q⟩ := h
  obtain ⟨u1, u2, rfl, r1, r2⟩ := vals2 r
  cases r1; cases r2
  obtain ⟨oe, fv, h1, hz, hfv⟩ := err_get I ha
  obtain ⟨mA, nsd, hr⟩ := (show ObjOk X.prog X.w H s.heap d (.xd fs) from I.hok d _ hd)
  obtain ⟨odd_, look_, lkd⟩ := lookIn_ns nsd
  have J : PySem.W.InstAt s.heap a oe D (some odd_) := ⟨h1, hz.1, by unfold PySem.W.notCls; rw [hfv] <;> rfl, by rw [hz.2]; exact look_⟩
  exact PySem.W.kia_one T.kit I.kIn J e (fun z => nomatch z) fun tk => ⟨.bl b, H, I.kept (t' := tk) fun _ _ z => z, rfl, q⟩
/-- t.index(y), flat things -/
def rTupIx (K : PySem.W.Frag) : V → List V → Hp → VK → Prop := fun x xs H Q => ∃ (p : Addr) (ys : List V) (y z : V) (j : Nat), x = .ref p ∧ xs = [y] ∧ SqT K H p ys ∧ flatV y = true ∧ ys.all flatV = true ∧ ys[j]? = some z ∧ eqV z y = true ∧ (∀ m z', m < j → ys[m]? = some z' → eqV z' y = false) ∧ Q (.int (j : Nat)) H
theorem mt_tup_indexF {X : Cx} : MtR X "tuple.index" (rTupIx X.K) := by
  intro pins s σ H x xs v us Q I rx rs h
  obtain ⟨p, ys, y, z, j, rfl, rfl, hq, fy, fys, hj, ej, no, q⟩ := h
  cases rx
  obtain ⟨u, rfl, ru⟩ := vals1 rs
  obtain ⟨its, r, ⟨⟨cls, dd, dt, sl⟩, ho, hc, n, hd⟩, hz⟩ := I.tuple hq
  simp only at hc hd
  subst hc hd
  have len := r.length
  have item : ∀ (m : Nat) (hm : m < its.toArray.size) (w : V), ys[m]? = some w → eqU y its.toArray[m] = eqV w y := fun m hm w hw => by
    obtain ⟨u', hu', ru'⟩ := r.get hw
    have e : its.toArray[m] = u' := by
      have := (List.getElem?_eq_some_iff.mp hu').2
      simpa using this
    rw [e, eqU_of ru' (List.all_eq_true.mp fys w (List.mem_of_getElem? hw))]
  have jlt : j < its.toArray.size := by
    have := (List.getElem?_eq_some_iff.mp hj).1
    rw [List.size_toArray]
    omega
  refine call_meets PySem.F.slot_tuple_index ⟨_, ho, rfl⟩ PySem.F.entry_tuple_index (PySem.F.args_tuple_index_2 _ _) (TI.tuple_indexAt p its.toArray n dd sl u (eqU y) j jlt ?_ ?_)
    ⟨ho, fun w hw => mem_eqAt ru fy r fys w (by simpa using hw), ⟨.int (j : Nat), H, I.tok _, ⟨_, rfl⟩, q⟩⟩
  · rw [item j jlt z hj]
    exact ej
  · intro m hm hmj
    have hm' : m < ys.length := by rw [List.size_toArray] at hm; omega
    rw [item m hm ys[m] (List.getElem?_eq_getElem hm')]
    exact no m _ hmj (List.getElem?_eq_getElem hm')
/-- xs.extend(t), t a tuple -/
theorem meets_extT (l : Addr) (its : Array Value) (n : Nat) (b : Addr) (more : Array Value) (n2 : Nat) (dd : Option Addr) (slo : Array (Option Value)) (h0 : ¬(!its.isEmpty && Builtin.List.listTooLong (its.size + more.size)) = true) (h1 : its.size ≤ sizeLine) (h2 : its.size + more.size ≤ sizeLine + 1) :
    Meets (Builtin.«list.extend» ⟨[.ref l, .ref b], []⟩) (fun _ R s => s.heap.get? l = some { cls := .type "list", dict := none, data := .seq its n, slots := #[] } ∧ s.heap.get? b = some { cls := .type "tuple", dict := dd, data := .seq more n2, slots := slo } ∧
      R (.ok (.ret Value.none)) { s with heap := s.heap.update l (Obj.mapSeq fun x => x ++ more), toks := s.toks }) :=
  .of_wp fun prog w A R s all => by
    obtain ⟨hp, gs, dr, tk, os⟩ := s
    obtain ⟨hl, hb, fin⟩ := all
    have k1 := AutoSeq1.idx_int; have k2 := AutoSeq1.sub_tuple_tuple; have k3 := AutoSeq1.sub_list_list; have k4 := AutoSeq1.sub_tuple_list; have k5 := AutoSeq1.sub_list_tuple
    have hz : (its ++ more).size ≤ sizeLine + 1 := by rw [Array.size_append]; exact h2
    wp_walk using (wpAny_updateSeq hl rfl (hz := h1) (_hz' := hz)), AutoSeq1.wpAny_loadPart' hl, AutoSeq1.wpAny_loadPart' hb
    exact ⟨_, rfl, fin⟩
def rExtT (K : PySem.W.Frag) : V → List V → Hp → VK → Prop := fun x vs H Q => ∃ l b xs zs, x = .ref l ∧ vs = [.ref b] ∧ H l = some (.lst xs) ∧ SqT K H b zs ∧ xs.length + zs.length ≤ sizeLine ∧ Q .non (upd H l (.lst (xs ++ zs)))
theorem mt_extT {X : Cx} : MtM X "list.extend" (rExtT X.K) := by
  intro pins s σ H x vs v us Q I rx rv h
  obtain ⟨l, b, xs, zs, rfl, rfl, hH, hB, hz, q⟩ := h
  cases rx
  obtain ⟨u, rfl, ru⟩ := rv.one
  cases ru
  obtain ⟨z, its, n, r, hl, e⟩ := I.lstM hH
  obtain ⟨more, r2, ⟨⟨cls, dd, dt, slo⟩, ho, hc, n2, hd⟩, _⟩ := I.tuple hB
  simp only at hc hd
  subst hc hd
  have l1 := r.length
  have l2 := r2.length
  have room : its.toArray.size + more.toArray.size ≤ sizeLine := by rw [List.size_toArray, List.size_toArray]; omega
  have short : ¬ (!its.toArray.isEmpty && Builtin.List.listTooLong (its.toArray.size + more.toArray.size)) = true := by
    rw [notLongL room, Bool.and_false]
    exact Bool.false_ne_true
  refine call_meets PySem.F.slot_list_extend ⟨_, e, rfl⟩ PySem.F.entry_list_extend (PySem.F.args_list_extend_2 _ _) (meets_extT l its.toArray n b more.toArray n2 dd slo short (by rw [List.size_toArray]; omega) (by omega)) ⟨e, ho, ?_⟩
  refine ⟨.non, _, I.lset (its' := its ++ more) hH e (by simp) (r.append r2) ?_, rfl, q⟩
  rw [List.length_append]
  omega
end VG

set_option maxRecDepth 100000
set_option maxHeartbeats 8000000
/-! K24: the text by places; what laws share. -/
namespace K24
open PySem PySem.Spec PyProof.Rows L2 LamX VG
def topS (i : Nat) : Stmt := PySem.Challenge.pw_clankernel_k24_whole_strings_copied_and.main.body.getD i (.Pass ⟨0, 0, 0, 0⟩)
abbrev sWithin : Stmt := topS 1
abbrev sIsWord : Stmt := topS 2
abbrev sIsAddress : Stmt := topS 3
abbrev sIsTupleOf : Stmt := topS 4
abbrev sCoreError : Stmt := topS 6
abbrev sIsBlock : Stmt := topS 12
abbrev sCopied : Stmt := topS 18
abbrev sFitting : Stmt := topS 19
abbrev sIsReach : Stmt := topS 20
abbrev sManyIn : Stmt := topS 21
abbrev sFitsBehind : Stmt := topS 22
abbrev sWordsOf : Stmt := topS 23
abbrev sRowWords : Stmt := topS 24
abbrev sNumbersTold : Stmt := topS 25
abbrev sIsOneOf : Stmt := topS 26
abbrev sBlockWord : Stmt := topS 27
abbrev sPot : Stmt := topS 29
abbrev sTake : Stmt := topS 30
abbrev sOf : Stmt := topS 31
abbrev sSome : Stmt := topS 32
abbrev sCells : Stmt := topS 33
abbrev sHeard : Stmt := topS 34
abbrev sMemory : Stmt := topS 35
abbrev sLCopied : Stmt := topS 36
abbrev sCopiesRight : Stmt := topS 37
abbrev sCopiesRefused : Stmt := topS 38
abbrev sSomeItems : Stmt := topS 39
abbrev sFirstOf : Stmt := topS 40
abbrev sFittingRight : Stmt := topS 41
abbrev sRight : Stmt := topS 42
abbrev sLaw : Stmt := topS 43
theorem scWithin : FnScope ["value", "low", "high"] ["value", "low", "high"] (defScope sWithin) := ⟨rfl, rfl, rfl, by decide +kernel, rfl, by decide +kernel, by decide +kernel⟩
section
variable {P : Program} {w : World} {K : PySem.W.Frag} {mg : Str → Option Value} {base : Heap}
def spWithin (K : PySem.W.Frag) : Sp := fun vs H Q _ => ∃ (v : V) (d : PyData) (lo hi : Int), vs = [v, .int lo, .int hi] ∧ Dk K H v d ∧ Q (.bl (isW d lo hi)) H
theorem ok_within {f : Addr} {fd : FuncData} {k : Nat} (F : Fun K "is_within" "is_within" sWithin f fd) (mt : mg "type" = none) (mi : mg "int" = none) : FnOk P w K mg base CX0 (k + 1) f fd ["value", "low", "high"] (spWithin K) := by
  refine F.ok scWithin (fun vs H Q E h => ?_) (fun cdv A outer s H vs Q E hr h => ?_)
  · obtain ⟨v, d, lo, hi, rfl, _⟩ := h
    rfl
  · obtain ⟨v, d, lo, hi, rfl, hd, q⟩ := h
    refine ⟨_, pss_one (ps_ret (pe_and (pe_cmpR op_isTyB (pe_callTy call_type1 (by rfl) mt (by decide +kernel) (pa_cons (pv 0) pa_nil)) (pe_bltn (v := .ty "int") (by rfl) mi (by decide +kernel) rfl) (nomark _))
      (pe_one (pe_chain op_le op_le (pv 1) (pv 0) (pv 2))))), ?_⟩
    refine ⟨v, rfl, v, tyName d, rfl, hd.ty, _, _, rfl, rfl, _, rfl, ?_⟩
    cases hd with
    | d0 h => exact iteF q
    | d1 h => exact iteF q
    | dp hd =>
      cases hd with
      | non => exact iteF q
      | bl b => exact iteF q
      | str x => exact iteF q
      | lst hs _ => exact iteF q
      | tup hs _ => exact iteF q
      | int i =>
        refine iteT ?_
        refine ⟨_, rfl, _, rfl, lo, i, rfl, rfl, _, rfl, ?_⟩
        by_cases c : lo ≤ i
        · rw [decide_eq_true c]
          refine iteT ⟨_, rfl, i, hi, rfl, rfl, ?_⟩
          have e : isW (.int i) lo hi = decide (i ≤ hi) := by simp [isW, c]
          rw [e] at q
          exact q
        · rw [decide_eq_false c]
          have e : isW (.int i) lo hi = false := by simp [isW, c]
          rw [e] at q
          exact iteF q
end
theorem scIsWord : FnScope ["value"] ["value"] (defScope sIsWord) := ⟨rfl, rfl, rfl, by decide +kernel, rfl, by decide +kernel, by decide +kernel⟩
section
variable {P : Program} {w : World} {K : PySem.W.Frag} {mg : Str → Option Value} {base : Heap}
def spIsWord (K : PySem.W.Frag) : Sp := fun vs H Q _ => ∃ (v : V) (d : PyData), vs = [v] ∧ Dk K H v d ∧ Q (.bl (isW d 0 65535)) H
theorem ok_isWord {f f1 : Addr} {fd fd1 : FuncData} {k : Nat} (F : Fun K "is_word" "is_word" sIsWord f fd) (F1 : Fun K "is_within" "is_within" sWithin f1 fd1) (b1 : Binds K fd1 ["value", "low", "high"] []) (g1 : mg "is_within" = some (.ref f1)) (mt : mg "type" = none) (mi : mg "int" = none) :
    FnOk P w K mg base CX0 (k + 2) f fd ["value"] (spIsWord K) := by
  have G : FnOk P w K mg base CX0 (k + 1) f1 fd1 ["value", "low", "high"] (spWithin K) := ok_within F1 mt mi
  refine F.ok scIsWord (fun vs H Q E h => ?_) (fun cdv A outer s H vs Q E hr h => ?_)
  · obtain ⟨v, d, rfl, _⟩ := h
    rfl
  · obtain ⟨v, d, rfl, hd, q⟩ := h
    refine ⟨_, pss_one (ps_ret (pe_call G hr (by rfl) g1 F1.kp b1 .nil pass0 (pa_cons (pv 0) (pa_cons pe_int (pa_cons pe_int pa_nil))))), ?_⟩
    exact ⟨v, rfl, v, d, 0, 65535, rfl, hd, q⟩
end
abbrev sInit : Stmt := inClass (topS 6) 0
theorem scInit : FnScope ["self", "value"] ["self", "value"] (defScope sInit) := ⟨rfl, rfl, rfl, by decide +kernel, rfl, by decide +kernel, by decide +kernel⟩
section
variable {P : Program} {w : World} {K : PySem.W.Frag} {mg : Str → Option Value} {base : Heap}
theorem ok_init {f : Addr} {fd : FuncData} {k : Nat} (F : Fun K "__init__" "CoreError.__init__" sInit f fd) : FnOk P w K mg base CX0 (k + 1) f fd ["self", "value"] (spInit K) := by
  refine F.ok scInit (fun vs H Q E h => ?_) (fun cdv A outer s H vs Q E hr h => ?_)
  · obtain ⟨a, C, v, rfl, _⟩ := h
    rfl
  · obtain ⟨a, C, v, rfl, ha, T, hn, q⟩ := h
    refine ⟨_, pss_one (ps_ost (pv 0) (pv 1)), ?_⟩
    exact ⟨v, rfl, .ref a, rfl, a, C, rfl, T, hn, .inl ⟨ha, fun dx n ne => q dx n ne⟩⟩
end
section
variable {X : Cx}
theorem ps_err {W : WX} {x : Str} {C fI : Addr} {fd : FuncData} {k : Nat} {e : Expr} {te : TE} {p pos pos2 : Pos} (hc : X.calm = true) (T : ErrC X.K C fI) (F : Fun X.K "__init__" "CoreError.__init__" sInit fI fd) (b : Binds X.K fd ["self", "value"] []) (hr : Room (k + 2) X.A) (tk : Takes X W)
    (hg : Gl X x) (hm : X.mg x = some (.ref C)) (he : PE X e te) (hdb : (x == ("__debug__" : Str)) = false := by decide) (hs : starEach (e :: []) X.env = (false, eval e X.env) :: starEach [] X.env := by rfl) :
    PS X (.Raise (some (.Call (.Name x p) [e] [] pos)) none pos2) (tErr X.K C W te) := by
  have G : FnOk X.prog X.w X.K X.mg X.base CX0 (k + 1) fI fd ["self", "value"] (spInit X.K) := ok_init F
  have R := ps_raise (pos := pos2) hc tk (pmk_oex (p := p) (pos := pos) (sp := spInit X.K) T.oex T.iC T.tI G hr b .nil pass0 hg hm (pa_cons he pa_nil hs) hdb hs)
  exact ⟨fun pins s σ H D I h => R.run pins s σ H D I h⟩
end
theorem scTake : FnScope ["pot", "upto", "digit", "prime", "blend"] ["pot", "upto"] (defScope sTake) := ⟨rfl, rfl, rfl, by decide +kernel, rfl, by decide +kernel, by decide +kernel⟩
theorem scPot : FnScope ["script", "place", "cell", "own", "small"] ["script", "place"] (defScope sPot) := ⟨rfl, rfl, rfl, by decide +kernel, rfl, by decide +kernel, by decide +kernel⟩
theorem scOf : FnScope ["pot", "some"] ["pot", "some"] (defScope sOf) := ⟨rfl, rfl, rfl, by decide +kernel, rfl, by decide +kernel, by decide +kernel⟩
theorem scCells : FnScope ["script", "most"] ["script", "most"] (defScope sCells) := ⟨rfl, rfl, rfl, by decide +kernel, rfl, by decide +kernel, by decide +kernel⟩
section
variable {P : Program} {w : World} {K : PySem.W.Frag} {mg : Str → Option Value} {base : Heap}
def spTake : Sp := fun vs H Q _ => ∃ (p : Addr) (u : Int) (n : Nat), vs = [.ref p, .int u] ∧ 0 < u ∧ u < 1000000 ∧ Pot H p n ∧ n < 1000000 ∧ ∀ d H', 0 ≤ d → d < u → Pot H' p (n + 1) → Same (wo H p) (wo H' p) → Q (.int d) H'
theorem ok_take {f : Addr} {fd : FuncData} {k : Nat} (F : Fun K "_law_take" "_law_take" sTake f fd) (mi : mg "int" = none) : FnOk P w K mg base CX0 (k + 1) f fd ["pot", "upto"] spTake := by
  refine F.ok scTake (fun vs H Q E h => ?_) (fun cdv A outer s H vs Q E hr h => ?_)
  · obtain ⟨p, u, n, rfl, _⟩ := h
    rfl
  · obtain ⟨p, u, n, rfl, hu0, hu1, ⟨a, b, c, hp, hb0, hb1, hc0, hc1⟩, hn, q⟩ := h
    refine ⟨_, pss_cons (ps_if (pt_cmpR op_gt (pe_ix ix_list (pv 0) pe_int (fun _ _ => rfl)) pe_int (nomark _))
        (pss_cons (ps_set (i := 2) scTake.nd rfl (.inl rfl) (pe_op op_mod (pe_callTy call_int1 (by rfl) mi (by decide +kernel) (pa_cons (pe_ix ix_list (pv 0) pe_int (fun _ _ => rfl)) pa_nil)) (pv 1)))
        (pss_cons (ps_asg (pe_op op_fdiv (pe_ix ix_list (pv 0) pe_int (fun _ _ => rfl)) (pv 1)) (pg_sub (pv 0) pe_int set_list))
        (pss_one (ps_ret (pv 2))))) pss_nil)
      (pss_cons (ps_asg (pe_op op_add (pe_ix ix_list (pv 0) pe_int (fun _ _ => rfl)) pe_int) (pg_sub (pv 0) pe_int set_list))
      (pss_cons (ps_set (i := 3) scTake.nd rfl (.inl rfl) (pe_ix ix_list (pe_lst (pa_cons pe_int (pa_cons pe_int (pa_cons pe_int (pa_cons pe_int (pa_cons pe_int pa_nil)))))) (pe_op op_mod (pe_callTy call_int1 (by rfl) mi (by decide +kernel) (pa_cons (pe_ix ix_list (pv 0) pe_int (fun _ _ => rfl)) pa_nil)) pe_int) (fun _ _ => rfl)))
      (pss_cons (ps_set (i := 4) scTake.nd rfl (.inl rfl) (pe_op op_mod (pe_callTy call_int1 (by rfl) mi (by decide +kernel) (pa_cons (pe_op op_pow (pe_callTy call_int1 (by rfl) mi (by decide +kernel) (pa_cons
          (pe_op op_add (pe_op op_add (pe_ix ix_list (pv 0) pe_int (fun _ _ => rfl)) (pe_op op_mul (pe_op op_mul pe_int (pe_ix ix_list (pv 0) pe_int (fun _ _ => rfl))) (pe_ix ix_list (pv 0) pe_int (fun _ _ => rfl)))) pe_int) pa_nil)) pe_int) pa_nil)) (pv 3)))
      (pss_cons (ps_set (i := 4) scTake.nd rfl (.inl rfl) (pe_op op_mod (pe_callTy call_int1 (by rfl) mi (by decide +kernel) (pa_cons (pe_op op_mul (pv 4)
          (pe_op op_add (pe_op op_mod (pe_callTy call_int1 (by rfl) mi (by decide +kernel) (pa_cons (pv 4) pa_nil)) pe_int) (pe_op op_mul pe_int (pe_ix ix_list (pv 0) pe_int (fun _ _ => rfl))))) pa_nil)) pe_int))
      (pss_one (ps_ret (pe_op op_mod (pe_callTy call_int1 (by rfl) mi (by decide +kernel) (pa_cons (pe_op op_fdiv (pv 4) pe_int) pa_nil)) (pv 1)))))))), ?_⟩
    have i0 : ∀ {x y z : Int}, atI [V.int x, V.int y, V.int z] 0 = some (.int x) := at_of (j := 0) rfl rfl
    have i1 : ∀ {x y z : Int}, atI [V.int x, V.int y, V.int z] 1 = some (.int y) := at_of (j := 1) rfl rfl
    have i2 : ∀ {x y z : Int}, atI [V.int x, V.int y, V.int z] 2 = some (.int z) := at_of (j := 2) rfl rfl
    refine ⟨.ref p, rfl, p, _, 0, _, rfl, rfl, SqL.of hp, i0, a, 0, rfl, rfl, _, rfl, ite2 (fun e => ?_) (fun e => ?_)⟩
    · have ha : 0 < a := of_decide_eq_true e
      refine ⟨.ref p, rfl, p, _, 0, _, rfl, rfl, SqL.of hp, i0, .inl ⟨a, rfl, _, rfl, a, u, rfl, rfl, hu0, ?_⟩⟩
      refine ⟨.ref p, rfl, p, _, 0, _, rfl, rfl, SqL.of hp, i0, _, rfl, a, u, rfl, rfl, ⟨hu0, by omega⟩, ?_⟩
      refine ⟨.ref p, rfl, p, _, 0, 0, rfl, rfl, hp, rfl, _, rfl, ?_⟩
      refine q (a % u) _ (Int.emod_nonneg _ (by omega)) (Int.emod_lt_of_pos _ hu0) ⟨a / u, b, c, upd_same, hb0, hb1, hc0, by omega⟩ ?_
      rw [wo_upd]
      exact Same.refl _
    · refine ⟨.ref p, rfl, p, _, 2, _, rfl, rfl, SqL.of hp, i2, c, 1, rfl, rfl, ?_⟩
      refine ⟨.ref p, rfl, p, _, 2, 2, rfl, rfl, hp, rfl, ?_⟩
      have hp2 : upd H p (.lst ([V.int a, .int b, .int c].set 2 (.int (c + 1)))) p = some (.lst [.int a, .int b, .int (c + 1)]) := upd_same
      refine ⟨by show 5 ≤ sizeLine; decide, fun l nl => ?_⟩
      have hpl : p ≠ l := ne_of_none hp2 nl
      have hp3 : upd (upd H p (.lst ([V.int a, .int b, .int c].set 2 (.int (c + 1))))) l (.lst [.int 2147483647, .int 2147483629, .int 2147483587, .int 2147483579, .int 2147483563]) p = some (.lst [.int a, .int b, .int (c + 1)]) := by rw [upd_ne hpl]; exact hp2
      have hprime : ∃ pr : Int, atI [V.int 2147483647, .int 2147483629, .int 2147483587, .int 2147483579, .int 2147483563] ((c + 1) % 5) = some (.int pr) ∧ 0 < pr ∧ pr < 2147483648 := by
        have h5 : (c + 1) % 5 = 0 ∨ (c + 1) % 5 = 1 ∨ (c + 1) % 5 = 2 ∨ (c + 1) % 5 = 3 ∨ (c + 1) % 5 = 4 := by omega
        rcases h5 with h | h | h | h | h <;> rw [h]
        · exact ⟨_, at_of (j := 0) rfl rfl, by decide, by decide⟩
        · exact ⟨_, at_of (j := 1) rfl rfl, by decide, by decide⟩
        · exact ⟨_, at_of (j := 2) rfl rfl, by decide, by decide⟩
        · exact ⟨_, at_of (j := 3) rfl rfl, by decide, by decide⟩
        · exact ⟨_, at_of (j := 4) rfl rfl, by decide, by decide⟩
      obtain ⟨pr, hpr, pr0, pr1⟩ := hprime
      refine ⟨.ref p, rfl, p, _, 2, _, rfl, rfl, SqL.of hp3, i2, .inl ⟨c + 1, rfl, c + 1, 5, rfl, rfl, (by show (0 : Int) < 5; decide), ?_⟩⟩
      refine ⟨l, _, (c + 1) % 5, .int pr, rfl, rfl, SqL.of upd_same, hpr, ?_⟩
      -- blend
      refine ⟨.ref p, rfl, p, _, 1, _, rfl, rfl, SqL.of hp3, i1, .ref p, rfl, p, _, 2, _, rfl, rfl, SqL.of hp3, i2, 107345, c + 1, rfl, rfl, .inl ⟨by decide, by decide⟩, ?_⟩
      have hcc : 0 ≤ 107345 * (c + 1) ∧ 107345 * (c + 1) ≤ 107345 * 1000000 := by omega
      refine ⟨.ref p, rfl, p, _, 2, _, rfl, rfl, SqL.of hp3, i2, 107345 * (c + 1), c + 1, rfl, rfl, .inl ⟨by omega, by omega⟩, ?_⟩
      have hsq : 0 ≤ 107345 * (c + 1) * (c + 1) ∧ 107345 * (c + 1) * (c + 1) ≤ 107345 * 1000000 * 1000000 := ⟨Int.mul_nonneg hcc.1 (by omega), Int.mul_le_mul hcc.2 (by omega) (by omega) (by omega)⟩
      refine ⟨b, 107345 * (c + 1) * (c + 1), rfl, rfl, b + 107345 * (c + 1) * (c + 1), 1772, rfl, rfl, .inl ⟨_, rfl, ?_⟩⟩
      refine ⟨_, 3, rfl, rfl, ⟨by decide, by decide, by omega⟩, .inl ⟨_, rfl, _, rfl, _, pr, rfl, rfl, pr0, ?_⟩⟩
      generalize hz : (b + 107345 * (c + 1) * (c + 1) + 1772) ^ (3 : Int).toNat = z
      have hm1 : 0 ≤ z % pr := Int.emod_nonneg _ (by omega)
      have hm2 : z % pr < pr := Int.emod_lt_of_pos _ pr0
      refine ⟨_, rfl, _, rfl, .inl ⟨_, rfl, _, 12335, rfl, rfl, (by show (0 : Int) < 12335; decide), ?_⟩⟩
      refine ⟨.ref p, rfl, p, _, 2, _, rfl, rfl, SqL.of hp3, i2, 402, c + 1, rfl, rfl, .inl ⟨by decide, by decide⟩, _, _, rfl, rfl, ?_⟩
      refine ⟨z % pr, _, rfl, rfl, .inl ⟨by omega, by omega⟩, .inl ⟨_, rfl, _, 2305843009213693907, rfl, rfl, (by show (0 : Int) < 2305843009213693907; decide), ?_⟩⟩
      refine ⟨_, rfl, _, 167, rfl, rfl, ⟨by decide, by decide⟩, .inl ⟨_, rfl, _, rfl, _, u, rfl, rfl, hu0, ?_⟩⟩
      refine q _ _ (Int.emod_nonneg _ (by omega)) (Int.emod_lt_of_pos _ hu0) ⟨a, b, c + 1, hp3, hb0, hb1, by omega, by omega⟩ fun x o e => ?_
      have hx : x ≠ p := fun z => by
        rw [z, wo_same] at e
        cases e
      rw [wo_ne hx] at e ⊢
      have nl2 := nl
      rw [upd_ne hpl.symm] at nl2
      rw [upd_ne (fun z => by rw [z, nl2] at e; cases e), upd_ne hx]
      exact e
/-- some[..]: any item of it -/
def spOf (K : PySem.W.Frag) : Sp := fun vs H Q _ => ∃ (p l : Addr) (xs : List V) (n : Nat), vs = [.ref p, .ref l] ∧ SqL K (wo H p) l xs ∧ xs ≠ [] ∧ xs.length ≤ 1000 ∧ Pot H p n ∧ n < 1000000 ∧ ∀ x ∈ xs, ∀ H', Pot H' p (n + 1) → Same (wo H p) (wo H' p) → Q x H'
theorem ok_of {f f1 : Addr} {fd fd1 : FuncData} {k : Nat} (F : Fun K "_law_of" "_law_of" sOf f fd) (G1 : FnOk P w K mg base CX0 (k + 1) f1 fd1 ["pot", "upto"] spTake) (k1 : PySem.W.keepIn K (.ref f1) = true) (b1 : Binds K fd1 ["pot", "upto"] []) (g1 : mg "_law_take" = some (.ref f1)) (ml : mg "len" = none) :
    FnOk P w K mg base CX0 (k + 2) f fd ["pot", "some"] (spOf K) := by
  refine F.ok scOf (fun vs H Q E h => ?_) (fun cdv A outer s H vs Q E hr h => ?_)
  · obtain ⟨p, l, xs, n, rfl, _⟩ := h
    rfl
  · obtain ⟨p, l, xs, n, rfl, hl, hne, hlen, hp, hn, q⟩ := h
    refine ⟨_, pss_one (ps_ret (pe_ix ix_list (pv 1) (pe_call G1 hr (by rfl) g1 k1 b1 .nil pass0 (pa_cons (pv 0) (pa_cons (pe_callB call_len_seq (by rfl) ml PySem.boot_len (pa_cons (pv 1) pa_nil)) pa_nil))) (fun _ _ => rfl))), ?_⟩
    have h0 : 0 < xs.length := List.length_pos_iff.mpr hne
    refine ⟨.ref l, rfl, .ref p, rfl, .ref l, rfl, l, xs, rfl, .inl (wo_le.seq hl), ?_⟩
    refine ⟨p, (xs.length : Nat), n, rfl, by omega, by omega, hp, hn, fun d H' d0 d1 hp' s' => ?_⟩
    have ed : d = ((d.toNat : Nat) : Int) := by omega
    have hd : d.toNat < xs.length := by omega
    exact ⟨l, xs, d, xs[d.toNat], rfl, rfl, wo_le.seq (s'.seq hl), at_of ed (List.getElem?_eq_getElem hd), q _ (List.getElem_mem hd) H' hp' s'⟩
end
section
variable {P : Program} {w : World} {K : PySem.W.Frag} {mg : Str → Option Value} {base : Heap}
/-- the cells: [0], or [0, 1] -/
def spCells (K : PySem.W.Frag) : Sp := fun vs H Q _ => ∃ (a : Addr) (ns : List Int), vs = [.ref a, .int 1] ∧ SqL K H a (ns.map V.int) ∧ ns.length ≤ 63 ∧ ∀ (q : Addr) (m : Nat), m ≤ 1 → H q = none → Q (.ref q) (upd H q (.lst ((List.range m).map fun i => V.int (i : Nat))))
theorem ok_cells {f : Addr} {fd : FuncData} {k : Nat} (F : Fun K "_law_cells" "_law_cells" sCells f fd) (ml : mg "list" = none) (mr : mg "range" = none) (mx : mg "max" = none) (mn : mg "min" = none) (me : mg "len" = none) : FnOk P w K mg base CX0 (k + 1) f fd ["script", "most"] (spCells K) := by
  refine F.ok scCells (fun vs H Q E h => ?_) (fun cdv A outer s H vs Q E hr h => ?_)
  · obtain ⟨a, ns, rfl, _⟩ := h
    rfl
  · obtain ⟨a, ns, rfl, hs, hn, q⟩ := h
    refine ⟨_, pss_one (ps_ret (pe_listRg rfl (by rfl) ml (prg_1 (by rfl) mr (pe_callB (call_max2 rfl) (by rfl) mx (by decide +kernel) (pa_cons pe_int (pa_cons (pe_callB (call_min2 rfl) (by rfl) mn (by decide +kernel) (pa_cons (pv 1) (pa_cons (pe_callB call_len_seq (by rfl) me PySem.boot_len (pa_cons (pv 0) pa_nil)) pa_nil))) pa_nil)))))), ?_⟩
    refine ⟨_, rfl, .ref a, rfl, a, _, rfl, .inl hs, 1, _, rfl, 1, _, rfl, _, rfl, ?_⟩
    have key : ∀ x : Int, 0 ≤ x → x ≤ 1 → RgOk 0 x ∧ ∀ q_1, H q_1 = none → Q (.ref q_1) (upd H q_1 (.lst (rgV 0 x))) := fun x h0 h2 => by
      refine ⟨RgOk.of_le (by omega) (by omega) (by omega) (by omega), fun p hp => ?_⟩
      have e : rgV 0 x = (List.range x.toNat).map fun i => V.int (i : Nat) := by
        unfold rgV
        rw [Int.sub_zero]
        simp
      rw [e]
      exact q p x.toNat (by omega) hp
    have l63 : ((((ns.map V.int).length : Nat)) : Int) ≥ 0 := Int.natCast_nonneg _
    refine key _ ?_ ?_ <;> split <;> (try split) <;> omega
/-- a new pot of a cell -/
def spPot (K : PySem.W.Frag) : Sp := fun vs H Q _ => ∃ (a : Addr) (ns : List Int) (i : Nat), vs = [.ref a, .int (i : Nat)] ∧ SqL K H a (ns.map V.int) ∧ ns.length ≤ 63 ∧ i ≤ 2 ∧ ∀ (q : Addr) (H' : Hp), H q = none → Same H H' → Pot H' q 0 → Q (.ref q) H'
theorem ok_pot {f : Addr} {fd : FuncData} {k : Nat} (F : Fun K "_law_pot" "_law_pot" sPot f fd) (ml : mg "len" = none) (ms : mg "sum" = none) (mi : mg "int" = none) (ma : mg "abs" = none) : FnOk P w K mg base CX0 (k + 1) f fd ["script", "place"] (spPot K) := by
  refine F.ok scPot (fun vs H Q E h => ?_) (fun cdv A outer s H vs Q E hr h => ?_)
  · obtain ⟨a, ns, i, rfl, _⟩ := h
    rfl
  · obtain ⟨a, ns, i, rfl, hs, hn, hi, q⟩ := h
    refine ⟨_, pss_cons (ps_set (i := 2) scPot.nd rfl (.inl rfl) (pe_ifExp (pt_cmpR op_lt (pv 1) (pe_callB call_len_seq (by rfl) ml PySem.boot_len (pa_cons (pv 0) pa_nil)) (nomark _)) (pe_ix ix_list (pv 0) (pv 1) (fun _ _ => rfl))
        (pe_op op_add (pe_op op_add (pe_op op_mod (pe_callB (cr_sum rfl) (by rfl) ms (by decide +kernel) (pa_cons (pe_slice sl_list (pv 0) po_none (po_some pe_int)) pa_nil)) pe_int) (pe_op op_mul pe_int (pv 1))) pe_int)))
      (pss_cons (ps_set (i := 3) scPot.nd rfl (.inl rfl) (pe_op op_mul (pe_op op_mod (pe_callTy call_int1 (by rfl) mi (by decide +kernel) (pa_cons (pe_callB call_abs (by rfl) ma (by decide +kernel) (pa_cons (pv 2) pa_nil)) pa_nil)) (pe_op op_powB (pe_op op_pow pe_int pe_int) pe_int))
        (pe_callTy call_int1 (by rfl) mi (by decide +kernel) (pa_cons (pe_cmpR op_ge (pe_callB call_abs (by rfl) ma (by decide +kernel) (pa_cons (pv 2) pa_nil)) (pe_op op_pow pe_int pe_int) (nomark _)) pa_nil))))
      (pss_cons (ps_set (i := 4) scPot.nd rfl (.inl rfl) (pe_op op_mod (pe_callTy call_int1 (by rfl) mi (by decide +kernel) (pa_cons (pv 2) pa_nil)) pe_int))
      (pss_one (ps_ret (pe_lst (pa_cons (pv 3) (pa_cons (pe_op op_mod (pe_callTy call_int1 (by rfl) mi (by decide +kernel) (pa_cons (pe_op op_add (pe_op op_add (pe_op op_mul (pv 4) pe_int) (pe_op op_mul (pe_op op_mul pe_int (pv 1)) (pv 1))) pe_int) pa_nil)) pe_int) (pa_cons pe_int pa_nil)))))))), ?_⟩
    refine st_seq (st_setH (PV := fun v H' => ∃ c : Int, v = .int c ∧ Same H H') (fun Q1 q1 => ?_) ?_)
    · refine ⟨_, rfl, .ref a, rfl, a, _, rfl, .inl hs, (i : Nat), ((ns.map V.int).length : Nat), rfl, rfl, _, rfl, ite2 (fun e => ?_) (fun e => ?_)⟩
      · have hlt : i < (ns.map V.int).length := by
          have := of_decide_eq_true e
          omega
        have hlt2 : i < ns.length := by rw [List.length_map] at hlt; exact hlt
        refine ⟨.ref a, rfl, _, rfl, a, _, (i : Nat), .int ns[i], rfl, rfl, hs, at_of rfl (by rw [List.getElem?_map, List.getElem?_eq_getElem hlt2]; rfl), ?_⟩
        exact q1 _ _ ⟨_, rfl, Same.refl H⟩
      · refine ⟨.ref a, rfl, ?_⟩
        unfold tNoPart
        refine ⟨((1 : Nat) : Int), rfl, a, _, rfl, hs, fun l nl => ?_⟩
        have e1 : cutV (ns.map V.int) none (some ((1 : Nat) : Int)) = (ns.take 1).map V.int := by rw [cut_take, List.map_take]
        refine ⟨l, ns.take 1, rfl, SqL.of (by rw [upd_same, ← e1]), ?_⟩
        refine ⟨_, 1000003, rfl, rfl, (by show (0 : Int) < 1000003; decide), _, rfl, 1987, (i : Nat), rfl, rfl, .inl ⟨by decide, by decide⟩, _, _, rfl, rfl, _, 809, rfl, rfl, ?_⟩
        exact q1 _ _ ⟨_, rfl, same_upd nl⟩
    rintro v H1 ⟨c, rfl, s1⟩
    refine ⟨_, rfl, c, rfl, .inl ⟨_, rfl, 10, 60, rfl, rfl, ⟨by decide, by decide, by decide⟩, _, 5, rfl, rfl, ⟨by decide, by decide +kernel⟩, _, _, rfl, rfl, (by show (0 : Int) < _; decide +kernel), ?_⟩⟩
    refine ⟨_, rfl, c, rfl, 10, 18, rfl, rfl, ⟨by decide, by decide, by decide⟩, _, _, rfl, rfl, .inr ⟨_, rfl, _, _, rfl, rfl, .inr ?_, ?_⟩⟩
    · exact (by decide : ∀ z : Bool, -(2 ^ 64) < (if z = true then (1 : Int) else 0) ∧ (if z = true then (1 : Int) else 0) < 2 ^ 64) _
    refine ⟨_, rfl, .inl ⟨c, rfl, c, 2305843009213693951, rfl, rfl, (by show (0 : Int) < 2305843009213693951; decide), ?_⟩⟩
    refine ⟨_, rfl, _, rfl, _, 84713, rfl, rfl, .inr ⟨by decide, by decide⟩, _, rfl, 12065, (i : Nat), rfl, rfl, .inl ⟨by decide, by decide⟩, _, rfl, _, (i : Nat), rfl, rfl, .inr ⟨by omega, by omega⟩, ?_⟩
    refine ⟨_, _, rfl, rfl, _, 996, rfl, rfl, .inl ⟨_, rfl, _, 2305843009213693921, rfl, rfl, (by show (0 : Int) < 2305843009213693921; decide), ?_⟩⟩
    refine ⟨by show 3 ≤ sizeLine; decide, fun p hp => ?_⟩
    refine q p _ (s1.free hp) (s1.trans (same_upd hp)) ⟨_, _, 0, upd_same, Int.emod_nonneg _ (by decide), ?_, by decide, by decide⟩
    have := Int.emod_lt_of_pos (c % 2305843009213693951 * 84713 + 12065 * (i : Int) * (i : Int) + 996) (show (0 : Int) < 2305843009213693921 by decide)
    omega
end
theorem scSome : FnScope ["pot", "pool", "many", "left", "found", "lap"] ["pot", "pool", "many"] (defScope sSome) := ⟨rfl, rfl, rfl, by decide +kernel, rfl, by decide +kernel, by decide +kernel⟩
section
variable {P : Program} {w : World} {K : PySem.W.Frag} {mg : Str → Option Value} {base : Heap}
/-- so many of a pool -/
def spSome (K : PySem.W.Frag) : Sp := fun vs H Q _ => ∃ (p l : Addr) (xs : List V) (m n : Nat), vs = [.ref p, .ref l, .int (m : Nat)] ∧ SqL K (wo H p) l xs ∧ m ≤ xs.length ∧ xs.length ≤ 1000 ∧ Pot H p n ∧ n + m < 1000000 ∧
  ∀ H' q ys, Pot H' p (n + m) → Same (wo H p) (wo H' p) → wo H' p q = some (.lst ys) → ys.length = m → (∀ y ∈ ys, y ∈ xs) → Q (.ref q) H'
theorem ok_some {f f1 : Addr} {fd fd1 : FuncData} {k : Nat} (F : Fun K "_law_some" "_law_some" sSome f fd) (G1 : FnOk P w K mg base CX0 (k + 1) f1 fd1 ["pot", "upto"] spTake) (k1 : PySem.W.keepIn K (.ref f1) = true) (b1 : Binds K fd1 ["pot", "upto"] []) (g1 : mg "_law_take" = some (.ref f1))
    (ml : mg "list" = none) (mr : mg "range" = none) (me : mg "len" = none) : FnOk P w K mg base CX0 (k + 2) f fd ["pot", "pool", "many"] (spSome K) := by
  refine F.ok scSome (fun vs H Q E h => ?_) (fun cdv A outer s H vs Q E hr h => ?_)
  · obtain ⟨p, l, xs, m, n, rfl, _⟩ := h
    rfl
  · obtain ⟨p, l, xs, m, n, rfl, hl, hm, hlen, hp, hn, q⟩ := h
    refine ⟨_, pss_cons (ps_par (i := 3) (j := 4) (by rfl) scSome.nd rfl rfl (by decide) rfl rfl (pa_cons (pe_callTy call_list_of (by rfl) ml (by decide +kernel) (pa_cons (pv 1) pa_nil)) (pa_cons (pe_lst pa_nil) pa_nil)) (by rfl))
      (pss_cons (ps_for PassesOwn.never rfl (pi_range1 (by rfl) mr (pa_cons (pv 2) pa_nil)) (pg_name (i := 5) scSome.nd rfl (.inl rfl))
        (pss_one (ps_expr (pe_bm PySem.F.plainAttrs_list PySem.F.slot_list_append PySem.F.type_list_append mt_append (pv 4) (pa_cons (pe_bm PySem.F.plainAttrs_list PySem.F.slot_list_pop PySem.F.type_list_pop mt_popAt (pv 3) (pa_cons
          (pe_call G1 hr (by rfl) g1 k1 b1 .nil pass0 (pa_cons (pv 0) (pa_cons (pe_callB call_len_seq (by rfl) me PySem.boot_len (pa_cons (pv 3) pa_nil)) pa_nil))) pa_nil)) pa_nil)))))
      (pss_one (ps_ret (pv 4)))), ?_⟩
    refine ⟨.ref l, rfl, l, xs, rfl, .inl (wo_le.seq hl), fun L nL => ?_⟩
    have s1 := same_upd (o := .lst xs) nL
    refine ⟨Nat.zero_le _, fun Fo nF => ⟨.ref L, .ref Fo, rfl, ?_⟩⟩
    have s2 := s1.trans (same_upd (o := .lst []) nF)
    have nF0 : H Fo = none := s1.free nF
    obtain ⟨pa, pb, pc, epp, _⟩ := id hp
    have pL : L ≠ p := (ne_of_none epp nL).symm
    have pF : Fo ≠ p := (ne_of_none epp nF0).symm
    have LF : L ≠ Fo := ne_of_none upd_same nF
    refine ⟨_, rfl, (m : Nat), rfl, by omega, by omega, for_range (n := m) (fun i σ H' => ∃ y5 ls fs, σ = [some (.ref p), some (.ref l), some (.int (m : Nat)), some (.ref L), some (.ref Fo), y5] ∧ Pot H' p (n + i) ∧ Same (wo H p) (wo H' p) ∧
      H' L = some (.lst ls) ∧ H' Fo = some (.lst fs) ∧ ls.length = xs.length - i ∧ fs.length = i ∧ (∀ y ∈ ls, y ∈ xs) ∧ ∀ y ∈ fs, y ∈ xs) ⟨none, xs, [], rfl, hp.same s2, wo_same_of s2, ?_, upd_same, by omega, rfl, fun y h => h, fun y h => by cases h⟩ (fun i σ H' hi hP => ?_) fun σ H' hP => ?_⟩
    · rw [upd_ne LF]
      exact upd_same
    · obtain ⟨y5, ls, fs, rfl, hp', sm, hL, hF, ll, lf, al, af⟩ := hP
      refine ⟨.ref Fo, rfl, .inl ⟨rfl, _, SqL.of hF⟩, .ref L, rfl, .inl ⟨rfl, _, SqL.of hL⟩, .ref p, rfl, .ref L, rfl, L, ls, rfl, .inl (SqL.of hL), ?_⟩
      refine ⟨p, (ls.length : Nat), n + i, rfl, by omega, by omega, hp', by omega, fun d H2 d0 d1 hp2 sd => ?_⟩
      have hL2 : H2 L = some (.lst ls) := wo_le _ _ (sd _ _ (wo_at hL pL))
      have hF2 : H2 Fo = some (.lst fs) := wo_le _ _ (sd _ _ (wo_at hF pF))
      have hd : d.toNat < ls.length := by omega
      have eix : ixN ls.length d = some d.toNat := by
        unfold ixN
        rw [if_pos d0, if_pos d1]
      refine ⟨L, ls, d, d.toNat, ls[d.toNat], rfl, rfl, hL2, by omega, by omega, (ixN_seq eix).1, List.getElem?_eq_getElem hd, ?_⟩
      refine ⟨Fo, _, _, rfl, rfl, (by rw [upd_ne LF.symm]; exact hF2), small1000 (by omega), ?_⟩
      refine ⟨_, ls.eraseIdx d.toNat, fs ++ [ls[d.toNat]], rfl, ?_, wo_updNew (wo_updNew (sm.trans sd) nL) nF0, ?_, upd_same, ?_, ?_, ?_, ?_⟩
      · obtain ⟨a1, b1', c1, e1, r1⟩ := hp2
        exact ⟨a1, b1', c1, (by rw [upd_ne pF.symm, upd_ne pL.symm]; exact e1), r1⟩
      · rw [upd_ne LF]
        exact upd_same
      · rw [List.length_eraseIdx, if_pos hd]
        omega
      · rw [List.length_append, lf]
        rfl
      · exact fun y hy => al y (List.mem_of_mem_eraseIdx hy)
      · intro y hy
        rcases List.mem_append.mp hy with h | h
        · exact af y h
        · rw [List.mem_singleton.mp h]
          exact al _ (List.getElem_mem hd)
    · obtain ⟨y5, ls, fs, rfl, hp', sm, hL, hF, ll, lf, al, af⟩ := hP
      exact ⟨_, rfl, q H' Fo fs hp' sm (wo_at hF pF) lf af⟩
end
section
variable {X : Cx} {pins : List (Addr × Obj)} {σ : L2.St} {H : Hp} {s : Shared}
theorem scHeard : FnScope ["call", "caught", "back", "error"] ["call"] (defScope sHeard) := ⟨rfl, rfl, rfl, by decide +kernel, rfl, by decide +kernel, by decide +kernel⟩
theorem pe_heard {ι : Type} {D : ι → LamD} {tb : ι → XK → TE} {te : TE} {g CS : Addr} {fd : FuncData} {e : Expr} {k : Nat} {p pos : Pos} (F : Fun X.K "_law_heard" "_law_heard" sHeard g fd) (b : L2.Binds X.K fd ["call"] []) (hg : Gl X "_law_heard") (hm : X.mg "_law_heard" = some (.ref g))
    (gS : X.mg "CoreError" = some (.ref CS)) (hr : Room (k + 2) X.A) (he : PE X e te) (L : ∀ j, LamS X.env.scope (D j).scope)
    (hbind : ∀ (j : ι) (pm cv ctv : Value), bindArgs (PySem.W.kla_fn "<lambda>" (X.env.qual ++ "<lambda>") (D j).params (D j).body (D j).scope (cloFrom X.env.cells (D j).scope.names []) pm cv ctv) ⟨[], []⟩ = pure [])
    (hbody : ∀ (j : ι) (A : Around) (outer : List Env) (s : Shared) (H : Hp) (E : XK) (f c' : Addr), Room k (A.deeper (lamEnv X (D j).scope s.heap.objs.size f c')) → PE (lamCx X A outer s H E (D j).scope f c') (D j).body (tb j E))
    (hs : starEach [e] X.env = (false, eval e X.env) :: starEach [] X.env := by rfl) (hpl : (backTo pos (starEach [] X.env)).any (·.1) = false := by rfl) :
    PE X (.Call (.Name "_law_heard" p) [e] [] pos) (tHeard X CS D tb te) := by
  obtain ⟨oc, od, kV, doc, pm, an, cdv, ct, osl, rfl, lk, hcd⟩ := F.ex
  refine ⟨fun pins s σ H Q I h => wpAny_Call_Name_kw (ld_glob I hg hm ?_ (by decide))⟩
  refine PySem.W.callWith_K (h₀ := X.base) I.ok.mod.kin F.kp ?_ hs hpl
  rw [hs] at *
  refine Calls.spliced_cons (thn (he.run pins s σ H _ I h) fun u s1 ⟨v, H1, I1, r1, j, f, ev, hl, th⟩ => Calls.spliced_nil ⟨I1.kIn, ?_⟩)
  subst ev
  obtain rfl : u = Value.ref f := r1
  have rc : codeAny (model X.prog X.w) X.A (.call (.ref g) ⟨[.ref f], []⟩) (CR CX0 X.stack X.prog X.w H1 s1 Q (fun _ _ _ => False)) s1 := by
    refine run_ofS (N := ["call", "caught", "back", "error"]) (ps := ["call"]) (us := [.ref f]) (vs := [.ref f]) lk hcd scHeard hr I1.env0 (b s1 [.ref f] I1.kIn rfl) (.cons rfl .nil) rfl fun hr' => ?_
    have hge : (defScope sHeard).names.lookup (Str.ofString "CoreError") = some NameKind.globalImplicit := by decide +kernel
    refine ⟨_, PSs.nox (pss_cons (ps_asg (pe_tup (pa_cons pe_non (pa_cons pe_non pa_nil))) (pg_tup (by rfl) (pgs_cons (pg_name (i := 1) scHeard.nd rfl (.inl rfl)) (pgs_cons (pg_name (i := 2) scHeard.nd rfl (.inl rfl)) pgs_nil))))
      (pss_cons (ps_heard (c := .ref CS) (i := 3) rfl rfl scHeard.nd rfl rfl ⟨hge, by decide, .inl gS⟩
        (fun W pn xe tk _ => pss_one (ps_set (i := 2) scHeard.nd rfl (.inl rfl) (pe_actT (CXg := CX0) (Eg := fun _ _ _ => False) (i := 0) I1 (L j) (hbind j) tk hr' (fun A outer s H E c' hr2 => hbody j A outer s H E f c' hr2) rfl (.inl rfl))))
        (fun a oe cls d pn _ _ => pss_one (ps_set (i := 1) scHeard.nd rfl (.inl rfl) (pv 3))))
      (pss_one (ps_ret (pe_tup (pa_cons (pv 1) (pa_cons (pv 2) pa_nil))))))), ?_⟩
    refine ⟨by show 2 ≤ sizeLine; decide, fun pn nn => ⟨pn, [.non, .non], rfl, SqT.of upd_same, rfl, .non, [.non], rfl, .non, [], rfl, rfl, rfl, hl.ext (ExtN.of (same_upd nn)), th _ (same_upd nn) _ _ (fun cls d H' hE => ?_) fun v H' hB => ?_⟩⟩
    · obtain ⟨h1, C, dd, h2, h3, h4⟩ := hE
      refine ⟨h1, C, dd, h2, h3, fun a na => ?_⟩
      exact ⟨_, rfl, fun na2 => ⟨_, rfl, _, rfl, by show 2 ≤ sizeLine; decide, fun p hp => h4 a p na hp⟩⟩
    · exact ⟨_, rfl, _, rfl, by show 2 ≤ sizeLine; decide, fun p hp => hB p hp⟩
  refine wpAny_call (codeAny_mono rc fun r s2 hq => ?_)
  cases r with
  | error e => exact (show False from hq).elim
  | ok fl => cases fl with
    | ret u => exact I1.after hq
    | next => exact False.elim hq
    | brk => exact False.elim hq
    | cont => exact False.elim hq
end
end K24

set_option maxRecDepth 100000
set_option maxHeartbeats 8000000
/-! k24: small looks of the program. -/
namespace K24
open PySem PySem.Spec PyProof.Rows L2 LamX VG
theorem scIsAddress : FnScope ["value"] ["value"] (defScope sIsAddress) := ⟨rfl, rfl, rfl, by decide +kernel, rfl, by decide +kernel, by decide +kernel⟩
theorem scIsTupleOf : FnScope ["value", "many"] ["value", "many"] (defScope sIsTupleOf) := ⟨rfl, rfl, rfl, by decide +kernel, rfl, by decide +kernel, by decide +kernel⟩
theorem scIsBlock : FnScope ["value", "first", "size"] ["value"] (defScope sIsBlock) := ⟨rfl, rfl, rfl, by decide +kernel, rfl, by decide +kernel, by decide +kernel⟩
theorem scIsOneOf : FnScope ["value", "table"] ["value", "table"] (defScope sIsOneOf) := ⟨rfl, rfl, rfl, by decide +kernel, rfl, by decide +kernel, by decide +kernel⟩
theorem scBlockWord : FnScope ["block"] ["block"] (defScope sBlockWord) := ⟨rfl, rfl, rfl, by decide +kernel, rfl, by decide +kernel, by decide +kernel⟩
theorem scIsReach : FnScope ["value", "word"] ["value"] (defScope sIsReach) := ⟨rfl, rfl, rfl, by decide +kernel, rfl, by decide +kernel, by decide +kernel⟩
theorem at0 {z : V} {zs : List V} : atI (z :: zs) 0 = some z := at_of (j := 0) rfl rfl
theorem at1 {y z : V} {zs : List V} : atI (y :: z :: zs) 1 = some z := at_of (j := 1) rfl rfl
theorem at2 {x y z : V} {zs : List V} : atI (x :: y :: z :: zs) 2 = some z := at_of (j := 2) rfl rfl
theorem sl {m : Nat} (h : m ≤ 1000) : m ≤ sizeLine := Nat.le_of_lt (small1000 h)
section
variable {P : Program} {w : World} {K : PySem.W.Frag} {mg : Str → Option Value} {base : Heap}
def spAddr (K : PySem.W.Frag) : Sp := fun vs H Q _ => ∃ (v : V) (d : PyData), vs = [v] ∧ Dk K H v d ∧ Q (.bl (isW d 0 255)) H
theorem ok_IsAddress {k : Nat} {f : Addr} {fd : FuncData}  (F : Fun K "is_address" "is_address" sIsAddress f fd) (gWi : Cal P w K mg base CX0 (k + 1) "is_within" ["value", "low", "high"] (spWithin K))   : FnOk P w K mg base CX0 (k + 2) f fd ["value"] (spAddr K) := by
  obtain ⟨fWi, fdWi, GWi, kWi, bWi, mWi⟩ := gWi
  refine F.ok scIsAddress (fun vs H Q E h => ?_) (fun cdv A outer s H vs Q E hr h => ?_)
  · obtain ⟨v, d, rfl, _⟩ := h
    rfl
  · obtain ⟨v, d, rfl, hd, q⟩ := h
    refine ⟨_, (pss_one (ps_ret (pe_call GWi hr (by rfl) mWi kWi bWi .nil pass0 (pa_cons (pv 0) (pa_cons pe_int (pa_cons pe_int pa_nil)))))), ?_⟩
    exact ⟨v, rfl, v, d, 0, 255, rfl, hd, q⟩
/-- data that is a tuple of so many -/
def isTup : PyData → Int → Bool
  | .tuple ds, n => decide (V.int (ds.length : Nat) = V.int n)
  | _, _ => false
def spTup (K : PySem.W.Frag) : Sp := fun vs H Q _ => ∃ (v : V) (d : PyData) (n : Int), vs = [v, .int n] ∧ Dk K H v d ∧ Q (.bl (isTup d n)) H
theorem dpAll_len {H : Hp} : ∀ {xs : List V} {ds : List PyData}, DpAll K H xs ds → xs.length = ds.length
  | [], _, h => by cases h; rfl
  | _ :: _, _, h => by
    cases h with
    | cons _ h2 => rw [List.length_cons, List.length_cons, dpAll_len h2]
theorem ok_IsTupleOf {k : Nat} {f : Addr} {fd : FuncData}  (F : Fun K "is_tuple_of" "is_tuple_of" sIsTupleOf f fd)   (flen : mg "len" = none) (ftuple : mg "tuple" = none) (ftype : mg "type" = none) : FnOk P w K mg base CX0 (k + 1) f fd ["value", "many"] (spTup K) := by
  refine F.ok scIsTupleOf (fun vs H Q E h => ?_) (fun cdv A outer s H vs Q E hr h => ?_)
  · obtain ⟨v, d, n, rfl, _⟩ := h
    rfl
  · obtain ⟨v, d, n, rfl, hd, q⟩ := h
    refine ⟨_, (pss_one (ps_ret (pe_and (pe_cmpR op_isTyB (pe_callTy call_type1 (by rfl) ftype (by decide +kernel) (pa_cons (pv 0) pa_nil)) (pe_bltn (v := .ty "tuple") (by rfl) ftuple (by decide +kernel) rfl) (nomark _)) (pe_one (pe_cmpR op_eq (pe_callB call_len_seq (by rfl) flen PySem.boot_len (pa_cons (pv 0) pa_nil)) (pv 1) (nomark _)))))), ?_⟩
    refine ⟨v, rfl, v, tyName d, rfl, hd.ty, _, _, rfl, rfl, _, rfl, ?_⟩
    cases hd with
    | d0 h => exact iteF q
    | d1 h => exact iteF q
    | dp hd =>
      cases hd with
      | non => exact iteF q
      | bl b => exact iteF q
      | str x => exact iteF q
      | int x => exact iteF q
      | lst hs _ => exact iteF q
      | @tup a xs ds hs ha =>
        refine iteT ⟨.ref a, rfl, a, xs, rfl, .inr hs, .int n, rfl, rfl, ?_⟩
        have e : isTup (.tuple ds) n = decide (V.int (xs.length : Nat) = V.int n) := by rw [dpAll_len ha]; rfl
        rw [e] at q
        exact q
/-- a tuple of two numbers: whether it is a block, the second one being a size -/
def spBlock (K : PySem.W.Frag) : Sp := fun vs H Q _ => ∃ (a : Addr) (x y : Int), vs = [.ref a] ∧ SqT K H a [.int x, .int y] ∧ 0 ≤ x ∧ x ≤ 15 ∧ y ∈ [(1 : Int), 2, 4, 8, 16] ∧ ∀ H', Same H H' → Q (.bl (decide (V.int (x % y) = V.int 0))) H'
theorem ok_IsBlock {k : Nat} {f : Addr} {fd : FuncData}  (F : Fun K "is_block" "is_block" sIsBlock f fd) (gWi : Cal P w K mg base CX0 (k + 1) "is_within" ["value", "low", "high"] (spWithin K)) (gTo : Cal P w K mg base CX0 (k + 1) "is_tuple_of" ["value", "many"] (spTup K))   : FnOk P w K mg base CX0 (k + 2) f fd ["value"] (spBlock K) := by
  obtain ⟨fWi, fdWi, GWi, kWi, bWi, mWi⟩ := gWi
  obtain ⟨fTo, fdTo, GTo, kTo, bTo, mTo⟩ := gTo
  refine F.ok scIsBlock (fun vs H Q E h => ?_) (fun cdv A outer s H vs Q E hr h => ?_)
  · obtain ⟨a, x, y, rfl, _⟩ := h
    rfl
  · obtain ⟨a, x, y, rfl, hs, x0, x1, hy, q⟩ := h
    refine ⟨_, (pss_cons (ps_if (pt_not (pt_val (pe_call GTo hr (by rfl) mTo kTo bTo .nil pass0 (pa_cons (pv 0) (pa_cons pe_int pa_nil))))) (pss_one (ps_ret pe_bl)) pss_nil) (pss_cons (ps_asg (pv 0) (pg_tup (by rfl) (pgs_cons (pg_name (i := 1) scIsBlock.nd rfl (.inl rfl)) (pgs_cons (pg_name (i := 2) scIsBlock.nd rfl (.inl rfl)) pgs_nil)))) (pss_one (ps_ret (pe_and (pe_call GWi hr (by rfl) mWi kWi bWi .nil pass0 (pa_cons (pv 2) (pa_cons pe_int (pa_cons pe_int pa_nil)))) (pe_and (pe_cmpR op_in_seq (pv 2) (pe_tup (pa_cons pe_int (pa_cons pe_int (pa_cons pe_int (pa_cons pe_int (pa_cons pe_int pa_nil)))))) (by rfl)) (pe_and (pe_call GWi hr (by rfl) mWi kWi bWi .nil pass0 (pa_cons (pv 1) (pa_cons pe_int (pa_cons pe_int pa_nil)))) (pe_one (pe_cmpR op_eq (pe_op op_mod (pv 1) (pv 2)) pe_int (nomark _)))))))))), ?_⟩
    have yy : 1 ≤ y ∧ y ≤ 16 := by
      simp only [List.mem_cons, List.not_mem_nil, or_false] at hy
      omega
    refine ⟨.ref a, rfl, .ref a, .tuple [.int x, .int y], 2, rfl, .dp (.tup hs (.cons (.int x) (.cons (.int y) .nil))), _, rfl, iteF ?_⟩
    refine ⟨.ref a, rfl, a, _, rfl, hs, rfl, _, _, rfl, _, _, rfl, rfl, ?_⟩
    refine ⟨.int y, rfl, .int y, .int y, 1, 16, rfl, .dp (.int y), ?_⟩
    have e1 : isW (.int y) 1 16 = true := by simp [isW, yy.1, yy.2]
    rw [e1]
    refine ⟨_, rfl, iteT ?_⟩
    refine ⟨.int y, rfl, by show 5 ≤ sizeLine; decide, fun t nt => ?_⟩
    have s1 := same_upd (o := .tup [V.int 1, .int 2, .int 4, .int 8, .int 16]) nt
    have e2 : inV (.int y) [V.int 1, .int 2, .int 4, .int 8, .int 16] = true := by
      simp only [List.mem_cons, List.not_mem_nil, or_false] at hy
      rcases hy with rfl | rfl | rfl | rfl | rfl <;> decide
    refine ⟨t, _, rfl, .inr (SqT.of upd_same), rfl, rfl, ?_⟩
    rw [e2]
    refine ⟨_, rfl, iteT ?_⟩
    refine ⟨.int x, rfl, .int x, .int x, 0, 15, rfl, .dp (.int x), ?_⟩
    have e3 : isW (.int x) 0 15 = true := by simp [isW, x0, x1]
    rw [e3]
    refine ⟨_, rfl, iteT ?_⟩
    refine ⟨.int x, rfl, .int y, rfl, x, y, rfl, rfl, (by show 0 < y; omega), rfl, ?_⟩
    exact q _ s1
def spOneOf (K : PySem.W.Frag) : Sp := fun vs H Q _ => ∃ (z : Str) (t : Addr) (l : List Str), vs = [.str z, .ref t] ∧ z ≠ "" ∧ SqT K H t (l.map V.str) ∧ Q (.bl (decide (z ∈ l))) H
theorem ok_IsOneOf {k : Nat} {f : Addr} {fd : FuncData}  (F : Fun K "_is_one_of" "_is_one_of" sIsOneOf f fd)    : FnOk P w K mg base CX0 (k + 1) f fd ["value", "table"] (spOneOf K) := by
  refine F.ok scIsOneOf (fun vs H Q E h => ?_) (fun cdv A outer s H vs Q E hr h => ?_)
  · obtain ⟨z, t, l, rfl, _⟩ := h
    rfl
  · obtain ⟨z, t, l, rfl, nz, hs, q⟩ := h
    refine ⟨_, (pss_one (ps_ret (pe_and (pe_cmpR op_ne (pv 0) pe_str (nomark _)) (pe_one (pe_cmpR op_in_seq (pv 0) (pv 1) (by rfl)))))), ?_⟩
    refine ⟨.str z, rfl, rfl, _, rfl, ?_⟩
    have e : (!decide (V.str z = V.str "")) = true := by rw [decide_eq_false fun y => nz (V.str.inj y)]; rfl
    rw [e]
    refine iteT ⟨.str z, rfl, .ref t, rfl, t, _, rfl, .inr hs, rfl, VG.flat_strs l, ?_⟩
    rw [VG.inV_strs]
    exact q
def spBlockWord (K : PySem.W.Frag) : Sp := fun vs H Q _ => ∃ (a : Addr) (x y : Int), vs = [.ref a] ∧ SqT K H a [.int x, .int y] ∧ 0 ≤ x ∧ x ≤ 15 ∧ Q (.int (32 * x + y)) H
theorem ok_BlockWord {k : Nat} {f : Addr} {fd : FuncData}  (F : Fun K "_block_word" "_block_word" sBlockWord f fd)    : FnOk P w K mg base CX0 (k + 1) f fd ["block"] (spBlockWord K) := by
  refine F.ok scBlockWord (fun vs H Q E h => ?_) (fun cdv A outer s H vs Q E hr h => ?_)
  · obtain ⟨a, x, y, rfl, _⟩ := h
    rfl
  · obtain ⟨a, x, y, rfl, hs, x0, x1, q⟩ := h
    refine ⟨_, (pss_one (ps_ret (pe_op op_add (pe_op op_mul pe_int (pe_ix ix_tup (pv 0) pe_int (fun _ _ => rfl))) (pe_ix ix_tup (pv 0) pe_int (fun _ _ => rfl))))), ?_⟩
    exact ⟨.ref a, rfl, a, _, 0, _, rfl, rfl, hs, at0, 32, x, rfl, rfl, .inl ⟨by decide, by decide⟩, .ref a, rfl, a, _, 1, _, rfl, rfl, hs, at1, _, y, rfl, rfl, q⟩
/-- a word, or none -/
def isM : PyData → Bool
  | .none => true
  | d => isW d 0 65535
def reach : PyData → Bool
  | .tuple ds => decide (ds.length = 256) && ds.all isM
  | _ => false
def spReach (K : PySem.W.Frag) : Sp := fun vs H Q _ => ∃ (v : V) (d : PyData), vs = [v] ∧ Dk K H v d ∧ ∀ H', Same H H' → Q (.bl (reach d)) H'
theorem dpAll_nth {H : Hp} : ∀ {xs : List V} {ds : List PyData}, DpAll K H xs ds → ∀ (i : Nat) (x : V), xs[i]? = some x → ∃ d, ds[i]? = some d ∧ Dp K H x d
  | [], _, _, i, x, e => by simp at e
  | y :: ys, _, h, i, x, e => by
    cases h with
    | cons h1 h2 => match i, e with
      | 0, e => cases e; exact ⟨_, rfl, h1⟩
      | i + 1, e => exact dpAll_nth h2 i x e
theorem ok_IsReach {k : Nat} {f : Addr} {fd : FuncData}  (F : Fun K "_is_reach" "_is_reach" sIsReach f fd) (gWo : Cal P w K mg base CX0 (k + 2) "is_word" ["value"] (spIsWord K)) (gTo : Cal P w K mg base CX0 (k + 2) "is_tuple_of" ["value", "many"] (spTup K))  (fall : mg "all" = none) : FnOk P w K mg base CX0 (k + 3) f fd ["value"] (spReach K) := by
  obtain ⟨fWo, fdWo, GWo, kWo, bWo, mWo⟩ := gWo
  obtain ⟨fTo, fdTo, GTo, kTo, bTo, mTo⟩ := gTo
  refine F.ok scIsReach (fun vs H Q E h => ?_) (fun cdv A outer s H vs Q E hr h => ?_)
  · obtain ⟨v, d, rfl, _⟩ := h
    rfl
  · obtain ⟨v, d, rfl, hd, q⟩ := h
    refine ⟨_, (pss_one (ps_ret (pe_and (pe_call GTo hr (by rfl) mTo kTo bTo .nil pass0 (pa_cons (pv 0) (pa_cons pe_int pa_nil))) (pe_one (pe_callB (cr_all rfl) (by rfl) fall (by decide +kernel) (pa_cons (pe_lc (own := [("word", 1)]) (g := (gName 1)) (tt := tYes) rfl scIsReach.nd (pi_tup (pv 0)) (blkOk_by (N := ["value", "word"]) (sc := defScope sIsReach) (by decide +kernel)) (fun _ _ _ _ _ => (pg_name (i := 1) scIsReach.nd rfl (.inl rfl))) (fun _ _ _ _ _ => pts_nil) (fun _ _ _ _ _ => (pe_or (pe_cmpR op_isN (pv 1) pe_non (nomark _)) (pe_one (pe_call GWo hr (by rfl) mWo kWo bWo .nil pass0 (pa_cons (pv 1) pa_nil)))))) pa_nil)))))), ?_⟩
    refine ⟨v, rfl, v, d, 256, rfl, hd, _, rfl, ?_⟩
    cases hd with
    | d0 h => exact iteF (q _ (Same.refl H))
    | d1 h => exact iteF (q _ (Same.refl H))
    | dp hd =>
      cases hd with
      | non => exact iteF (q _ (Same.refl H))
      | bl b => exact iteF (q _ (Same.refl H))
      | str x => exact iteF (q _ (Same.refl H))
      | int x => exact iteF (q _ (Same.refl H))
      | lst hs _ => exact iteF (q _ (Same.refl H))
      | @tup a xs ds hs ha =>
        have hl := dpAll_len ha
        by_cases c : ds.length = 256
        · have e : isTup (.tuple ds) 256 = true := decide_eq_true (by rw [c]; rfl)
          rw [e]
          refine iteT ⟨.ref a, rfl, a, rfl, ⟨_, hs⟩, fun D nD => ?_⟩
          have s1 := same_upd (o := .lst []) nD
          refine lc_tup (xs := xs) (fun i H' => Same H H' ∧ H' D = some (.lst (((ds.take i).map isM).map V.bl))) ⟨s1, upd_same⟩ (fun i H' _ hP => Same.seqT hP.1 hs) (fun i x H' hx hP => ?_) fun H' hP => ?_
          · obtain ⟨sm, hD⟩ := hP
            obtain ⟨dx, edx, hdx⟩ := dpAll_nth ha i x hx
            have hi := (List.getElem?_eq_some_iff.mp hx).1
            refine ⟨rfl, ?_⟩
            unfold tYes
            refine iteT ⟨x, rfl, rfl, _, rfl, ?_⟩
            have fin : ∀ b, b = isM dx → ∃ acc, H' D = some (.lst acc) ∧ acc.length < sizeLine ∧ (Same H (upd H' D (.lst (acc ++ [V.bl b]))) ∧ upd H' D (.lst (acc ++ [V.bl b])) D = some (.lst (((ds.take (i + 1)).map isM).map V.bl))) := fun b eb => by
              refine ⟨_, hD, small1000 (by rw [List.length_map, List.length_map, List.length_take]; omega), Same.updNew sm nD, ?_⟩
              rw [upd_same, eb, List.take_add_one, edx, List.map_append, List.map_append]
              rfl
            cases hdx with
            | non => exact iteT (fin true rfl)
            | bl b => exact iteF ⟨_, rfl, _, _, rfl, .dp (.bl b), fin _ rfl⟩
            | int z => exact iteF ⟨_, rfl, _, _, rfl, .dp (.int z), fin _ rfl⟩
            | str z => exact iteF ⟨_, rfl, _, _, rfl, .dp (.str z), fin _ rfl⟩
            | lst h1 h2 => exact iteF ⟨_, rfl, _, _, rfl, .dp (.lst (sm.seq h1) (dpAll_same sm _ _ h2)), fin _ rfl⟩
            | tup h1 h2 => exact iteF ⟨_, rfl, _, _, rfl, .dp (.tup (Same.seqT sm h1) (dpAll_same sm _ _ h2)), fin _ rfl⟩
          · obtain ⟨sm, hD⟩ := hP
            refine ⟨D, (ds.take xs.length).map isM, rfl, SqL.of hD, ?_⟩
            have e2 : reach (.tuple ds) = ((ds.take xs.length).map isM).all id := by
              rw [hl, List.take_length, List.all_map]
              show (decide (ds.length = 256) && ds.all isM) = ds.all isM
              rw [decide_eq_true c, Bool.true_and]
            rw [← e2]
            exact q _ sm
        · have e : isTup (.tuple ds) 256 = false := decide_eq_false fun z => c (by have := V.int.inj z; omega)
          have e2 : reach (.tuple ds) = false := by
            show (decide (ds.length = 256) && ds.all isM) = false
            rw [decide_eq_false c, Bool.false_and]
          have q' := q _ (Same.refl H)
          rw [e2] at q'
          rw [e]
          exact iteF q'
end
end K24

set_option maxRecDepth 100000
set_option maxHeartbeats 8000000
/-! k24: the numbers that a row of items tells. -/
namespace K24
open PySem PySem.Spec PyProof.Rows L2 LamX VG
theorem scNumbersTold : FnScope ["kind", "parts", "right"] ["kind", "parts"] (defScope sNumbersTold) := ⟨rfl, rfl, rfl, by decide +kernel, rfl, by decide +kernel, by decide +kernel⟩
theorem scRowWords : FnScope ["value", "parts"] ["value"] (defScope sRowWords) := ⟨rfl, rfl, rfl, by decide +kernel, rfl, by decide +kernel, by decide +kernel⟩
theorem scFitsBehind : FnScope ["row", "rows", "kinds", "told"] ["row", "rows"] (defScope sFitsBehind) := ⟨rfl, rfl, rfl, by decide +kernel, rfl, by decide +kernel, by decide +kernel⟩
theorem scWordsOf : FnScope ["value", "words", "at", "row", "told"] ["value"] (defScope sWordsOf) := ⟨rfl, rfl, rfl, by decide +kernel, rfl, by decide +kernel, by decide +kernel⟩
theorem scManyIn : FnScope ["rows", "kind", "row"] ["rows", "kind"] (defScope sManyIn) := ⟨rfl, rfl, rfl, by decide +kernel, rfl, by decide +kernel, by decide +kernel⟩
/-- the rows of items that are looked at -/
inductive Item where
  | str (a n : Int) | buf (a n : Int) | map (x y : Int) (l : Str) (s : Int) | grant (x y : Int) (l : Str) (s : Int) | right (p : Int) (l : Str) (b : Option Int) | win (x y : Int) | plc (p : Int)
def Item.kind : Item → Str
  | .str _ _ => "string" | .buf _ _ => "buffer" | .map _ _ _ _ => "map" | .grant _ _ _ _ => "grant" | .right _ _ _ => "right" | .win _ _ => "window" | .plc _ => "place"
def optB : Option Int → V
  | none => .non
  | some i => .int i
def Item.parts (b : Addr) : Item → List V
  | .str a n => [.int a, .int n] | .buf a n => [.int a, .int n] | .map _ _ l s => [.ref b, .str l, .int s] | .grant _ _ l s => [.ref b, .str l, .int s] | .right p l o => [.int p, .str l, optB o] | .win _ _ => [.ref b] | .plc p => [.int p]
def Item.sub (K : PySem.W.Frag) (H : Hp) (b : Addr) : Item → Prop
  | .map x y _ _ => SqT K H b [.int x, .int y] | .grant x y _ _ => SqT K H b [.int x, .int y] | .win x y => SqT K H b [.int x, .int y] | _ => True
def IsItem (K : PySem.W.Frag) (H : Hp) (r : Addr) (it : Item) : Prop := ∃ b, SqT K H r (.str it.kind :: it.parts b) ∧ it.sub K H b
def IsParts (K : PySem.W.Frag) (H : Hp) (c : Addr) (it : Item) : Prop := ∃ b, SqT K H c (it.parts b) ∧ it.sub K H b
def Dm (x y : Int) : Prop := 0 ≤ x ∧ x ≤ 15 ∧ y ∈ [(1 : Int), 2, 4, 8, 16]
def Item.dom : Item → Prop
  | .map x y l _ => Dm x y ∧ l ≠ "" | .grant x y l _ => Dm x y ∧ l ≠ "" | .win x y => Dm x y | .right _ l _ => l ≠ "" | _ => True
def pageL : List Str := ["", "r", "w", "rw", "x", "rx", "wx", "rwx"]
def rightL : List Str := ["", "s", "", "sg", "c", "", "cg", ""]
def kindL : List V := [.non, .str "string", .str "map", .str "grant", .str "right", .str "buffer", .str "window", .str "place"]
def zeroB (x y : Int) : Bool := decide (V.int (x % y) = V.int 0)
def Item.ok : Item → Bool
  | .str a n => isW (.int a) 0 255 && isW (.int n) 1 16
  | .buf a n => isW (.int a) 0 255 && isW (.int n) 1 16
  | .map x y l s => (zeroB x y && decide (l ∈ pageL)) && isW (.int s) 0 15
  | .grant x y l s => (zeroB x y && decide (l ∈ pageL)) && isW (.int s) 0 15
  | .right p l b => (isW (.int p) 0 15 && decide (l ∈ rightL)) && (match b with | none => true | some i => isW (.int i) 0 999)
  | .win x y => zeroB x y
  | .plc p => isW (.int p) 0 15
theorem sub_same {K : PySem.W.Frag} {H H' : Hp} {b : Addr} {it : Item} (s : Same H H') (h : it.sub K H b) : it.sub K H' b := by
  cases it <;> first | exact Same.seqT s h | trivial
theorem in_sb (it : Item) : inV (.str it.kind) [V.str "string", .str "buffer"] = (match it with | .str _ _ => true | .buf _ _ => true | _ => false) := by cases it <;> rfl
theorem in_mg (it : Item) : inV (.str it.kind) [V.str "map", .str "grant"] = (match it with | .map _ _ _ _ => true | .grant _ _ _ _ => true | _ => false) := by cases it <;> rfl
theorem iteD {p A B : Prop} [Decidable p] (h : p) (a : A) : if decide p = true then A else B := by rw [if_pos (decide_eq_true h)]; exact a
theorem iteE {p A B : Prop} [Decidable p] (h : ¬ p) (b : B) : if decide p = true then A else B := by rw [if_neg (by rw [decide_eq_false h]; exact Bool.false_ne_true)]; exact b
def PlainT (K : PySem.W.Frag) (p : Addr) : Prop := ∃ o, K.lookup p = some o ∧ o.cls = .type "tuple" ∧ o.dict = none
/-- the place of a text that is there -/
theorem idx {l : List Str} {z : Str} (hz : z ∈ l) : ∃ j : Nat, l[j]? = some z ∧ ∀ m, m < j → l[m]? ≠ some z := by
  have hlt : l.idxOf z < l.length := List.idxOf_lt_length_of_mem hz
  refine ⟨l.idxOf z, ?_, fun m hm e => ?_⟩
  · rw [List.getElem?_eq_getElem hlt, List.getElem_idxOf hlt]
  · have := List.not_of_lt_findIdx (xs := l) (p := (· == z)) (show m < l.findIdx (· == z) from hm)
    have e2 := (List.getElem?_eq_some_iff.mp e).2
    rw [e2] at this
    simp at this
section
variable {P : Program} {w : World} {K : PySem.W.Frag} {mg : Str → Option Value} {base : Heap}
def spNumbers (K : PySem.W.Frag) : Sp := fun vs H Q _ => ∃ (it : Item) (c : Addr), vs = [.str it.kind, .ref c] ∧ IsParts K H c it ∧ it.dom ∧ (∀ H', Same H H' → it.ok = false → Q .non H') ∧ ∀ H' t u1 u2 u3, Same H H' → it.ok = true → SqT K H' t [u1, u2, u3] → Q (.ref t) H'
theorem ok_NumbersTold {k : Nat} {f : Addr} {fd : FuncData} {aP aR:Addr} (F : Fun K "_numbers_told" "_numbers_told" sNumbersTold f fd) (gWi : Cal P w K mg base CX0 (k + 2) "is_within" ["value", "low", "high"] (spWithin K)) (gAd : Cal P w K mg base CX0 (k + 2) "is_address" ["value"] (spAddr K)) (gBl : Cal P w K mg base CX0 (k + 2) "is_block" ["value"] (spBlock K)) (gOo : Cal P w K mg base CX0 (k + 2) "_is_one_of" ["value", "table"] (spOneOf K)) (gBw : Cal P w K mg base CX0 (k + 2) "_block_word" ["block"] (spBlockWord K)) (gPAGE_LETTERS : mg "PAGE_LETTERS" = some (.ref aP)) (gRIGHT_LETTERS : mg "RIGHT_LETTERS" = some (.ref aR)) (tP : KT K aP (pageL.map V.str)) (tR : KT K aR (rightL.map V.str)) (dP : PlainT K aP) (dR : PlainT K aR) {tN : Tok} (gNO_BADGE : mg "NO_BADGE" = some (.int 65535 tN)) (flen : mg "len" = none) : FnOk P w K mg base CX0 (k + 3) f fd ["kind", "parts"] (spNumbers K) := by
  obtain ⟨fWi, fdWi, GWi, kWi, bWi, mWi⟩ := gWi
  obtain ⟨fAd, fdAd, GAd, kAd, bAd, mAd⟩ := gAd
  obtain ⟨fBl, fdBl, GBl, kBl, bBl, mBl⟩ := gBl
  obtain ⟨fOo, fdOo, GOo, kOo, bOo, mOo⟩ := gOo
  obtain ⟨fBw, fdBw, GBw, kBw, bBw, mBw⟩ := gBw
  refine F.ok scNumbersTold (fun vs H Q E h => ?_) (fun cdv A outer s H vs Q E hr h => ?_)
  · obtain ⟨it, c, rfl, _⟩ := h
    rfl
  · obtain ⟨it, c, rfl, hp, hd, qn, qt⟩ := h
    refine ⟨_, (pss_cons (ps_if (pt_cmpR op_in_seq (pv 0) (pe_tup (pa_cons pe_str (pa_cons pe_str pa_nil))) (by rfl)) (pss_cons (ps_set (i := 2) scNumbersTold.nd rfl (.inl rfl) (pe_and (pe_cmpR op_eq (pe_callB call_len_seq (by rfl) flen PySem.boot_len (pa_cons (pv 1) pa_nil)) pe_int (nomark _)) (pe_and (pe_call GAd hr (by rfl) mAd kAd bAd .nil pass0 (pa_cons (pe_ix ix_tup (pv 1) pe_int (fun _ _ => rfl)) pa_nil)) (pe_one (pe_call GWi hr (by rfl) mWi kWi bWi .nil pass0 (pa_cons (pe_ix ix_tup (pv 1) pe_int (fun _ _ => rfl)) (pa_cons pe_int (pa_cons pe_int pa_nil)))))))) (pss_one (ps_ret (pe_ifExp (pt_val (pv 2)) (pe_tup (StX.pa_star (pv 1) (pa_cons pe_int pa_nil))) pe_non)))) pss_nil) (pss_cons (ps_if (pt_cmpR op_in_seq (pv 0) (pe_tup (pa_cons pe_str (pa_cons pe_str pa_nil))) (by rfl)) (pss_cons (ps_set (i := 2) scNumbersTold.nd rfl (.inl rfl) (pe_and (pe_cmpR op_eq (pe_callB call_len_seq (by rfl) flen PySem.boot_len (pa_cons (pv 1) pa_nil)) pe_int (nomark _)) (pe_and (pe_call GBl hr (by rfl) mBl kBl bBl .nil pass0 (pa_cons (pe_ix ix_tup (pv 1) pe_int (fun _ _ => rfl)) pa_nil)) (pe_one (pe_call GOo hr (by rfl) mOo kOo bOo .nil pass0 (pa_cons (pe_ix ix_tup (pv 1) pe_int (fun _ _ => rfl)) (pa_cons (pgr (by rfl) gPAGE_LETTERS) pa_nil))))))) (pss_cons (ps_if (PW.pt (pw_or (pt_not (pt_val (pv 2))) (pw_or1 (pt_not (pt_val (pe_call GWi hr (by rfl) mWi kWi bWi .nil pass0 (pa_cons (pe_ix ix_tup (pv 1) pe_int (fun _ _ => rfl)) (pa_cons pe_int (pa_cons pe_int pa_nil))))))))) (pss_one (ps_ret pe_non)) pss_nil) (pss_one (ps_ret (pe_tup (pa_cons (pe_call GBw hr (by rfl) mBw kBw bBw .nil pass0 (pa_cons (pe_ix ix_tup (pv 1) pe_int (fun _ _ => rfl)) pa_nil)) (pa_cons (pe_bm PySem.F.plainAttrs_tuple PySem.F.slot_tuple_index PySem.F.type_tuple_index mt_tup_index (pgr (by rfl) gPAGE_LETTERS) (pa_cons (pe_ix ix_tup (pv 1) pe_int (fun _ _ => rfl)) pa_nil)) (pa_cons (pe_ix ix_tup (pv 1) pe_int (fun _ _ => rfl)) pa_nil)))))))) pss_nil) (pss_cons (ps_if (pt_cmpR op_eq (pv 0) pe_str (nomark _)) (pss_cons (ps_set (i := 2) scNumbersTold.nd rfl (.inl rfl) (pe_and (pe_cmpR op_eq (pe_callB call_len_seq (by rfl) flen PySem.boot_len (pa_cons (pv 1) pa_nil)) pe_int (nomark _)) (pe_and (pe_call GWi hr (by rfl) mWi kWi bWi .nil pass0 (pa_cons (pe_ix ix_tup (pv 1) pe_int (fun _ _ => rfl)) (pa_cons pe_int (pa_cons pe_int pa_nil)))) (pe_one (pe_call GOo hr (by rfl) mOo kOo bOo .nil pass0 (pa_cons (pe_ix ix_tup (pv 1) pe_int (fun _ _ => rfl)) (pa_cons (pgr (by rfl) gRIGHT_LETTERS) pa_nil))))))) (pss_cons (ps_if (PW.pt (pw_or (pt_not (pt_val (pv 2))) (pw_or1 (pt_not (PW.pt (pw_or (pt_cmpR op_isN (pe_ix ix_tup (pv 1) pe_int (fun _ _ => rfl)) pe_non (nomark _)) (pw_or1 (pt_val (pe_call GWi hr (by rfl) mWi kWi bWi .nil pass0 (pa_cons (pe_ix ix_tup (pv 1) pe_int (fun _ _ => rfl)) (pa_cons pe_int (pa_cons pe_int pa_nil)))))))))))) (pss_one (ps_ret pe_non)) pss_nil) (pss_one (ps_ret (pe_tup (pa_cons (pe_ix ix_tup (pv 1) pe_int (fun _ _ => rfl)) (pa_cons (pe_bm PySem.F.plainAttrs_tuple PySem.F.slot_tuple_index PySem.F.type_tuple_index mt_tup_index (pgr (by rfl) gRIGHT_LETTERS) (pa_cons (pe_ix ix_tup (pv 1) pe_int (fun _ _ => rfl)) pa_nil)) (pa_cons (pe_ifExp (pt_cmpR op_isN (pe_ix ix_tup (pv 1) pe_int (fun _ _ => rfl)) pe_non (nomark _)) (pe_glob (by rfl) gNO_BADGE (show RelV (.int 65535) (.int 65535 tN) from ⟨_, rfl⟩)) (pe_ix ix_tup (pv 1) pe_int (fun _ _ => rfl))) pa_nil)))))))) pss_nil) (pss_cons (ps_if (pt_cmpR op_ne (pe_callB call_len_seq (by rfl) flen PySem.boot_len (pa_cons (pv 1) pa_nil)) pe_int (nomark _)) (pss_one (ps_ret pe_non)) pss_nil) (pss_cons (ps_if (pt_cmpR op_eq (pv 0) pe_str (nomark _)) (pss_one (ps_ret (pe_ifExp (pt_val (pe_call GBl hr (by rfl) mBl kBl bBl .nil pass0 (pa_cons (pe_ix ix_tup (pv 1) pe_int (fun _ _ => rfl)) pa_nil))) (pe_tup (pa_cons (pe_call GBw hr (by rfl) mBw kBw bBw .nil pass0 (pa_cons (pe_ix ix_tup (pv 1) pe_int (fun _ _ => rfl)) pa_nil)) (pa_cons pe_int (pa_cons pe_int pa_nil)))) pe_non))) pss_nil) (pss_one (ps_ret (pe_ifExp (pt_val (pe_call GWi hr (by rfl) mWi kWi bWi .nil pass0 (pa_cons (pe_ix ix_tup (pv 1) pe_int (fun _ _ => rfl)) (pa_cons pe_int (pa_cons pe_int pa_nil))))) (pe_tup (pa_cons (pe_ix ix_tup (pv 1) pe_int (fun _ _ => rfl)) (pa_cons pe_int (pa_cons pe_int pa_nil)))) pe_non)))))))), ?_⟩
    obtain ⟨b, hp, hs⟩ := hp
    refine ⟨.str it.kind, rfl, by show 2 ≤ sizeLine; decide, fun t0 n0 => ?_⟩
    have s0 := same_upd (o := .tup [V.str "string", .str "buffer"]) n0
    refine ⟨t0, _, rfl, .inr (SqT.of upd_same), rfl, rfl, _, rfl, ?_⟩
    rw [in_sb]
    have hp0 := Same.seqT s0 hp
    have sb0 := sub_same s0 hs
    generalize upd H t0 (.tup [V.str "string", .str "buffer"]) = H0 at s0 hp0 sb0 ⊢
    cases it with
    | str a n =>
      refine iteT ?_
      have hp0 : SqT K H0 c [.int a, .int n] := hp0
      refine ⟨.ref c, rfl, c, _, rfl, .inr hp0, rfl, _, rfl, iteD rfl ?_⟩
      refine ⟨.ref c, rfl, c, _, 0, _, rfl, rfl, hp0, at0, .int a, .int a, rfl, .dp (.int a), _, rfl, ?_⟩
      cases e1 : isW (.int a) 0 255 with
      | false => exact iteF ⟨_, rfl, _, rfl, iteF (qn _ s0 (by simp [Item.ok, e1]))⟩
      | true =>
        refine iteT ⟨.ref c, rfl, c, _, 1, _, rfl, rfl, hp0, at1, .int n, .int n, 1, 16, rfl, .dp (.int n), ?_⟩
        cases e2 : isW (.int n) 1 16 with
        | false => exact ⟨_, rfl, _, rfl, iteF (qn _ s0 (by simp [Item.ok, e2]))⟩
        | true =>
          refine ⟨_, rfl, _, rfl, iteT ⟨.ref c, rfl, c, _, rfl, .inl hp0, by show 3 ≤ sizeLine; decide, fun t nt => ?_⟩⟩
          exact qt _ t _ _ _ (s0.trans (same_upd nt)) (by simp [Item.ok, e1, e2]) (SqT.of upd_same)
    | buf a n =>
      refine iteT ?_
      have hp0 : SqT K H0 c [.int a, .int n] := hp0
      refine ⟨.ref c, rfl, c, _, rfl, .inr hp0, rfl, _, rfl, iteD rfl ?_⟩
      refine ⟨.ref c, rfl, c, _, 0, _, rfl, rfl, hp0, at0, .int a, .int a, rfl, .dp (.int a), _, rfl, ?_⟩
      cases e1 : isW (.int a) 0 255 with
      | false => exact iteF ⟨_, rfl, _, rfl, iteF (qn _ s0 (by simp [Item.ok, e1]))⟩
      | true =>
        refine iteT ⟨.ref c, rfl, c, _, 1, _, rfl, rfl, hp0, at1, .int n, .int n, 1, 16, rfl, .dp (.int n), ?_⟩
        cases e2 : isW (.int n) 1 16 with
        | false => exact ⟨_, rfl, _, rfl, iteF (qn _ s0 (by simp [Item.ok, e2]))⟩
        | true =>
          refine ⟨_, rfl, _, rfl, iteT ⟨.ref c, rfl, c, _, rfl, .inl hp0, by show 3 ≤ sizeLine; decide, fun t nt => ?_⟩⟩
          exact qt _ t _ _ _ (s0.trans (same_upd nt)) (by simp [Item.ok, e1, e2]) (SqT.of upd_same)
    | map x y l s =>
      refine iteF ?_
      refine ⟨.str (Item.kind (.map x y l s)), rfl, by show 2 ≤ sizeLine; decide, fun t1 n1 => ?_⟩
      have s1 := same_upd (o := .tup [V.str "map", .str "grant"]) n1
      refine ⟨t1, _, rfl, .inr (SqT.of upd_same), rfl, rfl, _, rfl, ?_⟩
      rw [in_mg]
      have s01 := s0.trans s1
      have hp1 : SqT K _ c [.ref b, .str l, .int s] := Same.seqT s1 hp0
      have sb1 := sub_same s1 sb0
      generalize upd H0 t1 (.tup [V.str "map", .str "grant"]) = H1 at s01 hp1 sb1 ⊢
      have hb : SqT K H1 b [.int x, .int y] := sb1
      obtain ⟨⟨d1, d2, d3⟩, d4⟩ := hd
      refine iteT ⟨.ref c, rfl, c, _, rfl, .inr hp1, rfl, _, rfl, iteD rfl ?_⟩
      refine ⟨.ref c, rfl, c, _, 0, _, rfl, rfl, hp1, at0, b, x, y, rfl, hb, d1, d2, d3, fun H2 s2 => ⟨_, rfl, ?_⟩⟩
      have hp2 := Same.seqT s2 hp1
      have hb2 := Same.seqT s2 hb
      have s02 := s01.trans s2
      by_cases ez : V.int (x % y) = V.int 0
      · have zz : zeroB x y = true := decide_eq_true ez
        refine iteD ez ⟨.ref c, rfl, c, _, 1, _, rfl, rfl, hp2, at1, l, aP, pageL, rfl, d4, tP.sq, ?_⟩
        by_cases el : l ∈ pageL
        · rw [decide_eq_true el]
          refine ⟨_, rfl, _, rfl, iteF ⟨.ref c, rfl, c, _, 2, _, rfl, rfl, hp2, at2, .int s, .int s, 0, 15, rfl, .dp (.int s), _, rfl, ?_⟩⟩
          cases e2 : isW (.int s) 0 15 with
          | false => exact iteT (qn _ s02 (by simp [Item.ok, e2]))
          | true =>
            obtain ⟨j, ej, nj⟩ := idx el
            refine iteF ⟨.ref c, rfl, c, _, 0, _, rfl, rfl, hp2, at0, b, x, y, rfl, hb2, d1, d2, .inr (.inl ⟨rfl, dP⟩), .ref c, rfl, c, _, 1, _, rfl, rfl, hp2, at1, aP, pageL, l, j, rfl, rfl, tP.sq, ej, nj, .ref c, rfl, c, _, 2, _, rfl, rfl, hp2, at2, by show 3 ≤ sizeLine; decide, fun t nt => ?_⟩
            exact qt _ t _ _ _ (s02.trans (same_upd nt)) (by simp [Item.ok, zz, el, e2]) (SqT.of upd_same)
        · rw [decide_eq_false el]
          exact ⟨_, rfl, _, rfl, iteT (qn _ s02 (by simp [Item.ok, el]))⟩
      · have zz : zeroB x y = false := decide_eq_false ez
        exact iteE ez ⟨_, rfl, _, rfl, iteT (qn _ s02 (by simp [Item.ok, zz]))⟩
    | grant x y l s =>
      refine iteF ?_
      refine ⟨.str (Item.kind (.grant x y l s)), rfl, by show 2 ≤ sizeLine; decide, fun t1 n1 => ?_⟩
      have s1 := same_upd (o := .tup [V.str "map", .str "grant"]) n1
      refine ⟨t1, _, rfl, .inr (SqT.of upd_same), rfl, rfl, _, rfl, ?_⟩
      rw [in_mg]
      have s01 := s0.trans s1
      have hp1 : SqT K _ c [.ref b, .str l, .int s] := Same.seqT s1 hp0
      have sb1 := sub_same s1 sb0
      generalize upd H0 t1 (.tup [V.str "map", .str "grant"]) = H1 at s01 hp1 sb1 ⊢
      have hb : SqT K H1 b [.int x, .int y] := sb1
      obtain ⟨⟨d1, d2, d3⟩, d4⟩ := hd
      refine iteT ⟨.ref c, rfl, c, _, rfl, .inr hp1, rfl, _, rfl, iteD rfl ?_⟩
      refine ⟨.ref c, rfl, c, _, 0, _, rfl, rfl, hp1, at0, b, x, y, rfl, hb, d1, d2, d3, fun H2 s2 => ⟨_, rfl, ?_⟩⟩
      have hp2 := Same.seqT s2 hp1
      have hb2 := Same.seqT s2 hb
      have s02 := s01.trans s2
      by_cases ez : V.int (x % y) = V.int 0
      · have zz : zeroB x y = true := decide_eq_true ez
        refine iteD ez ⟨.ref c, rfl, c, _, 1, _, rfl, rfl, hp2, at1, l, aP, pageL, rfl, d4, tP.sq, ?_⟩
        by_cases el : l ∈ pageL
        · rw [decide_eq_true el]
          refine ⟨_, rfl, _, rfl, iteF ⟨.ref c, rfl, c, _, 2, _, rfl, rfl, hp2, at2, .int s, .int s, 0, 15, rfl, .dp (.int s), _, rfl, ?_⟩⟩
          cases e2 : isW (.int s) 0 15 with
          | false => exact iteT (qn _ s02 (by simp [Item.ok, e2]))
          | true =>
            obtain ⟨j, ej, nj⟩ := idx el
            refine iteF ⟨.ref c, rfl, c, _, 0, _, rfl, rfl, hp2, at0, b, x, y, rfl, hb2, d1, d2, .inr (.inl ⟨rfl, dP⟩), .ref c, rfl, c, _, 1, _, rfl, rfl, hp2, at1, aP, pageL, l, j, rfl, rfl, tP.sq, ej, nj, .ref c, rfl, c, _, 2, _, rfl, rfl, hp2, at2, by show 3 ≤ sizeLine; decide, fun t nt => ?_⟩
            exact qt _ t _ _ _ (s02.trans (same_upd nt)) (by simp [Item.ok, zz, el, e2]) (SqT.of upd_same)
        · rw [decide_eq_false el]
          exact ⟨_, rfl, _, rfl, iteT (qn _ s02 (by simp [Item.ok, el]))⟩
      · have zz : zeroB x y = false := decide_eq_false ez
        exact iteE ez ⟨_, rfl, _, rfl, iteT (qn _ s02 (by simp [Item.ok, zz]))⟩
    | right p l o =>
      refine iteF ?_
      refine ⟨.str (Item.kind (.right p l o)), rfl, by show 2 ≤ sizeLine; decide, fun t1 n1 => ?_⟩
      have s1 := same_upd (o := .tup [V.str "map", .str "grant"]) n1
      refine ⟨t1, _, rfl, .inr (SqT.of upd_same), rfl, rfl, _, rfl, ?_⟩
      rw [in_mg]
      have s01 := s0.trans s1
      have hp1 : SqT K _ c [.int p, .str l, optB o] := Same.seqT s1 hp0
      have sb1 := sub_same s1 sb0
      generalize upd H0 t1 (.tup [V.str "map", .str "grant"]) = H1 at s01 hp1 sb1 ⊢
      refine iteF ⟨_, rfl, rfl, _, rfl, iteD rfl ?_⟩
      refine ⟨.ref c, rfl, c, _, rfl, .inr hp1, rfl, _, rfl, iteD rfl ?_⟩
      refine ⟨.ref c, rfl, c, _, 0, _, rfl, rfl, hp1, at0, .int p, .int p, 0, 15, rfl, .dp (.int p), _, rfl, ?_⟩
      cases e1 : isW (.int p) 0 15 with
      | false => exact iteF ⟨_, rfl, _, rfl, iteT (qn _ s01 (by simp [Item.ok, e1]))⟩
      | true =>
        refine iteT ⟨.ref c, rfl, c, _, 1, _, rfl, rfl, hp1, at1, l, aR, rightL, rfl, hd, tR.sq, ?_⟩
        by_cases el : l ∈ rightL
        · rw [decide_eq_true el]
          obtain ⟨j, ej, nj⟩ := idx el
          refine ⟨_, rfl, _, rfl, iteF ⟨.ref c, rfl, c, _, 2, _, rfl, rfl, hp1, at2, rfl, _, rfl, ?_⟩⟩
          cases o with
          | none =>
            refine iteD rfl (iteF ⟨.ref c, rfl, c, _, 0, _, rfl, rfl, hp1, at0, .inr (.inl ⟨rfl, dR⟩), .ref c, rfl, c, _, 1, _, rfl, rfl, hp1, at1, aR, rightL, l, j, rfl, rfl, tR.sq, ej, nj, ?_⟩)
            refine ⟨.ref c, rfl, c, _, 2, _, rfl, rfl, hp1, at2, rfl, _, rfl, iteD rfl ⟨by show 3 ≤ sizeLine; decide, fun t nt => ?_⟩⟩
            exact qt _ t _ _ _ (s01.trans (same_upd nt)) (by simp [Item.ok, el, e1]) (SqT.of upd_same)
          | some i =>
            refine iteE (fun z => nomatch z) ⟨.ref c, rfl, c, _, 2, _, rfl, rfl, hp1, at2, .int i, .int i, 0, 999, rfl, .dp (.int i), _, rfl, ?_⟩
            cases e2 : isW (.int i) 0 999 with
            | false => exact iteT (qn _ s01 (by simp [Item.ok, e2]))
            | true =>
              refine iteF ⟨.ref c, rfl, c, _, 0, _, rfl, rfl, hp1, at0, .inr (.inl ⟨rfl, dR⟩), .ref c, rfl, c, _, 1, _, rfl, rfl, hp1, at1, aR, rightL, l, j, rfl, rfl, tR.sq, ej, nj, ?_⟩
              refine ⟨.ref c, rfl, c, _, 2, _, rfl, rfl, hp1, at2, rfl, _, rfl, iteE (fun z => nomatch z) ⟨.ref c, rfl, c, _, 2, _, rfl, rfl, hp1, at2, by show 3 ≤ sizeLine; decide, fun t nt => ?_⟩⟩
              exact qt _ t _ _ _ (s01.trans (same_upd nt)) (by simp [Item.ok, el, e1, e2]) (SqT.of upd_same)
        · rw [decide_eq_false el]
          exact ⟨_, rfl, _, rfl, iteT (qn _ s01 (by simp [Item.ok, el]))⟩
    | win x y =>
      refine iteF ?_
      refine ⟨.str (Item.kind (.win x y)), rfl, by show 2 ≤ sizeLine; decide, fun t1 n1 => ?_⟩
      have s1 := same_upd (o := .tup [V.str "map", .str "grant"]) n1
      refine ⟨t1, _, rfl, .inr (SqT.of upd_same), rfl, rfl, _, rfl, ?_⟩
      rw [in_mg]
      have s01 := s0.trans s1
      have hp1 : SqT K _ c [.ref b] := Same.seqT s1 hp0
      have sb1 := sub_same s1 sb0
      generalize upd H0 t1 (.tup [V.str "map", .str "grant"]) = H1 at s01 hp1 sb1 ⊢
      have hb : SqT K H1 b [.int x, .int y] := sb1
      obtain ⟨d1, d2, d3⟩ := hd
      refine iteF ⟨_, rfl, rfl, _, rfl, iteE (fun z => absurd (show ("window" : Str) = "right" from V.str.inj z) (by decide)) ?_⟩
      refine ⟨.ref c, rfl, c, _, rfl, .inr hp1, rfl, _, rfl, iteNS rfl ?_⟩
      refine ⟨_, rfl, rfl, _, rfl, iteD rfl ?_⟩
      refine ⟨.ref c, rfl, c, _, 0, _, rfl, rfl, hp1, at0, b, x, y, rfl, hb, d1, d2, d3, fun H2 s2 => ⟨_, rfl, ?_⟩⟩
      have hp2 := Same.seqT s2 hp1
      have hb2 := Same.seqT s2 hb
      by_cases ez : V.int (x % y) = V.int 0
      · have zz : zeroB x y = true := decide_eq_true ez
        refine iteD ez ⟨.ref c, rfl, c, _, 0, _, rfl, rfl, hp2, at0, b, x, y, rfl, hb2, d1, d2, by show 3 ≤ sizeLine; decide, fun t nt => ?_⟩
        exact qt _ t _ _ _ ((s01.trans s2).trans (same_upd nt)) (by simp [Item.ok, zz]) (SqT.of upd_same)
      · have zz : zeroB x y = false := decide_eq_false ez
        exact iteE ez (qn _ (s01.trans s2) (by simp [Item.ok, zz]))
    | plc p =>
      refine iteF ?_
      refine ⟨.str (Item.kind (.plc p)), rfl, by show 2 ≤ sizeLine; decide, fun t1 n1 => ?_⟩
      have s1 := same_upd (o := .tup [V.str "map", .str "grant"]) n1
      refine ⟨t1, _, rfl, .inr (SqT.of upd_same), rfl, rfl, _, rfl, ?_⟩
      rw [in_mg]
      have s01 := s0.trans s1
      have hp1 : SqT K _ c [.int p] := Same.seqT s1 hp0
      have sb1 := sub_same s1 sb0
      generalize upd H0 t1 (.tup [V.str "map", .str "grant"]) = H1 at s01 hp1 sb1 ⊢
      refine iteF ⟨_, rfl, rfl, _, rfl, iteE (fun z => absurd (show ("place" : Str) = "right" from V.str.inj z) (by decide)) ?_⟩
      refine ⟨.ref c, rfl, c, _, rfl, .inr hp1, rfl, _, rfl, iteNS rfl ?_⟩
      refine ⟨_, rfl, rfl, _, rfl, iteE (fun z => absurd (show ("place" : Str) = "window" from V.str.inj z) (by decide)) ?_⟩
      refine ⟨.ref c, rfl, c, _, 0, _, rfl, rfl, hp1, at0, .int p, .int p, 0, 15, rfl, .dp (.int p), _, rfl, ?_⟩
      cases e1 : isW (.int p) 0 15 with
      | false => exact iteF (qn _ s01 (by simp [Item.ok, e1]))
      | true =>
        refine iteT ⟨.ref c, rfl, c, _, 0, _, rfl, rfl, hp1, at0, by show 3 ≤ sizeLine; decide, fun t nt => ?_⟩
        exact qt _ t _ _ _ (s01.trans (same_upd nt)) (by simp [Item.ok, e1]) (SqT.of upd_same)
end
end K24

set_option maxRecDepth 100000
set_option maxHeartbeats 8000000
/-! k24: rows of items, and tuples of them. -/
namespace K24
open PySem PySem.Spec PyProof.Rows L2 LamX VG
theorem parts_pos (b : Addr) (it : Item) : 1 ≤ (it.parts b).length := by cases it <;> simp [Item.parts]
theorem in_kinds (it : Item) : inV (.str it.kind) kindL = true := by cases it <;> rfl
/-- where a kind stands -/
theorem kind_ix (it : Item) : ∃ (j : Nat) (z : V), kindL[j]? = some z ∧ eqV z (.str it.kind) = true ∧ ∀ m z', m < j → kindL[m]? = some z' → eqV z' (.str it.kind) = false := by
  have key : ∀ (k : Str) (j : Nat) (z : V), kindL[j]? = some z → eqV z (.str k) = true → ((kindL.take j).all fun y => !eqV y (.str k)) = true → ∃ (j : Nat) (z : V), kindL[j]? = some z ∧ eqV z (.str k) = true ∧ ∀ m z', m < j → kindL[m]? = some z' → eqV z' (.str k) = false := fun k j z h1 h2 h3 =>
    ⟨j, z, h1, h2, fun m z' hm e => by
      have hmem : z' ∈ kindL.take j := List.mem_of_getElem? (by rw [List.getElem?_take, if_pos hm]; exact e)
      have := List.all_eq_true.mp h3 z' hmem
      simpa using this⟩
  cases it with
  | str a n => exact key _ 1 _ rfl rfl rfl
  | map x y l s => exact key _ 2 _ rfl rfl rfl
  | grant x y l s => exact key _ 3 _ rfl rfl rfl
  | right p l b => exact key _ 4 _ rfl rfl rfl
  | buf a n => exact key _ 5 _ rfl rfl rfl
  | win x y => exact key _ 6 _ rfl rfl rfl
  | plc p => exact key _ 7 _ rfl rfl rfl
/-- tuples of rows -/
def AreItems (K : PySem.W.Frag) (H : Hp) : List Addr → List Item → Prop
  | [], [] => True
  | r :: rs, it :: its => IsItem K H r it ∧ AreItems K H rs its
  | _, _ => False
theorem IsItem.same {K : PySem.W.Frag} {H H' : Hp} {r : Addr} {it : Item} (s : Same H H') (h : IsItem K H r it) : IsItem K H' r it := by
  obtain ⟨b, h1, h2⟩ := h
  exact ⟨b, Same.seqT s h1, sub_same s h2⟩
theorem AreItems.same {K : PySem.W.Frag} {H H' : Hp} (s : Same H H') : ∀ {rs : List Addr} {its : List Item}, AreItems K H rs its → AreItems K H' rs its
  | [], [], _ => trivial
  | _ :: _, _ :: _, h => ⟨IsItem.same s h.1, AreItems.same s h.2⟩
  | [], _ :: _, h => h.elim
  | _ :: _, [], h => h.elim
theorem AreItems.len {K : PySem.W.Frag} {H : Hp} : ∀ {rs : List Addr} {its : List Item}, AreItems K H rs its → rs.length = its.length
  | [], [], _ => rfl
  | _ :: _, _ :: _, h => by rw [List.length_cons, List.length_cons, AreItems.len h.2]
  | [], _ :: _, h => h.elim
  | _ :: _, [], h => h.elim
theorem AreItems.nth {K : PySem.W.Frag} {H : Hp} : ∀ {rs : List Addr} {its : List Item}, AreItems K H rs its → ∀ (i : Nat) (r : Addr), rs[i]? = some r → ∃ it, its[i]? = some it ∧ IsItem K H r it
  | [], [], _, i, r, e => by simp at e
  | _ :: _, _ :: _, h, 0, r, e => by cases e; exact ⟨_, rfl, h.1⟩
  | _ :: _, _ :: _, h, i + 1, r, e => AreItems.nth h.2 i r e
  | [], _ :: _, h, _, _, _ => h.elim
  | _ :: _, [], h, _, _, _ => h.elim
theorem AreItems.take {K : PySem.W.Frag} {H : Hp} : ∀ {rs : List Addr} {its : List Item} (n : Nat), AreItems K H rs its → AreItems K H (rs.take n) (its.take n)
  | [], [], n, _ => by simp [AreItems]
  | _ :: _, _ :: _, 0, _ => trivial
  | _ :: _, _ :: _, n + 1, h => ⟨h.1, AreItems.take n h.2⟩
  | [], _ :: _, _, h => h.elim
  | _ :: _, [], _, h => h.elim
def isMG (it : Item) : Bool := match it with | .map _ _ _ _ => true | .grant _ _ _ _ => true | _ => false
def kinds (its : List Item) : List Str := its.map Item.kind
/-- whether one more row can stand behind these -/
def fitsB (it : Item) (its : List Item) : Bool := if isMG it = true then decide (((kinds its).count ("map" : Str) : Int) + ((kinds its).count ("grant" : Str) : Int) < 2) else !decide (it.kind ∈ kinds its)
def okAll (its : List Item) : Bool := (List.range its.length).all fun i => match its[i]? with | some it => it.ok && fitsB it (its.take i) | none => true
section
variable {P : Program} {w : World} {K : PySem.W.Frag} {mg : Str → Option Value} {base : Heap}
def spRowWords (K : PySem.W.Frag) : Sp := fun vs H Q _ => ∃ (it : Item) (r : Addr), vs = [.ref r] ∧ IsItem K H r it ∧ it.dom ∧ (∀ H', Same H H' → it.ok = false → Q .non H') ∧ ∀ H' t us, Same H H' → it.ok = true → us.length = 4 → SqT K H' t us → Q (.ref t) H'
theorem ok_RowWords {k : Nat} {f : Addr} {fd : FuncData} {aK:Addr} (F : Fun K "_row_words" "_row_words" sRowWords f fd) (gNu : Cal P w K mg base CX0 (k + 3) "_numbers_told" ["kind", "parts"] (spNumbers K)) (gKINDS : mg "KINDS" = some (.ref aK)) (tK : KT K aK kindL) (dK : PlainT K aK) (flen : mg "len" = none) (fstr : mg "str" = none) (ftuple : mg "tuple" = none) (ftype : mg "type" = none) : FnOk P w K mg base CX0 (k + 4) f fd ["value"] (spRowWords K) := by
  obtain ⟨fNu, fdNu, GNu, kNu, bNu, mNu⟩ := gNu
  refine F.ok scRowWords (fun vs H Q E h => ?_) (fun cdv A outer s H vs Q E hr h => ?_)
  · obtain ⟨it, r, rfl, _⟩ := h
    rfl
  · obtain ⟨it, r, rfl, hi, hd, qn, qt⟩ := h
    refine ⟨_, (pss_cons (ps_if (PW.pt (pw_or (pt_cmpR op_notTyB (pe_callTy call_type1 (by rfl) ftype (by decide +kernel) (pa_cons (pv 0) pa_nil)) (pe_bltn (v := .ty "tuple") (by rfl) ftuple (by decide +kernel) rfl) (nomark _)) (pw_or (pt_cmpR op_lt (pe_callB call_len_seq (by rfl) flen PySem.boot_len (pa_cons (pv 0) pa_nil)) pe_int (nomark _)) (pw_or1 (pt_cmpR op_notTyB (pe_callTy call_type1 (by rfl) ftype (by decide +kernel) (pa_cons (pe_ix ix_tup (pv 0) pe_int (fun _ _ => rfl)) pa_nil)) (pe_bltn (v := .ty "str") (by rfl) fstr (by decide +kernel) rfl) (nomark _)))))) (pss_one (ps_ret pe_non)) pss_nil) (pss_cons (ps_set (i := 1) scRowWords.nd rfl (.inl rfl) (pe_ifExp (pt_cmpR op_in_seq (pe_ix ix_tup (pv 0) pe_int (fun _ _ => rfl)) (pgr (by rfl) gKINDS) (by rfl)) (pe_call GNu hr (by rfl) mNu kNu bNu .nil pass0 (pa_cons (pe_ix ix_tup (pv 0) pe_int (fun _ _ => rfl)) (pa_cons (pe_slice sl_tupA (pv 0) (po_some pe_int) po_none) pa_nil))) pe_non)) (pss_one (ps_ret (pe_ifExp (pt_cmpR op_isN (pv 1) pe_non (nomark _)) pe_non (pe_tup (pa_cons (pe_bm PySem.F.plainAttrs_tuple PySem.F.slot_tuple_index PySem.F.type_tuple_index mt_tup_indexF (pgr (by rfl) gKINDS) (pa_cons (pe_ix ix_tup (pv 0) pe_int (fun _ _ => rfl)) pa_nil)) (StX.pa_star (pv 1) pa_nil)))))))), ?_⟩
    obtain ⟨b, hr1, hs⟩ := hi
    have lp := parts_pos b it
    refine ⟨.ref r, rfl, .ref r, "tuple", rfl, .tup hr1, _, _, rfl, rfl, _, rfl, iteF ?_⟩
    refine ⟨.ref r, rfl, r, _, rfl, .inr hr1, _, _, rfl, rfl, _, rfl, iteE (by rw [List.length_cons]; omega) ?_⟩
    refine ⟨.ref r, rfl, r, _, 0, _, rfl, rfl, hr1, at0, .str it.kind, "str", rfl, .str _, _, _, rfl, rfl, _, rfl, iteF ?_⟩
    refine ⟨.ref r, rfl, r, _, 0, _, rfl, rfl, hr1, at0, aK, _, rfl, .inr tK.sq, rfl, rfl, _, rfl, ?_⟩
    rw [in_kinds]
    refine iteT ⟨.ref r, rfl, r, _, 0, _, rfl, rfl, hr1, at0, .ref r, rfl, ((1 : Nat) : Int), rfl, ?_⟩
    unfold tNoPart
    refine slice_from (j := 1) hr1 fun c H1 hc s1 _ => ?_
    refine ⟨it, c, rfl, ⟨b, hc, sub_same s1 hs⟩, hd, fun H2 s2 e => ?_, fun H2 t u1 u2 u3 s2 e ht => ?_⟩
    · exact ⟨.non, rfl, rfl, _, rfl, iteD rfl (qn _ (s1.trans s2) e)⟩
    · have hr2 := Same.seqT (s1.trans s2) hr1
      obtain ⟨j, z, ej, ez, nj⟩ := kind_ix it
      refine ⟨.ref t, rfl, rfl, _, rfl, iteE (fun z => nomatch z) ⟨.inr (.inl ⟨rfl, dK⟩), .ref r, rfl, r, _, 0, _, rfl, rfl, hr2, at0, aK, kindL, .str it.kind, z, j, rfl, rfl, tK.sq, rfl, rfl, ej, ez, nj, ?_⟩⟩
      refine ⟨.ref t, rfl, t, _, rfl, .inl ht, by show 4 ≤ sizeLine; decide, fun u nu => ?_⟩
      exact qt _ u _ ((s1.trans s2).trans (same_upd nu)) e rfl (SqT.of upd_same)
def spFits (K : PySem.W.Frag) : Sp := fun vs H Q _ => ∃ (it : Item) (r c : Addr) (rs : List Addr) (its : List Item), vs = [.ref r, .ref c] ∧ IsItem K H r it ∧ SqT K H c (rs.map V.ref) ∧ AreItems K H rs its ∧ rs.length ≤ 20 ∧ ∀ H', Same H H' → Q (.bl (fitsB it its)) H'
theorem ok_FitsBehind {k : Nat} {f : Addr} {fd : FuncData}  (F : Fun K "_fits_behind" "_fits_behind" sFitsBehind f fd)    : FnOk P w K mg base CX0 (k + 1) f fd ["row", "rows"] (spFits K) := by
  refine F.ok scFitsBehind (fun vs H Q E h => ?_) (fun cdv A outer s H vs Q E hr h => ?_)
  · obtain ⟨it, r, c, rs, its, rfl, _⟩ := h
    rfl
  · obtain ⟨it, r, c, rs, its, rfl, hi, hc, hs, hl, q⟩ := h
    refine ⟨_, (pss_cons (ps_setLc (i := 2) (own := [("told", 3)]) (g := (gName 3)) (tt := tYes) rfl scFitsBehind.nd rfl rfl (by rfl) (pi_tup (pv 1)) (blkOk_by (N := ["row", "rows", "kinds", "told"]) (sc := defScope sFitsBehind) (by decide +kernel)) (fun _ _ _ _ _ => (pg_name (i := 3) scFitsBehind.nd rfl (.inl rfl))) (fun _ _ _ _ _ => pts_nil) (fun _ _ _ _ _ => (pe_ix (show IxR _ (rIxT K) from ix_tup) (pv 3) pe_int (fun _ _ => rfl)))) (pss_cons (ps_if (pt_cmpR op_in_seq (pe_ix ix_tup (pv 0) pe_int (fun _ _ => rfl)) (pe_tup (pa_cons pe_str (pa_cons pe_str pa_nil))) (by rfl)) (pss_one (ps_ret (pe_cmpR op_lt (pe_op op_add (pe_bm PySem.F.plainAttrs_list PySem.F.slot_list_count PySem.F.type_list_count mt_countS (pv 2) (pa_cons pe_str pa_nil)) (pe_bm PySem.F.plainAttrs_list PySem.F.slot_list_count PySem.F.type_list_count mt_countS (pv 2) (pa_cons pe_str pa_nil))) pe_int (nomark _)))) pss_nil) (pss_one (ps_ret (pe_cmpR op_notIn_seq (pe_ix ix_tup (pv 0) pe_int (fun _ _ => rfl)) (pv 2) (by rfl)))))), ?_⟩
    obtain ⟨b, hr1, hsb⟩ := hi
    refine ⟨.ref c, rfl, c, rfl, ⟨_, hc⟩, fun D nD => ?_⟩
    have s1 := same_upd (o := .lst []) nD
    have ll := hs.len
    refine lc_tup (xs := rs.map V.ref) (fun i H' => Same H H' ∧ H' D = some (.lst ((kinds (its.take i)).map V.str))) ⟨s1, upd_same⟩ (fun i H' _ hP => Same.seqT hP.1 hc) (fun i x H' hx hP => ?_) fun H' hP => ?_
    · obtain ⟨sm, hD⟩ := hP
      obtain ⟨r', hr', rfl⟩ : ∃ r', rs[i]? = some r' ∧ V.ref r' = x := by
        rw [List.getElem?_map] at hx
        cases e : rs[i]? with
        | none => rw [e] at hx; cases hx
        | some r' => rw [e] at hx; exact ⟨r', rfl, Option.some.inj hx⟩
      obtain ⟨it', e', hit'⟩ := hs.nth i r' hr'
      obtain ⟨b', h1', _⟩ := hit'
      have hi := (List.getElem?_eq_some_iff.mp e').1
      refine ⟨rfl, ?_⟩
      unfold tYes
      refine iteT ⟨.ref r', rfl, r', _, 0, _, rfl, rfl, Same.seqT sm h1', at0, _, hD, small1000 (by unfold kinds; rw [List.length_map, List.length_map, List.length_take]; omega), Same.updNew sm nD, ?_⟩
      rw [upd_same]
      unfold kinds
      rw [List.take_add_one, e', List.map_append, List.map_append]
      rfl
    · obtain ⟨sm, hD⟩ := hP
      have et : its.take (rs.map V.ref).length = its := List.take_of_length_le (by rw [List.length_map]; omega)
      rw [et] at hD
      refine ⟨.ref r, rfl, r, _, 0, _, rfl, rfl, Same.seqT sm hr1, at0, by show 2 ≤ sizeLine; decide, fun t nt => ?_⟩
      have s2 := same_upd (o := .tup [V.str "map", .str "grant"]) nt
      have hD2 := s2 _ _ hD
      refine ⟨t, _, rfl, .inr (SqT.of upd_same), rfl, rfl, _, rfl, ?_⟩
      have em : inV (.str it.kind) [V.str "map", .str "grant"] = isMG it := by cases it <;> rfl
      rw [em]
      cases c1 : isMG it with
      | true =>
        have ef : fitsB it its = decide (((kinds its).count ("map" : Str) : Int) + ((kinds its).count ("grant" : Str) : Int) < 2) := by unfold fitsB; rw [if_pos c1]
        refine iteT ⟨.ref D, rfl, .inl ⟨rfl, _, SqL.of hD2⟩, D, kinds its, _, rfl, rfl, SqL.of hD2, .ref D, rfl, .inl ⟨rfl, _, SqL.of hD2⟩, D, kinds its, _, rfl, rfl, SqL.of hD2, _, _, rfl, rfl, _, _, rfl, rfl, ?_⟩
        have qq := q _ (sm.trans s2)
        rw [ef] at qq
        exact qq
      | false =>
        have ef : fitsB it its = !decide (it.kind ∈ kinds its) := by unfold fitsB; rw [if_neg (by rw [c1]; exact Bool.false_ne_true)]
        refine iteF ⟨.ref r, rfl, r, _, 0, _, rfl, rfl, Same.seqT (sm.trans s2) hr1, at0, .ref D, rfl, D, _, rfl, .inl (SqL.of hD2), rfl, VG.flat_strs _, ?_⟩
        rw [VG.inV_strs]
        have qq := q _ (sm.trans s2)
        rw [ef] at qq
        exact qq
end
end K24

set_option maxRecDepth 100000
set_option maxHeartbeats 8000000
/-! k24: words of rows, what fits. -/
namespace K24
open PySem PySem.Spec PyProof.Rows L2 LamX VG
/-- whether the row at i can stand there -/
def okAt (its : List Item) (i : Nat) : Bool := match its[i]? with | some it => it.ok && fitsB it (its.take i) | none => true
theorem okAll_yes {its : List Item} (h : ∀ j, j < its.length → okAt its j = true) : okAll its = true :=
  List.all_eq_true.mpr fun j hj => h j (List.mem_range.mp hj)
theorem okAll_no {its : List Item} {j : Nat} (h : j < its.length) (e : okAt its j = false) : okAll its = false := by
  refine Bool.eq_false_iff.mpr fun z => ?_
  have this : okAt its j = true := List.all_eq_true.mp z j (List.mem_range.mpr h)
  rw [e] at this
  cases this
/-- what is looked at as rows; the last one tells whether all are rows that can stand there -/
def Rowsy (K : PySem.W.Frag) (H : Hp) (v : V) (g : Bool) : Prop := (∃ d, Dk K H v d ∧ tyName d ≠ "tuple" ∧ g = false) ∨ (∃ c rs its, v = .ref c ∧ SqT K H c (rs.map V.ref) ∧ AreItems K H rs its ∧ (∀ it ∈ its, it.dom) ∧ rs.length ≤ 20 ∧ g = okAll its)
section
variable {P : Program} {w : World} {K : PySem.W.Frag} {mg : Str → Option Value} {base : Heap}
def spWordsOf (K : PySem.W.Frag) : Sp := fun vs H Q _ => ∃ (v : V) (g : Bool), vs = [v] ∧ Rowsy K H v g ∧ (∀ H', Same H H' → g = false → Q .non H') ∧ ∀ H' x, Same H H' → g = true → Q (.ref x) H'
theorem ok_WordsOf {k : Nat} {f : Addr} {fd : FuncData}  (F : Fun K "_words_of" "_words_of" sWordsOf f fd) (gRw : Cal P w K mg base CX0 (k + 4) "_row_words" ["value"] (spRowWords K)) (gFb : Cal P w K mg base CX0 (k + 4) "_fits_behind" ["row", "rows"] (spFits K))  (fenumerate : mg "enumerate" = none) (ftuple : mg "tuple" = none) (ftype : mg "type" = none) : FnOk P w K mg base CX0 (k + 5) f fd ["value"] (spWordsOf K) := by
  obtain ⟨fRw, fdRw, GRw, kRw, bRw, mRw⟩ := gRw
  obtain ⟨fFb, fdFb, GFb, kFb, bFb, mFb⟩ := gFb
  refine F.ok scWordsOf (fun vs H Q E h => ?_) (fun cdv A outer s H vs Q E hr h => ?_)
  · obtain ⟨v, g, rfl, _⟩ := h
    rfl
  · obtain ⟨v, g, rfl, hv, qn, qt⟩ := h
    refine ⟨_, (pss_cons (ps_if (pt_cmpR op_notTyB (pe_callTy call_type1 (by rfl) ftype (by decide +kernel) (pa_cons (pv 0) pa_nil)) (pe_bltn (v := .ty "tuple") (by rfl) ftuple (by decide +kernel) rfl) (nomark _)) (pss_one (ps_ret pe_non)) pss_nil) (pss_cons (ps_set (i := 1) scWordsOf.nd rfl (.inl rfl) (pe_lst pa_nil)) (pss_cons (ps_for PassesOwn.never rfl (pi_enumT (by rfl) fenumerate (pa_cons (pv 0) pa_nil)) (pg_tup (by rfl) (pgs_cons (pg_name (i := 2) scWordsOf.nd rfl (.inl rfl)) (pgs_cons (pg_name (i := 3) scWordsOf.nd rfl (.inl rfl)) pgs_nil))) (pss_cons (ps_set (i := 4) scWordsOf.nd rfl (.inl rfl) (pe_call GRw hr (by rfl) mRw kRw bRw .nil pass0 (pa_cons (pv 3) pa_nil))) (pss_cons (ps_if (PW.pt (pw_or (pt_cmpR op_isN (pv 4) pe_non (nomark _)) (pw_or1 (pt_not (pt_val (pe_call GFb hr (by rfl) mFb kFb bFb .nil pass0 (pa_cons (pv 3) (pa_cons (pe_slice sl_tupA (pv 0) po_none (po_some (pv 2))) pa_nil)))))))) (pss_one (ps_ret pe_non)) pss_nil) (pss_one (ps_expr (pe_bm PySem.F.plainAttrs_list PySem.F.slot_list_extend PySem.F.type_list_extend mt_extT (pv 1) (pa_cons (pv 4) pa_nil))))))) (pss_one (ps_ret (pv 1)))))), ?_⟩
    rcases hv with ⟨d, hd, hn, rfl⟩ | ⟨c, rs, its, rfl, hc, hs, hdom, hl, rfl⟩
    · refine ⟨v, rfl, v, tyName d, rfl, hd.ty, _, _, rfl, rfl, _, rfl, ite2 (fun _ => qn _ (Same.refl H) rfl) fun e => ?_⟩
      simp [hn] at e
    · have ll := hs.len
      refine ⟨.ref c, rfl, .ref c, "tuple", rfl, .tup hc, _, _, rfl, rfl, _, rfl, iteF ?_⟩
      refine ⟨by show 0 ≤ sizeLine; decide, fun W nW => ?_⟩
      have s1 : Same H (upd H W (.lst [])) := same_upd nW
      refine ⟨.ref c, rfl, c, _, rfl, Same.seqT s1 hc, for_any (n := rs.length) (fun i σ H' => ∃ y2 y3 y4 ws, σ = [some (.ref c), some (.ref W), y2, y3, y4] ∧ Same H H' ∧ H' W = some (.lst ws) ∧ ws.length = 4 * i ∧ ∀ j, j < i → okAt its j = true) ⟨none, none, none, [], rfl, s1, upd_same, rfl, fun j hj => absurd hj (Nat.not_lt_zero _)⟩ (fun i σ H' hi hP => ?_) (fun σ H' hP => ?_) (fun i x σ H' H'' hi hP hy => ?_) fun σ H' hP => ?_⟩
      · obtain ⟨_, _, _, _, rfl, sm, _⟩ := hP
        exact ⟨_, _, Same.seqT sm hc, List.getElem?_eq_getElem (by rw [List.length_map]; exact hi)⟩
      · obtain ⟨_, _, _, _, rfl, sm, _⟩ := hP
        exact ⟨_, Same.seqT sm hc, by rw [List.length_map]; exact Nat.le_refl _⟩
      · obtain ⟨y2, y3, y4, ws, rfl, sm, hW, hwl, hok⟩ := hP
        obtain ⟨T, x, rfl, nT, rfl, hx⟩ := hy
        have e1 := hx _ (Same.seqT sm hc)
        obtain ⟨r, hr', rfl⟩ : ∃ r, rs[i]? = some r ∧ V.ref r = x := by
          rw [List.getElem?_map] at e1
          cases e : rs[i]? with
          | none => rw [e] at e1; cases e1
          | some r => rw [e] at e1; exact ⟨r, rfl, Option.some.inj e1⟩
        obtain ⟨it, e', hit⟩ := hs.nth i r hr'
        have hii : i < its.length := by omega
        have eo : okAt its i = (it.ok && fitsB it (its.take i)) := by unfold okAt; rw [e']
        have sT := same_upd (o := .tup [.int (i : Nat), .ref r]) nT
        have sm2 := sm.trans sT
        have hW2 := sT _ _ hW
        refine ⟨T, [.int _, .ref r], rfl, SqT.of upd_same, rfl, .int _, [.ref r], rfl, .ref r, [], rfl, rfl, ?_⟩
        generalize upd H' T (.tup [.int (i : Nat), .ref r]) = H1 at sm2 hW2 ⊢
        refine ⟨.ref r, rfl, it, r, rfl, hit.same sm2, hdom it (List.mem_of_getElem? e'), fun H2 s2 e => ?_, fun H2 t us s2 e hl4 ht => ?_⟩
        · exact ⟨.non, rfl, rfl, _, rfl, iteD rfl (qn _ (sm2.trans s2) (okAll_no hii (by rw [eo, e]; rfl)))⟩
        · refine ⟨.ref t, rfl, rfl, _, rfl, iteE (fun z => nomatch z) ?_⟩
          refine ⟨.ref r, rfl, .ref c, rfl, ?_⟩
          unfold tNoPart
          have sm3 := sm2.trans s2
          refine ⟨.int (i : Nat), rfl, (i : Nat), rfl, slice_to (j := i) (Same.seqT sm3 hc) fun c2 H3 hc2 s3 => ?_⟩
          have sm4 := sm3.trans s3
          refine ⟨it, r, c2, rs.take i, its.take i, rfl, hit.same sm4, by rw [List.map_take]; exact hc2, (hs.take i).same sm4, by rw [List.length_take]; omega, fun H4 s4 => ⟨_, rfl, ?_⟩⟩
          cases ef : fitsB it (its.take i) with
          | false => exact iteT (qn _ (sm4.trans s4) (okAll_no hii (by rw [eo, ef, Bool.and_false])))
          | true =>
            have hW5 := s4 _ _ (s3 _ _ (s2 _ _ hW2))
            refine iteF ⟨.ref W, rfl, .inl ⟨rfl, _, SqL.of hW5⟩, .ref t, rfl, W, t, ws, us, rfl, rfl, hW5, Same.seqT (s3.trans s4) ht, sl (by omega), ?_⟩
            refine ⟨_, _, _, ws ++ us, rfl, Same.updNew (sm4.trans s4) nW, upd_same, by rw [List.length_append]; omega, fun j hj => ?_⟩
            by_cases c1 : j = i
            · rw [c1, eo, e, ef]; rfl
            · exact hok j (by omega)
      · obtain ⟨y2, y3, y4, ws, rfl, sm, hW, hwl, hok⟩ := hP
        exact ⟨.ref W, rfl, qt _ W sm (okAll_yes fun j hj => hok j (by omega))⟩
end
end K24

set_option maxRecDepth 100000
set_option maxHeartbeats 8000000
/-! k24: what fits. -/
namespace K24
open PySem PySem.Spec PyProof.Rows L2 LamX VG
theorem scFitting : FnScope ["sent", "received", "kinds", "row", "ready", "pages", "most"] ["sent", "received"] (defScope sFitting) := ⟨rfl, rfl, rfl, by decide +kernel, rfl, by decide +kernel, by decide +kernel⟩
def third : Item → Int
  | .str _ n => n | .buf _ n => n | _ => 0
def sumOf (z : Str) (its : List Item) : Int := ((its.filter fun it => decide (it.kind = z)).map third).sum
section
variable {P : Program} {w : World} {K : PySem.W.Frag} {mg : Str → Option Value} {base : Heap}
def spManyIn (K : PySem.W.Frag) : Sp := fun vs H Q _ => ∃ (c : Addr) (z : Str) (rs : List Addr) (its : List Item), vs = [.ref c, .str z] ∧ (z = "string" ∨ z = "buffer") ∧ SqT K H c (rs.map V.ref) ∧ AreItems K H rs its ∧ rs.length ≤ 20 ∧ ∀ H', Same H H' → Q (.int (sumOf z its)) H'
theorem ok_ManyIn {k : Nat} {f : Addr} {fd : FuncData}  (F : Fun K "_many_in" "_many_in" sManyIn f fd)   (fsum : mg "sum" = none) : FnOk P w K mg base CX0 (k + 1) f fd ["rows", "kind"] (spManyIn K) := by
  refine F.ok scManyIn (fun vs H Q E h => ?_) (fun cdv A outer s H vs Q E hr h => ?_)
  · obtain ⟨c, z, rs, its, rfl, _⟩ := h
    rfl
  · obtain ⟨c, z, rs, its, rfl, hz, hc, hs, hl, q⟩ := h
    refine ⟨_, (pss_one (ps_ret (pe_callB (cr_sum rfl) (by rfl) fsum (by decide +kernel) (pa_cons (pe_lc (own := [("row", 2)]) (g := (gName 2)) (tt := _) rfl scManyIn.nd (pi_tup (pv 0)) (blkOk_by (N := ["rows", "kind", "row"]) (sc := defScope sManyIn) (by decide +kernel)) (fun _ _ _ _ _ => (pg_name (i := 2) scManyIn.nd rfl (.inl rfl))) (fun _ _ _ _ _ => (pts_one (pt_cmpR op_eq (pe_ix (show IxR _ (rIxT K) from ix_tup) (pv 2) pe_int (fun _ _ => rfl)) (pv 1) (nomark _)))) (fun _ _ _ _ _ => (pe_ix (show IxR _ (rIxT K) from ix_tup) (pv 2) pe_int (fun _ _ => rfl)))) pa_nil)))), ?_⟩
    have ll := hs.len
    refine ⟨.ref c, rfl, c, rfl, ⟨_, hc⟩, fun D nD => ?_⟩
    have s1 := same_upd (o := .lst []) nD
    refine lc_tup (xs := rs.map V.ref) (fun i H' => Same H H' ∧ H' D = some (.lst ((((its.take i).filter fun it => decide (it.kind = z)).map third).map V.int))) ⟨s1, upd_same⟩ (fun i H' _ hP => Same.seqT hP.1 hc) (fun i x H' hx hP => ?_) fun H' hP => ?_
    · obtain ⟨sm, hD⟩ := hP
      obtain ⟨r', hr', rfl⟩ : ∃ r', rs[i]? = some r' ∧ V.ref r' = x := by
        rw [List.getElem?_map] at hx
        cases e : rs[i]? with
        | none => rw [e] at hx; cases hx
        | some r' => rw [e] at hx; exact ⟨r', rfl, Option.some.inj hx⟩
      obtain ⟨it', e', hit'⟩ := hs.nth i r' hr'
      obtain ⟨b', h1', _⟩ := hit'
      have hi := (List.getElem?_eq_some_iff.mp e').1
      have h1 := Same.seqT sm h1'
      refine ⟨rfl, .ref r', rfl, r', _, 0, _, rfl, rfl, h1, at0, .str z, rfl, rfl, _, rfl, ?_⟩
      rw [List.take_add_one, e', List.filter_append, List.map_append, List.map_append]
      by_cases ek : it'.kind = z
      · have e3 : atI (V.str it'.kind :: it'.parts b') 2 = some (.int (third it')) := by
          cases it' with
          | str a n => exact at2
          | buf a n => exact at2
          | map x y l s =>
            have ek : ("map" : Str) = z := ek
            rcases hz with rfl | rfl <;> exact absurd ek (by decide)
          | grant x y l s =>
            have ek : ("grant" : Str) = z := ek
            rcases hz with rfl | rfl <;> exact absurd ek (by decide)
          | right p l b =>
            have ek : ("right" : Str) = z := ek
            rcases hz with rfl | rfl <;> exact absurd ek (by decide)
          | win x y =>
            have ek : ("window" : Str) = z := ek
            rcases hz with rfl | rfl <;> exact absurd ek (by decide)
          | plc p =>
            have ek : ("place" : Str) = z := ek
            rcases hz with rfl | rfl <;> exact absurd ek (by decide)
        refine iteD (congrArg V.str ek) ⟨.ref r', rfl, r', _, 2, _, rfl, rfl, h1, e3, _, hD, small1000 ?_, Same.updNew sm nD, ?_⟩
        · rw [List.length_map, List.length_map]
          have := List.length_filter_le (fun it : Item => decide (it.kind = z)) (its.take i)
          rw [List.length_take] at this
          omega
        · rw [upd_same]
          have : (List.filter (fun it : Item => decide (it.kind = z)) (some it').toList) = [it'] := by simp [ek]
          rw [this]
          rfl
      · refine iteE (fun z => ek (V.str.inj z)) ⟨sm, ?_⟩
        have : (List.filter (fun it : Item => decide (it.kind = z)) (some it').toList) = [] := by simp [ek]
        rw [this, List.map_nil, List.map_nil, List.append_nil]
        exact hD
    · obtain ⟨sm, hD⟩ := hP
      have et : its.take (rs.map V.ref).length = its := List.take_of_length_le (by rw [List.length_map]; omega)
      rw [et] at hD
      exact ⟨D, _, rfl, SqL.of hD, q _ sm⟩
structure Good (K : PySem.W.Frag) (H : Hp) (c : Addr) (rs : List Addr) (its : List Item) : Prop where
  s : SqT K H c (rs.map V.ref)
  a : AreItems K H rs its
  d : ∀ it ∈ its, it.dom
  l : rs.length ≤ 20
  o : okAll its = true
theorem Good.rowsy {H : Hp} {c : Addr} {rs : List Addr} {its : List Item} (g : Good K H c rs its) : Rowsy K H (.ref c) true := .inr ⟨c, rs, its, rfl, g.s, g.a, g.d, g.l, g.o.symm⟩
theorem Good.same {H H' : Hp} {c : Addr} {rs : List Addr} {its : List Item} (s : Same H H') (g : Good K H c rs its) : Good K H' c rs its := ⟨Same.seqT s g.s, g.a.same s, g.d, g.l, g.o⟩
theorem Rowsy.same {H H' : Hp} {v : V} {b : Bool} (s : Same H H') (g : Rowsy K H v b) : Rowsy K H' v b := by
  rcases g with ⟨d, h1, h2, h3⟩ | ⟨c, rs, its, h1, h2, h3, h4, h5, h6⟩
  · exact .inl ⟨d, h1.same s, h2, h3⟩
  · exact .inr ⟨c, rs, its, h1, Same.seqT s h2, h3.same s, h4, h5, h6⟩
def least (i j : Int) : Int := if j < i then j else i
def has (z : Str) (its : List Item) : Bool := decide (z ∈ kinds its)
theorem inIs {K : PySem.W.Frag} {a : Str} {σ : L2.St} {H : Hp} {te : TE} {Q : VK} {D : Addr} {its : List Item} (hv : ∀ R : VK, R (.ref D) H → te σ H R) (hD : H D = some (.lst ((kinds its).map V.str))) (q : Q (.bl (has a its)) H) : tOp (rIn K false) (tC (.str a)) te σ H Q :=
  hv _ ⟨D, _, rfl, .inl (SqL.of hD), rfl, VG.flat_strs _, by rw [VG.inV_strs]; exact q⟩
theorem andIs {σ : L2.St} {H : Hp} {t1 t2 : TE} {Q : VK} {x y : Bool} (h1 : ∀ R : VK, R (.bl x) H → t1 σ H R) (h2 : ∀ R : VK, R (.bl y) H → t2 σ H R) (q : Q (.bl (x && y)) H) : tAndV t1 t2 σ H Q := by
  refine h1 _ ⟨x, rfl, ?_⟩
  cases x with
  | false => exact iteF q
  | true => exact iteT (h2 _ q)
theorem orIs {σ : L2.St} {H : Hp} {t1 t2 : TE} {Q : VK} {x y : Bool} (h1 : ∀ R : VK, R (.bl x) H → t1 σ H R) (h2 : ∀ R : VK, R (.bl y) H → t2 σ H R) (q : Q (.bl (x || y)) H) : tOrV t1 t2 σ H Q := by
  refine h1 _ ⟨x, rfl, ?_⟩
  cases x with
  | true => exact iteT q
  | false => exact iteF (h2 _ q)
def spFitting (K : PySem.W.Frag) (C : Addr) : Sp := fun vs H Q E => ∃ v1 v2, vs = [v1, v2] ∧
  ((Rowsy K H v1 false ∧ ∀ H' dd, Same H H' → H' dd = none → E (.ref C) (some dd) (upd H' dd (.xd [("value", v1)]))) ∨
  (Rowsy K H v1 true ∧ Rowsy K H v2 false ∧ ∀ H' dd, Same H H' → H' dd = none → E (.ref C) (some dd) (upd H' dd (.xd [("value", v2)]))) ∨
  ∃ c1 c2 r1 r2 i1 i2, v1 = .ref c1 ∧ v2 = .ref c2 ∧ Good K H c1 r1 i1 ∧ Good K H c2 r2 i2 ∧ ∀ H' t, Same H H' → SqT K H' t [.int (least (sumOf "string" i1) (sumOf "buffer" i2)), .bl ((has "map" i1 || has "grant" i1) && has "window" i2), .bl (has "right" i1 && has "place" i2)] → Q (.ref t) H')
theorem ok_Fitting {k : Nat} {f : Addr} {fd : FuncData} {C3 J3:Addr} {fdI3:FuncData} (F : Fun K "fitting" "fitting" sFitting f fd) (gWs : Cal P w K mg base CX0 (k + 5) "_words_of" ["value"] (spWordsOf K)) (gMi : Cal P w K mg base CX0 (k + 5) "_many_in" ["rows", "kind"] (spManyIn K)) (E3 : ErrC K C3 J3) (I3 : Fun K "__init__" "CoreError.__init__" sInit J3 fdI3) (bI3 : L2.Binds K fdI3 ["self", "value"] []) (gBadRows : mg "BadRows" = some (.ref C3)) (fmin : mg "min" = none) : FnOk P w K mg base (L2.CX P w) (k + 6) f fd ["sent", "received"] (spFitting K C3) := by
  obtain ⟨fWs, fdWs, GWs, kWs, bWs, mWs⟩ := gWs
  obtain ⟨fMi, fdMi, GMi, kMi, bMi, mMi⟩ := gMi
  refine F.okX scFitting (fun vs H Q E h => ?_) (fun cdv A outer s H vs Q E hr h => ?_)
  · obtain ⟨v1, v2, rfl, _⟩ := h
    rfl
  · obtain ⟨v1, v2, rfl, h⟩ := h
    refine ⟨_, (pss_cons (ps_if (pt_cmpR op_isN (pe_call GWs hr (by rfl) mWs kWs bWs .nil pass0 (pa_cons (pv 0) pa_nil)) pe_non (nomark _)) (pss_one (ps_err rfl E3 I3 bI3 (k := (k+3)) hr (takes_of rfl rfl rfl rfl) (by rfl) gBadRows (pv 0))) pss_nil) (pss_cons (ps_if (pt_cmpR op_isN (pe_call GWs hr (by rfl) mWs kWs bWs .nil pass0 (pa_cons (pv 1) pa_nil)) pe_non (nomark _)) (pss_one (ps_err rfl E3 I3 bI3 (k := (k+3)) hr (takes_of rfl rfl rfl rfl) (by rfl) gBadRows (pv 1))) pss_nil) (PSs.nox (pss_cons (ps_setLc (i := 2) (own := [("row", 3)]) (g := (gName 3)) (tt := tYes) rfl scFitting.nd rfl rfl (by rfl) (pi_tup (pv 0)) (blkOk_by (N := ["sent", "received", "kinds", "row", "ready", "pages", "most"]) (sc := defScope sFitting) (by decide +kernel)) (fun _ _ _ _ _ => (pg_name (i := 3) scFitting.nd rfl (.inl rfl))) (fun _ _ _ _ _ => pts_nil) (fun _ _ _ _ _ => (pe_ix (show IxR _ (rIxT K) from ix_tup) (pv 3) pe_int (fun _ _ => rfl)))) (pss_cons (ps_setLc (i := 4) (own := [("row", 3)]) (g := (gName 3)) (tt := tYes) rfl scFitting.nd rfl rfl (by rfl) (pi_tup (pv 1)) (blkOk_by (N := ["sent", "received", "kinds", "row", "ready", "pages", "most"]) (sc := defScope sFitting) (by decide +kernel)) (fun _ _ _ _ _ => (pg_name (i := 3) scFitting.nd rfl (.inl rfl))) (fun _ _ _ _ _ => pts_nil) (fun _ _ _ _ _ => (pe_ix (show IxR _ (rIxT K) from ix_tup) (pv 3) pe_int (fun _ _ => rfl)))) (pss_cons (ps_set (i := 5) scFitting.nd rfl (.inl rfl) (pe_or (pe_cmpR op_in_seq pe_str (pv 2) (by rfl)) (pe_one (pe_cmpR op_in_seq pe_str (pv 2) (by rfl))))) (pss_cons (ps_set (i := 6) scFitting.nd rfl (.inl rfl) (pe_callB (call_min2 rfl) (by rfl) fmin (by decide +kernel) (pa_cons (pe_call GMi hr (by rfl) mMi kMi bMi .nil pass0 (pa_cons (pv 0) (pa_cons pe_str pa_nil))) (pa_cons (pe_call GMi hr (by rfl) mMi kMi bMi .nil pass0 (pa_cons (pv 1) (pa_cons pe_str pa_nil))) pa_nil)))) (pss_one (ps_ret (pe_tup (pa_cons (pv 6) (pa_cons (pe_and (pv 5) (pe_one (pe_cmpR op_in_seq pe_str (pv 4) (by rfl)))) (pa_cons (pe_and (pe_cmpR op_in_seq pe_str (pv 2) (by rfl)) (pe_one (pe_cmpR op_in_seq pe_str (pv 4) (by rfl)))) pa_nil))))))))))))), ?_⟩
    rcases h with ⟨g1, qe⟩ | ⟨g1, g2, qe⟩ | ⟨c1, c2, r1, r2, i1, i2, rfl, rfl, g1, g2, q⟩
    · exact ⟨v1, rfl, v1, false, rfl, g1, fun H1 s1 _ => ⟨rfl, _, rfl, iteD rfl ⟨v1, rfl, need_ok E3 fun dd n => qe H1 dd s1 n⟩⟩, fun H1 x s1 e => nomatch e⟩
    · refine ⟨v1, rfl, v1, true, rfl, g1, fun H1 s1 e => (nomatch e), fun H1 x s1 _ => ⟨rfl, _, rfl, iteE (fun z => nomatch z) ?_⟩⟩
      exact ⟨v2, rfl, v2, false, rfl, g2.same s1, fun H2 s2 _ => ⟨rfl, _, rfl, iteD rfl ⟨v2, rfl, need_ok E3 fun dd n => qe H2 dd (s1.trans s2) n⟩⟩, fun H2 x s2 e => nomatch e⟩
    · refine ⟨.ref c1, rfl, .ref c1, true, rfl, g1.rowsy, fun H1 s1 e => (nomatch e), fun H1 x s1 _ => ⟨rfl, _, rfl, iteE (fun z => nomatch z) ?_⟩⟩
      refine ⟨.ref c2, rfl, .ref c2, true, rfl, g2.rowsy.same s1, fun H2 s2 e => (nomatch e), fun H2 x2 s2 _ => ⟨rfl, _, rfl, iteE (fun z => nomatch z) ?_⟩⟩
      have s12 := s1.trans s2
      have g1 := g1.same s12
      have g2 := g2.same s12
      have q : ∀ H' t, Same H2 H' → _ := fun H' t s' => q H' t (s12.trans s')
      clear s12 s1 s2
      refine ⟨.ref c1, rfl, c1, rfl, ⟨_, g1.s⟩, fun D nD => ?_⟩
      have sD := same_upd (o := .lst []) nD
      refine lc_tup (xs := r1.map V.ref) (fun i H' => Same H2 H' ∧ H' D = some (.lst ((kinds (i1.take i)).map V.str))) ⟨sD, upd_same⟩ (fun i H' _ hP => Same.seqT hP.1 g1.s) (fun i x H' hx hP => ?_) fun H' hP => ?_
      · obtain ⟨sm, hD⟩ := hP
        obtain ⟨r', hr', rfl⟩ : ∃ r', r1[i]? = some r' ∧ V.ref r' = x := by
          rw [List.getElem?_map] at hx
          cases e : r1[i]? with
          | none => rw [e] at hx; cases hx
          | some r' => rw [e] at hx; exact ⟨r', rfl, Option.some.inj hx⟩
        obtain ⟨it', e', hit'⟩ := g1.a.nth i r' hr'
        obtain ⟨b', h1', _⟩ := hit'
        have hi := (List.getElem?_eq_some_iff.mp e').1
        have hl := g1.l
        have ll := g1.a.len
        refine ⟨rfl, ?_⟩
        unfold tYes
        refine iteT ⟨.ref r', rfl, r', _, 0, _, rfl, rfl, Same.seqT sm h1', at0, _, hD, small1000 (by unfold kinds; rw [List.length_map, List.length_map, List.length_take]; omega), Same.updNew sm nD, ?_⟩
        rw [upd_same]
        unfold kinds
        rw [List.take_add_one, e', List.map_append, List.map_append]
        rfl
      obtain ⟨smD, hD⟩ := hP
      have etD : i1.take (r1.map V.ref).length = i1 := List.take_of_length_le (by rw [List.length_map, g1.a.len]; exact Nat.le_refl _)
      rw [etD] at hD
      have g2 := g2.same smD
      have g1 := g1.same smD
      generalize H' = H3 at smD hD g1 g2 ⊢
      refine ⟨.ref c2, rfl, c2, rfl, ⟨_, g2.s⟩, fun D2 nD2 => ?_⟩
      have sD2 := same_upd (o := .lst []) nD2
      refine lc_tup (xs := r2.map V.ref) (fun i H' => Same H3 H' ∧ H' D2 = some (.lst ((kinds (i2.take i)).map V.str))) ⟨sD2, upd_same⟩ (fun i H' _ hP => Same.seqT hP.1 g2.s) (fun i x H' hx hP => ?_) fun H' hP => ?_
      · obtain ⟨sm, hD⟩ := hP
        obtain ⟨r', hr', rfl⟩ : ∃ r', r2[i]? = some r' ∧ V.ref r' = x := by
          rw [List.getElem?_map] at hx
          cases e : r2[i]? with
          | none => rw [e] at hx; cases hx
          | some r' => rw [e] at hx; exact ⟨r', rfl, Option.some.inj hx⟩
        obtain ⟨it', e', hit'⟩ := g2.a.nth i r' hr'
        obtain ⟨b', h1', _⟩ := hit'
        have hi := (List.getElem?_eq_some_iff.mp e').1
        have hl := g2.l
        have ll := g2.a.len
        refine ⟨rfl, ?_⟩
        unfold tYes
        refine iteT ⟨.ref r', rfl, r', _, 0, _, rfl, rfl, Same.seqT sm h1', at0, _, hD, small1000 (by unfold kinds; rw [List.length_map, List.length_map, List.length_take]; omega), Same.updNew sm nD2, ?_⟩
        rw [upd_same]
        unfold kinds
        rw [List.take_add_one, e', List.map_append, List.map_append]
        rfl
      obtain ⟨smD2, hD2⟩ := hP
      have etD2 : i2.take (r2.map V.ref).length = i2 := List.take_of_length_le (by rw [List.length_map, g2.a.len]; exact Nat.le_refl _)
      rw [etD2] at hD2
      have g1 := g1.same smD2
      have g2 := g2.same smD2
      have hD := smD2 _ _ hD
      have s03 := smD.trans smD2
      generalize H' = H4 at smD2 hD hD2 g1 g2 s03 ⊢
      show tOrV (tOp (rIn K false) (tC (.str "map")) (tVar 2)) (tOp (rIn K false) (tC (.str "grant")) (tVar 2)) [some (.ref c1), some (.ref c2), some (.ref D), none, some (.ref D2), none, none] H4 _
      refine orIs (fun R r => inIs (fun R r => ⟨_, rfl, r⟩) hD r) (fun R r => inIs (fun R r => ⟨_, rfl, r⟩) hD r) ?_
      refine ⟨.ref c1, rfl, c1, "string", r1, i1, rfl, .inl rfl, g1.s, g1.a, g1.l, fun H5 s5 => ?_⟩
      have g2 := g2.same s5
      refine ⟨.ref c2, rfl, c2, "buffer", r2, i2, rfl, .inr rfl, g2.s, g2.a, g2.l, fun H6 s6 => ?_⟩
      have hD := s6 _ _ (s5 _ _ hD)
      have hD2 := s6 _ _ (s5 _ _ hD2)
      refine ⟨_, _, rfl, _, rfl, ?_⟩
      refine andIs (fun R r => ⟨_, rfl, r⟩) (fun R r => inIs (fun R r => ⟨_, rfl, r⟩) hD2 r) ?_
      refine andIs (fun R r => inIs (fun R r => ⟨_, rfl, r⟩) hD r) (fun R r => inIs (fun R r => ⟨_, rfl, r⟩) hD2 r) ?_
      refine ⟨by show 3 ≤ sizeLine; decide, fun t nt => ?_⟩
      exact q _ t ((s03.trans (s5.trans s6)).trans (same_upd nt)) (SqT.of upd_same)
end
end K24

set_option maxRecDepth 100000
set_option maxHeartbeats 8000000
/-! k24: what is copied. -/
namespace K24
open PySem PySem.Spec PyProof.Rows L2 LamX VG
theorem scCopied : FnScope ["source", "target", "start", "goal", "many", "written", "read", "done", "beyond"] ["source", "target", "start", "goal", "many"] (defScope sCopied) := ⟨rfl, rfl, rfl, by decide +kernel, rfl, by decide +kernel, by decide +kernel⟩
theorem scLCopied : FnScope ["source", "target", "start", "goal", "many", "here", "there", "is_one", "step", "word"] ["source", "target", "start", "goal", "many"] (defScope sLCopied) := ⟨rfl, rfl, rfl, by decide +kernel, rfl, by decide +kernel, by decide +kernel⟩
abbrev OL := List (Option Int)
def dO : Option Int → PyData
  | none => .none
  | some i => .int i
/-- the word at s, none where there is none -/
def rd (l : OL) (s : Nat) : Option Int := (l[s]?).join
def stop (one : Bool) (src dst : OL) (s g : Nat) : Bool := (decide (255 < s) || decide (255 < g)) || ((rd (if one then dst else src) s).isNone || (rd dst g).isNone)
def cp (one : Bool) (src : OL) (s g : Nat) : Nat → Nat → OL → Nat × OL
  | 0, i, dst => (i, dst)
  | n + 1, i, dst => if stop one src dst (s + i) (g + i) = true then (i, dst) else cp one src s g n (i + 1) (dst.set (g + i) (rd (if one then dst else src) (s + i)))
def okL (l : OL) : Prop := l.length = 256 ∧ ∀ i, some i ∈ l → 0 ≤ i ∧ i ≤ 65535
theorem rd_some {l : OL} {s : Nat} (h : s < l.length) : l[s]? = some (rd l s) := by
  unfold rd
  rw [List.getElem?_eq_getElem h]
  rfl
theorem okL.set {l m : OL} {s g : Nat} (h : okL l) (hm : okL m) : okL (l.set g (rd m s)) := by
  refine ⟨by rw [List.length_set]; exact h.1, fun i hi => ?_⟩
  rcases List.mem_or_eq_of_mem_set hi with hi | hi
  · exact h.2 i hi
  · by_cases c : s < m.length
    · exact hm.2 i (hi ▸ List.mem_of_getElem? (rd_some c))
    · unfold rd at hi
      rw [List.getElem?_eq_none (by omega)] at hi
      cases hi
theorem cp_ok {one : Bool} {src : OL} {s g : Nat} (hs : okL src) : ∀ (n i : Nat) (dst : OL), okL dst → okL (cp one src s g n i dst).2
  | 0, _, dst, h => h
  | n + 1, i, dst, h => by
    unfold cp
    by_cases c : stop one src dst (s + i) (g + i) = true
    · rw [if_pos c]; exact h
    · rw [if_neg c]
      exact cp_ok hs n (i + 1) _ (h.set (by cases one <;> assumption))
theorem cp_le {one : Bool} {src : OL} {s g : Nat} : ∀ (n i : Nat) (dst : OL), (cp one src s g n i dst).1 ≤ i + n
  | 0, _, dst => Nat.le_refl _
  | n + 1, i, dst => by
    unfold cp
    by_cases c : stop one src dst (s + i) (g + i) = true
    · rw [if_pos c]; exact Nat.le_add_right _ _
    · rw [if_neg c]
      have := cp_le (one := one) (src := src) (s := s) (g := g) n (i + 1) (dst.set (g + i) (rd (if one = true then dst else src) (s + i)))
      omega
theorem cp_go {one : Bool} {src dst : OL} {s g n i : Nat} (h : stop one src dst (s + i) (g + i) = false) : cp one src s g (n + 1) i dst = cp one src s g n (i + 1) (dst.set (g + i) (rd (if one then dst else src) (s + i))) := by
  rw [cp, if_neg (by rw [h]; exact Bool.false_ne_true)]
theorem cp_stop {one : Bool} {src dst : OL} {s g n i : Nat} (h : stop one src dst (s + i) (g + i) = true) : cp one src s g (n + 1) i dst = (i, dst) := by
  rw [cp, if_pos h]
theorem stop_in {one : Bool} {src dst : OL} {s g : Nat} (h : stop one src dst s g = false) : s < 256 ∧ g < 256 := by
  unfold stop at h
  have h := (Bool.or_eq_false_iff.mp (Bool.or_eq_false_iff.mp h).1)
  have h1 := of_decide_eq_false h.1
  have h2 := of_decide_eq_false h.2
  omega
theorem ixN_of {n j : Nat} {z : Int} (hj : j < n) (ez : z = (j : Int)) : ixN n z = some j := by
  subst ez
  unfold ixN
  rw [if_pos (by omega), if_pos (by omega)]
  simp
theorem orT {σ : L2.St} {H : Hp} {t1 t2 : TT} {Q : Bool → Hp → Prop} {x y : Bool} (h1 : ∀ R : Bool → Hp → Prop, R x H → t1 σ H R) (h2 : x = false → ∀ R : Bool → Hp → Prop, R y H → t2 σ H R) (q : Q (x || y) H) : tOr t1 t2 σ H Q := by
  refine h1 _ ?_
  cases x with
  | true => exact iteT q
  | false => exact iteF (h2 rfl _ q)
theorem both {b : Bool} {ta tb : TE} {σ : L2.St} {H : Hp} {Q : VK} (Pr : V → Hp → Prop) (h1 : b = true → ∀ R : VK, (∀ v H', Pr v H' → R v H') → ta σ H R) (h2 : b = false → ∀ R : VK, (∀ v H', Pr v H' → R v H') → tb σ H R) (h : ∀ v H', Pr v H' → Q v H') : if b = true then ta σ H Q else tb σ H Q := by
  cases b with
  | true => exact iteT (h1 rfl _ h)
  | false => exact iteF (h2 rfl _ h)
theorem isN_optB (o : Option Int) : decide (optB o = V.non) = o.isNone := by cases o <;> rfl
section
variable {P : Program} {w : World} {K : PySem.W.Frag} {mg : Str → Option Value} {base : Heap}
theorem dp_ol {H : Hp} : ∀ (l : OL), DpAll K H (l.map optB) (l.map dO)
  | [] => .nil
  | none :: l => .cons .non (dp_ol l)
  | some i :: l => .cons (.int i) (dp_ol l)
theorem shaped_ol (l : OL) : SeqAt.shaped (.tuple (l.map dO)) = true := by
  have h1 : PyData.canLayAll0 (l.map dO) = true := by
    induction l with
    | nil => simp [PyData.canLayAll0]
    | cons x l ih => cases x <;> simpa [PyData.canLayAll0, PyData.canLay0, dO] using ih
  have h2 : PyData.depthAll (l.map dO) = 0 := by
    induction l with
    | nil => simp [PyData.depthAll]
    | cons x l ih =>
      have ih := ih (by cases x <;> simpa [PyData.canLayAll0, PyData.canLay0, dO] using h1)
      cases x <;> simp [PyData.depthAll, PyData.depth, dO, ih]
  simp [SeqAt.shaped, PyData.canLay0, PyData.depth, h1, h2]
theorem shaped_olL (l : OL) : SeqAt.shaped (.list (l.map dO)) = true := by
  have := shaped_ol l
  simpa [SeqAt.shaped, PyData.canLay0, PyData.depth] using this
def oneB (os ot : OL) : Bool := PyData.eqv (.tuple (os.map dO)) (.tuple (ot.map dO))
/-- where read stands -/
def Read (H : Hp) (one : Bool) (W R : Addr) (os : OL) : Prop := (one = true ∧ R = W) ∨ (one = false ∧ R ≠ W ∧ H R = some (.lst (os.map optB)))
theorem Read.put {H : Hp} {one : Bool} {W R : Addr} {os : OL} {o : HO} (r : Read H one W R os) : Read (upd H W o) one W R os := by
  rcases r with ⟨h1, h2⟩ | ⟨h1, h2, h3⟩
  · exact .inl ⟨h1, h2⟩
  · exact .inr ⟨h1, h2, by rw [upd_ne h2]; exact h3⟩
theorem Read.at {H : Hp} {one : Bool} {W R : Addr} {os dst : OL} (r : Read H one W R os) (hW : H W = some (.lst (dst.map optB))) : H R = some (.lst ((if one = true then dst else os).map optB)) := by
  rcases r with ⟨rfl, rfl⟩ | ⟨rfl, _, h3⟩
  · exact hW
  · exact h3
theorem at_ol {l : OL} {s i : Nat} {z : Int} (h : s + i < l.length) (ez : z = (s : Int) + ((i : Nat) : Int)) : atI (l.map optB) z = some (optB (rd l (s + i))) := by
  subst ez
  refine at_of (j := s + i) (by push_cast; rfl) ?_
  rw [List.getElem?_map, rd_some h]
  rfl
def Err (K : PySem.W.Frag) (C : Addr) (v : V) (H : Hp) (E : XK) : Prop := ∀ H' dd, Same H H' → H' dd = none → E (.ref C) (some dd) (upd H' dd (.xd [("value", v)]))
structure CpGood (K : PySem.W.Frag) (H : Hp) (Q : VK) (v1 v2 v3 v4 v5 : V) (a b : Addr) (os ot : OL) (s g m : Nat) : Prop where
  e1 : v1 = .ref a
  e2 : v2 = .ref b
  e3 : v3 = .int (s : Nat)
  e4 : v4 = .int (g : Nat)
  e5 : v5 = .int (m : Nat)
  ha : SqT K H a (os.map optB)
  hb : SqT K H b (ot.map optB)
  ka : okL os
  kb : okL ot
  m16 : m ≤ 16
  q : ∀ H' t r, Same H H' → SqT K H' t [.int ((cp (oneB os ot) os s g m 0 ot).1 : Nat), .ref r] → SqT K H' r ((cp (oneB os ot) os s g m 0 ot).2.map optB) → Q (.ref t) H'
def spCopied (K : PySem.W.Frag) (C1 C2 C4 : Addr) : Sp := fun vs H Q E => ∃ v1 v2 v3 v4 v5 d1 d2 d3 d4 d5, vs = [v1, v2, v3, v4, v5] ∧ Dk K H v1 d1 ∧ Dk K H v2 d2 ∧ Dk K H v3 d3 ∧ Dk K H v4 d4 ∧ Dk K H v5 d5 ∧
  (reach d1 = false → Err K C1 v1 H E) ∧ (reach d1 = true → reach d2 = false → Err K C1 v2 H E) ∧ (reach d1 = true → reach d2 = true → isW d3 0 255 = false → Err K C2 v3 H E) ∧
  (reach d1 = true → reach d2 = true → isW d3 0 255 = true → isW d4 0 255 = false → Err K C2 v4 H E) ∧ (reach d1 = true → reach d2 = true → isW d3 0 255 = true → isW d4 0 255 = true → isW d5 1 16 = false → Err K C4 v5 H E) ∧
  (reach d1 = true → reach d2 = true → isW d3 0 255 = true → isW d4 0 255 = true → isW d5 1 16 = true → ∃ a b os ot s g m, CpGood K H Q v1 v2 v3 v4 v5 a b os ot s g m)
theorem ok_Copied {k : Nat} {f : Addr} {fd : FuncData} {C1 J1 C2 J2 C4 J4:Addr} {fdI1 fdI2 fdI4:FuncData} (F : Fun K "copied" "copied" sCopied f fd) (gRe : Cal P w K mg base CX0 (k + 3) "_is_reach" ["value"] (spReach K)) (gAd : Cal P w K mg base CX0 (k + 3) "is_address" ["value"] (spAddr K)) (gWi : Cal P w K mg base CX0 (k + 3) "is_within" ["value", "low", "high"] (spWithin K)) (E1 : ErrC K C1 J1) (I1 : Fun K "__init__" "CoreError.__init__" sInit J1 fdI1) (bI1 : L2.Binds K fdI1 ["self", "value"] []) (gBadMemory : mg "BadMemory" = some (.ref C1)) (E2 : ErrC K C2 J2) (I2 : Fun K "__init__" "CoreError.__init__" sInit J2 fdI2) (bI2 : L2.Binds K fdI2 ["self", "value"] []) (gBadAddress : mg "BadAddress" = some (.ref C2)) (E4 : ErrC K C4 J4) (I4 : Fun K "__init__" "CoreError.__init__" sInit J4 fdI4) (bI4 : L2.Binds K fdI4 ["self", "value"] []) (gBadMany : mg "BadMany" = some (.ref C4)) (flist : mg "list" = none) (frange : mg "range" = none) (ftuple : mg "tuple" = none) : FnOk P w K mg base (L2.CX P w) (k + 4) f fd ["source", "target", "start", "goal", "many"] (spCopied K C1 C2 C4) := by
  obtain ⟨fRe, fdRe, GRe, kRe, bRe, mRe⟩ := gRe
  obtain ⟨fAd, fdAd, GAd, kAd, bAd, mAd⟩ := gAd
  obtain ⟨fWi, fdWi, GWi, kWi, bWi, mWi⟩ := gWi
  refine F.okX scCopied (fun vs H Q E h => ?_) (fun cdv A outer s H vs Q E hr h => ?_)
  · obtain ⟨v1, v2, v3, v4, v5, d1, d2, d3, d4, d5, rfl, _⟩ := h
    rfl
  · obtain ⟨v1, v2, v3, v4, v5, d1, d2, d3, d4, d5, rfl, h1, h2, h3, h4, h5, x1, x2, x3, x4, x5, x6⟩ := h
    refine ⟨_, (pss_cons (ps_if (pt_not (pt_val (pe_call GRe hr (by rfl) mRe kRe bRe .nil pass0 (pa_cons (pv 0) pa_nil)))) (pss_one (ps_err rfl E1 I1 bI1 (k := (k+1)) hr (takes_of rfl rfl rfl rfl) (by rfl) gBadMemory (pv 0))) pss_nil) (pss_cons (ps_if (pt_not (pt_val (pe_call GRe hr (by rfl) mRe kRe bRe .nil pass0 (pa_cons (pv 1) pa_nil)))) (pss_one (ps_err rfl E1 I1 bI1 (k := (k+1)) hr (takes_of rfl rfl rfl rfl) (by rfl) gBadMemory (pv 1))) pss_nil) (pss_cons (ps_if (pt_not (pt_val (pe_call GAd hr (by rfl) mAd kAd bAd .nil pass0 (pa_cons (pv 2) pa_nil)))) (pss_one (ps_err rfl E2 I2 bI2 (k := (k+1)) hr (takes_of rfl rfl rfl rfl) (by rfl) gBadAddress (pv 2))) pss_nil) (pss_cons (ps_if (pt_not (pt_val (pe_call GAd hr (by rfl) mAd kAd bAd .nil pass0 (pa_cons (pv 3) pa_nil)))) (pss_one (ps_err rfl E2 I2 bI2 (k := (k+1)) hr (takes_of rfl rfl rfl rfl) (by rfl) gBadAddress (pv 3))) pss_nil) (pss_cons (ps_if (pt_not (pt_val (pe_call GWi hr (by rfl) mWi kWi bWi .nil pass0 (pa_cons (pv 4) (pa_cons pe_int (pa_cons pe_int pa_nil)))))) (pss_one (ps_err rfl E4 I4 bI4 (k := (k+1)) hr (takes_of rfl rfl rfl rfl) (by rfl) gBadMany (pv 4))) pss_nil) (PSs.nox (pss_cons (ps_set (i := 5) scCopied.nd rfl (.inl rfl) (pe_callTy call_list_of (by rfl) flist (by decide +kernel) (pa_cons (pv 1) pa_nil))) (pss_cons (ps_set (i := 6) scCopied.nd rfl (.inl rfl) (pe_ifExp (pt_cmpR (op_eqD hr.units) (pv 0) (pv 1) (nomark _)) (pv 5) (pe_callTy call_list_of (by rfl) flist (by decide +kernel) (pa_cons (pv 0) pa_nil)))) (pss_cons (ps_for PassesOwn.never rfl (pi_range1 (by rfl) frange (pa_cons (pv 4) pa_nil)) (pg_name (i := 7) scCopied.nd rfl (.inl rfl)) (pss_cons (ps_set (i := 8) scCopied.nd rfl (.inl rfl) (pe_or (pe_cmpR op_gt (pe_op op_add (pv 2) (pv 7)) pe_int (nomark _)) (pe_one (pe_cmpR op_gt (pe_op op_add (pv 3) (pv 7)) pe_int (nomark _))))) (pss_cons (ps_if (PW.pt (pw_or (pt_val (pv 8)) (pw_or (pt_cmpR op_isN (pe_ix ix_list (pv 6) (pe_op op_add (pv 2) (pv 7)) (fun _ _ => rfl)) pe_non (nomark _)) (pw_or1 (pt_cmpR op_isN (pe_ix ix_list (pv 5) (pe_op op_add (pv 3) (pv 7)) (fun _ _ => rfl)) pe_non (nomark _)))))) (pss_one (ps_ret (pe_tup (pa_cons (pv 7) (pa_cons (pe_callTy call_tuple_of (by rfl) ftuple (by decide +kernel) (pa_cons (pv 5) pa_nil)) pa_nil))))) pss_nil) (pss_one (ps_asg (pe_ix ix_list (pv 6) (pe_op op_add (pv 2) (pv 7)) (fun _ _ => rfl)) (pg_sub (pv 5) (pe_op op_add (pv 3) (pv 7)) set_list)))))) (pss_one (ps_ret (pe_tup (pa_cons (pv 4) (pa_cons (pe_callTy call_tuple_of (by rfl) ftuple (by decide +kernel) (pa_cons (pv 5) pa_nil)) pa_nil)))))))))))))), ?_⟩
    refine ⟨v1, rfl, v1, d1, rfl, h1, fun H1 s1 => ⟨reach d1, rfl, ?_⟩⟩
    cases c1 : reach d1 with
    | false => exact iteT ⟨v1, rfl, need_ok E1 fun dd n => x1 c1 H1 dd s1 n⟩
    | true =>
    refine iteF ⟨v2, rfl, v2, d2, rfl, h2.same s1, fun H2 s2 => ⟨reach d2, rfl, ?_⟩⟩
    have s12 := s1.trans s2
    cases c2 : reach d2 with
    | false => exact iteT ⟨v2, rfl, need_ok E1 fun dd n => x2 c1 c2 H2 dd s12 n⟩
    | true =>
    refine iteF ⟨v3, rfl, v3, d3, rfl, h3.same s12, _, rfl, ?_⟩
    cases c3 : isW d3 0 255 with
    | false => exact iteT ⟨v3, rfl, need_ok E2 fun dd n => x3 c1 c2 c3 H2 dd s12 n⟩
    | true =>
    refine iteF ⟨v4, rfl, v4, d4, rfl, h4.same s12, _, rfl, ?_⟩
    cases c4 : isW d4 0 255 with
    | false => exact iteT ⟨v4, rfl, need_ok E2 fun dd n => x4 c1 c2 c3 c4 H2 dd s12 n⟩
    | true =>
    refine iteF ⟨v5, rfl, v5, d5, 1, 16, rfl, h5.same s12, _, rfl, ?_⟩
    cases c5 : isW d5 1 16 with
    | false => exact iteT ⟨v5, rfl, need_ok E4 fun dd n => x5 c1 c2 c3 c4 c5 H2 dd s12 n⟩
    | true =>
    obtain ⟨a, b, os, ot, s, g, m, e1, e2, e3, e4, e5, ha, hb, ka, kb, m16, q⟩ := x6 c1 c2 c3 c4 c5
    subst e1 e2 e3 e4 e5
    clear x1 x2 x3 x4 x5 x6 h1 h2 h3 h4 h5 c1 c2 c3 c4 c5
    have ha := Same.seqT s12 ha
    have hb := Same.seqT s12 hb
    have q : ∀ H' t r, Same H2 H' → _ := fun H' t r s' => q H' t r (s12.trans s')
    refine iteF ⟨.ref b, rfl, b, _, rfl, .inr hb, fun W nW => ?_⟩
    have sW : Same H2 (upd H2 W (.lst (ot.map optB))) := same_upd nW
    have ha := Same.seqT sW ha
    have hb := Same.seqT sW hb
    have hW : upd H2 W (.lst (ot.map optB)) W = some (.lst (ot.map optB)) := upd_same
    generalize upd H2 W (.lst (ot.map optB)) = H3 at sW ha hb hW ⊢
    refine ⟨.ref a, rfl, .ref b, rfl, .tuple (os.map dO), .tuple (ot.map dO), .tup ha (dp_ol os), .tup hb (dp_ol ot), shaped_ol os, shaped_ol ot, _, rfl, ?_⟩
    show if oneB os ot = true then _ else _
    refine both (fun v H' => ∃ R, v = .ref R ∧ Same H2 H' ∧ H' W = some (.lst (ot.map optB)) ∧ Read H' (oneB os ot) W R os) (fun e R r => ⟨.ref W, rfl, r _ _ ⟨W, rfl, sW, hW, .inl ⟨e, rfl⟩⟩⟩) (fun e R r => ⟨.ref a, rfl, a, _, rfl, .inr ha, fun l nl => r _ _ ⟨l, rfl, sW.trans (same_upd nl), same_upd nl _ _ hW, .inr ⟨e, fun z => ?_, upd_same⟩⟩⟩) fun v H4 hp => ?_
    · rw [z, hW] at nl; cases nl
    obtain ⟨R, rfl, s4, hW4, hR4⟩ := hp
    generalize oneB os ot = one at hR4 q ⊢
    refine ⟨.int (m : Nat), rfl, (m : Nat), rfl, by omega, by omega, ?_⟩
    refine for_range (n := m) (fun i σ H' => ∃ y7 y8 dst, σ = [some (.ref a), some (.ref b), some (.int (s : Nat)), some (.int (g : Nat)), some (.int (m : Nat)), some (.ref W), some (.ref R), y7, y8] ∧ Same H2 H' ∧ H' W = some (.lst (dst.map optB)) ∧ okL dst ∧ Read H' one W R os ∧ cp one os s g (m - i) i dst = cp one os s g m 0 ot) ⟨none, none, ot, rfl, s4, hW4, kb, hR4, rfl⟩ (fun i σ H' hi hP => ?_) fun σ H' hP => ?_
    · obtain ⟨y7, y8, dst, rfl, sm, hW, kd, hR, hcp⟩ := hP
      rw [show (0 : Int) + ((i : Nat) : Int) = ((i : Nat) : Int) from Int.zero_add _]
      have em : m - i = (m - (i + 1)) + 1 := by omega
      rw [em] at hcp
      have e1 : decide ((255 : Int) < (s : Int) + (i : Int)) = decide (255 < s + i) := decide_eq_decide.mpr (by omega)
      have e2 : decide ((255 : Int) < (g : Int) + (i : Int)) = decide (255 < g + i) := decide_eq_decide.mpr (by omega)
      have hat := hR.at hW
      have kx : okL (if one = true then dst else os) := by cases one <;> assumption
      dsimp only [gName, tSeq, tAsg, tIfS]
      refine orIs (x := decide (255 < s + i)) (y := decide (255 < g + i)) (fun R r => ⟨_, rfl, _, rfl, _, _, rfl, rfl, _, 255, rfl, rfl, by show R (.bl (decide ((255 : Int) < (s : Int) + (i : Int)))) _; rw [e1]; exact r⟩) (fun R r => ⟨_, rfl, _, rfl, _, _, rfl, rfl, _, 255, rfl, rfl, by show R (.bl (decide ((255 : Int) < (g : Int) + (i : Int)))) _; rw [e2]; exact r⟩) ?_
      refine orT (y := (rd (if one then dst else os) (s + i)).isNone || (rd dst (g + i)).isNone) (fun R r => ⟨_, rfl, _, rfl, r⟩) (fun e R r => ?_) ?_
      · have h := Bool.or_eq_false_iff.mp e
        have h1 := of_decide_eq_false h.1
        have h2 := of_decide_eq_false h.2
        refine orT (x := (rd (if one then dst else os) (s + i)).isNone) (y := (rd dst (g + i)).isNone) (fun R' r' => ⟨_, rfl, _, rfl, _, rfl, _, _, rfl, rfl, _, _, _, _, rfl, rfl, SqL.of hat, at_ol (by rw [kx.1]; omega) rfl, rfl, _, rfl, by rw [isN_optB]; exact r'⟩) (fun _ R' r' => ⟨_, rfl, _, rfl, _, rfl, _, _, rfl, rfl, _, _, _, _, rfl, rfl, SqL.of hW, at_ol (by rw [kd.1]; omega) rfl, rfl, _, rfl, by rw [isN_optB]; exact r'⟩) r
      · cases es : stop one os dst (s + i) (g + i) with
        | true =>
          rw [cp_stop es] at hcp
          rw [← hcp] at q
          refine (show if stop one os dst (s + i) (g + i) = true then _ else _ from ?_)
          rw [es]
          refine iteT ⟨_, rfl, .ref W, rfl, W, _, rfl, .inl ⟨SqL.of hW, fun l nl => ⟨by show 2 ≤ sizeLine; decide, fun t nt => ?_⟩⟩⟩
          exact q _ t l ((sm.trans (same_upd nl)).trans (same_upd nt)) (SqT.of upd_same) (Same.seqT (same_upd nt) (SqT.of upd_same))
        | false =>
          rw [cp_go es] at hcp
          obtain ⟨b1, b2⟩ := stop_in es
          refine (show if stop one os dst (s + i) (g + i) = true then _ else _ from ?_)
          rw [es]
          refine iteF ⟨_, rfl, _, rfl, _, rfl, _, _, rfl, rfl, _, _, _, _, rfl, rfl, SqL.of hat, at_ol (by rw [kx.1]; omega) rfl, ?_⟩
          refine ⟨_, rfl, _, rfl, _, rfl, _, _, rfl, rfl, W, _, _, g + i, rfl, rfl, hW, ?_, ?_⟩
          · exact ixN_of (by rw [List.length_map, kd.1]; omega) (by push_cast; rfl)
          · refine ⟨_, _, _, rfl, Same.updNew sm (by assumption), by rw [upd_same, List.map_set], kd.set kx, hR.put, hcp⟩
    · obtain ⟨y7, y8, dst, rfl, sm, hW, kd, hR, hcp⟩ := hP
      rw [Nat.sub_self] at hcp
      rw [← hcp] at q
      refine ⟨_, rfl, .ref W, rfl, W, _, rfl, .inl ⟨SqL.of hW, fun l nl => ⟨by show 2 ≤ sizeLine; decide, fun t nt => ?_⟩⟩⟩
      exact q _ t l ((sm.trans (same_upd nl)).trans (same_upd nt)) (SqT.of upd_same) (Same.seqT (same_upd nt) (SqT.of upd_same))
end
end K24

set_option maxRecDepth 100000
set_option maxHeartbeats 8000000
/-! k24: memories, and the law's own copying. -/
namespace K24
open PySem PySem.Spec PyProof.Rows L2 LamX VG
theorem scMemory : FnScope ["pot", "found", "lap", "first", "at"] ["pot"] (defScope sMemory) := ⟨rfl, rfl, rfl, by decide +kernel, rfl, by decide +kernel, by decide +kernel⟩
theorem okL.put {l : OL} {v : Option Int} {g : Nat} (h : okL l) (hv : ∀ i, v = some i → 0 ≤ i ∧ i ≤ 65535) : okL (l.set g v) := by
  refine ⟨by rw [List.length_set]; exact h.1, fun i hi => ?_⟩
  rcases List.mem_or_eq_of_mem_set hi with hi | hi
  · exact h.2 i hi
  · exact hv i hi.symm
theorem okL.rep {v : Option Int} (hv : ∀ i, v = some i → 0 ≤ i ∧ i ≤ 65535) : okL (List.replicate 256 v) :=
  ⟨List.length_replicate .., fun i hi => hv i (List.eq_of_mem_replicate hi).symm⟩
theorem free_wo {H H' : Hp} {p c : Addr} {n : Nat} (s : Same (wo H p) (wo H' p)) (hp : Pot H' p n) (h : H' c = none) : H c = none := by
  have ne := hp.ne h
  cases e : H c with
  | none => rfl
  | some o =>
    have := wo_le _ _ (s _ _ (wo_at e ne))
    rw [h] at this
    cases this
theorem set_ol {l : OL} {i : Nat} {v : Option Int} {x : V} (e : x = optB v) : (l.map optB).set i x = (l.set i v).map optB := by rw [e, List.map_set]
section
variable {P : Program} {w : World} {K : PySem.W.Frag} {mg : Str → Option Value} {base : Heap}
structure LcGood (K : PySem.W.Frag) (H : Hp) (Q : VK) (a b : Addr) (os ot : OL) (s g m : Nat) : Prop where
  ha : SqT K H a (os.map optB)
  hb : SqT K H b (ot.map optB)
  ka : okL os
  kb : okL ot
  m16 : m ≤ 16
  q : ∀ H' t r, Same H H' → SqT K H' t [.int ((cp (oneB os ot) os s g m 0 ot).1 : Nat), .ref r] → SqT K H' r ((cp (oneB os ot) os s g m 0 ot).2.map optB) → Q (.ref t) H'
def spLCopied (K : PySem.W.Frag) : Sp := fun vs H Q _ => ∃ a b os ot s g m, vs = [.ref a, .ref b, .int (s : Nat), .int (g : Nat), .int (m : Nat)] ∧ LcGood K H Q a b os ot s g m
theorem ok_LCopied {k : Nat} {f : Addr} {fd : FuncData}  (F : Fun K "_law_copied" "_law_copied" sLCopied f fd)   (flist : mg "list" = none) (frange : mg "range" = none) (ftuple : mg "tuple" = none) : FnOk P w K mg base CX0 (k + 1) f fd ["source", "target", "start", "goal", "many"] (spLCopied K) := by
  refine F.ok scLCopied (fun vs H Q E h => ?_) (fun cdv A outer s H vs Q E hr h => ?_)
  · obtain ⟨a, b, os, ot, s, g, m, rfl, _⟩ := h
    rfl
  · obtain ⟨a, b, os, ot, s, g, m, rfl, h⟩ := h
    refine ⟨_, (pss_cons (ps_par (i := 5) (j := 6) (by rfl) scLCopied.nd rfl rfl (by decide) rfl rfl (pa_cons (pe_callTy call_list_of (by rfl) flist (by decide +kernel) (pa_cons (pv 0) pa_nil)) (pa_cons (pe_callTy call_list_of (by rfl) flist (by decide +kernel) (pa_cons (pv 1) pa_nil)) pa_nil)) (by rfl)) (pss_cons (ps_set (i := 7) scLCopied.nd rfl (.inl rfl) (pe_cmpR (op_eqD hr.units) (pv 5) (pv 6) (nomark _))) (pss_cons (ps_for PassesOwn.never rfl (pi_range1 (by rfl) frange (pa_cons (pv 4) pa_nil)) (pg_name (i := 8) scLCopied.nd rfl (.inl rfl)) (pss_cons (ps_if (PW.pt (pw_or (pt_cmpR op_gt (pe_op op_add (pv 2) (pv 8)) pe_int (nomark _)) (pw_or1 (pt_cmpR op_gt (pe_op op_add (pv 3) (pv 8)) pe_int (nomark _))))) (pss_one (ps_ret (pe_tup (pa_cons (pv 8) (pa_cons (pe_callTy call_tuple_of (by rfl) ftuple (by decide +kernel) (pa_cons (pv 6) pa_nil)) pa_nil))))) pss_nil) (pss_cons (ps_set (i := 9) scLCopied.nd rfl (.inl rfl) (pe_ix ix_list (pe_ifExp (pt_val (pv 7)) (pv 6) (pv 5)) (pe_op op_add (pv 2) (pv 8)) (fun _ _ => rfl))) (pss_cons (ps_if (PW.pt (pw_or (pt_cmpR op_isN (pv 9) pe_non (nomark _)) (pw_or1 (pt_cmpR op_isN (pe_ix ix_list (pv 6) (pe_op op_add (pv 3) (pv 8)) (fun _ _ => rfl)) pe_non (nomark _))))) (pss_one (ps_ret (pe_tup (pa_cons (pv 8) (pa_cons (pe_callTy call_tuple_of (by rfl) ftuple (by decide +kernel) (pa_cons (pv 6) pa_nil)) pa_nil))))) pss_nil) (pss_one (ps_asg (pv 9) (pg_sub (pv 6) (pe_op op_add (pv 3) (pv 8)) set_list))))))) (pss_one (ps_ret (pe_tup (pa_cons (pv 4) (pa_cons (pe_callTy call_tuple_of (by rfl) ftuple (by decide +kernel) (pa_cons (pv 6) pa_nil)) pa_nil)))))))), ?_⟩
    obtain ⟨ha, hb, ka, kb, m16, q⟩ := h
    refine ⟨.ref a, rfl, a, _, rfl, .inr ha, fun S nS => ?_⟩
    have sS : Same H (upd H S (.lst (os.map optB))) := same_upd nS
    have hS : upd H S (.lst (os.map optB)) S = some (.lst (os.map optB)) := upd_same
    generalize upd H S (.lst (os.map optB)) = H1 at sS hS ⊢
    refine ⟨.ref b, rfl, b, _, rfl, .inr (Same.seqT sS hb), fun W nW => ?_⟩
    have sW := sS.trans (same_upd (o := .lst (ot.map optB)) nW)
    have nS' : S ≠ W := fun z => by rw [← z, hS] at nW; cases nW
    have nW0 : H W = none := sS.free nW
    have hS := (same_upd (o := .lst (ot.map optB)) nW) _ _ hS
    have hW : upd H1 W (.lst (ot.map optB)) W = some (.lst (ot.map optB)) := upd_same
    generalize upd H1 W (.lst (ot.map optB)) = H2 at sW hS hW ⊢
    refine ⟨_, _, rfl, ?_⟩
    refine ⟨.ref S, rfl, .ref W, rfl, .list (os.map dO), .list (ot.map dO), .lst (SqL.of hS) (dp_ol os), .lst (SqL.of hW) (dp_ol ot), shaped_olL os, shaped_olL ot, ?_⟩
    have eo : PyData.eqv (.list (os.map dO)) (.list (ot.map dO)) = oneB os ot := by simp only [oneB, PyData.eqv]
    rw [eo]
    generalize oneB os ot = one at q ⊢
    refine ⟨.int (m : Nat), rfl, (m : Nat), rfl, by omega, by omega, ?_⟩
    refine for_range (n := m) (fun i σ H' => ∃ y8 y9 dst, σ = [some (.ref a), some (.ref b), some (.int (s : Nat)), some (.int (g : Nat)), some (.int (m : Nat)), some (.ref S), some (.ref W), some (.bl one), y8, y9] ∧ Same H H' ∧ H' W = some (.lst (dst.map optB)) ∧ okL dst ∧ H' S = some (.lst (os.map optB)) ∧ cp one os s g (m - i) i dst = cp one os s g m 0 ot) ⟨none, none, ot, rfl, sW, hW, kb, hS, rfl⟩ (fun i σ H' hi hP => ?_) fun σ H' hP => ?_
    · obtain ⟨y8, y9, dst, rfl, sm, hW, kd, hS, hcp⟩ := hP
      rw [show (0 : Int) + ((i : Nat) : Int) = ((i : Nat) : Int) from Int.zero_add _]
      have em : m - i = (m - (i + 1)) + 1 := by omega
      rw [em] at hcp
      have e1 : decide ((255 : Int) < (s : Int) + (i : Int)) = decide (255 < s + i) := decide_eq_decide.mpr (by omega)
      have e2 : decide ((255 : Int) < (g : Int) + (i : Int)) = decide (255 < g + i) := decide_eq_decide.mpr (by omega)
      have hat : H' (if one = true then W else S) = some (.lst ((if one = true then dst else os).map optB)) := by cases one <;> assumption
      have kx : okL (if one = true then dst else os) := by cases one <;> assumption
      have ret : stop one os dst (s + i) (g + i) = true → ∀ l t, H' l = none → upd H' l (.tup (dst.map optB)) t = none → Q (.ref t) (upd (upd H' l (.tup (dst.map optB))) t (.tup [.int (i : Nat), .ref l])) := fun es l t nl nt => by
        rw [cp_stop es] at hcp
        rw [← hcp] at q
        exact q _ t l ((sm.trans (same_upd nl)).trans (same_upd nt)) (SqT.of upd_same) (Same.seqT (same_upd nt) (SqT.of upd_same))
      dsimp only [gName, tSeq, tAsg, tIfS]
      refine orT (x := decide (255 < s + i)) (y := decide (255 < g + i)) (fun R r => ⟨_, rfl, _, rfl, _, _, rfl, rfl, _, 255, rfl, rfl, _, rfl, by show R (decide ((255 : Int) < (s : Int) + (i : Int))) _; rw [e1]; exact r⟩) (fun _ R r => ⟨_, rfl, _, rfl, _, _, rfl, rfl, _, 255, rfl, rfl, _, rfl, by show R (decide ((255 : Int) < (g : Int) + (i : Int))) _; rw [e2]; exact r⟩) ?_
      cases c1 : (decide (255 < s + i) || decide (255 < g + i)) with
      | true =>
        refine iteT ⟨_, rfl, .ref W, rfl, W, _, rfl, .inl ⟨SqL.of hW, fun l nl => ⟨by show 2 ≤ sizeLine; decide, fun t nt => ret (by unfold stop; rw [c1]; rfl) l t nl nt⟩⟩⟩
      | false =>
        refine iteF ?_
        have h := Bool.or_eq_false_iff.mp c1
        have h1 := of_decide_eq_false h.1
        have h2 := of_decide_eq_false h.2
        refine ⟨.bl one, rfl, one, rfl, ?_⟩
        refine both (fun v H'' => H'' = H' ∧ v = .ref (if one = true then W else S)) (fun e R r => ⟨.ref W, rfl, r _ _ ⟨rfl, by rw [if_pos e]⟩⟩) (fun e R r => ⟨.ref S, rfl, r _ _ ⟨rfl, by rw [if_neg (by rw [e]; exact Bool.false_ne_true)]⟩⟩) fun v H'' hv => ?_
        obtain ⟨rfl, rfl⟩ := hv
        refine ⟨_, rfl, _, rfl, _, _, rfl, rfl, _, _, _, _, rfl, rfl, SqL.of hat, at_ol (by rw [kx.1]; omega) rfl, ?_⟩
        dsimp only [gName, tSeq, tAsg, tIfS]
        refine orT (x := (rd (if one then dst else os) (s + i)).isNone) (y := (rd dst (g + i)).isNone) (fun R' r' => ⟨_, rfl, rfl, _, rfl, by rw [isN_optB]; exact r'⟩) (fun _ R' r' => ⟨_, rfl, _, rfl, _, rfl, _, _, rfl, rfl, _, _, _, _, rfl, rfl, SqL.of hW, at_ol (by rw [kd.1]; omega) rfl, rfl, _, rfl, by rw [isN_optB]; exact r'⟩) ?_
        have es : stop one os dst (s + i) (g + i) = ((rd (if one then dst else os) (s + i)).isNone || (rd dst (g + i)).isNone) := by unfold stop; rw [c1, Bool.false_or]
        rw [← es]
        cases es : stop one os dst (s + i) (g + i) with
        | true => exact iteT ⟨_, rfl, .ref W, rfl, W, _, rfl, .inl ⟨SqL.of hW, fun l nl => ⟨by show 2 ≤ sizeLine; decide, fun t nt => ret es l t nl nt⟩⟩⟩
        | false =>
          rw [cp_go es] at hcp
          obtain ⟨b1, b2⟩ := stop_in es
          refine iteF ⟨_, rfl, .ref W, rfl, _, rfl, _, rfl, _, _, rfl, rfl, W, _, _, g + i, rfl, rfl, hW, ?_, ?_⟩
          · exact ixN_of (by rw [List.length_map, kd.1]; omega) (by push_cast; rfl)
          · exact ⟨_, _, _, rfl, Same.updNew sm nW0, by rw [upd_same, List.map_set], kd.set kx, by rw [upd_ne nS']; exact hS, hcp⟩
    · obtain ⟨y8, y9, dst, rfl, sm, hW, kd, hS, hcp⟩ := hP
      rw [Nat.sub_self] at hcp
      rw [← hcp] at q
      refine ⟨_, rfl, .ref W, rfl, W, _, rfl, .inl ⟨SqL.of hW, fun l nl => ⟨by show 2 ≤ sizeLine; decide, fun t nt => ?_⟩⟩⟩
      exact q _ t l ((sm.trans (same_upd nl)).trans (same_upd nt)) (SqT.of upd_same) (Same.seqT (same_upd nt) (SqT.of upd_same))
def spMemory (K : PySem.W.Frag) : Sp := fun vs H Q _ => ∃ (p : Addr) (n : Nat), vs = [.ref p] ∧ Pot H p n ∧ n + 100 < 1000000 ∧ ∀ l os H', Pot H' p (n + 100) → Same (wo H p) (wo H' p) → H' l = some (.lst (os.map optB)) → okL os → H l = none → l ≠ p → Q (.ref l) H'
theorem ok_Memory {k : Nat} {f : Addr} {fd : FuncData}  (F : Fun K "_law_memory" "_law_memory" sMemory f fd) (gOf : Cal P w K mg base CX0 (k + 2) "_law_of" ["pot", "some"] (spOf K)) (gTa : Cal P w K mg base CX0 (k + 2) "_law_take" ["pot", "upto"] spTake)  (frange : mg "range" = none) : FnOk P w K mg base CX0 (k + 3) f fd ["pot"] (spMemory K) := by
  obtain ⟨fOf, fdOf, GOf, kOf, bOf, mOf⟩ := gOf
  obtain ⟨fTa, fdTa, GTa, kTa, bTa, mTa⟩ := gTa
  refine F.ok scMemory (fun vs H Q E h => ?_) (fun cdv A outer s H vs Q E hr h => ?_)
  · obtain ⟨p, n, rfl, _⟩ := h
    rfl
  · obtain ⟨p, n, rfl, hp, hn, q⟩ := h
    refine ⟨_, (pss_cons (ps_set (i := 1) scMemory.nd rfl (.inl rfl) (pe_op op_rep (pe_lst (pa_cons (pe_call GOf hr (by rfl) mOf kOf bOf .nil pass0 (pa_cons (pv 0) (pa_cons (pe_lst (pa_cons pe_int (pa_cons pe_int (pa_cons pe_int (pa_cons pe_int (pa_cons pe_int pa_nil)))))) pa_nil))) pa_nil)) pe_int)) (pss_cons (ps_for PassesOwn.never rfl (pi_range1 (by rfl) frange (pa_cons pe_int pa_nil)) (pg_name (i := 2) scMemory.nd rfl (.inl rfl)) (pss_one (ps_asg (pe_call GTa hr (by rfl) mTa kTa bTa .nil pass0 (pa_cons (pv 0) (pa_cons pe_int pa_nil))) (pg_sub (pv 1) (pe_call GTa hr (by rfl) mTa kTa bTa .nil pass0 (pa_cons (pv 0) (pa_cons pe_int pa_nil))) set_list)))) (pss_cons (ps_for PassesOwn.never rfl (pi_range1 (by rfl) frange (pa_cons (pe_call GOf hr (by rfl) mOf kOf bOf .nil pass0 (pa_cons (pv 0) (pa_cons (pe_lst (pa_cons pe_int (pa_cons pe_int (pa_cons pe_int (pa_cons pe_int (pa_cons pe_int pa_nil)))))) pa_nil))) pa_nil)) (pg_name (i := 2) scMemory.nd rfl (.inl rfl)) (pss_cons (ps_set (i := 3) scMemory.nd rfl (.inl rfl) (pe_op op_mul pe_int (pe_call GTa hr (by rfl) mTa kTa bTa .nil pass0 (pa_cons (pv 0) (pa_cons pe_int pa_nil))))) (pss_one (ps_for PassesOwn.never rfl (pi_range2 (by rfl) frange (pa_cons (pv 3) (pa_cons (pe_op op_add (pv 3) pe_int) pa_nil))) (pg_name (i := 4) scMemory.nd rfl (.inl rfl)) (pss_one (ps_asg pe_non (pg_sub (pv 1) (pv 4) set_list))))))) (pss_cons (ps_for PassesOwn.never rfl (pi_range1 (by rfl) frange (pa_cons (pe_call GOf hr (by rfl) mOf kOf bOf .nil pass0 (pa_cons (pv 0) (pa_cons (pe_lst (pa_cons pe_int (pa_cons pe_int (pa_cons pe_int (pa_cons pe_int pa_nil))))) pa_nil))) pa_nil)) (pg_name (i := 2) scMemory.nd rfl (.inl rfl)) (pss_one (ps_asg pe_non (pg_sub (pv 1) (pe_call GTa hr (by rfl) mTa kTa bTa .nil pass0 (pa_cons (pv 0) (pa_cons pe_int pa_nil))) set_list)))) (pss_one (ps_ret (pv 1))))))), ?_⟩
    refine ⟨.ref p, rfl, by show 5 ≤ sizeLine; decide, fun l0 n0 => ?_⟩
    have hp0 := hp.upd (o := .lst [V.int 0, .int 1, .int 7, .int 300, .int 65535]) (hp.ne n0)
    have s0 : Same (wo H p) (wo (upd H l0 (.lst [V.int 0, .int 1, .int 7, .int 300, .int 65535])) p) := wo_same_of (same_upd n0)
    refine ⟨p, l0, _, n, rfl, SqL.of (wo_at upd_same (hp.ne n0)), by simp, by decide, hp0, by omega, fun x hx H1 hp1 s1 => ?_⟩
    obtain ⟨z, rfl, z0, z1⟩ : ∃ z : Int, x = .int z ∧ 0 ≤ z ∧ z ≤ 65535 := by
      simp only [List.mem_cons, List.not_mem_nil, or_false] at hx
      rcases hx with rfl | rfl | rfl | rfl | rfl <;> exact ⟨_, rfl, by decide, by decide⟩
    have s1 := s0.trans s1
    refine ⟨by show 1 ≤ sizeLine; decide, fun l1 n1 => ⟨l1, 256, _, rfl, rfl, upd_same, by decide, by decide, (by show 256 ≤ sizeLine; decide), fun F nF => ?_⟩⟩
    have eF : (List.replicate (256 : Int).toNat [V.int z]).flatten = (List.replicate 256 (some z)).map optB := by
      rw [List.map_replicate]
      show (List.replicate 256 [V.int z]).flatten = List.replicate 256 (V.int z)
      simp
    have hp2 := hp1.upd (o := .lst [V.int z]) (hp1.ne n1)
    have s2 : Same (wo H p) (wo (upd H1 l1 (.lst [V.int z])) p) := s1.trans (wo_same_of (same_upd n1))
    have nF0 := free_wo s2 hp2 nF
    have Fp := hp2.ne nF
    have hp3 := hp2.upd (o := .lst (List.replicate (256 : Int).toNat [V.int z]).flatten) Fp
    have s3 : Same (wo H p) (wo (upd (upd H1 l1 (.lst [V.int z])) F (.lst (List.replicate (256 : Int).toNat [V.int z]).flatten)) p) := s2.trans (wo_same_of (same_upd nF))
    have hF : upd (upd H1 l1 (.lst [V.int z])) F (.lst (List.replicate (256 : Int).toNat [V.int z]).flatten) F = some (.lst ((List.replicate 256 (some z)).map optB)) := by rw [upd_same, eF]
    have kF : okL (List.replicate 256 (some z)) := okL.rep fun i e => by cases e; exact ⟨z0, z1⟩
    generalize upd (upd H1 l1 (.lst [V.int z])) F (.lst (List.replicate (256 : Int).toNat [V.int z]).flatten) = H2 at hp3 s3 hF ⊢
    clear hp2 s2 hp1 s1 hp0 s0
    refine ⟨24, rfl, by omega, by omega, ?_⟩
    refine for_range (n := 24) (fun i σ H' => ∃ y2 y3 y4 os, σ = [some (.ref p), some (.ref F), y2, y3, y4] ∧ Pot H' p (n + 1 + 2 * i) ∧ Same (wo H p) (wo H' p) ∧ H' F = some (.lst (os.map optB)) ∧ okL os) ⟨none, none, none, _, rfl, hp3, s3, hF, kF⟩ (fun i σ H' hi hP => ?_) fun σ H' hP => ?_
    · obtain ⟨y2, y3, y4, os, rfl, hp, sm, hF, kF⟩ := hP
      refine ⟨.ref p, rfl, p, 1000, _, rfl, by omega, by omega, hp, by omega, fun d H3 d0 d1 hp3 s3 => ?_⟩
      refine ⟨.ref F, rfl, .ref p, rfl, p, 256, _, rfl, by omega, by omega, hp3, by omega, fun e H4 e0 e1 hp4 s4 => ?_⟩
      have hF4 := wo_le _ _ (s4 _ _ (s3 _ _ (wo_at hF Fp)))
      refine ⟨F, _, e, e.toNat, rfl, rfl, hF4, ixN_of (by rw [List.length_map, kF.1]; omega) (by omega), ?_⟩
      exact ⟨_, _, _, os.set e.toNat (some d), rfl, hp4.upd Fp, wo_updNew ((sm.trans s3).trans s4) nF0, by rw [upd_same, List.map_set] <;> rfl, kF.put fun i e => by cases e; omega⟩
    · obtain ⟨y2, y3, y4, os, rfl, hp, sm, hF, kF⟩ := hP
      refine ⟨.ref p, rfl, by show 5 ≤ sizeLine; decide, fun l2 nl2 => ?_⟩
      have hpA := hp.upd (o := .lst [V.int 0, .int 1, .int 1, .int 2, .int 4]) (hp.ne nl2)
      have sA : Same (wo H p) (wo (upd H' l2 (.lst [V.int 0, .int 1, .int 1, .int 2, .int 4])) p) := sm.trans (wo_same_of (same_upd nl2))
      have hFA := (same_upd (o := .lst [V.int 0, .int 1, .int 1, .int 2, .int 4]) nl2) _ _ hF
      refine ⟨p, l2, _, _, rfl, SqL.of (wo_at upd_same (hp.ne nl2)), by simp, by decide, hpA, by omega, fun x hx H6 hp6 s6 => ?_⟩
      obtain ⟨c, rfl, c4⟩ : ∃ c : Nat, x = .int (c : Nat) ∧ c ≤ 4 := by
        simp only [List.mem_cons, List.not_mem_nil, or_false] at hx
        rcases hx with rfl | rfl | rfl | rfl | rfl <;> first | exact ⟨0, rfl, by decide⟩ | exact ⟨1, rfl, by decide⟩ | exact ⟨2, rfl, by decide⟩ | exact ⟨4, rfl, by decide⟩
      have hF6 := wo_le _ _ (s6 _ _ (wo_at hFA Fp))
      have sm6 := sA.trans s6
      clear hpA sA hFA hF sm hp s6 nl2
      refine ⟨(c : Nat), rfl, by omega, by omega, ?_⟩
      refine for_range (n := c) (fun i σ H' => ∃ y2 y3 y4 os, σ = [some (.ref p), some (.ref F), y2, y3, y4] ∧ Pot H' p (n + 50 + i) ∧ Same (wo H p) (wo H' p) ∧ H' F = some (.lst (os.map optB)) ∧ okL os) ⟨_, _, _, os, rfl, hp6.mono (by omega), sm6, hF6, kF⟩ (fun i σ H' hi hP => ?_) fun σ H' hP => ?_
      · obtain ⟨y2, y3, y4, os, rfl, hp, sm, hF, kF⟩ := hP
        refine ⟨.ref p, rfl, p, 16, _, rfl, by omega, by omega, hp, by omega, fun d H3 d0 d1 hp3 s3 => ?_⟩
        have hF3 := wo_le _ _ (s3 _ _ (wo_at hF Fp))
        have sm3 := sm.trans s3
        refine ⟨16, d, rfl, rfl, .inl ⟨by decide, by decide⟩, ?_⟩
        refine ⟨_, rfl, _, rfl, _, 16, rfl, rfl, _, _, rfl, ⟨by omega, by omega, by omega, by omega⟩, ?_⟩
        have e16 : (16 * d + 16 - 16 * d).toNat = 16 := by omega
        rw [e16]
        refine for_range (lo := 16 * d) (n := 16) (fun j σ H' => ∃ y2 y4 os, σ = [some (.ref p), some (.ref F), y2, some (.int (16 * d)), y4] ∧ Pot H' p (n + 50 + (i + 1)) ∧ Same (wo H p) (wo H' p) ∧ H' F = some (.lst (os.map optB)) ∧ okL os) ⟨_, _, os, rfl, hp3, sm3, hF3, kF⟩ (fun j σ H' hj hP => ?_) fun σ H' hP => ?_
        · obtain ⟨y2, y4, os, rfl, hp, sm, hF, kF⟩ := hP
          refine ⟨.ref F, rfl, _, rfl, F, _, _, (16 * d + (j : Nat)).toNat, rfl, rfl, hF, ixN_of (by rw [List.length_map, kF.1]; omega) (by omega), ?_⟩
          exact ⟨_, _, os.set (16 * d + (j : Nat)).toNat none, rfl, hp.upd Fp, wo_updNew sm nF0, by rw [upd_same, List.map_set] <;> rfl, kF.put fun i e => by cases e⟩
        · obtain ⟨y2, y4, os, rfl, hp, sm, hF, kF⟩ := hP
          exact ⟨_, _, _, os, rfl, hp, sm, hF, kF⟩
      · obtain ⟨y2, y3, y4, os, rfl, hp, sm, hF, kF⟩ := hP
        refine ⟨.ref p, rfl, by show 4 ≤ sizeLine; decide, fun l3 nl3 => ?_⟩
        have hpA := hp.upd (o := .lst [V.int 0, .int 0, .int 1, .int 3]) (hp.ne nl3)
        have sA : Same (wo H p) (wo (upd H' l3 (.lst [V.int 0, .int 0, .int 1, .int 3])) p) := sm.trans (wo_same_of (same_upd nl3))
        have hFA := (same_upd (o := .lst [V.int 0, .int 0, .int 1, .int 3]) nl3) _ _ hF
        refine ⟨p, l3, _, _, rfl, SqL.of (wo_at upd_same (hp.ne nl3)), by simp, by decide, hpA, by omega, fun x hx H6 hp6 s6 => ?_⟩
        obtain ⟨c, rfl, c4⟩ : ∃ c : Nat, x = .int (c : Nat) ∧ c ≤ 4 := by
          simp only [List.mem_cons, List.not_mem_nil, or_false] at hx
          rcases hx with rfl | rfl | rfl | rfl <;> first | exact ⟨0, rfl, by decide⟩ | exact ⟨1, rfl, by decide⟩ | exact ⟨3, rfl, by decide⟩
        have hF6 := wo_le _ _ (s6 _ _ (wo_at hFA Fp))
        have sm6 := sA.trans s6
        clear hpA sA hFA hF sm hp s6 nl3
        refine ⟨(c : Nat), rfl, by omega, by omega, ?_⟩
        refine for_range (n := c) (fun i σ H' => ∃ y2 y3 y4 os, σ = [some (.ref p), some (.ref F), y2, y3, y4] ∧ Pot H' p (n + 60 + i) ∧ Same (wo H p) (wo H' p) ∧ H' F = some (.lst (os.map optB)) ∧ okL os) ⟨_, _, _, os, rfl, hp6.mono (by omega), sm6, hF6, kF⟩ (fun i σ H' hi hP => ?_) fun σ H' hP => ?_
        · obtain ⟨y2, y3, y4, os, rfl, hp, sm, hF, kF⟩ := hP
          refine ⟨.ref F, rfl, .ref p, rfl, p, 256, _, rfl, by omega, by omega, hp, by omega, fun e H4 e0 e1 hp4 s4 => ?_⟩
          have hF4 := wo_le _ _ (s4 _ _ (wo_at hF Fp))
          refine ⟨F, _, e, e.toNat, rfl, rfl, hF4, ixN_of (by rw [List.length_map, kF.1]; omega) (by omega), ?_⟩
          exact ⟨_, _, _, os.set e.toNat none, rfl, hp4.upd Fp, wo_updNew (sm.trans s4) nF0, by rw [upd_same, List.map_set] <;> rfl, kF.put fun i e => by cases e⟩
        · obtain ⟨y2, y3, y4, os, rfl, hp, sm, hF, kF⟩ := hP
          exact ⟨.ref F, rfl, q F os _ (hp.mono (by omega)) sm hF kF nF0 Fp⟩
end
end K24

set_option maxRecDepth 100000
set_option maxHeartbeats 8000000
/-! k24: whether what is copied is right. -/
namespace K24
open PySem PySem.Spec PyProof.Rows L2 LamX VG
theorem same_f {x : V} : (!decide (x = x)) = false := by simp
theorem scCopiesRight : FnScope ["pot", "source", "lap", "target", "start", "many", "near", "goal", "mine", "its"] ["pot"] (defScope sCopiesRight) := ⟨rfl, rfl, rfl, by decide +kernel, rfl, by decide +kernel, by decide +kernel⟩
def kw5 {α : Type} : List α → List α → List α
  | [], [m, g, s, t, o] => [o, t, s, g, m]
  | _, _ => []
def kw2 {α : Type} : List α → List α → List α
  | [], [a, b] => [a, b]
  | _, _ => []
def CalK (P : Program) (w : World) (K : PySem.W.Frag) (mg : Str → Option Value) (base : Heap) (CX : CXT) (k : Nat) (x : Str) (ps ks : List Str) (kw : {α : Type} → List α → List α → List α) (sp : Sp) : Prop :=
  ∃ (f : Addr) (fd : FuncData), FnOk P w K mg base CX k f fd ps sp ∧ PySem.W.keepIn K (.ref f) = true ∧ KBinds K fd ps ks kw kw ∧ mg x = some (.ref f)
theorem eqvAll_ol : ∀ (l : OL), PyData.eqvAll (l.map dO) (l.map dO) = true
  | [] => by simp [PyData.eqvAll]
  | none :: l => by simp [PyData.eqvAll, PyData.eqv, dO, eqvAll_ol l]
  | some i :: l => by simp [PyData.eqvAll, PyData.eqv, dO, eqvAll_ol l]
theorem okN_dO {o : Option Int} (h : ∀ i, o = some i → 0 ≤ i ∧ i ≤ 65535) : okN 0 50 (dO o) := by
  cases o with
  | none => exact ⟨by simp [dO, PyData.leavesShort], by simp [dO, PyData.weight], by simp [dO, PyData.showable], by simp [dO, PyData.depth], by simp [dO, PyData.canLay0]⟩
  | some i => obtain ⟨a, b⟩ := h i rfl; exact okN.int (by omega) (by omega)
theorem okN.tupN {k m n : Nat} {ds : List PyData} (h : ∀ d ∈ ds, okN k m d) (hl : ds.length ≤ n) : okN (k + 1) ((m + 1) * n) (.tuple ds) := by
  obtain ⟨i1, i2, i3, i4, i5⟩ := okN.all h
  have : (m + 1) * ds.length ≤ (m + 1) * n := Nat.mul_le_mul_left _ hl
  exact ⟨by simpa [PyData.leavesShort] using i1, by simp only [PyData.weight]; omega, by simpa [PyData.showable] using i3, by simp only [PyData.depth]; omega, by simpa [PyData.canLay0] using i5⟩
theorem okN_ol {l : OL} (h : okL l) : okN 1 13056 (.tuple (l.map dO)) := by
  refine (okN.tupN (k := 0) (m := 50) (n := 256) (fun d hd => ?_) (by rw [List.length_map, h.1]; exact Nat.le_refl _)).mono (Nat.le_refl _) (by decide)
  obtain ⟨o, ho, rfl⟩ := List.mem_map.mp hd
  exact okN_dO fun i e => h.2 i (e ▸ ho)
/-- the data of an answer -/
def dAns (r : Nat × OL) : PyData := .tuple [.int (r.1 : Nat), .tuple (r.2.map dO)]
theorem ans_ok {r : Nat × OL} (h1 : r.1 ≤ 1000) (h2 : okL r.2) : okData (dAns r) = true := by
  refine (okN.tup (k := 1) (m := 13056) (fun d hd => ?_) (by simp)).ok (by decide) (by decide)
  simp only [List.mem_cons, List.not_mem_nil, or_false] at hd
  rcases hd with rfl | rfl
  · exact (okN.int (by omega) (by omega)).mono (by omega) (by omega)
  · exact okN_ol h2
theorem reach_ol {l : OL} (h : okL l) : reach (.tuple (l.map dO)) = true := by
  show (decide ((l.map dO).length = 256) && (l.map dO).all isM) = true
  rw [List.length_map, h.1, Bool.and_eq_true]
  refine ⟨rfl, List.all_eq_true.mpr fun d hd => ?_⟩
  obtain ⟨o, ho, rfl⟩ := List.mem_map.mp hd
  cases o with
  | none => rfl
  | some i => obtain ⟨a, b⟩ := h.2 i ho; simp [dO, isM, isW, a, b]
section
variable {P : Program} {w : World} {K : PySem.W.Frag} {mg : Str → Option Value} {base : Heap}
theorem ans_dp {H : Hp} {t r : Addr} {a : Nat × OL} (h1 : SqT K H t [.int (a.1 : Nat), .ref r]) (h2 : SqT K H r (a.2.map optB)) : Dp K H (.ref t) (dAns a) :=
  .tup h1 (.cons (.int _) (.cons (.tup h2 (dp_ol _)) .nil))
/-- a call that answers -/
theorem cp_call {H : Hp} {Q : VK} {E : XK} {C1 C2 C4 a b : Addr} {os ot : OL} {s g m : Nat} (ha : SqT K H a (os.map optB)) (hb : SqT K H b (ot.map optB)) (ka : okL os) (kb : okL ot) (hs : s ≤ 255) (hg : g ≤ 255) (m1 : 1 ≤ m) (m16 : m ≤ 16)
    (q : ∀ H' t r, Same H H' → SqT K H' t [.int ((cp (oneB os ot) os s g m 0 ot).1 : Nat), .ref r] → SqT K H' r ((cp (oneB os ot) os s g m 0 ot).2.map optB) → Q (.ref t) H') :
    spCopied K C1 C2 C4 [.ref a, .ref b, .int (s : Nat), .int (g : Nat), .int (m : Nat)] H Q E := by
  have e1 := reach_ol ka
  have e2 := reach_ol kb
  have e3 : isW (.int (s : Nat)) 0 255 = true := by simp [isW]; omega
  have e4 : isW (.int (g : Nat)) 0 255 = true := by simp [isW]; omega
  have e5 : isW (.int (m : Nat)) 1 16 = true := by simp [isW]; omega
  refine ⟨_, _, _, _, _, .tuple (os.map dO), .tuple (ot.map dO), .int (s : Nat), .int (g : Nat), .int (m : Nat), rfl, .dp (.tup ha (dp_ol os)), .dp (.tup hb (dp_ol ot)), .dp (.int _), .dp (.int _), .dp (.int _),
    fun z => ?_, fun _ z => ?_, fun _ _ z => ?_, fun _ _ _ z => ?_, fun _ _ _ _ z => ?_, fun _ _ _ _ _ => ⟨a, b, os, ot, s, g, m, rfl, rfl, rfl, rfl, rfl, ha, hb, ka, kb, m16, q⟩⟩
  · rw [e1] at z; cases z
  · rw [e2] at z; cases z
  · rw [e3] at z; cases z
  · rw [e4] at z; cases z
  · rw [e5] at z; cases z
theorem car {H H' : Hp} {p b : Addr} {o : HO} (s : Same (wo H p) (wo H' p)) (h : H b = some o) (n : b ≠ p) : H' b = some o := wo_le _ _ (s _ _ (wo_at h n))
def spCopiesRight (K : PySem.W.Frag) : Sp := fun vs H Q _ => ∃ (p : Addr) (n : Nat), vs = [.ref p] ∧ Pot H p n ∧ n + 3000 < 1000000 ∧ ∀ H', Pot H' p (n + 2000) → Same (wo H p) (wo H' p) → Q (.bl true) H'
abbrev sev : OL := List.replicate 256 (some 7)
theorem sev_eq : (List.replicate (256 : Int).toNat [V.int 7]).flatten = sev.map optB := by
  rw [List.map_replicate]
  show (List.replicate 256 [V.int 7]).flatten = List.replicate 256 (V.int 7)
  simp
theorem sev_ok : okL sev := okL.rep fun i e => by cases e; exact ⟨by decide, by decide⟩
theorem sev_one : oneB sev sev = true := by
  unfold oneB
  simp only [PyData.eqv]
  exact eqvAll_ol _
theorem sev_cp : cp true sev 5 9 3 0 sev = (3, sev) := by decide +kernel
theorem eqv_ans (r : Nat × OL) : PyData.eqv (dAns r) (dAns r) = true := by
  simp only [dAns, PyData.eqv, PyData.eqvAll, eqvAll_ol, BEq.rfl, Bool.and_self]
theorem shaped_ans {r : Nat × OL} (h1 : r.1 ≤ 1000) (h2 : okL r.2) : SeqAt.shaped (dAns r) = true := okData.shaped (ans_ok h1 h2) _ rfl
def nearL (st : Nat) : List V := [V.int (if (st : Int) + 1 < 255 then (st : Int) + 1 else 255), .int (if (st : Int) - 1 > 0 then (st : Int) - 1 else 0), .int (st : Nat), .int (if (st : Int) + 5 < 255 then (st : Int) + 5 else 255)]
theorem near_in {st : Nat} (h : st ≤ 255) : ∀ x ∈ nearL st, ∃ g : Nat, x = .int (g : Nat) ∧ g ≤ 255 := fun x hx => by
  have key : ∀ z : Int, 0 ≤ z → z ≤ 255 → ∃ g : Nat, V.int z = .int (g : Nat) ∧ g ≤ 255 := fun z h0 h1 => ⟨z.toNat, by rw [Int.toNat_of_nonneg h0], by omega⟩
  unfold nearL at hx
  simp only [List.mem_cons, List.not_mem_nil, or_false] at hx
  rcases hx with rfl | rfl | rfl | rfl
  · refine key _ ?_ ?_ <;> split <;> omega
  · refine key _ ?_ ?_ <;> split <;> omega
  · exact ⟨st, rfl, h⟩
  · refine key _ ?_ ?_ <;> split <;> omega
theorem ok_CopiesRight {k : Nat} {f : Addr} {fd : FuncData} {C1 C2 C4:Addr} (F : Fun K "_law_are_copies_right" "_law_are_copies_right" sCopiesRight f fd) (gMe : Cal P w K mg base CX0 (k + 4) "_law_memory" ["pot"] (spMemory K)) (gCo : Cal P w K mg base (L2.CX P w) (k + 4) "copied" ["source", "target", "start", "goal", "many"] (spCopied K C1 C2 C4)) (gLc : Cal P w K mg base CX0 (k + 4) "_law_copied" ["source", "target", "start", "goal", "many"] (spLCopied K)) (gTa : Cal P w K mg base CX0 (k + 4) "_law_take" ["pot", "upto"] spTake) (gOf : Cal P w K mg base CX0 (k + 4) "_law_of" ["pot", "some"] (spOf K)) (gCoK : CalK P w K mg base (L2.CX P w) (k + 4) "copied" ["source", "target", "start", "goal", "many"] ["many", "goal", "start", "target", "source"] kw5 (spCopied K C1 C2 C4))  (flist : mg "list" = none) (fmax : mg "max" = none) (fmin : mg "min" = none) (frange : mg "range" = none) (frepr : mg "repr" = none) (ftuple : mg "tuple" = none) : FnG P w K mg base (k + 5) f fd ["pot"] (spCopiesRight K) := by
  obtain ⟨fMe, fdMe, GMe, kMe, bMe, mMe⟩ := gMe
  obtain ⟨fCo, fdCo, GCo, kCo, bCo, mCo⟩ := gCo
  obtain ⟨fLc, fdLc, GLc, kLc, bLc, mLc⟩ := gLc
  obtain ⟨fTa, fdTa, GTa, kTa, bTa, mTa⟩ := gTa
  obtain ⟨fOf, fdOf, GOf, kOf, bOf, mOf⟩ := gOf
  obtain ⟨fCoK, fdCoK, GCoK, kCoK, bCoK, mCoK⟩ := gCoK
  refine fnG_of F scCopiesRight (fun vs H Q E h => ?_) (fun cdv A outer s H vs Q hr gd h => ?_)
  · obtain ⟨p, n, rfl, _⟩ := h
    rfl
  · obtain ⟨p, n, rfl, hp, hn, q⟩ := h
    refine ⟨_, (pss_cons (ps_set (i := 1) scCopiesRight.nd rfl (.inl rfl) (pe_call GMe hr (by rfl) mMe kMe bMe .nil pass0 (pa_cons (pv 0) pa_nil))) (pss_cons (ps_for PassesOwn.never rfl (pi_range1 (by rfl) frange (pa_cons pe_int pa_nil)) (pg_name (i := 2) scCopiesRight.nd rfl (.inl rfl)) (pss_cons (ps_set (i := 3) scCopiesRight.nd rfl (.inl rfl) (pe_ifExp (pt_cmpR op_eq (pe_call GTa hr (by rfl) mTa kTa bTa .nil pass0 (pa_cons (pv 0) (pa_cons pe_int pa_nil))) pe_int (nomark _)) (pe_callTy call_list_of (by rfl) flist (by decide +kernel) (pa_cons (pv 1) pa_nil)) (pe_call GMe hr (by rfl) mMe kMe bMe .nil pass0 (pa_cons (pv 0) pa_nil)))) (pss_cons (ps_par (i := 4) (j := 5) (by rfl) scCopiesRight.nd rfl rfl (by decide) rfl rfl (pa_cons (pe_call GOf hr (by rfl) mOf kOf bOf .nil pass0 (pa_cons (pv 0) (pa_cons (pe_lst (pa_cons (pe_call GTa hr (by rfl) mTa kTa bTa .nil pass0 (pa_cons (pv 0) (pa_cons pe_int pa_nil))) (pa_cons pe_int (pa_cons pe_int (pa_cons pe_int (pa_cons pe_int pa_nil)))))) pa_nil))) (pa_cons (pe_op op_add pe_int (pe_call GTa hr (by rfl) mTa kTa bTa .nil pass0 (pa_cons (pv 0) (pa_cons pe_int pa_nil)))) pa_nil)) (by rfl)) (pss_cons (ps_set (i := 6) scCopiesRight.nd rfl (.inl rfl) (pe_lst (pa_cons (pe_callB (call_min2 rfl) (by rfl) fmin (by decide +kernel) (pa_cons pe_int (pa_cons (pe_op op_add (pv 4) pe_int) pa_nil))) (pa_cons (pe_callB (call_max2 rfl) (by rfl) fmax (by decide +kernel) (pa_cons pe_int (pa_cons (pe_op op_sub (pv 4) pe_int) pa_nil))) (pa_cons (pv 4) (pa_cons (pe_callB (call_min2 rfl) (by rfl) fmin (by decide +kernel) (pa_cons pe_int (pa_cons (pe_op op_add (pv 4) pe_int) pa_nil))) pa_nil)))))) (pss_cons (ps_set (i := 7) scCopiesRight.nd rfl (.inl rfl) (pe_call GOf hr (by rfl) mOf kOf bOf .nil pass0 (pa_cons (pv 0) (pa_cons (pe_op op_cat (pv 6) (pe_lst (pa_cons (pe_call GTa hr (by rfl) mTa kTa bTa .nil pass0 (pa_cons (pv 0) (pa_cons pe_int pa_nil))) (pa_cons pe_int pa_nil)))) pa_nil)))) (pss_cons (ps_par (i := 8) (j := 9) (by rfl) scCopiesRight.nd rfl rfl (by decide) rfl rfl (pa_cons (pe_callTy call_tuple_of (by rfl) ftuple (by decide +kernel) (pa_cons (pv 1) pa_nil)) (pa_cons (pe_callTy call_tuple_of (by rfl) ftuple (by decide +kernel) (pa_cons (pv 3) pa_nil)) pa_nil)) (by rfl)) (pss_one (ps_if (pt_cmpR op_ne (pe_callB (call_repr gd hr.units) (by rfl) frepr (by decide +kernel) (pa_cons (pe_call GCo hr (by rfl) mCo kCo bCo .nil passX (pa_cons (pv 8) (pa_cons (pv 9) (pa_cons (pv 4) (pa_cons (pv 7) (pa_cons (pv 5) pa_nil)))))) pa_nil)) (pe_callB (call_repr gd hr.units) (by rfl) frepr (by decide +kernel) (pa_cons (pe_call GLc hr (by rfl) mLc kLc bLc .nil pass0 (pa_cons (pv 8) (pa_cons (pv 9) (pa_cons (pv 4) (pa_cons (pv 7) (pa_cons (pv 5) pa_nil)))))) pa_nil)) (nomark _)) (pss_one (ps_ret pe_bl)) pss_nil)))))))) (pss_one (ps_ret (pe_cmpR (op_eqD hr.units) (pe_callK0 GCoK hr (by rfl) mCoK kCoK bCoK passX (pk_cons pe_int (pk_cons pe_int (pk_cons pe_int (pk_cons (pe_op op_repT (pe_tup (pa_cons pe_int pa_nil)) pe_int) (pk_cons (pe_op op_repT (pe_tup (pa_cons pe_int pa_nil)) pe_int) pk_nil)))))) (pe_tup (pa_cons pe_int (pa_cons (pe_op op_repT (pe_tup (pa_cons pe_int pa_nil)) pe_int) pa_nil))) (nomark _)))))), ?_⟩
    refine ⟨.ref p, rfl, p, n, rfl, hp, by omega, fun L os H1 hp1 s1 hL kos nL neL => ?_⟩
    refine ⟨8, rfl, by omega, by omega, ?_⟩
    refine for_range (n := 8) (fun i σ H' => ∃ y2 y3 y4 y5 y6 y7 y8 y9, σ = [some (.ref p), some (.ref L), y2, y3, y4, y5, y6, y7, y8, y9] ∧ Pot H' p (n + 100 + 200 * i) ∧ Same (wo H p) (wo H' p) ∧ H' L = some (.lst (os.map optB))) ⟨_, _, _, _, _, _, _, _, rfl, hp1, s1, hL⟩ (fun i σ H2 hi hP => ?_) fun σ H' hP => ?_
    · obtain ⟨y2, y3, y4, y5, y6, y7, y8, y9, rfl, hp, sm, hL⟩ := hP
      refine ⟨.ref p, rfl, p, 2, _, rfl, by omega, by omega, hp, by omega, fun d H3 d0 d1 hp3 s3 => ⟨rfl, _, rfl, ?_⟩⟩
      have hL := car s3 hL neL
      have sm := sm.trans s3
      refine both (fun v H' => ∃ T ot, v = .ref T ∧ Pot H' p (n + 100 + 200 * i + 101) ∧ Same (wo H p) (wo H' p) ∧ H' L = some (.lst (os.map optB)) ∧ H' T = some (.lst (ot.map optB)) ∧ okL ot ∧ T ≠ p)
        (fun e R r => ⟨.ref L, rfl, L, _, rfl, .inl (SqL.of hL), fun l nl => r _ _ ⟨l, os, rfl, (hp3.upd (hp3.ne nl)).mono (by omega), sm.trans (wo_same_of (same_upd nl)), same_upd nl _ _ hL, upd_same, kos, hp3.ne nl⟩⟩)
        (fun e R r => ⟨.ref p, rfl, p, _, rfl, hp3, by omega, fun T ot H4 hp4 s4 hT kT nT neT => r _ _ ⟨T, ot, rfl, hp4, sm.trans s4, car s4 hL neL, hT, kT, neT⟩⟩) fun v H4 hv => ?_
      obtain ⟨T, ot, rfl, hp4, s4, hL4, hT4, kot, neT⟩ := hv
      clear hp3 s3 hp sm hL
      -- start, many
      refine ⟨.ref p, rfl, .ref p, rfl, p, 256, _, rfl, by omega, by omega, hp4, by omega, fun e H5 e0 e1 hp5 s5 => ⟨by show 5 ≤ sizeLine; decide, fun l nl => ?_⟩⟩
      have hl : upd H5 l (.lst [V.int e, .int 250, .int 0, .int 14, .int 31]) l = some (.lst [V.int e, .int 250, .int 0, .int 14, .int 31]) := upd_same
      have hp6 := hp5.upd (o := .lst [V.int e, .int 250, .int 0, .int 14, .int 31]) (hp5.ne nl)
      have s6 := (s4.trans s5).trans (wo_same_of (same_upd (o := .lst [V.int e, .int 250, .int 0, .int 14, .int 31]) nl))
      have hL6 := same_upd (o := .lst [V.int e, .int 250, .int 0, .int 14, .int 31]) nl _ _ (car s5 hL4 neL)
      have hT6 := same_upd (o := .lst [V.int e, .int 250, .int 0, .int 14, .int 31]) nl _ _ (car s5 hT4 neT)
      have nel := hp5.ne nl
      generalize upd H5 l (.lst [V.int e, .int 250, .int 0, .int 14, .int 31]) = H6 at hl hp6 s6 hL6 hT6 ⊢
      clear hp4 s4 hL4 hT4 hp5 s5 nl
      refine ⟨p, l, _, _, rfl, SqL.of (wo_at hl nel), by simp, (by show 5 ≤ 1000; decide), hp6, by omega, fun x hx H7 hp7 s7 => ?_⟩
      obtain ⟨st, rfl, st1⟩ : ∃ st : Nat, x = .int (st : Nat) ∧ st ≤ 255 := by
        simp only [List.mem_cons, List.not_mem_nil, or_false] at hx
        rcases hx with rfl | rfl | rfl | rfl | rfl
        · exact ⟨e.toNat, by rw [Int.toNat_of_nonneg e0], by omega⟩
        · exact ⟨250, rfl, by decide⟩
        · exact ⟨0, rfl, by decide⟩
        · exact ⟨14, rfl, by decide⟩
        · exact ⟨31, rfl, by decide⟩
      refine ⟨.ref p, rfl, p, 16, _, rfl, by omega, by omega, hp7, by omega, fun f H8 f0 f1 hp8 s8 => ?_⟩
      obtain ⟨m, rfl, m16⟩ : ∃ m : Nat, f = (m : Nat) ∧ m < 16 := ⟨f.toNat, by omega, by omega⟩
      have em : (1 : Int) + ((m : Nat) : Int) = ((m + 1 : Nat) : Int) := by push_cast; omega
      refine ⟨_, _, rfl, rfl, .int (st : Nat), .int ((m + 1 : Nat) : Int), congrArg (fun z => [V.int (st : Nat), V.int z]) em, ?_⟩
      have hL8 := car s8 (car s7 hL6 neL) neL
      have hT8 := car s8 (car s7 hT6 neT) neT
      have s8 := (s6.trans s7).trans s8
      clear hp6 s6 hL6 hT6 hp7 s7 hl
      -- near
      refine ⟨_, rfl, _, _, rfl, rfl, _, _, rfl, _, rfl, _, _, rfl, rfl, _, _, rfl, _, rfl, _, rfl, _, _, rfl, rfl, _, _, rfl, ?_⟩
      refine ⟨by show 4 ≤ sizeLine; decide, fun N nN => ?_⟩
      have hN : upd H8 N (.lst [V.int (if (st : Int) + 1 < 255 then (st : Int) + 1 else 255), .int (if (st : Int) - 1 > 0 then (st : Int) - 1 else 0), .int (st : Nat), .int (if (st : Int) + 5 < 255 then (st : Int) + 5 else 255)]) N = some (.lst (nearL st)) := upd_same
      have hp9 := hp8.upd (o := .lst [V.int (if (st : Int) + 1 < 255 then (st : Int) + 1 else 255), .int (if (st : Int) - 1 > 0 then (st : Int) - 1 else 0), .int (st : Nat), .int (if (st : Int) + 5 < 255 then (st : Int) + 5 else 255)]) (hp8.ne nN)
      have s9 := s8.trans (wo_same_of (same_upd (o := .lst [V.int (if (st : Int) + 1 < 255 then (st : Int) + 1 else 255), .int (if (st : Int) - 1 > 0 then (st : Int) - 1 else 0), .int (st : Nat), .int (if (st : Int) + 5 < 255 then (st : Int) + 5 else 255)]) nN))
      have hL9 := same_upd (o := .lst [V.int (if (st : Int) + 1 < 255 then (st : Int) + 1 else 255), .int (if (st : Int) - 1 > 0 then (st : Int) - 1 else 0), .int (st : Nat), .int (if (st : Int) + 5 < 255 then (st : Int) + 5 else 255)]) nN _ _ hL8
      have hT9 := same_upd (o := .lst [V.int (if (st : Int) + 1 < 255 then (st : Int) + 1 else 255), .int (if (st : Int) - 1 > 0 then (st : Int) - 1 else 0), .int (st : Nat), .int (if (st : Int) + 5 < 255 then (st : Int) + 5 else 255)]) nN _ _ hT8
      have neN := hp8.ne nN
      generalize upd H8 N (.lst [V.int (if (st : Int) + 1 < 255 then (st : Int) + 1 else 255), .int (if (st : Int) - 1 > 0 then (st : Int) - 1 else 0), .int (st : Nat), .int (if (st : Int) + 5 < 255 then (st : Int) + 5 else 255)]) = H9 at hN hp9 s9 hL9 hT9 ⊢
      clear hp8 s8 hL8 hT8
      -- goal
      refine ⟨.ref p, rfl, .ref N, rfl, .ref p, rfl, p, 256, _, rfl, by omega, by omega, hp9, by omega, fun e H10 e0 e1 hp10 s10 => ⟨by show 2 ≤ sizeLine; decide, fun l nl => ?_⟩⟩
      have hl : upd H10 l (.lst [V.int e, .int 244]) l = some (.lst [V.int e, .int 244]) := upd_same
      have hp11 := hp10.upd (o := .lst [V.int e, .int 244]) (hp10.ne nl)
      have s11 := (s9.trans s10).trans (wo_same_of (same_upd (o := .lst [V.int e, .int 244]) nl))
      have hL11 := same_upd (o := .lst [V.int e, .int 244]) nl _ _ (car s10 hL9 neL)
      have hT11 := same_upd (o := .lst [V.int e, .int 244]) nl _ _ (car s10 hT9 neT)
      have hN11 := same_upd (o := .lst [V.int e, .int 244]) nl _ _ (car s10 hN neN)
      generalize upd H10 l (.lst [V.int e, .int 244]) = H11 at hl hp11 s11 hL11 hT11 hN11 ⊢
      clear hp9 s9 hL9 hT9 hp10 s10 nl
      refine ⟨N, l, _, _, rfl, rfl, hN11, hl, by show 4 + 2 ≤ sizeLine; decide, fun c nc => ?_⟩
      have hc : upd H11 c (.lst (nearL st ++ [V.int e, .int 244])) c = some (.lst (nearL st ++ [V.int e, .int 244])) := upd_same
      have hp12 := hp11.upd (o := .lst (nearL st ++ [V.int e, .int 244])) (hp11.ne nc)
      have s12 := s11.trans (wo_same_of (same_upd (o := .lst (nearL st ++ [V.int e, .int 244])) nc))
      have hL12 := same_upd (o := .lst (nearL st ++ [V.int e, .int 244])) nc _ _ hL11
      have hT12 := same_upd (o := .lst (nearL st ++ [V.int e, .int 244])) nc _ _ hT11
      have nec := hp11.ne nc
      generalize upd H11 c (.lst (nearL st ++ [V.int e, .int 244])) = H12 at hc hp12 s12 hL12 hT12 ⊢
      clear hp11 s11 hL11 hT11 hl hN11
      refine ⟨p, c, _, _, rfl, SqL.of (wo_at hc nec), by simp, (by show 4 + 2 ≤ 1000; decide), hp12, by omega, fun x hx H13 hp13 s13 => ?_⟩
      obtain ⟨go, rfl, go1⟩ : ∃ g : Nat, x = .int (g : Nat) ∧ g ≤ 255 := by
        rcases List.mem_append.mp hx with hx | hx
        · exact near_in st1 x hx
        · simp only [List.mem_cons, List.not_mem_nil, or_false] at hx
          rcases hx with rfl | rfl
          · exact ⟨e.toNat, by rw [Int.toNat_of_nonneg e0], by omega⟩
          · exact ⟨244, rfl, by decide⟩
      have hL13 := car s13 hL12 neL
      have hT13 := car s13 hT12 neT
      have s13 := s12.trans s13
      clear hp12 s12 hL12 hT12 hc
      -- mine, its
      refine ⟨.ref L, rfl, L, _, rfl, .inl ⟨SqL.of hL13, fun M nM => ?_⟩⟩
      have sM := same_upd (o := .tup (os.map optB)) nM
      have hM : upd H13 M (.tup (os.map optB)) M = some (.tup (os.map optB)) := upd_same
      have hT14 := sM _ _ hT13
      have hL14 := sM _ _ hL13
      generalize upd H13 M (.tup (os.map optB)) = H14 at sM hM hT14 hL14 ⊢
      refine ⟨.ref T, rfl, T, _, rfl, .inl ⟨SqL.of hT14, fun I nI => ?_⟩⟩
      have sI := same_upd (o := .tup (ot.map optB)) nI
      have hI : upd H14 I (.tup (ot.map optB)) I = some (.tup (ot.map optB)) := upd_same
      have hM15 := sI _ _ hM
      have hL15 := sI _ _ hL14
      have s15 := sM.trans sI
      generalize upd H14 I (.tup (ot.map optB)) = H15 at sI hI hM15 hL15 s15 ⊢
      refine ⟨_, _, rfl, ?_⟩
      have km : okL (cp (oneB os ot) os st go (m + 1) 0 ot).2 := cp_ok kos _ _ _ kot
      have lm : (cp (oneB os ot) os st go (m + 1) 0 ot).1 ≤ 1000 := Nat.le_trans (cp_le _ _ _) (by omega)
      refine ⟨.ref M, rfl, .ref I, rfl, _, rfl, _, rfl, _, rfl, cp_call (SqT.of hM15) (SqT.of hI) kos kot st1 go1 (by omega) (by omega) fun H16 t r s16 ht hr => ?_⟩
      refine ⟨.ref t, dAns _, rfl, .dp (ans_dp ht hr), ans_ok lm km, ?_⟩
      refine ⟨.ref M, rfl, .ref I, rfl, _, rfl, _, rfl, _, rfl, M, I, os, ot, st, go, m + 1, rfl, ⟨SqT.of (s16 _ _ hM15), SqT.of (s16 _ _ hI), kos, kot, by omega, fun H17 t2 r2 s17 ht2 hr2 => ?_⟩⟩
      refine ⟨.ref t2, dAns _, rfl, .dp (ans_dp ht2 hr2), ans_ok lm km, rfl, _, rfl, ?_⟩
      rw [same_f]
      refine iteF ?_
      have s157 := (s15.trans s16).trans s17
      exact ⟨_, _, _, _, _, _, _, _, rfl, (hp13.same s157).mono (by omega), s13.trans (wo_same_of s157), s17 _ _ (s16 _ _ hL15)⟩
    · obtain ⟨y2, y3, y4, y5, y6, y7, y8, y9, rfl, hp, sm, hL⟩ := hP
      refine ⟨by show 1 ≤ sizeLine; decide, fun t1 nt1 => ⟨t1, 256, _, rfl, rfl, SqT.of upd_same, by simp, by decide, by decide, (by show 1 ≤ 1000; decide), fun T nT => ?_⟩⟩
      rw [sev_eq]
      have sT := (same_upd (o := .tup [V.int 7]) nt1).trans (same_upd (o := .tup (sev.map optB)) nT)
      have hT : upd (upd H' t1 (.tup [V.int 7])) T (.tup (sev.map optB)) T = some (.tup (sev.map optB)) := upd_same
      generalize upd (upd H' t1 (.tup [V.int 7])) T (.tup (sev.map optB)) = HT at sT hT ⊢
      refine ⟨by show 1 ≤ sizeLine; decide, fun t2 nt2 => ⟨t2, 256, _, rfl, rfl, SqT.of upd_same, by simp, by decide, by decide, (by show 1 ≤ 1000; decide), fun S nS => ?_⟩⟩
      rw [sev_eq]
      have sS := (same_upd (o := .tup [V.int 7]) nt2).trans (same_upd (o := .tup (sev.map optB)) nS)
      have hS : upd (upd HT t2 (.tup [V.int 7])) S (.tup (sev.map optB)) S = some (.tup (sev.map optB)) := upd_same
      generalize upd (upd HT t2 (.tup [V.int 7])) S (.tup (sev.map optB)) = HS at sS hS ⊢
      have hT := sS _ _ hT
      have s12 := sT.trans sS
      show spCopied K C1 C2 C4 [.ref S, .ref T, .int ((5 : Nat) : Int), .int ((9 : Nat) : Int), .int ((3 : Nat) : Int)] _ _ _
      refine cp_call (s := 5) (g := 9) (m := 3) (SqT.of hS) (SqT.of hT) sev_ok sev_ok (by decide) (by decide) (by decide) (by decide) fun H1 t r s1 ht hr => ?_
      rw [sev_one, sev_cp] at ht hr
      refine ⟨by show 1 ≤ sizeLine; decide, fun t3 nt3 => ⟨t3, 256, _, rfl, rfl, SqT.of upd_same, by simp, by decide, by decide, (by show 1 ≤ 1000; decide), fun U nU => ?_⟩⟩
      rw [sev_eq]
      have sU := (same_upd (o := .tup [V.int 7]) nt3).trans (same_upd (o := .tup (sev.map optB)) nU)
      have hU : upd (upd H1 t3 (.tup [V.int 7])) U (.tup (sev.map optB)) U = some (.tup (sev.map optB)) := upd_same
      generalize upd (upd H1 t3 (.tup [V.int 7])) U (.tup (sev.map optB)) = HU at sU hU ⊢
      refine ⟨by show 2 ≤ sizeLine; decide, fun Z nZ => ?_⟩
      have sZ := same_upd (o := .tup [V.int 3, .ref U]) nZ
      refine ⟨dAns (3, sev), dAns (3, sev), ans_dp (Same.seqT (sU.trans sZ) ht) (Same.seqT (sU.trans sZ) hr), ans_dp (SqT.of upd_same) (SqT.of (sZ _ _ hU)), shaped_ans (by decide) sev_ok, shaped_ans (by decide) sev_ok, ?_⟩
      rw [eqv_ans]
      have se := (s12.trans s1).trans (sU.trans sZ)
      exact q _ ((hp.same se).mono (by omega)) (sm.trans (wo_same_of se))
end
end K24

set_option maxRecDepth 100000
set_option maxHeartbeats 8000000
/-! k24: drawn rows of items. -/
namespace K24
open PySem PySem.Spec PyProof.Rows L2 LamX VG
theorem scSomeItems : FnScope ["pot", "block", "pool"] ["pot"] (defScope sSomeItems) := ⟨rfl, rfl, rfl, by decide +kernel, rfl, by decide +kernel, by decide +kernel⟩
theorem scFirstOf : FnScope ["items", "kinds", "some", "item"] ["items", "kinds"] (defScope sFirstOf) := ⟨rfl, rfl, rfl, by decide +kernel, rfl, by decide +kernel, by decide +kernel⟩
theorem pick_perm {α : Type} : ∀ (l : List α) (i : Nat) (h : i < l.length), (l[i] :: l.eraseIdx i).Perm l
  | x :: xs, 0, _ => List.Perm.refl _
  | x :: xs, i + 1, h => by
    have h' : i < xs.length := by simpa using h
    have ih := pick_perm xs i h'
    exact (List.Perm.swap x xs[i] (xs.eraseIdx i)).trans (ih.cons x)
theorem perm_map {α β : Type} {f : α → β} {l m : List β} (h : l.Perm m) : ∀ ps : List α, m = ps.map f → ∃ ps' : List α, ps'.Perm ps ∧ l = ps'.map f := by
  induction h with
  | nil =>
    intro ps e
    cases ps with
    | nil => exact ⟨[], .refl _, rfl⟩
    | cons a ps => cases e
  | cons x _ ih =>
    intro ps e
    cases ps with
    | nil => cases e
    | cons a ps =>
      rw [List.map_cons, List.cons.injEq] at e
      obtain ⟨ps', h1, h2⟩ := ih ps e.2
      exact ⟨a :: ps', h1.cons a, by rw [List.map_cons, ← h2, e.1]⟩
  | swap x y l =>
    intro ps e
    match ps, e with
    | a :: b :: ps, e =>
      rw [List.map_cons, List.map_cons, List.cons.injEq, List.cons.injEq] at e
      exact ⟨b :: a :: ps, .swap _ _ _, by rw [List.map_cons, List.map_cons, e.1, e.2.1, e.2.2]⟩
  | trans _ _ ih1 ih2 =>
    intro ps e
    obtain ⟨ps2, h1, h2⟩ := ih2 ps e
    obtain ⟨ps1, h3, h4⟩ := ih1 ps2 h2
    exact ⟨ps1, h3.trans h1, h4⟩
/-- what a row of items is as data -/
def dParts : Item → List PyData
  | .str a n => [.int a, .int n] | .buf a n => [.int a, .int n] | .map x y l s => [.tuple [.int x, .int y], .str l, .int s] | .grant x y l s => [.tuple [.int x, .int y], .str l, .int s] | .right p l o => [.int p, .str l, dO o] | .win x y => [.tuple [.int x, .int y]] | .plc p => [.int p]
def dIt (it : Item) : PyData := .tuple (.str it.kind :: dParts it)
theorem dp_optB {K : PySem.W.Frag} {H : Hp} (o : Option Int) : Dp K H (optB o) (dO o) := by cases o with | none => exact .non | some i => exact .int i
theorem IsItem.dp {K : PySem.W.Frag} {H : Hp} {r : Addr} {it : Item} (h : IsItem K H r it) : Dp K H (.ref r) (dIt it) := by
  obtain ⟨b, h1, h2⟩ := h
  refine .tup h1 (.cons (.str _) ?_)
  cases it with
  | str a n => exact .cons (.int _) (.cons (.int _) .nil)
  | buf a n => exact .cons (.int _) (.cons (.int _) .nil)
  | map x y l s => exact .cons (.tup h2 (.cons (.int _) (.cons (.int _) .nil))) (.cons (.str _) (.cons (.int _) .nil))
  | grant x y l s => exact .cons (.tup h2 (.cons (.int _) (.cons (.int _) .nil))) (.cons (.str _) (.cons (.int _) .nil))
  | right p l o => exact .cons (.int _) (.cons (.str _) (.cons (dp_optB o) .nil))
  | win x y => exact .cons (.tup h2 (.cons (.int _) (.cons (.int _) .nil))) .nil
  | plc p => exact .cons (.int _) .nil
theorem AreItems.dp {K : PySem.W.Frag} {H : Hp} : ∀ {rs : List Addr} {its : List Item}, AreItems K H rs its → DpAll K H (rs.map V.ref) (its.map dIt)
  | [], [], _ => .nil
  | _ :: _, _ :: _, h => .cons h.1.dp (AreItems.dp h.2)
  | [], _ :: _, h => h.elim
  | _ :: _, [], h => h.elim
theorem okTx {l : Str} (h : l ∈ ([("rw" : Str), "x", "s", "string", "buffer", "map", "grant", "right", "window", "place"] : List Str)) : okN 1 408 (.str l) := by
  refine (okS.ok (n := 50) ⟨?_, ?_⟩ (by decide)).mono (by decide) (by decide)
  · simp only [List.mem_cons, List.not_mem_nil, or_false] at h
    rcases h with rfl | rfl | rfl | rfl | rfl | rfl | rfl | rfl | rfl | rfl <;> decide
  · simp only [List.mem_cons, List.not_mem_nil, or_false] at h
    rcases h with rfl | rfl | rfl | rfl | rfl | rfl | rfl | rfl | rfl | rfl <;> decide
theorem okKind (it : Item) : okN 1 408 (.str it.kind) := okTx (by cases it <;> simp [Item.kind])
theorem okI {i : Int} (h0 : -100000 ≤ i) (h1 : i ≤ 1000000) : okN 1 408 (.int i) := (okN.int h0 h1).mono (by decide) (by decide)
theorem okD {x y : Int} (h : Dm x y) : okN 1 408 (.tuple [.int x, .int y]) := by
  obtain ⟨h1, h2, h3⟩ := h
  have : 1 ≤ y ∧ y ≤ 16 := by
    simp only [List.mem_cons, List.not_mem_nil, or_false] at h3
    omega
  refine (okN.tup (k := 0) (m := 50) (fun d hd => ?_) (by simp)).mono (by decide) (by decide)
  simp only [List.mem_cons, List.not_mem_nil, or_false] at hd
  rcases hd with rfl | rfl
  · exact okN.int (by omega) (by omega)
  · exact okN.int (by omega) (by omega)
theorem okL' {l : Str} (h : l ∈ ([("rw" : Str), "x", "s"] : List Str)) : okN 1 408 (.str l) := okTx (by
  simp only [List.mem_cons, List.not_mem_nil, or_false] at h ⊢
  rcases h with h | h | h
  · exact .inl h
  · exact .inr (.inl h)
  · exact .inr (.inr (.inl h)))
theorem okIt {it : Item} (h : ∀ d ∈ dParts it, okN 1 408 d) (hl : (dParts it).length ≤ 7) : okN 2 3272 (dIt it) := by
  refine (okN.tup (k := 1) (m := 408) (fun d hd => ?_) (by rw [List.length_cons]; omega)).mono (by decide) (by decide)
  rcases List.mem_cons.mp hd with rfl | hd
  · exact okKind it
  · exact h d hd
theorem okIt_str {a n : Int} (h0 : -100000 ≤ a) (h1 : a ≤ 1000000) (h2 : -100000 ≤ n) (h3 : n ≤ 1000000) : okN 2 3272 (dIt (.str a n)) := okIt (fun d hd => by
  simp only [dParts, List.mem_cons, List.not_mem_nil, or_false] at hd
  rcases hd with rfl | rfl <;> exact okI (by omega) (by omega)) (by simp [dParts])
theorem okIt_buf {a n : Int} (h0 : -100000 ≤ a) (h1 : a ≤ 1000000) (h2 : -100000 ≤ n) (h3 : n ≤ 1000000) : okN 2 3272 (dIt (.buf a n)) := okIt (fun d hd => by
  simp only [dParts, List.mem_cons, List.not_mem_nil, or_false] at hd
  rcases hd with rfl | rfl <;> exact okI (by omega) (by omega)) (by simp [dParts])
theorem okIt_map {x y : Int} {l : Str} (h : Dm x y) (hl : l ∈ ([("rw" : Str), "x", "s"] : List Str)) : okN 2 3272 (dIt (.map x y l 3)) := okIt (fun d hd => by
  simp only [dParts, List.mem_cons, List.not_mem_nil, or_false] at hd
  rcases hd with rfl | rfl | rfl
  · exact okD h
  · exact okL' hl
  · exact okI (by decide) (by decide)) (by simp [dParts])
theorem okIt_grant {x y : Int} {l : Str} (h : Dm x y) (hl : l ∈ ([("rw" : Str), "x", "s"] : List Str)) : okN 2 3272 (dIt (.grant x y l 0)) := okIt (fun d hd => by
  simp only [dParts, List.mem_cons, List.not_mem_nil, or_false] at hd
  rcases hd with rfl | rfl | rfl
  · exact okD h
  · exact okL' hl
  · exact okI (by decide) (by decide)) (by simp [dParts])
theorem okIt_right {o : Option Int} (h : ∀ i, o = some i → 0 ≤ i ∧ i ≤ 65535) : okN 2 3272 (dIt (.right 3 "s" o)) := okIt (fun d hd => by
  simp only [dParts, List.mem_cons, List.not_mem_nil, or_false] at hd
  rcases hd with rfl | rfl | rfl
  · exact okI (by decide) (by decide)
  · exact okL' (by simp)
  · exact (okN_dO h).mono (by decide) (by decide)) (by simp [dParts])
theorem okIt_win {x y : Int} (h : Dm x y) : okN 2 3272 (dIt (.win x y)) := okIt (fun d hd => by
  simp only [dParts, List.mem_cons, List.not_mem_nil, or_false] at hd
  rcases hd with rfl
  exact okD h) (by simp [dParts])
theorem okIt_plc {a : Int} (h0 : -100000 ≤ a) (h1 : a ≤ 1000000) : okN 2 3272 (dIt (.plc a)) := okIt (fun d hd => by
  simp only [dParts, List.mem_cons, List.not_mem_nil, or_false] at hd
  rcases hd with rfl
  exact okI (by omega) (by omega)) (by simp [dParts])
theorem isMG_kind {it : Item} (h : isMG it = true) : it.kind = "map" ∨ it.kind = "grant" := by
  cases it <;> first | exact .inl rfl | exact .inr rfl | cases h
/-- rows of different kinds stand all -/
theorem okAll_nodup {its : List Item} (nd : (kinds its).Nodup) (ok : ∀ it ∈ its, it.ok = true) : okAll its = true := by
  refine okAll_yes fun j hj => ?_
  unfold okAt
  rw [List.getElem?_eq_getElem hj]
  have hno : its[j].kind ∉ kinds (its.take j) := fun hm => by
    have e : kinds its = kinds (its.take j) ++ its[j].kind :: kinds (its.drop (j + 1)) := by
      unfold kinds
      rw [← List.map_cons, ← List.map_append, List.getElem_cons_drop, List.take_append_drop]
    rw [e] at nd
    exact (List.nodup_append.mp nd).2.2 _ hm _ List.mem_cons_self rfl
  have nd2 : (kinds (its.take j)).Nodup := by
    unfold kinds
    rw [List.map_take]
    exact (List.take_sublist _ _).nodup nd
  show (its[j].ok && fitsB its[j] (its.take j)) = true
  rw [ok _ (List.getElem_mem hj), Bool.true_and]
  unfold fitsB
  have c1 : ∀ z : Str, (kinds (its.take j)).count z ≤ 1 := fun z => List.nodup_iff_count.mp nd2 z
  by_cases c : isMG its[j] = true
  · rw [if_pos c]
    refine decide_eq_true ?_
    rcases isMG_kind c with e | e
    · rw [e] at hno
      have := List.count_eq_zero.mpr hno
      have := c1 "grant"
      omega
    · rw [e] at hno
      have := List.count_eq_zero.mpr hno
      have := c1 "map"
      omega
  · rw [if_neg c, decide_eq_false hno]
    rfl
theorem chosen {K : PySem.W.Frag} {G : Hp} : ∀ {sel : List (Addr × Item)}, (∀ z ∈ sel, IsItem K G z.1 z.2 ∧ z.2.dom ∧ z.2.ok = true ∧ okN 2 3272 (dIt z.2)) → (sel.map fun z => z.2.kind).Nodup →
    AreItems K G (sel.map (·.1)) (sel.map (·.2)) ∧ (∀ it ∈ sel.map (·.2), it.dom ∧ it.ok = true ∧ okN 2 3272 (dIt it)) ∧ (kinds (sel.map (·.2))).Nodup := fun {sel} h nd => by
  refine ⟨?_, fun it hi => ?_, ?_⟩
  · clear nd
    induction sel with
    | nil => trivial
    | cons z sel ih => exact ⟨(h z List.mem_cons_self).1, ih fun y hy => h y (List.mem_cons_of_mem _ hy)⟩
  · obtain ⟨z, hz, rfl⟩ := List.mem_map.mp hi
    exact (h z hz).2
  · unfold kinds
    rw [List.map_map]
    exact nd
section
variable {P : Program} {w : World} {K : PySem.W.Frag} {mg : Str → Option Value} {base : Heap}
/-- so many of a pool, each once -/
def spSomeP (K : PySem.W.Frag) : Sp := fun vs H Q _ => ∃ (p l : Addr) (xs : List V) (m n : Nat), vs = [.ref p, .ref l, .int (m : Nat)] ∧ SqL K (wo H p) l xs ∧ m ≤ xs.length ∧ xs.length ≤ 1000 ∧ Pot H p n ∧ n + m < 1000000 ∧
  ∀ H' q ys, Pot H' p (n + m) → Same (wo H p) (wo H' p) → wo H' p q = some (.lst ys) → ys.length = m → (∀ y ∈ ys, y ∈ xs) → (∃ rest, (ys ++ rest).Perm xs) → H q = none → Q (.ref q) H'
theorem ok_someP {f f1 : Addr} {fd fd1 : FuncData} {k : Nat} (F : Fun K "_law_some" "_law_some" sSome f fd) (G1 : FnOk P w K mg base CX0 (k + 1) f1 fd1 ["pot", "upto"] spTake) (k1 : PySem.W.keepIn K (.ref f1) = true) (b1 : Binds K fd1 ["pot", "upto"] []) (g1 : mg "_law_take" = some (.ref f1))
    (ml : mg "list" = none) (mr : mg "range" = none) (me : mg "len" = none) : FnOk P w K mg base CX0 (k + 2) f fd ["pot", "pool", "many"] (spSomeP K) := by
  refine F.ok scSome (fun vs H Q E h => ?_) (fun cdv A outer s H vs Q E hr h => ?_)
  · obtain ⟨p, l, xs, m, n, rfl, _⟩ := h
    rfl
  · obtain ⟨p, l, xs, m, n, rfl, hl, hm, hlen, hp, hn, q⟩ := h
    refine ⟨_, pss_cons (ps_par (i := 3) (j := 4) (by rfl) scSome.nd rfl rfl (by decide) rfl rfl (pa_cons (pe_callTy call_list_of (by rfl) ml (by decide +kernel) (pa_cons (pv 1) pa_nil)) (pa_cons (pe_lst pa_nil) pa_nil)) (by rfl))
      (pss_cons (ps_for PassesOwn.never rfl (pi_range1 (by rfl) mr (pa_cons (pv 2) pa_nil)) (pg_name (i := 5) scSome.nd rfl (.inl rfl))
        (pss_one (ps_expr (pe_bm PySem.F.plainAttrs_list PySem.F.slot_list_append PySem.F.type_list_append mt_append (pv 4) (pa_cons (pe_bm PySem.F.plainAttrs_list PySem.F.slot_list_pop PySem.F.type_list_pop mt_popAt (pv 3) (pa_cons
          (pe_call G1 hr (by rfl) g1 k1 b1 .nil pass0 (pa_cons (pv 0) (pa_cons (pe_callB call_len_seq (by rfl) me PySem.boot_len (pa_cons (pv 3) pa_nil)) pa_nil))) pa_nil)) pa_nil)))))
      (pss_one (ps_ret (pv 4)))), ?_⟩
    refine ⟨.ref l, rfl, l, xs, rfl, .inl (wo_le.seq hl), fun L nL => ?_⟩
    have s1 := same_upd (o := .lst xs) nL
    refine ⟨Nat.zero_le _, fun Fo nF => ⟨.ref L, .ref Fo, rfl, ?_⟩⟩
    have s2 := s1.trans (same_upd (o := .lst []) nF)
    have nF0 : H Fo = none := s1.free nF
    obtain ⟨pa, pb, pc, epp, _⟩ := id hp
    have pL : L ≠ p := (ne_of_none epp nL).symm
    have pF : Fo ≠ p := (ne_of_none epp nF0).symm
    have LF : L ≠ Fo := ne_of_none upd_same nF
    refine ⟨_, rfl, (m : Nat), rfl, by omega, by omega, for_range (n := m) (fun i σ H' => ∃ y5 ls fs, σ = [some (.ref p), some (.ref l), some (.int (m : Nat)), some (.ref L), some (.ref Fo), y5] ∧ Pot H' p (n + i) ∧ Same (wo H p) (wo H' p) ∧
      H' L = some (.lst ls) ∧ H' Fo = some (.lst fs) ∧ ls.length = xs.length - i ∧ fs.length = i ∧ (∀ y ∈ ls, y ∈ xs) ∧ (∀ y ∈ fs, y ∈ xs) ∧ (fs ++ ls).Perm xs) ⟨none, xs, [], rfl, hp.same s2, wo_same_of s2, ?_, upd_same, by omega, rfl, fun y h => h, (fun y h => by cases h), List.Perm.refl _⟩ (fun i σ H' hi hP => ?_) fun σ H' hP => ?_⟩
    · rw [upd_ne LF]
      exact upd_same
    · obtain ⟨y5, ls, fs, rfl, hp', sm, hL, hF, ll, lf, al, af, pm⟩ := hP
      refine ⟨.ref Fo, rfl, .inl ⟨rfl, _, SqL.of hF⟩, .ref L, rfl, .inl ⟨rfl, _, SqL.of hL⟩, .ref p, rfl, .ref L, rfl, L, ls, rfl, .inl (SqL.of hL), ?_⟩
      refine ⟨p, (ls.length : Nat), n + i, rfl, by omega, by omega, hp', by omega, fun d H2 d0 d1 hp2 sd => ?_⟩
      have hL2 : H2 L = some (.lst ls) := wo_le _ _ (sd _ _ (wo_at hL pL))
      have hF2 : H2 Fo = some (.lst fs) := wo_le _ _ (sd _ _ (wo_at hF pF))
      have hd : d.toNat < ls.length := by omega
      have eix : ixN ls.length d = some d.toNat := by
        unfold ixN
        rw [if_pos d0, if_pos d1]
      refine ⟨L, ls, d, d.toNat, ls[d.toNat], rfl, rfl, hL2, by omega, by omega, (ixN_seq eix).1, List.getElem?_eq_getElem hd, ?_⟩
      refine ⟨Fo, _, _, rfl, rfl, (by rw [upd_ne LF.symm]; exact hF2), small1000 (by omega), ?_⟩
      refine ⟨_, ls.eraseIdx d.toNat, fs ++ [ls[d.toNat]], rfl, ?_, wo_updNew (wo_updNew (sm.trans sd) nL) nF0, ?_, upd_same, ?_, ?_, ?_, ?_, ?_⟩
      · obtain ⟨a1, b1', c1, e1, r1⟩ := hp2
        exact ⟨a1, b1', c1, (by rw [upd_ne pF.symm, upd_ne pL.symm]; exact e1), r1⟩
      · rw [upd_ne LF]
        exact upd_same
      · rw [List.length_eraseIdx, if_pos hd]
        omega
      · rw [List.length_append, lf]
        rfl
      · exact fun y hy => al y (List.mem_of_mem_eraseIdx hy)
      · intro y hy
        rcases List.mem_append.mp hy with h | h
        · exact af y h
        · rw [List.mem_singleton.mp h]
          exact al _ (List.getElem_mem hd)
      · refine List.Perm.trans ?_ pm
        rw [List.append_assoc]
        exact List.Perm.append_left fs (pick_perm _ _ hd)
    · obtain ⟨y5, ls, fs, rfl, hp', sm, hL, hF, ll, lf, al, af, pm⟩ := hP
      exact ⟨_, rfl, q H' Fo fs hp' sm (wo_at hF pF) lf af ⟨ls, pm⟩ nF0⟩
def spSomeItems (K : PySem.W.Frag) : Sp := fun vs H Q _ => ∃ (p : Addr) (n : Nat), vs = [.ref p] ∧ Pot H p n ∧ n + 30 < 1000000 ∧ ∀ H' c rs its, Pot H' p (n + 30) → Same (wo H p) (wo H' p) → Good K (wo H' p) c rs its → (∀ it ∈ its, okN 2 3272 (dIt it)) → (kinds its).Nodup → H c = none → Q (.ref c) H'
theorem ok_SomeItems {k : Nat} {f : Addr} {fd : FuncData}  (F : Fun K "_law_some_items" "_law_some_items" sSomeItems f fd) (gOf : Cal P w K mg base CX0 (k + 2) "_law_of" ["pot", "some"] (spOf K)) (gTa : Cal P w K mg base CX0 (k + 2) "_law_take" ["pot", "upto"] spTake) (gSo : Cal P w K mg base CX0 (k + 2) "_law_some" ["pot", "pool", "many"] (spSomeP K))  (ftuple : mg "tuple" = none) : FnOk P w K mg base CX0 (k + 3) f fd ["pot"] (spSomeItems K) := by
  obtain ⟨fOf, fdOf, GOf, kOf, bOf, mOf⟩ := gOf
  obtain ⟨fTa, fdTa, GTa, kTa, bTa, mTa⟩ := gTa
  obtain ⟨fSo, fdSo, GSo, kSo, bSo, mSo⟩ := gSo
  refine F.ok scSomeItems (fun vs H Q E h => ?_) (fun cdv A outer s H vs Q E hr h => ?_)
  · obtain ⟨p, n, rfl, _⟩ := h
    rfl
  · obtain ⟨p, n, rfl, hp, hn, q⟩ := h
    refine ⟨_, (pss_cons (ps_set (i := 1) scSomeItems.nd rfl (.inl rfl) (pe_call GOf hr (by rfl) mOf kOf bOf .nil pass0 (pa_cons (pv 0) (pa_cons (pe_lst (pa_cons (pe_tup (pa_cons pe_int (pa_cons pe_int pa_nil))) (pa_cons (pe_tup (pa_cons pe_int (pa_cons pe_int pa_nil))) (pa_cons (pe_tup (pa_cons pe_int (pa_cons pe_int pa_nil))) (pa_cons (pe_tup (pa_cons pe_int (pa_cons pe_int pa_nil))) (pa_cons (pe_tup (pa_cons pe_int (pa_cons pe_int pa_nil))) (pa_cons (pe_tup (pa_cons pe_int (pa_cons pe_int pa_nil))) pa_nil))))))) pa_nil)))) (pss_cons (ps_set (i := 2) scSomeItems.nd rfl (.inl rfl) (pe_lst (pa_cons (pe_tup (pa_cons pe_str (pa_cons (pe_call GTa hr (by rfl) mTa kTa bTa .nil pass0 (pa_cons (pv 0) (pa_cons pe_int pa_nil))) (pa_cons (pe_op op_add pe_int (pe_call GTa hr (by rfl) mTa kTa bTa .nil pass0 (pa_cons (pv 0) (pa_cons pe_int pa_nil)))) pa_nil)))) (pa_cons (pe_tup (pa_cons pe_str (pa_cons (pv 1) (pa_cons pe_str (pa_cons pe_int pa_nil))))) (pa_cons (pe_tup (pa_cons pe_str (pa_cons (pv 1) (pa_cons pe_str (pa_cons pe_int pa_nil))))) pa_nil))))) (pss_cons (ps_set (i := 2) scSomeItems.nd rfl (.inl rfl) (pe_op op_cat (pv 2) (pe_lst (pa_cons (pe_tup (pa_cons pe_str (pa_cons pe_int (pa_cons pe_str (pa_cons (pe_call GOf hr (by rfl) mOf kOf bOf .nil pass0 (pa_cons (pv 0) (pa_cons (pe_lst (pa_cons pe_non (pa_cons pe_int pa_nil))) pa_nil))) pa_nil))))) (pa_cons (pe_tup (pa_cons pe_str (pa_cons (pe_call GTa hr (by rfl) mTa kTa bTa .nil pass0 (pa_cons (pv 0) (pa_cons pe_int pa_nil))) (pa_cons (pe_op op_add pe_int (pe_call GTa hr (by rfl) mTa kTa bTa .nil pass0 (pa_cons (pv 0) (pa_cons pe_int pa_nil)))) pa_nil)))) pa_nil))))) (pss_cons (ps_set (i := 2) scSomeItems.nd rfl (.inl rfl) (pe_op op_cat (pv 2) (pe_lst (pa_cons (pe_tup (pa_cons pe_str (pa_cons (pv 1) pa_nil))) (pa_cons (pe_tup (pa_cons pe_str (pa_cons (pe_call GTa hr (by rfl) mTa kTa bTa .nil pass0 (pa_cons (pv 0) (pa_cons pe_int pa_nil))) pa_nil))) pa_nil))))) (pss_one (ps_ret (pe_callTy call_tuple_of (by rfl) ftuple (by decide +kernel) (pa_cons (pe_call GSo hr (by rfl) mSo kSo bSo .nil pass0 (pa_cons (pv 0) (pa_cons (pv 2) (pa_cons (pe_call GTa hr (by rfl) mTa kTa bTa .nil pass0 (pa_cons (pv 0) (pa_cons pe_int pa_nil))) pa_nil)))) pa_nil)))))))), ?_⟩
    have sm : Same (wo H p) (wo H p) := Same.refl _
    refine ⟨.ref p, rfl, ?_⟩
    refine ⟨by show 2 ≤ sizeLine; decide, fun b0 nb0 => ?_⟩
    have hb0 : upd H b0 (.tup [V.int 0, .int 1]) b0 = some (.tup [V.int 0, .int 1]) := upd_same
    have eb0 := hp.ne nb0
    have hp := hp.upd (o := (.tup [V.int 0, .int 1])) eb0
    have sm := sm.trans (wo_same_of (same_upd (o := (.tup [V.int 0, .int 1])) nb0))
    generalize upd H b0 (.tup [V.int 0, .int 1]) = Hq1 at hb0 hp sm ⊢
    refine ⟨by show 2 ≤ sizeLine; decide, fun b1 nb1 => ?_⟩
    have hb1 : upd Hq1 b1 (.tup [V.int 4, .int 4]) b1 = some (.tup [V.int 4, .int 4]) := upd_same
    have eb1 := hp.ne nb1
    have hb0 := same_upd (o := (.tup [V.int 4, .int 4])) nb1 _ _ hb0
    have hp := hp.upd (o := (.tup [V.int 4, .int 4])) eb1
    have sm := sm.trans (wo_same_of (same_upd (o := (.tup [V.int 4, .int 4])) nb1))
    generalize upd Hq1 b1 (.tup [V.int 4, .int 4]) = Hq2 at hb1 hp sm hb0 ⊢
    refine ⟨by show 2 ≤ sizeLine; decide, fun b2 nb2 => ?_⟩
    have hb2 : upd Hq2 b2 (.tup [V.int 2, .int 2]) b2 = some (.tup [V.int 2, .int 2]) := upd_same
    have eb2 := hp.ne nb2
    have hb0 := same_upd (o := (.tup [V.int 2, .int 2])) nb2 _ _ hb0
    have hb1 := same_upd (o := (.tup [V.int 2, .int 2])) nb2 _ _ hb1
    have hp := hp.upd (o := (.tup [V.int 2, .int 2])) eb2
    have sm := sm.trans (wo_same_of (same_upd (o := (.tup [V.int 2, .int 2])) nb2))
    generalize upd Hq2 b2 (.tup [V.int 2, .int 2]) = Hq3 at hb2 hp sm hb0 hb1 ⊢
    refine ⟨by show 2 ≤ sizeLine; decide, fun b3 nb3 => ?_⟩
    have hb3 : upd Hq3 b3 (.tup [V.int 0, .int 16]) b3 = some (.tup [V.int 0, .int 16]) := upd_same
    have eb3 := hp.ne nb3
    have hb0 := same_upd (o := (.tup [V.int 0, .int 16])) nb3 _ _ hb0
    have hb1 := same_upd (o := (.tup [V.int 0, .int 16])) nb3 _ _ hb1
    have hb2 := same_upd (o := (.tup [V.int 0, .int 16])) nb3 _ _ hb2
    have hp := hp.upd (o := (.tup [V.int 0, .int 16])) eb3
    have sm := sm.trans (wo_same_of (same_upd (o := (.tup [V.int 0, .int 16])) nb3))
    generalize upd Hq3 b3 (.tup [V.int 0, .int 16]) = Hq4 at hb3 hp sm hb0 hb1 hb2 ⊢
    refine ⟨by show 2 ≤ sizeLine; decide, fun b4 nb4 => ?_⟩
    have hb4 : upd Hq4 b4 (.tup [V.int 8, .int 8]) b4 = some (.tup [V.int 8, .int 8]) := upd_same
    have eb4 := hp.ne nb4
    have hb0 := same_upd (o := (.tup [V.int 8, .int 8])) nb4 _ _ hb0
    have hb1 := same_upd (o := (.tup [V.int 8, .int 8])) nb4 _ _ hb1
    have hb2 := same_upd (o := (.tup [V.int 8, .int 8])) nb4 _ _ hb2
    have hb3 := same_upd (o := (.tup [V.int 8, .int 8])) nb4 _ _ hb3
    have hp := hp.upd (o := (.tup [V.int 8, .int 8])) eb4
    have sm := sm.trans (wo_same_of (same_upd (o := (.tup [V.int 8, .int 8])) nb4))
    generalize upd Hq4 b4 (.tup [V.int 8, .int 8]) = Hq5 at hb4 hp sm hb0 hb1 hb2 hb3 ⊢
    refine ⟨by show 2 ≤ sizeLine; decide, fun b5 nb5 => ?_⟩
    have hb5 : upd Hq5 b5 (.tup [V.int 15, .int 1]) b5 = some (.tup [V.int 15, .int 1]) := upd_same
    have eb5 := hp.ne nb5
    have hb0 := same_upd (o := (.tup [V.int 15, .int 1])) nb5 _ _ hb0
    have hb1 := same_upd (o := (.tup [V.int 15, .int 1])) nb5 _ _ hb1
    have hb2 := same_upd (o := (.tup [V.int 15, .int 1])) nb5 _ _ hb2
    have hb3 := same_upd (o := (.tup [V.int 15, .int 1])) nb5 _ _ hb3
    have hb4 := same_upd (o := (.tup [V.int 15, .int 1])) nb5 _ _ hb4
    have hp := hp.upd (o := (.tup [V.int 15, .int 1])) eb5
    have sm := sm.trans (wo_same_of (same_upd (o := (.tup [V.int 15, .int 1])) nb5))
    generalize upd Hq5 b5 (.tup [V.int 15, .int 1]) = Hq6 at hb5 hp sm hb0 hb1 hb2 hb3 hb4 ⊢
    refine ⟨by show 6 ≤ sizeLine; decide, fun bl nbl => ?_⟩
    have hbl : upd Hq6 bl (.lst [V.ref b0, V.ref b1, V.ref b2, V.ref b3, V.ref b4, V.ref b5]) bl = some (.lst [V.ref b0, V.ref b1, V.ref b2, V.ref b3, V.ref b4, V.ref b5]) := upd_same
    have ebl := hp.ne nbl
    have hb0 := same_upd (o := (.lst [V.ref b0, V.ref b1, V.ref b2, V.ref b3, V.ref b4, V.ref b5])) nbl _ _ hb0
    have hb1 := same_upd (o := (.lst [V.ref b0, V.ref b1, V.ref b2, V.ref b3, V.ref b4, V.ref b5])) nbl _ _ hb1
    have hb2 := same_upd (o := (.lst [V.ref b0, V.ref b1, V.ref b2, V.ref b3, V.ref b4, V.ref b5])) nbl _ _ hb2
    have hb3 := same_upd (o := (.lst [V.ref b0, V.ref b1, V.ref b2, V.ref b3, V.ref b4, V.ref b5])) nbl _ _ hb3
    have hb4 := same_upd (o := (.lst [V.ref b0, V.ref b1, V.ref b2, V.ref b3, V.ref b4, V.ref b5])) nbl _ _ hb4
    have hb5 := same_upd (o := (.lst [V.ref b0, V.ref b1, V.ref b2, V.ref b3, V.ref b4, V.ref b5])) nbl _ _ hb5
    have hp := hp.upd (o := (.lst [V.ref b0, V.ref b1, V.ref b2, V.ref b3, V.ref b4, V.ref b5])) ebl
    have sm := sm.trans (wo_same_of (same_upd (o := (.lst [V.ref b0, V.ref b1, V.ref b2, V.ref b3, V.ref b4, V.ref b5])) nbl))
    generalize upd Hq6 bl (.lst [V.ref b0, V.ref b1, V.ref b2, V.ref b3, V.ref b4, V.ref b5]) = Hq7 at hbl hp sm hb0 hb1 hb2 hb3 hb4 hb5 ⊢
    refine ⟨p, bl, _, _, rfl, SqL.of (wo_at hbl ebl), by simp, (by show 6 ≤ 1000; decide), hp, by omega, fun x hx Hq8 hpN sN => ?_⟩
    have hb0 := car sN hb0 eb0
    have hb1 := car sN hb1 eb1
    have hb2 := car sN hb2 eb2
    have hb3 := car sN hb3 eb3
    have hb4 := car sN hb4 eb4
    have hb5 := car sN hb5 eb5
    have hbl := car sN hbl ebl
    replace hp := hpN
    replace sm := sm.trans sN
    clear hpN sN
    obtain ⟨B, bx, by', rfl, hB, eB, hd, hz⟩ : ∃ (B : Addr) (bx by' : Int), x = .ref B ∧ Hq8 B = some (.tup [.int bx, .int by']) ∧ B ≠ p ∧ Dm bx by' ∧ zeroB bx by' = true := by
      simp only [List.mem_cons, List.not_mem_nil, or_false] at hx
      rcases hx with rfl | rfl | rfl | rfl | rfl | rfl
      · exact ⟨b0, _, _, rfl, hb0, eb0, ⟨by decide, by decide, by simp⟩, by decide⟩
      · exact ⟨b1, _, _, rfl, hb1, eb1, ⟨by decide, by decide, by simp⟩, by decide⟩
      · exact ⟨b2, _, _, rfl, hb2, eb2, ⟨by decide, by decide, by simp⟩, by decide⟩
      · exact ⟨b3, _, _, rfl, hb3, eb3, ⟨by decide, by decide, by simp⟩, by decide⟩
      · exact ⟨b4, _, _, rfl, hb4, eb4, ⟨by decide, by decide, by simp⟩, by decide⟩
      · exact ⟨b5, _, _, rfl, hb5, eb5, ⟨by decide, by decide, by simp⟩, by decide⟩
    clear hb0 hb1 hb2 hb3 hb4 hb5 hbl
    -- the pool
    refine ⟨.ref p, rfl, p, 256, _, rfl, by omega, by omega, hp, by omega, fun a Hq9 a0 a1 hpN sN => ?_⟩
    have hB := car sN hB eB
    replace hp := hpN
    replace sm := sm.trans sN
    clear hpN sN
    refine ⟨.ref p, rfl, p, 16, _, rfl, by omega, by omega, hp, by omega, fun cn Hq10 cn0 cn1 hpN sN => ?_⟩
    have hB := car sN hB eB
    replace hp := hpN
    replace sm := sm.trans sN
    clear hpN sN
    refine ⟨_, _, rfl, rfl, ?_⟩
    refine ⟨by show 3 ≤ sizeLine; decide, fun r1 nr1 => ?_⟩
    have hr1 : upd Hq10 r1 (.tup [V.str "string", .int a, .int (1 + cn)]) r1 = some (.tup [V.str "string", .int a, .int (1 + cn)]) := upd_same
    have er1 := hp.ne nr1
    have hB := same_upd (o := (.tup [V.str "string", .int a, .int (1 + cn)])) nr1 _ _ hB
    have hp := hp.upd (o := (.tup [V.str "string", .int a, .int (1 + cn)])) er1
    have sm := sm.trans (wo_same_of (same_upd (o := (.tup [V.str "string", .int a, .int (1 + cn)])) nr1))
    generalize upd Hq10 r1 (.tup [V.str "string", .int a, .int (1 + cn)]) = Hq11 at hr1 hp sm hB ⊢
    refine ⟨.ref B, rfl, by show 4 ≤ sizeLine; decide, fun r2 nr2 => ?_⟩
    have hr2 : upd Hq11 r2 (.tup [V.str "map", .ref B, .str "rw", .int 3]) r2 = some (.tup [V.str "map", .ref B, .str "rw", .int 3]) := upd_same
    have er2 := hp.ne nr2
    have hB := same_upd (o := (.tup [V.str "map", .ref B, .str "rw", .int 3])) nr2 _ _ hB
    have hr1 := same_upd (o := (.tup [V.str "map", .ref B, .str "rw", .int 3])) nr2 _ _ hr1
    have hp := hp.upd (o := (.tup [V.str "map", .ref B, .str "rw", .int 3])) er2
    have sm := sm.trans (wo_same_of (same_upd (o := (.tup [V.str "map", .ref B, .str "rw", .int 3])) nr2))
    generalize upd Hq11 r2 (.tup [V.str "map", .ref B, .str "rw", .int 3]) = Hq12 at hr2 hp sm hB hr1 ⊢
    refine ⟨.ref B, rfl, by show 4 ≤ sizeLine; decide, fun r3 nr3 => ?_⟩
    have hr3 : upd Hq12 r3 (.tup [V.str "grant", .ref B, .str "x", .int 0]) r3 = some (.tup [V.str "grant", .ref B, .str "x", .int 0]) := upd_same
    have er3 := hp.ne nr3
    have hB := same_upd (o := (.tup [V.str "grant", .ref B, .str "x", .int 0])) nr3 _ _ hB
    have hr1 := same_upd (o := (.tup [V.str "grant", .ref B, .str "x", .int 0])) nr3 _ _ hr1
    have hr2 := same_upd (o := (.tup [V.str "grant", .ref B, .str "x", .int 0])) nr3 _ _ hr2
    have hp := hp.upd (o := (.tup [V.str "grant", .ref B, .str "x", .int 0])) er3
    have sm := sm.trans (wo_same_of (same_upd (o := (.tup [V.str "grant", .ref B, .str "x", .int 0])) nr3))
    generalize upd Hq12 r3 (.tup [V.str "grant", .ref B, .str "x", .int 0]) = Hq13 at hr3 hp sm hB hr1 hr2 ⊢
    refine ⟨by show 3 ≤ sizeLine; decide, fun P1 nP1 => ?_⟩
    have hP1 : upd Hq13 P1 (.lst [V.ref r1, .ref r2, .ref r3]) P1 = some (.lst [V.ref r1, .ref r2, .ref r3]) := upd_same
    have eP1 := hp.ne nP1
    have hB := same_upd (o := (.lst [V.ref r1, .ref r2, .ref r3])) nP1 _ _ hB
    have hr1 := same_upd (o := (.lst [V.ref r1, .ref r2, .ref r3])) nP1 _ _ hr1
    have hr2 := same_upd (o := (.lst [V.ref r1, .ref r2, .ref r3])) nP1 _ _ hr2
    have hr3 := same_upd (o := (.lst [V.ref r1, .ref r2, .ref r3])) nP1 _ _ hr3
    have hp := hp.upd (o := (.lst [V.ref r1, .ref r2, .ref r3])) eP1
    have sm := sm.trans (wo_same_of (same_upd (o := (.lst [V.ref r1, .ref r2, .ref r3])) nP1))
    generalize upd Hq13 P1 (.lst [V.ref r1, .ref r2, .ref r3]) = Hq14 at hP1 hp sm hB hr1 hr2 hr3 ⊢
    refine ⟨.ref P1, rfl, .ref p, rfl, ?_⟩
    refine ⟨by show 2 ≤ sizeLine; decide, fun l2 nl2 => ?_⟩
    have hl2 : upd Hq14 l2 (.lst [V.non, .int 7]) l2 = some (.lst [V.non, .int 7]) := upd_same
    have el2 := hp.ne nl2
    have hB := same_upd (o := (.lst [V.non, .int 7])) nl2 _ _ hB
    have hr1 := same_upd (o := (.lst [V.non, .int 7])) nl2 _ _ hr1
    have hr2 := same_upd (o := (.lst [V.non, .int 7])) nl2 _ _ hr2
    have hr3 := same_upd (o := (.lst [V.non, .int 7])) nl2 _ _ hr3
    have hP1 := same_upd (o := (.lst [V.non, .int 7])) nl2 _ _ hP1
    have hp := hp.upd (o := (.lst [V.non, .int 7])) el2
    have sm := sm.trans (wo_same_of (same_upd (o := (.lst [V.non, .int 7])) nl2))
    generalize upd Hq14 l2 (.lst [V.non, .int 7]) = Hq15 at hl2 hp sm hB hr1 hr2 hr3 hP1 ⊢
    refine ⟨p, l2, _, _, rfl, SqL.of (wo_at hl2 el2), by simp, (by show 2 ≤ 1000; decide), hp, by omega, fun o ho Hq16 hpN sN => ?_⟩
    have hB := car sN hB eB
    have hr1 := car sN hr1 er1
    have hr2 := car sN hr2 er2
    have hr3 := car sN hr3 er3
    have hP1 := car sN hP1 eP1
    have hl2 := car sN hl2 el2
    replace hp := hpN
    replace sm := sm.trans sN
    clear hpN sN
    obtain ⟨ov, rfl, hov⟩ : ∃ ov : Option Int, o = optB ov ∧ (ov = none ∨ ov = some 7) := by
      simp only [List.mem_cons, List.not_mem_nil, or_false] at ho
      rcases ho with rfl | rfl
      · exact ⟨none, rfl, .inl rfl⟩
      · exact ⟨some 7, rfl, .inr rfl⟩
    clear hl2
    refine ⟨by show 4 ≤ sizeLine; decide, fun r4 nr4 => ?_⟩
    have hr4 : upd Hq16 r4 (.tup [V.str "right", .int 3, .str "s", optB ov]) r4 = some (.tup [V.str "right", .int 3, .str "s", optB ov]) := upd_same
    have er4 := hp.ne nr4
    have hB := same_upd (o := (.tup [V.str "right", .int 3, .str "s", optB ov])) nr4 _ _ hB
    have hr1 := same_upd (o := (.tup [V.str "right", .int 3, .str "s", optB ov])) nr4 _ _ hr1
    have hr2 := same_upd (o := (.tup [V.str "right", .int 3, .str "s", optB ov])) nr4 _ _ hr2
    have hr3 := same_upd (o := (.tup [V.str "right", .int 3, .str "s", optB ov])) nr4 _ _ hr3
    have hP1 := same_upd (o := (.tup [V.str "right", .int 3, .str "s", optB ov])) nr4 _ _ hP1
    have hp := hp.upd (o := (.tup [V.str "right", .int 3, .str "s", optB ov])) er4
    have sm := sm.trans (wo_same_of (same_upd (o := (.tup [V.str "right", .int 3, .str "s", optB ov])) nr4))
    generalize upd Hq16 r4 (.tup [V.str "right", .int 3, .str "s", optB ov]) = Hq17 at hr4 hp sm hB hr1 hr2 hr3 hP1 ⊢
    refine ⟨.ref p, rfl, p, 256, _, rfl, by omega, by omega, hp, by omega, fun a2 Hq18 a20 a21 hpN sN => ?_⟩
    have hB := car sN hB eB
    have hr1 := car sN hr1 er1
    have hr2 := car sN hr2 er2
    have hr3 := car sN hr3 er3
    have hP1 := car sN hP1 eP1
    have hr4 := car sN hr4 er4
    replace hp := hpN
    replace sm := sm.trans sN
    clear hpN sN
    refine ⟨.ref p, rfl, p, 16, _, rfl, by omega, by omega, hp, by omega, fun c2 Hq19 c20 c21 hpN sN => ?_⟩
    have hB := car sN hB eB
    have hr1 := car sN hr1 er1
    have hr2 := car sN hr2 er2
    have hr3 := car sN hr3 er3
    have hP1 := car sN hP1 eP1
    have hr4 := car sN hr4 er4
    replace hp := hpN
    replace sm := sm.trans sN
    clear hpN sN
    refine ⟨_, _, rfl, rfl, ?_⟩
    refine ⟨by show 3 ≤ sizeLine; decide, fun r5 nr5 => ?_⟩
    have hr5 : upd Hq19 r5 (.tup [V.str "buffer", .int a2, .int (1 + c2)]) r5 = some (.tup [V.str "buffer", .int a2, .int (1 + c2)]) := upd_same
    have er5 := hp.ne nr5
    have hB := same_upd (o := (.tup [V.str "buffer", .int a2, .int (1 + c2)])) nr5 _ _ hB
    have hr1 := same_upd (o := (.tup [V.str "buffer", .int a2, .int (1 + c2)])) nr5 _ _ hr1
    have hr2 := same_upd (o := (.tup [V.str "buffer", .int a2, .int (1 + c2)])) nr5 _ _ hr2
    have hr3 := same_upd (o := (.tup [V.str "buffer", .int a2, .int (1 + c2)])) nr5 _ _ hr3
    have hP1 := same_upd (o := (.tup [V.str "buffer", .int a2, .int (1 + c2)])) nr5 _ _ hP1
    have hr4 := same_upd (o := (.tup [V.str "buffer", .int a2, .int (1 + c2)])) nr5 _ _ hr4
    have hp := hp.upd (o := (.tup [V.str "buffer", .int a2, .int (1 + c2)])) er5
    have sm := sm.trans (wo_same_of (same_upd (o := (.tup [V.str "buffer", .int a2, .int (1 + c2)])) nr5))
    generalize upd Hq19 r5 (.tup [V.str "buffer", .int a2, .int (1 + c2)]) = Hq20 at hr5 hp sm hB hr1 hr2 hr3 hP1 hr4 ⊢
    refine ⟨by show 2 ≤ sizeLine; decide, fun P2 nP2 => ?_⟩
    have hP2 : upd Hq20 P2 (.lst [V.ref r4, .ref r5]) P2 = some (.lst [V.ref r4, .ref r5]) := upd_same
    have eP2 := hp.ne nP2
    have hB := same_upd (o := (.lst [V.ref r4, .ref r5])) nP2 _ _ hB
    have hr1 := same_upd (o := (.lst [V.ref r4, .ref r5])) nP2 _ _ hr1
    have hr2 := same_upd (o := (.lst [V.ref r4, .ref r5])) nP2 _ _ hr2
    have hr3 := same_upd (o := (.lst [V.ref r4, .ref r5])) nP2 _ _ hr3
    have hP1 := same_upd (o := (.lst [V.ref r4, .ref r5])) nP2 _ _ hP1
    have hr4 := same_upd (o := (.lst [V.ref r4, .ref r5])) nP2 _ _ hr4
    have hr5 := same_upd (o := (.lst [V.ref r4, .ref r5])) nP2 _ _ hr5
    have hp := hp.upd (o := (.lst [V.ref r4, .ref r5])) eP2
    have sm := sm.trans (wo_same_of (same_upd (o := (.lst [V.ref r4, .ref r5])) nP2))
    generalize upd Hq20 P2 (.lst [V.ref r4, .ref r5]) = Hq21 at hP2 hp sm hB hr1 hr2 hr3 hP1 hr4 hr5 ⊢
    refine ⟨P1, P2, _, _, rfl, rfl, hP1, hP2, by show 3 + 2 ≤ sizeLine; decide, fun P3 nP3 => ?_⟩
    have hP3 : upd Hq21 P3 (.lst ([V.ref r1, .ref r2, .ref r3] ++ [V.ref r4, .ref r5])) P3 = some (.lst ([V.ref r1, .ref r2, .ref r3] ++ [V.ref r4, .ref r5])) := upd_same
    have eP3 := hp.ne nP3
    have hB := same_upd (o := (.lst ([V.ref r1, .ref r2, .ref r3] ++ [V.ref r4, .ref r5]))) nP3 _ _ hB
    have hr1 := same_upd (o := (.lst ([V.ref r1, .ref r2, .ref r3] ++ [V.ref r4, .ref r5]))) nP3 _ _ hr1
    have hr2 := same_upd (o := (.lst ([V.ref r1, .ref r2, .ref r3] ++ [V.ref r4, .ref r5]))) nP3 _ _ hr2
    have hr3 := same_upd (o := (.lst ([V.ref r1, .ref r2, .ref r3] ++ [V.ref r4, .ref r5]))) nP3 _ _ hr3
    have hP1 := same_upd (o := (.lst ([V.ref r1, .ref r2, .ref r3] ++ [V.ref r4, .ref r5]))) nP3 _ _ hP1
    have hr4 := same_upd (o := (.lst ([V.ref r1, .ref r2, .ref r3] ++ [V.ref r4, .ref r5]))) nP3 _ _ hr4
    have hr5 := same_upd (o := (.lst ([V.ref r1, .ref r2, .ref r3] ++ [V.ref r4, .ref r5]))) nP3 _ _ hr5
    have hP2 := same_upd (o := (.lst ([V.ref r1, .ref r2, .ref r3] ++ [V.ref r4, .ref r5]))) nP3 _ _ hP2
    have hp := hp.upd (o := (.lst ([V.ref r1, .ref r2, .ref r3] ++ [V.ref r4, .ref r5]))) eP3
    have sm := sm.trans (wo_same_of (same_upd (o := (.lst ([V.ref r1, .ref r2, .ref r3] ++ [V.ref r4, .ref r5]))) nP3))
    generalize upd Hq21 P3 (.lst ([V.ref r1, .ref r2, .ref r3] ++ [V.ref r4, .ref r5])) = Hq22 at hP3 hp sm hB hr1 hr2 hr3 hP1 hr4 hr5 hP2 ⊢
    clear hP1 hP2
    refine ⟨.ref P3, rfl, ?_⟩
    refine ⟨.ref B, rfl, by show 2 ≤ sizeLine; decide, fun r6 nr6 => ?_⟩
    have hr6 : upd Hq22 r6 (.tup [V.str "window", .ref B]) r6 = some (.tup [V.str "window", .ref B]) := upd_same
    have er6 := hp.ne nr6
    have hB := same_upd (o := (.tup [V.str "window", .ref B])) nr6 _ _ hB
    have hr1 := same_upd (o := (.tup [V.str "window", .ref B])) nr6 _ _ hr1
    have hr2 := same_upd (o := (.tup [V.str "window", .ref B])) nr6 _ _ hr2
    have hr3 := same_upd (o := (.tup [V.str "window", .ref B])) nr6 _ _ hr3
    have hr4 := same_upd (o := (.tup [V.str "window", .ref B])) nr6 _ _ hr4
    have hr5 := same_upd (o := (.tup [V.str "window", .ref B])) nr6 _ _ hr5
    have hP3 := same_upd (o := (.tup [V.str "window", .ref B])) nr6 _ _ hP3
    have hp := hp.upd (o := (.tup [V.str "window", .ref B])) er6
    have sm := sm.trans (wo_same_of (same_upd (o := (.tup [V.str "window", .ref B])) nr6))
    generalize upd Hq22 r6 (.tup [V.str "window", .ref B]) = Hq23 at hr6 hp sm hB hr1 hr2 hr3 hr4 hr5 hP3 ⊢
    refine ⟨.ref p, rfl, p, 16, _, rfl, by omega, by omega, hp, by omega, fun f Hq24 f0 f1 hpN sN => ?_⟩
    have hB := car sN hB eB
    have hr1 := car sN hr1 er1
    have hr2 := car sN hr2 er2
    have hr3 := car sN hr3 er3
    have hr4 := car sN hr4 er4
    have hr5 := car sN hr5 er5
    have hP3 := car sN hP3 eP3
    have hr6 := car sN hr6 er6
    replace hp := hpN
    replace sm := sm.trans sN
    clear hpN sN
    refine ⟨by show 2 ≤ sizeLine; decide, fun r7 nr7 => ?_⟩
    have hr7 : upd Hq24 r7 (.tup [V.str "place", .int f]) r7 = some (.tup [V.str "place", .int f]) := upd_same
    have er7 := hp.ne nr7
    have hB := same_upd (o := (.tup [V.str "place", .int f])) nr7 _ _ hB
    have hr1 := same_upd (o := (.tup [V.str "place", .int f])) nr7 _ _ hr1
    have hr2 := same_upd (o := (.tup [V.str "place", .int f])) nr7 _ _ hr2
    have hr3 := same_upd (o := (.tup [V.str "place", .int f])) nr7 _ _ hr3
    have hr4 := same_upd (o := (.tup [V.str "place", .int f])) nr7 _ _ hr4
    have hr5 := same_upd (o := (.tup [V.str "place", .int f])) nr7 _ _ hr5
    have hP3 := same_upd (o := (.tup [V.str "place", .int f])) nr7 _ _ hP3
    have hr6 := same_upd (o := (.tup [V.str "place", .int f])) nr7 _ _ hr6
    have hp := hp.upd (o := (.tup [V.str "place", .int f])) er7
    have sm := sm.trans (wo_same_of (same_upd (o := (.tup [V.str "place", .int f])) nr7))
    generalize upd Hq24 r7 (.tup [V.str "place", .int f]) = Hq25 at hr7 hp sm hB hr1 hr2 hr3 hr4 hr5 hP3 hr6 ⊢
    refine ⟨by show 2 ≤ sizeLine; decide, fun P4 nP4 => ?_⟩
    have hP4 : upd Hq25 P4 (.lst [V.ref r6, .ref r7]) P4 = some (.lst [V.ref r6, .ref r7]) := upd_same
    have eP4 := hp.ne nP4
    have hB := same_upd (o := (.lst [V.ref r6, .ref r7])) nP4 _ _ hB
    have hr1 := same_upd (o := (.lst [V.ref r6, .ref r7])) nP4 _ _ hr1
    have hr2 := same_upd (o := (.lst [V.ref r6, .ref r7])) nP4 _ _ hr2
    have hr3 := same_upd (o := (.lst [V.ref r6, .ref r7])) nP4 _ _ hr3
    have hr4 := same_upd (o := (.lst [V.ref r6, .ref r7])) nP4 _ _ hr4
    have hr5 := same_upd (o := (.lst [V.ref r6, .ref r7])) nP4 _ _ hr5
    have hP3 := same_upd (o := (.lst [V.ref r6, .ref r7])) nP4 _ _ hP3
    have hr6 := same_upd (o := (.lst [V.ref r6, .ref r7])) nP4 _ _ hr6
    have hr7 := same_upd (o := (.lst [V.ref r6, .ref r7])) nP4 _ _ hr7
    have hp := hp.upd (o := (.lst [V.ref r6, .ref r7])) eP4
    have sm := sm.trans (wo_same_of (same_upd (o := (.lst [V.ref r6, .ref r7])) nP4))
    generalize upd Hq25 P4 (.lst [V.ref r6, .ref r7]) = Hq26 at hP4 hp sm hB hr1 hr2 hr3 hr4 hr5 hP3 hr6 hr7 ⊢
    refine ⟨P3, P4, _, _, rfl, rfl, hP3, hP4, by show 5 + 2 ≤ sizeLine; decide, fun P5 nP5 => ?_⟩
    have hP5 : upd Hq26 P5 (.lst ([V.ref r1, .ref r2, .ref r3] ++ [V.ref r4, .ref r5] ++ [V.ref r6, .ref r7])) P5 = some (.lst ([V.ref r1, .ref r2, .ref r3] ++ [V.ref r4, .ref r5] ++ [V.ref r6, .ref r7])) := upd_same
    have eP5 := hp.ne nP5
    have hB := same_upd (o := (.lst ([V.ref r1, .ref r2, .ref r3] ++ [V.ref r4, .ref r5] ++ [V.ref r6, .ref r7]))) nP5 _ _ hB
    have hr1 := same_upd (o := (.lst ([V.ref r1, .ref r2, .ref r3] ++ [V.ref r4, .ref r5] ++ [V.ref r6, .ref r7]))) nP5 _ _ hr1
    have hr2 := same_upd (o := (.lst ([V.ref r1, .ref r2, .ref r3] ++ [V.ref r4, .ref r5] ++ [V.ref r6, .ref r7]))) nP5 _ _ hr2
    have hr3 := same_upd (o := (.lst ([V.ref r1, .ref r2, .ref r3] ++ [V.ref r4, .ref r5] ++ [V.ref r6, .ref r7]))) nP5 _ _ hr3
    have hr4 := same_upd (o := (.lst ([V.ref r1, .ref r2, .ref r3] ++ [V.ref r4, .ref r5] ++ [V.ref r6, .ref r7]))) nP5 _ _ hr4
    have hr5 := same_upd (o := (.lst ([V.ref r1, .ref r2, .ref r3] ++ [V.ref r4, .ref r5] ++ [V.ref r6, .ref r7]))) nP5 _ _ hr5
    have hP3 := same_upd (o := (.lst ([V.ref r1, .ref r2, .ref r3] ++ [V.ref r4, .ref r5] ++ [V.ref r6, .ref r7]))) nP5 _ _ hP3
    have hr6 := same_upd (o := (.lst ([V.ref r1, .ref r2, .ref r3] ++ [V.ref r4, .ref r5] ++ [V.ref r6, .ref r7]))) nP5 _ _ hr6
    have hr7 := same_upd (o := (.lst ([V.ref r1, .ref r2, .ref r3] ++ [V.ref r4, .ref r5] ++ [V.ref r6, .ref r7]))) nP5 _ _ hr7
    have hP4 := same_upd (o := (.lst ([V.ref r1, .ref r2, .ref r3] ++ [V.ref r4, .ref r5] ++ [V.ref r6, .ref r7]))) nP5 _ _ hP4
    have hp := hp.upd (o := (.lst ([V.ref r1, .ref r2, .ref r3] ++ [V.ref r4, .ref r5] ++ [V.ref r6, .ref r7]))) eP5
    have sm := sm.trans (wo_same_of (same_upd (o := (.lst ([V.ref r1, .ref r2, .ref r3] ++ [V.ref r4, .ref r5] ++ [V.ref r6, .ref r7]))) nP5))
    generalize upd Hq26 P5 (.lst ([V.ref r1, .ref r2, .ref r3] ++ [V.ref r4, .ref r5] ++ [V.ref r6, .ref r7])) = Hq27 at hP5 hp sm hB hr1 hr2 hr3 hr4 hr5 hP3 hr6 hr7 hP4 ⊢
    clear hP3 hP4
    refine ⟨.ref p, rfl, .ref P5, rfl, .ref p, rfl, p, 8, _, rfl, by omega, by omega, hp, by omega, fun d Hq28 d0 d1 hpN sN => ?_⟩
    have hB := car sN hB eB
    have hr1 := car sN hr1 er1
    have hr2 := car sN hr2 er2
    have hr3 := car sN hr3 er3
    have hr4 := car sN hr4 er4
    have hr5 := car sN hr5 er5
    have hr6 := car sN hr6 er6
    have hr7 := car sN hr7 er7
    have hP5 := car sN hP5 eP5
    replace hp := hpN
    replace sm := sm.trans sN
    clear hpN sN
    obtain ⟨m, rfl, m7⟩ : ∃ m : Nat, d = (m : Nat) ∧ m ≤ 7 := ⟨d.toNat, by omega, by omega⟩
    refine ⟨p, P5, _, m, _, rfl, SqL.of (wo_at hP5 eP5), m7, (by show 7 ≤ 1000; decide), hp, by omega, fun Hq29 ql ys hpN sN hq ly _ hpm nq => ?_⟩
    clear hP5
    have hq := wo_le _ _ hq
    have hB := car sN hB eB
    have hr1 := car sN hr1 er1
    have hr2 := car sN hr2 er2
    have hr3 := car sN hr3 er3
    have hr4 := car sN hr4 er4
    have hr5 := car sN hr5 er5
    have hr6 := car sN hr6 er6
    have hr7 := car sN hr7 er7
    replace hp := hpN
    replace sm := sm.trans sN
    clear hpN sN
    obtain ⟨rest, hpm⟩ := hpm
    refine ⟨ql, _, rfl, .inl ⟨SqL.of hq, fun ct nc => ?_⟩⟩
    have sT := same_upd (o := .tup ys) nc
    have hc : upd Hq29 ct (.tup ys) ct = some (.tup ys) := upd_same
    have ec := hp.ne nc
    have nc0 := free_wo sm hp nc
    have hp := hp.upd (o := .tup ys) ec
    have sm := sm.trans (wo_same_of sT)
    have hB := wo_at (sT _ _ hB) eB
    have hr1 := wo_at (sT _ _ hr1) er1
    have hr2 := wo_at (sT _ _ hr2) er2
    have hr3 := wo_at (sT _ _ hr3) er3
    have hr4 := wo_at (sT _ _ hr4) er4
    have hr5 := wo_at (sT _ _ hr5) er5
    have hr6 := wo_at (sT _ _ hr6) er6
    have hr7 := wo_at (sT _ _ hr7) er7
    have hc := wo_at hc ec
    generalize upd Hq29 ct (.tup ys) = G at hB hr1 hr2 hr3 hr4 hr5 hr6 hr7 hc hp sm ⊢
    have IB : SqT K (wo G p) B [.int bx, .int by'] := SqT.of hB
    let ps : List (Addr × Item) := [(r1, .str a (1 + cn)), (r2, .map bx by' "rw" 3), (r3, .grant bx by' "x" 0), (r4, .right 3 "s" ov), (r5, .buf a2 (1 + c2)), (r6, .win bx by'), (r7, .plc f)]
    have hI : ∀ z ∈ ps, IsItem K (wo G p) z.1 z.2 ∧ z.2.dom ∧ z.2.ok = true ∧ okN 2 3272 (dIt z.2) := by
      intro z hz'
      simp only [ps, List.mem_cons, List.not_mem_nil, or_false] at hz'
      rcases hz' with rfl | rfl | rfl | rfl | rfl | rfl | rfl
      · exact ⟨⟨B, SqT.of hr1, trivial⟩, trivial, by simp [Item.ok, isW]; omega, okIt_str (by omega) (by omega) (by omega) (by omega)⟩
      · exact ⟨⟨B, SqT.of hr2, IB⟩, ⟨hd, by decide⟩, by simp [Item.ok, isW, hz, pageL], okIt_map hd (by decide)⟩
      · exact ⟨⟨B, SqT.of hr3, IB⟩, ⟨hd, by decide⟩, by simp [Item.ok, isW, hz, pageL], okIt_grant hd (by decide)⟩
      · exact ⟨⟨B, SqT.of hr4, trivial⟩, by show ("s" : Str) ≠ ""; decide, by rcases hov with rfl | rfl <;> rfl, by rcases hov with rfl | rfl <;> exact okIt_right (by decide)⟩
      · exact ⟨⟨B, SqT.of hr5, trivial⟩, trivial, by simp [Item.ok, isW]; omega, okIt_buf (by omega) (by omega) (by omega) (by omega)⟩
      · exact ⟨⟨B, SqT.of hr6, IB⟩, hd, hz, okIt_win hd⟩
      · exact ⟨⟨B, SqT.of hr7, trivial⟩, trivial, by simp [Item.ok, isW]; omega, okIt_plc (by omega) (by omega)⟩
    have hk : (ps.map fun z => z.2.kind).Nodup := by
      show (["string", "map", "grant", "right", "buffer", "window", "place"] : List Str).Nodup
      decide
    obtain ⟨ps', hpp, e1⟩ := perm_map (f := fun z : Addr × Item => V.ref z.1) hpm ps rfl
    have e2 : ys = (ps'.take ys.length).map fun z => V.ref z.1 := by rw [List.map_take, ← e1, List.take_left']; rfl
    obtain ⟨g1, g2, g4⟩ := chosen (K := K) (G := wo G p) (sel := ps'.take ys.length) (fun z hz' => hI z (hpp.mem_iff.mp (List.mem_of_mem_take hz'))) ((List.take_sublist _ _).map _ |>.nodup ((hpp.map _).nodup_iff.mpr hk))
    refine q G ct _ _ (hp.mono (by omega)) sm ⟨?_, g1, fun it h => (g2 it h).1, ?_, okAll_nodup g4 fun it h => (g2 it h).2.1⟩ (fun it h => (g2 it h).2.2) g4 nc0
    · rw [List.map_map]
      show SqT K (wo G p) ct ((ps'.take ys.length).map fun z => V.ref z.1)
      rw [← e2]
      exact SqT.of hc
    · rw [List.length_map, List.length_take]
      omega
end
end K24

set_option maxRecDepth 100000
set_option maxHeartbeats 8000000
/-! k24: the first row of some kinds. -/
namespace K24
open PySem PySem.Spec PyProof.Rows L2 LamX VG
def isK (zs : List Str) (it : Item) : Bool := decide (it.kind ∈ zs)
def selK (zs : List Str) (rs : List Addr) (its : List Item) : List (Addr × Item) := (rs.zip its).filter fun z => isK zs z.2
section
variable {P : Program} {w : World} {K : PySem.W.Frag} {mg : Str → Option Value} {base : Heap}
theorem sel_none {H : Hp} {zs : List Str} : ∀ {rs : List Addr} {its : List Item}, AreItems K H rs its → selK zs rs its = [] → its.find? (isK zs) = none
  | [], [], _, _ => rfl
  | r :: rs, it :: its, h, e => by
    unfold selK at e
    rw [List.zip_cons_cons, List.filter_cons] at e
    by_cases c : isK zs it = true
    · rw [if_pos c] at e; cases e
    · rw [if_neg c] at e
      rw [List.find?_cons, (by simpa using c : isK zs it = false)]
      exact sel_none h.2 e
  | [], _ :: _, h, _ => h.elim
  | _ :: _, [], h, _ => h.elim
theorem sel_some {H : Hp} {zs : List Str} {z : Addr × Item} {l : List (Addr × Item)} : ∀ {rs : List Addr} {its : List Item}, AreItems K H rs its → selK zs rs its = z :: l → its.find? (isK zs) = some z.2
  | [], [], _, e => by cases e
  | r :: rs, it :: its, h, e => by
    unfold selK at e
    rw [List.zip_cons_cons, List.filter_cons] at e
    by_cases c : isK zs it = true
    · rw [if_pos c] at e
      cases e
      rw [List.find?_cons, c]
    · rw [if_neg c] at e
      rw [List.find?_cons, (by simpa using c : isK zs it = false)]
      exact sel_some h.2 e
  | [], _ :: _, h, _ => h.elim
  | _ :: _, [], h, _ => h.elim
theorem zip_at {H : Hp} : ∀ {rs : List Addr} {its : List Item}, AreItems K H rs its → ∀ z ∈ rs.zip its, IsItem K H z.1 z.2 ∧ z.2 ∈ its
  | [], [], _, z, hz => by cases hz
  | r :: rs, it :: its, h, z, hz => by
    rw [List.zip_cons_cons] at hz
    rcases List.mem_cons.mp hz with rfl | hz
    · exact ⟨h.1, List.mem_cons_self⟩
    · obtain ⟨a, b⟩ := zip_at h.2 z hz
      exact ⟨a, List.mem_cons_of_mem _ b⟩
  | [], _ :: _, h, _, _ => h.elim
  | _ :: _, [], h, _, _ => h.elim
theorem pairs_dp {H : Hp} : ∀ {l : List (Addr × Item)}, (∀ z ∈ l, IsItem K H z.1 z.2) → DpAll K H (l.map fun z => V.ref z.1) (l.map fun z => dIt z.2)
  | [], _ => .nil
  | z :: l, h => .cons (h z List.mem_cons_self).dp (pairs_dp fun y hy => h y (List.mem_cons_of_mem _ hy))
theorem shaped_lst {ds : List PyData} (h : ∀ d ∈ ds, okN 2 3272 d) : SeqAt.shaped (.list ds) = true := by
  obtain ⟨i1, i2, i3, i4, i5⟩ := okN.all h
  unfold SeqAt.shaped
  rw [Bool.and_eq_true, decide_eq_true_eq]
  exact ⟨by simpa [PyData.canLay0] using i5, by simp only [PyData.depth]; omega⟩
def spFirstOf (K : PySem.W.Frag) : Sp := fun vs H Q _ => ∃ (c kl : Addr) (zs : List Str) (rs : List Addr) (its : List Item), vs = [.ref c, .ref kl] ∧ SqT K H c (rs.map V.ref) ∧ AreItems K H rs its ∧ rs.length ≤ 20 ∧ (∀ it ∈ its, okN 2 3272 (dIt it)) ∧ H kl = some (.lst (zs.map V.str)) ∧
  (∀ H', Same H H' → its.find? (isK zs) = none → Q .non H') ∧ ∀ H' r it, Same H H' → its.find? (isK zs) = some it → IsItem K H' r it → Q (.ref r) H'
theorem ok_FirstOf {k : Nat} {f : Addr} {fd : FuncData}  (F : Fun K "_law_first_of" "_law_first_of" sFirstOf f fd)    : FnOk P w K mg base CX0 (k + 1) f fd ["items", "kinds"] (spFirstOf K) := by
  refine F.ok scFirstOf (fun vs H Q E h => ?_) (fun cdv A outer s H vs Q E hr h => ?_)
  · obtain ⟨c, kl, zs, rs, its, rfl, _⟩ := h
    rfl
  · obtain ⟨c, kl, zs, rs, its, rfl, hc, hs, hl, ok, hk, qn, qs⟩ := h
    refine ⟨_, (pss_cons (ps_setLc (i := 2) (own := [("item", 3)]) (g := (gName 3)) (tt := _) rfl scFirstOf.nd rfl rfl (by rfl) (pi_tup (pv 0)) (blkOk_by (N := ["items", "kinds", "some", "item"]) (sc := defScope sFirstOf) (by decide +kernel)) (fun _ _ _ _ _ => (pg_name (i := 3) scFirstOf.nd rfl (.inl rfl))) (fun _ _ _ _ _ => (pts_one (pt_cmpR (show OpR _ (compareOp .In) (rIn K false) from op_in_seq) (pe_ix (show IxR _ (rIxT K) from ix_tup) (pv 3) pe_int (fun _ _ => rfl)) (pv 1) (by rfl)))) (fun _ _ _ _ _ => (pv 3))) (pss_one (ps_ret (pe_ifExp (pt_cmpR (op_neD hr.units) (pv 2) (pe_lst pa_nil) (nomark _)) (pe_ix ix_list (pv 2) pe_int (fun _ _ => rfl)) pe_non)))), ?_⟩
    have ll := hs.len
    refine ⟨.ref c, rfl, c, rfl, ⟨_, hc⟩, fun D nD => ?_⟩
    have s1 := same_upd (o := .lst []) nD
    refine lc_tup (xs := rs.map V.ref) (fun i H' => Same H H' ∧ H' D = some (.lst ((((rs.zip its).take i).filter fun z => isK zs z.2).map fun z => V.ref z.1))) ⟨s1, upd_same⟩ (fun i H' _ hP => Same.seqT hP.1 hc) (fun i x H' hx hP => ?_) fun H' hP => ?_
    · obtain ⟨sm, hD⟩ := hP
      obtain ⟨r', hr', rfl⟩ : ∃ r', rs[i]? = some r' ∧ V.ref r' = x := by
        rw [List.getElem?_map] at hx
        cases e : rs[i]? with
        | none => rw [e] at hx; cases hx
        | some r' => rw [e] at hx; exact ⟨r', rfl, Option.some.inj hx⟩
      obtain ⟨it', e', hit'⟩ := hs.nth i r' hr'
      obtain ⟨b', h1', _⟩ := hit'
      have hi := (List.getElem?_eq_some_iff.mp e').1
      have h1 := Same.seqT sm h1'
      have ez : (rs.zip its)[i]? = some (r', it') := List.getElem?_zip_eq_some.mpr ⟨hr', e'⟩
      refine ⟨rfl, .ref r', rfl, r', _, 0, _, rfl, rfl, h1, at0, .ref kl, rfl, kl, _, rfl, .inl (SqL.of (sm _ _ hk)), rfl, VG.flat_strs _, _, rfl, ?_⟩
      rw [VG.inV_strs, List.take_add_one, ez, List.filter_append, List.map_append]
      show if isK zs it' = true then _ else _
      cases ek : isK zs it' with
      | true =>
        refine iteT ⟨_, rfl, _, hD, small1000 ?_, Same.updNew sm nD, ?_⟩
        · rw [List.length_map]
          have := List.length_filter_le (fun z : Addr × Item => isK zs z.2) ((rs.zip its).take i)
          rw [List.length_take] at this
          omega
        · rw [upd_same]
          have : (List.filter (fun z : Addr × Item => isK zs z.2) (some (r', it')).toList) = [(r', it')] := by simp [ek]
          rw [this]
          rfl
      | false =>
        refine iteF ⟨sm, ?_⟩
        have : (List.filter (fun z : Addr × Item => isK zs z.2) (some (r', it')).toList) = [] := by simp [ek]
        rw [this, List.map_nil, List.append_nil]
        exact hD
    · obtain ⟨sm, hD⟩ := hP
      have et : ((rs.zip its).take (rs.map V.ref).length).filter (fun z => isK zs z.2) = selK zs rs its := by
        unfold selK
        rw [List.take_of_length_le (by rw [List.length_zip, List.length_map]; omega)]
      rw [et] at hD
      have hin : ∀ z ∈ selK zs rs its, IsItem K H z.1 z.2 ∧ z.2 ∈ its := fun z hz => zip_at hs z ((List.mem_filter.mp hz).1)
      refine ⟨.ref D, rfl, by show 0 ≤ sizeLine; decide, fun e ne => ?_⟩
      have se := same_upd (o := .lst []) ne
      have sme := sm.trans se
      have hDe := se _ _ hD
      refine ⟨.list ((selK zs rs its).map fun z : Addr × Item => dIt z.2), .list [], .lst (SqL.of hDe) (pairs_dp fun z hz => (hin z hz).1.same sme), .lst (SqL.of upd_same) .nil, shaped_lst (fun d hd => ?_), rfl, _, rfl, ?_⟩
      · obtain ⟨z, hz, rfl⟩ := List.mem_map.mp hd
        exact ok _ (hin z hz).2
      · cases e2 : selK zs rs its with
        | nil =>
          refine iteF (qn _ sme (sel_none hs e2))
        | cons z l =>
          rw [e2] at hDe hin
          refine iteT ⟨.ref D, rfl, D, _, 0, _, rfl, rfl, SqL.of hDe, at0, qs _ z.1 z.2 sme (sel_some hs e2) ((hin z List.mem_cons_self).1.same sme)⟩
end
end K24

set_option maxRecDepth 100000
set_option maxHeartbeats 16000000
/-! k24: what copying refuses. -/
namespace K24
open PySem PySem.Spec PyProof.Rows L2 LamX VG
theorem scCopiesRefused : FnScope ["pot", "good", "most", "bad", "off", "some", "calls", "call", "word", "value", "caught", "kinds"] ["pot"] (defScope sCopiesRefused) := ⟨rfl, rfl, rfl, by decide +kernel, rfl, by decide +kernel, by decide +kernel⟩
def lamsE : Expr → List LamD
  | .Lambda p b s _ => [⟨p, b, s⟩]
  | .Subscript o _ _ => lamsE o
  | .Call _ [e] _ _ => lamsE e
  | .List [e] _ => lamsE e
  | .Tuple (e :: _) _ _ => lamsE e
  | _ => []
def lamsS : Stmt → List LamD
  | .Assign _ v _ => lamsE v
  | .Expr v _ => lamsE v
  | _ => []
def bodyOf : Stmt → List Stmt
  | .For _ _ b _ _ => b
  | _ => []
/-- the lambdas of the def, as they stand -/
def lamCopiesRefused (i : Nat) : LamD := (((defBody sCopiesRefused).map lamsS).flatten).getD i ⟨⟨[], [], none, [], [], none, []⟩, .Constant .none 0 ⟨0, 0, 0, 0⟩, defScope sCopiesRefused⟩
theorem lamCopiesRefused_sc (i : Nat) (h : i < 5) : LamS (defScope sCopiesRefused) (lamCopiesRefused i).scope := by
  match i, h with
  | 0, _ => exact lamS_by (by decide +kernel)
  | 1, _ => exact lamS_by (by decide +kernel)
  | 2, _ => exact lamS_by (by decide +kernel)
  | 3, _ => exact lamS_by (by decide +kernel)
  | 4, _ => exact lamS_by (by decide +kernel)
abbrev zer (n : Nat) : OL := List.replicate n (some 0)
theorem flat_zer (n : Nat) : (List.replicate n [V.int 0]).flatten = (zer n).map optB := by
  rw [List.map_replicate]
  show (List.replicate n [V.int 0]).flatten = List.replicate n (V.int 0)
  simp
theorem zer_eq256 : (List.replicate (256 : Int).toNat [V.int 0]).flatten = (zer 256).map optB := flat_zer 256
theorem zer_eq255 : (List.replicate (255 : Int).toNat [V.int 0]).flatten = (zer 255).map optB := flat_zer 255
theorem zer_ok : okL (zer 256) := okL.rep fun i e => by cases e; exact ⟨by decide, by decide⟩
theorem okN_zer (n : Nat) : ∀ d ∈ (zer n).map dO, okN 0 50 d := fun d hd => by
  obtain ⟨o, ho, rfl⟩ := List.mem_map.mp hd
  rw [List.eq_of_mem_replicate ho]
  exact okN.int (by decide) (by decide)
theorem okN_app {ds : List PyData} {d : PyData} (h : ∀ d ∈ ds, okN 0 50 d) (h2 : okN 0 50 d) : ∀ e ∈ ds ++ [d], okN 0 50 e := fun e he => by
  rcases List.mem_append.mp he with he | he
  · exact h e he
  · rw [List.mem_singleton.mp he]; exact h2
theorem okT {ds : List PyData} (h : ∀ d ∈ ds, okN 0 50 d) (hl : ds.length ≤ 257) : okData (.tuple ds) = true := (okN.tupN (n := 257) h hl).ok (by decide) (by decide)
theorem okTl {ds : List PyData} (h : ∀ d ∈ ds, okN 0 50 d) (hl : ds.length ≤ 257) : okData (.list ds) = true := by
  obtain ⟨i1, i2, i3, i4, i5⟩ := okN.all h
  have : (50 + 1) * ds.length ≤ (50 + 1) * 257 := Nat.mul_le_mul_left _ hl
  refine okN.ok (k := 1) (m := 13107) ⟨by simpa [PyData.leavesShort] using i1, by simp only [PyData.weight]; omega, by simpa [PyData.showable] using i3, by simp only [PyData.depth]; omega, by simpa [PyData.canLay0] using i5⟩ (by decide) (by decide)
theorem dpAll_app {K : PySem.W.Frag} {H : Hp} : ∀ {xs ys : List V} {ds es : List PyData}, DpAll K H xs ds → DpAll K H ys es → DpAll K H (xs ++ ys) (ds ++ es)
  | [], _, _, _, h, h2 => by cases h; exact h2
  | _ :: _, _, _, _, h, h2 => by
    cases h with
    | cons a b => exact .cons a (dpAll_app b h2)
theorem keepT {H : Hp} {a l : Addr} {xs ys : List V} {o : HO} (h : H a = some (.tup xs)) (hl : H l = some (.lst ys)) : upd H l o a = some (.tup xs) := by
  rw [upd_ne (fun z => by rw [z, hl] at h; cases h)]
  exact h
theorem merged2 {b0 b1 : V} : mergeK [] [((.inr "memory" : Key), b0), (.inr "address", b1)] = [(.inr "memory", b0), (.inr "address", b1)] := rfl
theorem put3 {b0 b1 b2 : V} : putK [((.inr "memory" : Key), b0), (.inr "address", b1)] (.inr "many") b2 = [(.inr "memory", b0), (.inr "address", b1), (.inr "many", b2)] := rfl
def wordK : Fin 3 → Str
  | 0 => "memory" | 1 => "address" | 2 => "many"
theorem val3 (kc : Fin 3) : some (V.bl true) = valV [((.inr "memory" : Key), .bl (decide (kc = 0))), (.inr "address", .bl (decide (kc = 1))), (.inr "many", .bl (decide (kc = 2)))] (.inr (wordK kc)) := match kc with | 0 => rfl | 1 => rfl | 2 => rfl
/-- what the lambda at j reads -/
def lookN (K : PySem.W.Frag) (C1 C2 C4 : Addr) (j : Fin 5) (E : XK) : TE := match j with
  | 0 => tCall (spCopied K C1 C2 C4) [] E (tCons (tVar 3) (tCons (tC .non) (tCons (tVar 4) (tCons (tVar 4) (tCons (tVar 5) tNil)))))
  | 1 => tCall (spCopied K C1 C2 C4) [] E (tCons (tVar 1) (tCons (tVar 3) (tCons (tVar 4) (tCons (tVar 4) (tCons (tVar 5) tNil)))))
  | 2 => tCall (spCopied K C1 C2 C4) [] E (tCons (tVar 1) (tCons (tVar 1) (tCons (tVar 4) (tCons (tC .non) (tCons (tVar 5) tNil)))))
  | 3 => tCall (spCopied K C1 C2 C4) [] E (tCons (tVar 1) (tCons (tVar 1) (tCons (tC (.int 0)) (tCons (tVar 4) (tCons (tVar 5) tNil)))))
  | 4 => tCall (spCopied K C1 C2 C4) [] E (tCons (tVar 1) (tCons (tVar 1) (tCons (tC (.int 0)) (tCons (tC (.int 255)) (tCons (tVar 5) tNil)))))
theorem lookN_to {K : PySem.W.Frag} {C1 C2 C4 : Addr} {j : Fin 5} {E : XK} {σ : L2.St} {H : Hp} {Q : VK} (h : lookN K C1 C2 C4 j E σ H Q) : (match j with
  | 0 => tCall (spCopied K C1 C2 C4) [] E (tCons (tVar 3) (tCons (tC .non) (tCons (tVar 4) (tCons (tVar 4) (tCons (tVar 5) tNil)))))
  | 1 => tCall (spCopied K C1 C2 C4) [] E (tCons (tVar 1) (tCons (tVar 3) (tCons (tVar 4) (tCons (tVar 4) (tCons (tVar 5) tNil)))))
  | 2 => tCall (spCopied K C1 C2 C4) [] E (tCons (tVar 1) (tCons (tVar 1) (tCons (tVar 4) (tCons (tC .non) (tCons (tVar 5) tNil)))))
  | 3 => tCall (spCopied K C1 C2 C4) [] E (tCons (tVar 1) (tCons (tVar 1) (tCons (tC (.int 0)) (tCons (tVar 4) (tCons (tVar 5) tNil)))))
  | 4 => tCall (spCopied K C1 C2 C4) [] E (tCons (tVar 1) (tCons (tVar 1) (tCons (tC (.int 0)) (tCons (tC (.int 255)) (tCons (tVar 5) tNil)))))) σ H Q := by
  match j with
  | 0 => exact h
  | 1 => exact h
  | 2 => exact h
  | 3 => exact h
  | 4 => exact h
section
variable {P : Program} {w : World} {K : PySem.W.Frag} {mg : Str → Option Value} {base : Heap}
def Kit3 (K : PySem.W.Frag) (C1 C2 C4 : Addr) : Prop := ∀ i j : Fin 3, PySem.W.kitOne K (.ref ([C1, C2, C4].getD i.val 0)) (.ref ([C1, C2, C4].getD j.val 0)) = some (decide (i = j))
structure Err1 (K : PySem.W.Frag) (CS C : Addr) : Prop where
  i : IsC K C
  n : PySem.W.findIn K (.ref C) "value" = some none
  x : PySem.W.exmOne K (.ref C) (.ref CS) = some true
def spCopiesRefused (K : PySem.W.Frag) (T : List (Addr × Str)) : Sp := fun vs H Q _ => ∃ (p : Addr) (n : Nat), vs = [.ref p] ∧ Pot H p n ∧ n + 3000 < 1000000 ∧ Tabs T H ∧ ∀ H', Pot H' p (n + 100) → ExtP p H H' → Tabs T H' → Q (.bl true) H'
theorem ok_CopiesRefused {k : Nat} {f : Addr} {fd : FuncData} {C1 C2 C4 CS g cc Pt:Addr} {gd:FuncData} {T:List (Addr × Str)} (F : Fun K "_law_are_copies_refused" "_law_are_copies_refused" sCopiesRefused f fd) (hcc : fd.code = .ref cc) (TB : TabB base mg cc Pt) (Tm : (Pt, Str.ofString "_law_are_copies_refused.<locals>." ++ "<lambda>") ∈ T) (T1 : ∀ p ∈ T, p.1 = Pt → p.2 = Str.ofString "_law_are_copies_refused.<locals>." ++ "<lambda>") (FH : Fun K "_law_heard" "_law_heard" sHeard g gd) (bH : L2.Binds K gd ["call"] []) (gH : mg "_law_heard" = some (.ref g)) (gS : mg "CoreError" = some (.ref CS)) (gCo : Cal P w K mg base (L2.CX P w) (k + 4) "copied" ["source", "target", "start", "goal", "many"] (spCopied K C1 C2 C4)) (gOf : Cal P w K mg base CX0 (k + 6) "_law_of" ["pot", "some"] (spOf K)) (gBadMemory : mg "BadMemory" = some (.ref C1)) (gBadAddress : mg "BadAddress" = some (.ref C2)) (gBadMany : mg "BadMany" = some (.ref C4)) (X1 : Err1 K CS C1) (X2 : Err1 K CS C2) (X4 : Err1 K CS C4) (kk : Kit3 K C1 C2 C4) (fisinstance : mg "isinstance" = none) (frepr : mg "repr" = none) : FnG P w K mg base (k + 7) f fd ["pot"] (spCopiesRefused K T) := by
  obtain ⟨fCo, fdCo, GCo, kCo, bCo, mCo⟩ := gCo
  obtain ⟨fOf, fdOf, GOf, kOf, bOf, mOf⟩ := gOf
  refine fnG_code F hcc scCopiesRefused (fun vs H Q E h => ?_) (fun A outer s H vs Q hr gd h => ?_)
  · obtain ⟨p, n, rfl, _⟩ := h
    rfl
  · have M : LamM (cxOf CX0 P w K mg base ["pot", "good", "most", "bad", "off", "some", "calls", "call", "word", "value", "caught", "kinds"] "_law_are_copies_refused" (defScope sCopiesRefused) f (.ref cc) A outer s H E0).nox T cc Pt := ⟨TB, rfl, Tm, T1⟩
    obtain ⟨p, n, rfl, hp, hn, hT, q⟩ := h
    refine ⟨_, (pss_cons (ps_asg (pe_tup (pa_cons (pe_op op_repT (pe_tup (pa_cons pe_int pa_nil)) pe_int) (pa_cons (pe_op op_repT (pe_tup (pa_cons pe_int pa_nil)) pe_int) pa_nil))) (pg_tup (by rfl) (pgs_cons (pg_name (i := 1) scCopiesRefused.nd rfl (.inr rfl)) (pgs_cons (pg_name (i := 2) scCopiesRefused.nd rfl (.inl rfl)) pgs_nil)))) (pss_cons (ps_set (i := 3) scCopiesRefused.nd rfl (.inr rfl) (pe_call GOf hr (by rfl) mOf kOf bOf .nil pass0 (pa_cons (pv 0) (pa_cons (pe_lst (pa_cons (pv 2) (pa_cons (pe_op op_rep (pe_lst (pa_cons pe_int pa_nil)) pe_int) (pa_cons pe_non (pa_cons (pe_op op_catA (pv 2) (pe_tup (pa_cons pe_int pa_nil))) (pa_cons (pe_op op_catA (pv 2) (pe_tup (pa_cons pe_bl pa_nil))) (pa_cons pe_int pa_nil))))))) pa_nil)))) (pss_cons (ps_asg (pe_tup (pa_cons (pe_call GOf hr (by rfl) mOf kOf bOf .nil pass0 (pa_cons (pv 0) (pa_cons (pe_lst (pa_cons pe_int (pa_cons (pe_un un_neg pe_int) (pa_cons pe_bl (pa_cons pe_non (pa_cons pe_str pa_nil)))))) pa_nil))) (pa_cons (pe_call GOf hr (by rfl) mOf kOf bOf .nil pass0 (pa_cons (pv 0) (pa_cons (pe_lst (pa_cons pe_int (pa_cons pe_int (pa_cons pe_bl (pa_cons pe_non (pa_cons pe_str pa_nil)))))) pa_nil))) pa_nil))) (pg_tup (by rfl) (pgs_cons (pg_name (i := 4) scCopiesRefused.nd rfl (.inr rfl)) (pgs_cons (pg_name (i := 5) scCopiesRefused.nd rfl (.inr rfl)) pgs_nil)))) (pss_cons (ps_set (i := 6) scCopiesRefused.nd rfl (.inl rfl) (pe_lst (pa_cons (pe_tup (pa_cons (pe_lam M (lamCopiesRefused_sc 0 (by omega)) (by rfl)) (pa_cons pe_str (pa_cons (pv 3) pa_nil)))) pa_nil))) (pss_cons (ps_expr (pe_bm PySem.F.plainAttrs_list PySem.F.slot_list_append PySem.F.type_list_append mt_append (pv 6) (pa_cons (pe_tup (pa_cons (pe_lam M (lamCopiesRefused_sc 1 (by omega)) (by rfl)) (pa_cons pe_str (pa_cons (pv 3) pa_nil)))) pa_nil))) (pss_cons (ps_expr (pe_bm PySem.F.plainAttrs_list PySem.F.slot_list_append PySem.F.type_list_append mt_append (pv 6) (pa_cons (pe_tup (pa_cons (pe_lam M (lamCopiesRefused_sc 2 (by omega)) (by rfl)) (pa_cons pe_str (pa_cons (pv 4) pa_nil)))) pa_nil))) (pss_cons (ps_expr (pe_bm PySem.F.plainAttrs_list PySem.F.slot_list_append PySem.F.type_list_append mt_append (pv 6) (pa_cons (pe_tup (pa_cons (pe_lam M (lamCopiesRefused_sc 3 (by omega)) (by rfl)) (pa_cons pe_str (pa_cons (pv 4) pa_nil)))) pa_nil))) (pss_cons (ps_expr (pe_bm PySem.F.plainAttrs_list PySem.F.slot_list_append PySem.F.type_list_append mt_append (pv 6) (pa_cons (pe_tup (pa_cons (pe_lam M (lamCopiesRefused_sc 4 (by omega)) (by rfl)) (pa_cons pe_str (pa_cons (pv 5) pa_nil)))) pa_nil))) (pss_cons (ps_for PassesOwn.never rfl (pi_list (pv 6)) (pg_tup (by rfl) (pgs_cons (pg_name (i := 7) scCopiesRefused.nd rfl (.inl rfl)) (pgs_cons (pg_name (i := 8) scCopiesRefused.nd rfl (.inl rfl)) (pgs_cons (pg_name (i := 9) scCopiesRefused.nd rfl (.inl rfl)) pgs_nil)))) (pss_cons (ps_set (i := 10) scCopiesRefused.nd rfl (.inl rfl) (pe_ix ix_tup (pe_heard (ι := Fin 5) (D := fun j => lamCopiesRefused j.val) (tb := fun j E => match j with | 0 => tCall (spCopied K C1 C2 C4) [] E (tCons (tVar 3) (tCons (tC .non) (tCons (tVar 4) (tCons (tVar 4) (tCons (tVar 5) tNil))))) | 1 => tCall (spCopied K C1 C2 C4) [] E (tCons (tVar 1) (tCons (tVar 3) (tCons (tVar 4) (tCons (tVar 4) (tCons (tVar 5) tNil))))) | 2 => tCall (spCopied K C1 C2 C4) [] E (tCons (tVar 1) (tCons (tVar 1) (tCons (tVar 4) (tCons (tC .non) (tCons (tVar 5) tNil))))) | 3 => tCall (spCopied K C1 C2 C4) [] E (tCons (tVar 1) (tCons (tVar 1) (tCons (tC (.int 0)) (tCons (tVar 4) (tCons (tVar 5) tNil))))) | 4 => tCall (spCopied K C1 C2 C4) [] E (tCons (tVar 1) (tCons (tVar 1) (tCons (tC (.int 0)) (tCons (tC (.int 255)) (tCons (tVar 5) tNil)))))) (k := (k+4)) FH bH (by rfl) gH gS hr (pv 7) (fun j => lamCopiesRefused_sc j.val j.isLt) (fun j _ _ _ => match j with | 0 => by rfl | 1 => by rfl | 2 => by rfl | 3 => by rfl | 4 => by rfl) (fun j A' outer' s' H' E' f' c' hr' => match j with | 0 => pe_call (X := lamCx _ A' outer' s' H' E' (lamCopiesRefused 0).scope f' c') GCo hr' (by rfl) mCo kCo bCo .nil passL (pa_cons (pv 3) (pa_cons pe_non (pa_cons (pv 4) (pa_cons (pv 4) (pa_cons (pv 5) pa_nil))))) | 1 => pe_call (X := lamCx _ A' outer' s' H' E' (lamCopiesRefused 1).scope f' c') GCo hr' (by rfl) mCo kCo bCo .nil passL (pa_cons (pv 1) (pa_cons (pv 3) (pa_cons (pv 4) (pa_cons (pv 4) (pa_cons (pv 5) pa_nil))))) | 2 => pe_call (X := lamCx _ A' outer' s' H' E' (lamCopiesRefused 2).scope f' c') GCo hr' (by rfl) mCo kCo bCo .nil passL (pa_cons (pv 1) (pa_cons (pv 1) (pa_cons (pv 4) (pa_cons pe_non (pa_cons (pv 5) pa_nil))))) | 3 => pe_call (X := lamCx _ A' outer' s' H' E' (lamCopiesRefused 3).scope f' c') GCo hr' (by rfl) mCo kCo bCo .nil passL (pa_cons (pv 1) (pa_cons (pv 1) (pa_cons pe_int (pa_cons (pv 4) (pa_cons (pv 5) pa_nil))))) | 4 => pe_call (X := lamCx _ A' outer' s' H' E' (lamCopiesRefused 4).scope f' c') GCo hr' (by rfl) mCo kCo bCo .nil passL (pa_cons (pv 1) (pa_cons (pv 1) (pa_cons pe_int (pa_cons pe_int (pa_cons (pv 5) pa_nil))))))) pe_int (fun _ _ => rfl))) (pss_cons (ps_set (i := 11) scCopiesRefused.nd rfl (.inl rfl) (pe_disp (pps_cons pe_str (pe_callB call_isErrB (by rfl) fisinstance (by decide +kernel) (pa_cons (pv 10) (pa_cons (pgr (by rfl) gBadMemory) pa_nil))) (pps_cons pe_str (pe_callB call_isErrB (by rfl) fisinstance (by decide +kernel) (pa_cons (pv 10) (pa_cons (pgr (by rfl) gBadAddress) pa_nil))) pps_nil)) (by rfl) (by rfl) (fun z => by cases z) (by decide))) (pss_cons (ps_dput (hu_of hr) (pv 11) pe_str (pe_callB call_isErrB (by rfl) fisinstance (by decide +kernel) (pa_cons (pv 10) (pa_cons (pgr (by rfl) gBadMany) pa_nil))) rfl) (pss_one (ps_if (PW.pt (pw_or (pt_not (pt_val (pe_dget (hu_of hr) (pv 11) (pv 8) (fun _ _ => rfl)))) (pw_or1 (pt_cmpR op_ne (pe_callB (call_repr gd hr.units) (by rfl) frepr (by decide +kernel) (pa_cons (pe_errF (pv 10)) pa_nil)) (pe_callB (call_repr gd hr.units) (by rfl) frepr (by decide +kernel) (pa_cons (pv 9) pa_nil)) (nomark _))))) (pss_one (ps_ret pe_bl)) pss_nil)))))) (pss_one (ps_ret pe_bl))))))))))), ?_⟩
    have hp0 := hp
    have hT0 := hT
    have sm : Same (wo H p) (wo H p) := Same.refl _
    refine ⟨by show 1 ≤ sizeLine; decide, fun t1 nt1 => ?_⟩
    have ht1 : upd H t1 (.tup [V.int 0]) t1 = some (.tup [V.int 0]) := upd_same
    have et1 := hp.ne nt1
    have hp := hp.upd (o := (.tup [V.int 0])) et1
    have sm := sm.trans (wo_same_of (same_upd (o := (.tup [V.int 0])) nt1))
    generalize upd H t1 (.tup [V.int 0]) = Hq1 at ht1 hp sm ⊢
    refine ⟨t1, 256, _, rfl, rfl, SqT.of ht1, by simp, by decide, by decide, (by show 1 ≤ 1000; decide), fun G nG => ?_⟩
    rw [zer_eq256]
    have hG : upd Hq1 G (.tup ((zer 256).map optB)) G = some (.tup ((zer 256).map optB)) := upd_same
    have eG := hp.ne nG
    have ht1 := same_upd (o := (.tup ((zer 256).map optB))) nG _ _ ht1
    have hp := hp.upd (o := (.tup ((zer 256).map optB))) eG
    have sm := sm.trans (wo_same_of (same_upd (o := (.tup ((zer 256).map optB))) nG))
    generalize upd Hq1 G (.tup ((zer 256).map optB)) = Hq2 at hG hp sm ht1 ⊢
    refine ⟨by show 1 ≤ sizeLine; decide, fun t2 nt2 => ?_⟩
    have ht2 : upd Hq2 t2 (.tup [V.int 0]) t2 = some (.tup [V.int 0]) := upd_same
    have et2 := hp.ne nt2
    have ht1 := same_upd (o := (.tup [V.int 0])) nt2 _ _ ht1
    have hG := same_upd (o := (.tup [V.int 0])) nt2 _ _ hG
    have hp := hp.upd (o := (.tup [V.int 0])) et2
    have sm := sm.trans (wo_same_of (same_upd (o := (.tup [V.int 0])) nt2))
    generalize upd Hq2 t2 (.tup [V.int 0]) = Hq3 at ht2 hp sm ht1 hG ⊢
    refine ⟨t2, 255, _, rfl, rfl, SqT.of ht2, by simp, by decide, by decide, (by show 1 ≤ 1000; decide), fun M nM => ?_⟩
    rw [zer_eq255]
    have hM : upd Hq3 M (.tup ((zer 255).map optB)) M = some (.tup ((zer 255).map optB)) := upd_same
    have eM := hp.ne nM
    have ht1 := same_upd (o := (.tup ((zer 255).map optB))) nM _ _ ht1
    have hG := same_upd (o := (.tup ((zer 255).map optB))) nM _ _ hG
    have ht2 := same_upd (o := (.tup ((zer 255).map optB))) nM _ _ ht2
    have hp := hp.upd (o := (.tup ((zer 255).map optB))) eM
    have sm := sm.trans (wo_same_of (same_upd (o := (.tup ((zer 255).map optB))) nM))
    generalize upd Hq3 M (.tup ((zer 255).map optB)) = Hq4 at hM hp sm ht1 hG ht2 ⊢
    refine ⟨by show 2 ≤ sizeLine; decide, fun Pr nPr => ?_⟩
    have hPr : upd Hq4 Pr (.tup [V.ref G, .ref M]) Pr = some (.tup [V.ref G, .ref M]) := upd_same
    have ePr := hp.ne nPr
    have ht1 := same_upd (o := (.tup [V.ref G, .ref M])) nPr _ _ ht1
    have hG := same_upd (o := (.tup [V.ref G, .ref M])) nPr _ _ hG
    have ht2 := same_upd (o := (.tup [V.ref G, .ref M])) nPr _ _ ht2
    have hM := same_upd (o := (.tup [V.ref G, .ref M])) nPr _ _ hM
    have hp := hp.upd (o := (.tup [V.ref G, .ref M])) ePr
    have sm := sm.trans (wo_same_of (same_upd (o := (.tup [V.ref G, .ref M])) nPr))
    generalize upd Hq4 Pr (.tup [V.ref G, .ref M]) = Hq5 at hPr hp sm ht1 hG ht2 hM ⊢
    refine ⟨Pr, [.ref G, .ref M], rfl, SqT.of hPr, rfl, .ref G, [.ref M], rfl, .ref M, [], rfl, rfl, ?_⟩
    clear ht1 ht2 hPr
    refine ⟨.ref p, rfl, .ref M, rfl, ?_⟩
    refine ⟨by show 1 ≤ sizeLine; decide, fun l1 nl1 => ?_⟩
    have hl1 : upd Hq5 l1 (.lst [V.int 0]) l1 = some (.lst [V.int 0]) := upd_same
    have el1 := hp.ne nl1
    have hG := same_upd (o := (.lst [V.int 0])) nl1 _ _ hG
    have hM := same_upd (o := (.lst [V.int 0])) nl1 _ _ hM
    have hp := hp.upd (o := (.lst [V.int 0])) el1
    have sm := sm.trans (wo_same_of (same_upd (o := (.lst [V.int 0])) nl1))
    generalize upd Hq5 l1 (.lst [V.int 0]) = Hq6 at hl1 hp sm hG hM ⊢
    refine ⟨l1, 256, _, rfl, rfl, hl1, by decide, by decide, (by show 256 ≤ sizeLine; decide), fun LZ nLZ => ?_⟩
    rw [zer_eq256]
    have hLZ : upd Hq6 LZ (.lst ((zer 256).map optB)) LZ = some (.lst ((zer 256).map optB)) := upd_same
    have eLZ := hp.ne nLZ
    have hG := same_upd (o := (.lst ((zer 256).map optB))) nLZ _ _ hG
    have hM := same_upd (o := (.lst ((zer 256).map optB))) nLZ _ _ hM
    have hl1 := same_upd (o := (.lst ((zer 256).map optB))) nLZ _ _ hl1
    have hp := hp.upd (o := (.lst ((zer 256).map optB))) eLZ
    have sm := sm.trans (wo_same_of (same_upd (o := (.lst ((zer 256).map optB))) nLZ))
    generalize upd Hq6 LZ (.lst ((zer 256).map optB)) = Hq7 at hLZ hp sm hG hM hl1 ⊢
    clear hl1
    refine ⟨.ref M, rfl, ?_⟩
    refine ⟨by show 1 ≤ sizeLine; decide, fun q1 nq1 => ?_⟩
    have hq1 : upd Hq7 q1 (.tup [V.int 65536]) q1 = some (.tup [V.int 65536]) := upd_same
    have eq1 := hp.ne nq1
    have hG := same_upd (o := (.tup [V.int 65536])) nq1 _ _ hG
    have hM := same_upd (o := (.tup [V.int 65536])) nq1 _ _ hM
    have hLZ := same_upd (o := (.tup [V.int 65536])) nq1 _ _ hLZ
    have hp := hp.upd (o := (.tup [V.int 65536])) eq1
    have sm := sm.trans (wo_same_of (same_upd (o := (.tup [V.int 65536])) nq1))
    generalize upd Hq7 q1 (.tup [V.int 65536]) = Hq8 at hq1 hp sm hG hM hLZ ⊢
    refine ⟨M, q1, _, _, rfl, rfl, SqT.of hM, SqT.of hq1, by show 255 + 1 ≤ sizeLine; decide, fun z => absurd (congrArg List.length z) (by decide +kernel), fun _ z => (nomatch z), fun _ _ A1 nA1 => ?_⟩
    have hA1 : upd Hq8 A1 (.tup ((zer 255).map optB ++ [V.int 65536])) A1 = some (.tup ((zer 255).map optB ++ [V.int 65536])) := upd_same
    have eA1 := hp.ne nA1
    have hG := same_upd (o := (.tup ((zer 255).map optB ++ [V.int 65536]))) nA1 _ _ hG
    have hM := same_upd (o := (.tup ((zer 255).map optB ++ [V.int 65536]))) nA1 _ _ hM
    have hLZ := same_upd (o := (.tup ((zer 255).map optB ++ [V.int 65536]))) nA1 _ _ hLZ
    have hq1 := same_upd (o := (.tup ((zer 255).map optB ++ [V.int 65536]))) nA1 _ _ hq1
    have hp := hp.upd (o := (.tup ((zer 255).map optB ++ [V.int 65536]))) eA1
    have sm := sm.trans (wo_same_of (same_upd (o := (.tup ((zer 255).map optB ++ [V.int 65536]))) nA1))
    generalize upd Hq8 A1 (.tup ((zer 255).map optB ++ [V.int 65536])) = Hq9 at hA1 hp sm hG hM hLZ hq1 ⊢
    clear hq1
    refine ⟨.ref M, rfl, ?_⟩
    refine ⟨by show 1 ≤ sizeLine; decide, fun q2 nq2 => ?_⟩
    have hq2 : upd Hq9 q2 (.tup [V.bl true]) q2 = some (.tup [V.bl true]) := upd_same
    have eq2 := hp.ne nq2
    have hG := same_upd (o := (.tup [V.bl true])) nq2 _ _ hG
    have hM := same_upd (o := (.tup [V.bl true])) nq2 _ _ hM
    have hLZ := same_upd (o := (.tup [V.bl true])) nq2 _ _ hLZ
    have hA1 := same_upd (o := (.tup [V.bl true])) nq2 _ _ hA1
    have hp := hp.upd (o := (.tup [V.bl true])) eq2
    have sm := sm.trans (wo_same_of (same_upd (o := (.tup [V.bl true])) nq2))
    generalize upd Hq9 q2 (.tup [V.bl true]) = Hq10 at hq2 hp sm hG hM hLZ hA1 ⊢
    refine ⟨M, q2, _, _, rfl, rfl, SqT.of hM, SqT.of hq2, by show 255 + 1 ≤ sizeLine; decide, fun z => absurd (congrArg List.length z) (by decide +kernel), fun _ z => (nomatch z), fun _ _ A2 nA2 => ?_⟩
    have hA2 : upd Hq10 A2 (.tup ((zer 255).map optB ++ [V.bl true])) A2 = some (.tup ((zer 255).map optB ++ [V.bl true])) := upd_same
    have eA2 := hp.ne nA2
    have hG := same_upd (o := (.tup ((zer 255).map optB ++ [V.bl true]))) nA2 _ _ hG
    have hM := same_upd (o := (.tup ((zer 255).map optB ++ [V.bl true]))) nA2 _ _ hM
    have hLZ := same_upd (o := (.tup ((zer 255).map optB ++ [V.bl true]))) nA2 _ _ hLZ
    have hA1 := same_upd (o := (.tup ((zer 255).map optB ++ [V.bl true]))) nA2 _ _ hA1
    have hq2 := same_upd (o := (.tup ((zer 255).map optB ++ [V.bl true]))) nA2 _ _ hq2
    have hp := hp.upd (o := (.tup ((zer 255).map optB ++ [V.bl true]))) eA2
    have sm := sm.trans (wo_same_of (same_upd (o := (.tup ((zer 255).map optB ++ [V.bl true]))) nA2))
    generalize upd Hq10 A2 (.tup ((zer 255).map optB ++ [V.bl true])) = Hq11 at hA2 hp sm hG hM hLZ hA1 hq2 ⊢
    clear hq2
    refine ⟨by show 6 ≤ sizeLine; decide, fun bl nbl => ?_⟩
    have hbl : upd Hq11 bl (.lst [V.ref M, .ref LZ, .non, .ref A1, .ref A2, .int 256]) bl = some (.lst [V.ref M, .ref LZ, .non, .ref A1, .ref A2, .int 256]) := upd_same
    have ebl := hp.ne nbl
    have hG := same_upd (o := (.lst [V.ref M, .ref LZ, .non, .ref A1, .ref A2, .int 256])) nbl _ _ hG
    have hM := same_upd (o := (.lst [V.ref M, .ref LZ, .non, .ref A1, .ref A2, .int 256])) nbl _ _ hM
    have hLZ := same_upd (o := (.lst [V.ref M, .ref LZ, .non, .ref A1, .ref A2, .int 256])) nbl _ _ hLZ
    have hA1 := same_upd (o := (.lst [V.ref M, .ref LZ, .non, .ref A1, .ref A2, .int 256])) nbl _ _ hA1
    have hA2 := same_upd (o := (.lst [V.ref M, .ref LZ, .non, .ref A1, .ref A2, .int 256])) nbl _ _ hA2
    have hp := hp.upd (o := (.lst [V.ref M, .ref LZ, .non, .ref A1, .ref A2, .int 256])) ebl
    have sm := sm.trans (wo_same_of (same_upd (o := (.lst [V.ref M, .ref LZ, .non, .ref A1, .ref A2, .int 256])) nbl))
    generalize upd Hq11 bl (.lst [V.ref M, .ref LZ, .non, .ref A1, .ref A2, .int 256]) = Hq12 at hbl hp sm hG hM hLZ hA1 hA2 ⊢
    refine ⟨p, bl, _, _, rfl, SqL.of (wo_at hbl ebl), by simp, (by show 6 ≤ 1000; decide), hp, by omega, fun xb hxb Hq13 hpN sN => ?_⟩
    have hG := car sN hG eG
    have hM := car sN hM eM
    have hLZ := car sN hLZ eLZ
    have hA1 := car sN hA1 eA1
    have hA2 := car sN hA2 eA2
    have hbl := car sN hbl ebl
    replace hp := hpN
    replace sm := sm.trans sN
    clear hpN sN
    clear hbl
    refine ⟨.ref p, rfl, 1, rfl, ?_⟩
    refine ⟨by show 5 ≤ sizeLine; decide, fun ol nol => ?_⟩
    have hol : upd Hq13 ol (.lst [V.int 256, .int (-1), .bl true, .non, .str "0"]) ol = some (.lst [V.int 256, .int (-1), .bl true, .non, .str "0"]) := upd_same
    have eol := hp.ne nol
    have hG := same_upd (o := (.lst [V.int 256, .int (-1), .bl true, .non, .str "0"])) nol _ _ hG
    have hM := same_upd (o := (.lst [V.int 256, .int (-1), .bl true, .non, .str "0"])) nol _ _ hM
    have hLZ := same_upd (o := (.lst [V.int 256, .int (-1), .bl true, .non, .str "0"])) nol _ _ hLZ
    have hA1 := same_upd (o := (.lst [V.int 256, .int (-1), .bl true, .non, .str "0"])) nol _ _ hA1
    have hA2 := same_upd (o := (.lst [V.int 256, .int (-1), .bl true, .non, .str "0"])) nol _ _ hA2
    have hp := hp.upd (o := (.lst [V.int 256, .int (-1), .bl true, .non, .str "0"])) eol
    have sm := sm.trans (wo_same_of (same_upd (o := (.lst [V.int 256, .int (-1), .bl true, .non, .str "0"])) nol))
    generalize upd Hq13 ol (.lst [V.int 256, .int (-1), .bl true, .non, .str "0"]) = Hq14 at hol hp sm hG hM hLZ hA1 hA2 ⊢
    refine ⟨p, ol, _, _, rfl, SqL.of (wo_at hol eol), by simp, (by show 5 ≤ 1000; decide), hp, by omega, fun xo hxo Hq15 hpN sN => ?_⟩
    have hG := car sN hG eG
    have hM := car sN hM eM
    have hLZ := car sN hLZ eLZ
    have hA1 := car sN hA1 eA1
    have hA2 := car sN hA2 eA2
    have hol := car sN hol eol
    replace hp := hpN
    replace sm := sm.trans sN
    clear hpN sN
    clear hol
    refine ⟨.ref p, rfl, ?_⟩
    refine ⟨by show 5 ≤ sizeLine; decide, fun sl nsl => ?_⟩
    have hsl : upd Hq15 sl (.lst [V.int 0, .int 17, .bl true, .non, .str "1"]) sl = some (.lst [V.int 0, .int 17, .bl true, .non, .str "1"]) := upd_same
    have esl := hp.ne nsl
    have hG := same_upd (o := (.lst [V.int 0, .int 17, .bl true, .non, .str "1"])) nsl _ _ hG
    have hM := same_upd (o := (.lst [V.int 0, .int 17, .bl true, .non, .str "1"])) nsl _ _ hM
    have hLZ := same_upd (o := (.lst [V.int 0, .int 17, .bl true, .non, .str "1"])) nsl _ _ hLZ
    have hA1 := same_upd (o := (.lst [V.int 0, .int 17, .bl true, .non, .str "1"])) nsl _ _ hA1
    have hA2 := same_upd (o := (.lst [V.int 0, .int 17, .bl true, .non, .str "1"])) nsl _ _ hA2
    have hp := hp.upd (o := (.lst [V.int 0, .int 17, .bl true, .non, .str "1"])) esl
    have sm := sm.trans (wo_same_of (same_upd (o := (.lst [V.int 0, .int 17, .bl true, .non, .str "1"])) nsl))
    generalize upd Hq15 sl (.lst [V.int 0, .int 17, .bl true, .non, .str "1"]) = Hq16 at hsl hp sm hG hM hLZ hA1 hA2 ⊢
    refine ⟨p, sl, _, _, rfl, SqL.of (wo_at hsl esl), by simp, (by show 5 ≤ 1000; decide), hp, by omega, fun xs hxs Hq17 hpN sN => ?_⟩
    have hG := car sN hG eG
    have hM := car sN hM eM
    have hLZ := car sN hLZ eLZ
    have hA1 := car sN hA1 eA1
    have hA2 := car sN hA2 eA2
    have hsl := car sN hsl esl
    replace hp := hpN
    replace sm := sm.trans sN
    clear hpN sN
    clear hsl
    refine ⟨by show 2 ≤ sizeLine; decide, fun P2 nP2 => ?_⟩
    have hP2 : upd Hq17 P2 (.tup [xo, xs]) P2 = some (.tup [xo, xs]) := upd_same
    have eP2 := hp.ne nP2
    have hG := same_upd (o := (.tup [xo, xs])) nP2 _ _ hG
    have hM := same_upd (o := (.tup [xo, xs])) nP2 _ _ hM
    have hLZ := same_upd (o := (.tup [xo, xs])) nP2 _ _ hLZ
    have hA1 := same_upd (o := (.tup [xo, xs])) nP2 _ _ hA1
    have hA2 := same_upd (o := (.tup [xo, xs])) nP2 _ _ hA2
    have hp := hp.upd (o := (.tup [xo, xs])) eP2
    have sm := sm.trans (wo_same_of (same_upd (o := (.tup [xo, xs])) nP2))
    generalize upd Hq17 P2 (.tup [xo, xs]) = Hq18 at hP2 hp sm hG hM hLZ hA1 hA2 ⊢
    refine ⟨P2, [xo, xs], rfl, SqT.of hP2, rfl, xo, [xs], rfl, xs, [], rfl, rfl, ?_⟩
    clear hP2
    obtain ⟨db, hdb, rb, okb⟩ : ∃ d, Dk K Hq18 xb d ∧ reach d = false ∧ okData d = true := by
      simp only [List.mem_cons, List.not_mem_nil, or_false] at hxb
      rcases hxb with rfl | rfl | rfl | rfl | rfl | rfl
      · exact ⟨.tuple ((zer 255).map dO), .dp (.tup (SqT.of hM) (dp_ol _)), by decide +kernel, okT (okN_zer 255) (by decide +kernel)⟩
      · exact ⟨.list ((zer 256).map dO), .dp (.lst (SqL.of hLZ) (dp_ol _)), rfl, okTl (okN_zer 256) (by decide +kernel)⟩
      · exact ⟨.none, .dp .non, rfl, by decide +kernel⟩
      · exact ⟨.tuple ((zer 255).map dO ++ [.int 65536]), .dp (.tup (SqT.of hA1) (dpAll_app (dp_ol _) (.cons (.int _) .nil))), by decide +kernel, okT (okN_app (okN_zer 255) (okN.int (by decide) (by decide))) (by decide +kernel)⟩
      · exact ⟨.tuple ((zer 255).map dO ++ [.bool true]), .dp (.tup (SqT.of hA2) (dpAll_app (dp_ol _) (.cons (.bl _) .nil))), by decide +kernel, okT (okN_app (d := .bool true) (okN_zer 255) ⟨rfl, by simp [PyData.weight], rfl, Nat.le_refl 0, rfl⟩) (by decide +kernel)⟩
      · exact ⟨.int 256, .dp (.int _), rfl, by decide +kernel⟩
    obtain ⟨do_, hdo, ro, oko⟩ : ∃ d, (∀ H, Dk K H xo d) ∧ isW d 0 255 = false ∧ okData d = true := by
      simp only [List.mem_cons, List.not_mem_nil, or_false] at hxo
      rcases hxo with rfl | rfl | rfl | rfl | rfl
      · exact ⟨.int 256, fun _ => .dp (.int _), rfl, by decide +kernel⟩
      · exact ⟨.int (-1), fun _ => .dp (.int _), rfl, by decide +kernel⟩
      · exact ⟨.bool true, fun _ => .dp (.bl _), rfl, by decide +kernel⟩
      · exact ⟨.none, fun _ => .dp .non, rfl, by decide +kernel⟩
      · exact ⟨.str "0", fun _ => .dp (.str _), rfl, by decide +kernel⟩
    obtain ⟨ds, hds, rs, oks⟩ : ∃ d, (∀ H, Dk K H xs d) ∧ isW d 1 16 = false ∧ okData d = true := by
      simp only [List.mem_cons, List.not_mem_nil, or_false] at hxs
      rcases hxs with rfl | rfl | rfl | rfl | rfl
      · exact ⟨.int 0, fun _ => .dp (.int _), rfl, by decide +kernel⟩
      · exact ⟨.int 17, fun _ => .dp (.int _), rfl, by decide +kernel⟩
      · exact ⟨.bool true, fun _ => .dp (.bl _), rfl, by decide +kernel⟩
      · exact ⟨.none, fun _ => .dp .non, rfl, by decide +kernel⟩
      · exact ⟨.str "1", fun _ => .dp (.str _), rfl, by decide +kernel⟩
    have hdg : Dk K Hq18 (.ref G) (.tuple ((zer 256).map dO)) := .dp (.tup (SqT.of hG) (dp_ol _))
    have rg : reach (.tuple ((zer 256).map dO)) = true := reach_ol zer_ok
    have hT := tabs_wo hT0 (by obtain ⟨x1, x2, x3, e, _⟩ := hp0; exact ⟨_, e⟩) sm
    clear hxb hxo hxs hM hLZ hA1 hA2 hG
    have en : ExtN Hq18 Hq18 := ExtN.refl _
    refine ⟨hT, fun f0 G0 e0 t0 i0 nf0 => ⟨_, rfl, by show 3 ≤ sizeLine; decide, fun c0 nc0 => ?_⟩⟩
    have sc := same_upd (o := .tup [V.ref f0, .str "memory", xb]) nc0
    have hc0 : upd G0 c0 (.tup [V.ref f0, .str "memory", xb]) c0 = some (.tup [V.ref f0, .str "memory", xb]) := upd_same
    have en := e0.trans (ExtN.of sc)
    have tt := t0.ext sc
    have i0 := i0.ext (ExtN.of sc)
    generalize upd G0 c0 (.tup [V.ref f0, .str "memory", xb]) = Ga at hc0 en tt i0 ⊢
    clear sc nc0 t0 e0 nf0
    refine ⟨by show 1 ≤ sizeLine; decide, fun CL nCL => ?_⟩
    have sl := same_upd (o := .lst [V.ref c0]) nCL
    have hCL : upd Ga CL (.lst [V.ref c0]) CL = some (.lst [V.ref c0]) := upd_same
    have nCL0 := none_ext en nCL
    have hc0 := sl _ _ hc0
    have en := en.trans (ExtN.of sl)
    have tt := tt.ext sl
    have i0 := i0.ext (ExtN.of sl)
    generalize upd Ga CL (.lst [V.ref c0]) = Gb0 at hc0 en tt i0 hCL ⊢
    clear sl nCL
    refine ⟨.ref CL, rfl, .inl ⟨rfl, _, SqL.of hCL⟩, tt, fun f1 G1 ej tj i1 nfj => ⟨_, rfl, by show 3 ≤ sizeLine; decide, fun c1 ncj => ?_⟩⟩
    have sc := same_upd (o := (.tup [V.ref f1, .str "memory", xb])) ncj
    have hCL := sc _ _ (ej _ _ hCL (fun ps z => by cases z))
    have hc1 : upd G1 c1 (.tup [V.ref f1, .str "memory", xb]) c1 = some (.tup [V.ref f1, .str "memory", xb]) := upd_same
    refine ⟨CL, _, _, rfl, rfl, hCL, by show 1 < sizeLine; decide, ?_⟩
    have hc0 := keepT (o := .lst ([V.ref c0] ++ [.ref c1])) (sc _ _ (ej _ _ hc0 (fun ps z => by cases z))) hCL
    have hc1 := keepT (o := .lst ([V.ref c0] ++ [.ref c1])) hc1 hCL
    have i0 := ((i0.ext ej).ext (ExtN.of sc)).updL (o := .lst ([V.ref c0] ++ [.ref c1])) hCL
    have i1 := (i1.ext (ExtN.of sc)).updL (o := .lst ([V.ref c0] ++ [.ref c1])) hCL
    have en := extN_upd (o := .lst ([V.ref c0] ++ [.ref c1])) ((en.trans ej).trans (ExtN.of sc)) nCL0
    have tt := tabs_upd (o := .lst ([V.ref c0] ++ [.ref c1])) (tj.ext sc) hCL
    have hCL : upd (upd G1 c1 (.tup [V.ref f1, .str "memory", xb])) CL (.lst ([V.ref c0] ++ [.ref c1])) CL = some (.lst ([V.ref c0] ++ [.ref c1])) := upd_same
    generalize upd (upd G1 c1 (.tup [V.ref f1, .str "memory", xb])) CL (.lst ([V.ref c0] ++ [.ref c1])) = Gb1 at hCL en tt hc0 hc1 i0 i1 ⊢
    clear sc ej tj nfj ncj
    refine ⟨.ref CL, rfl, .inl ⟨rfl, _, SqL.of hCL⟩, tt, fun f2 G2 ej tj i2 nfj => ⟨_, rfl, by show 3 ≤ sizeLine; decide, fun c2 ncj => ?_⟩⟩
    have sc := same_upd (o := (.tup [V.ref f2, .str "address", xo])) ncj
    have hCL := sc _ _ (ej _ _ hCL (fun ps z => by cases z))
    have hc2 : upd G2 c2 (.tup [V.ref f2, .str "address", xo]) c2 = some (.tup [V.ref f2, .str "address", xo]) := upd_same
    refine ⟨CL, _, _, rfl, rfl, hCL, by show 2 < sizeLine; decide, ?_⟩
    have hc0 := keepT (o := .lst (([V.ref c0] ++ [.ref c1]) ++ [.ref c2])) (sc _ _ (ej _ _ hc0 (fun ps z => by cases z))) hCL
    have hc1 := keepT (o := .lst (([V.ref c0] ++ [.ref c1]) ++ [.ref c2])) (sc _ _ (ej _ _ hc1 (fun ps z => by cases z))) hCL
    have hc2 := keepT (o := .lst (([V.ref c0] ++ [.ref c1]) ++ [.ref c2])) hc2 hCL
    have i0 := ((i0.ext ej).ext (ExtN.of sc)).updL (o := .lst (([V.ref c0] ++ [.ref c1]) ++ [.ref c2])) hCL
    have i1 := ((i1.ext ej).ext (ExtN.of sc)).updL (o := .lst (([V.ref c0] ++ [.ref c1]) ++ [.ref c2])) hCL
    have i2 := (i2.ext (ExtN.of sc)).updL (o := .lst (([V.ref c0] ++ [.ref c1]) ++ [.ref c2])) hCL
    have en := extN_upd (o := .lst (([V.ref c0] ++ [.ref c1]) ++ [.ref c2])) ((en.trans ej).trans (ExtN.of sc)) nCL0
    have tt := tabs_upd (o := .lst (([V.ref c0] ++ [.ref c1]) ++ [.ref c2])) (tj.ext sc) hCL
    have hCL : upd (upd G2 c2 (.tup [V.ref f2, .str "address", xo])) CL (.lst (([V.ref c0] ++ [.ref c1]) ++ [.ref c2])) CL = some (.lst (([V.ref c0] ++ [.ref c1]) ++ [.ref c2])) := upd_same
    generalize upd (upd G2 c2 (.tup [V.ref f2, .str "address", xo])) CL (.lst (([V.ref c0] ++ [.ref c1]) ++ [.ref c2])) = Gb2 at hCL en tt hc0 hc1 hc2 i0 i1 i2 ⊢
    clear sc ej tj nfj ncj
    refine ⟨.ref CL, rfl, .inl ⟨rfl, _, SqL.of hCL⟩, tt, fun f3 G3 ej tj i3 nfj => ⟨_, rfl, by show 3 ≤ sizeLine; decide, fun c3 ncj => ?_⟩⟩
    have sc := same_upd (o := (.tup [V.ref f3, .str "address", xo])) ncj
    have hCL := sc _ _ (ej _ _ hCL (fun ps z => by cases z))
    have hc3 : upd G3 c3 (.tup [V.ref f3, .str "address", xo]) c3 = some (.tup [V.ref f3, .str "address", xo]) := upd_same
    refine ⟨CL, _, _, rfl, rfl, hCL, by show 3 < sizeLine; decide, ?_⟩
    have hc0 := keepT (o := .lst ((([V.ref c0] ++ [.ref c1]) ++ [.ref c2]) ++ [.ref c3])) (sc _ _ (ej _ _ hc0 (fun ps z => by cases z))) hCL
    have hc1 := keepT (o := .lst ((([V.ref c0] ++ [.ref c1]) ++ [.ref c2]) ++ [.ref c3])) (sc _ _ (ej _ _ hc1 (fun ps z => by cases z))) hCL
    have hc2 := keepT (o := .lst ((([V.ref c0] ++ [.ref c1]) ++ [.ref c2]) ++ [.ref c3])) (sc _ _ (ej _ _ hc2 (fun ps z => by cases z))) hCL
    have hc3 := keepT (o := .lst ((([V.ref c0] ++ [.ref c1]) ++ [.ref c2]) ++ [.ref c3])) hc3 hCL
    have i0 := ((i0.ext ej).ext (ExtN.of sc)).updL (o := .lst ((([V.ref c0] ++ [.ref c1]) ++ [.ref c2]) ++ [.ref c3])) hCL
    have i1 := ((i1.ext ej).ext (ExtN.of sc)).updL (o := .lst ((([V.ref c0] ++ [.ref c1]) ++ [.ref c2]) ++ [.ref c3])) hCL
    have i2 := ((i2.ext ej).ext (ExtN.of sc)).updL (o := .lst ((([V.ref c0] ++ [.ref c1]) ++ [.ref c2]) ++ [.ref c3])) hCL
    have i3 := (i3.ext (ExtN.of sc)).updL (o := .lst ((([V.ref c0] ++ [.ref c1]) ++ [.ref c2]) ++ [.ref c3])) hCL
    have en := extN_upd (o := .lst ((([V.ref c0] ++ [.ref c1]) ++ [.ref c2]) ++ [.ref c3])) ((en.trans ej).trans (ExtN.of sc)) nCL0
    have tt := tabs_upd (o := .lst ((([V.ref c0] ++ [.ref c1]) ++ [.ref c2]) ++ [.ref c3])) (tj.ext sc) hCL
    have hCL : upd (upd G3 c3 (.tup [V.ref f3, .str "address", xo])) CL (.lst ((([V.ref c0] ++ [.ref c1]) ++ [.ref c2]) ++ [.ref c3])) CL = some (.lst ((([V.ref c0] ++ [.ref c1]) ++ [.ref c2]) ++ [.ref c3])) := upd_same
    generalize upd (upd G3 c3 (.tup [V.ref f3, .str "address", xo])) CL (.lst ((([V.ref c0] ++ [.ref c1]) ++ [.ref c2]) ++ [.ref c3])) = Gb3 at hCL en tt hc0 hc1 hc2 hc3 i0 i1 i2 i3 ⊢
    clear sc ej tj nfj ncj
    refine ⟨.ref CL, rfl, .inl ⟨rfl, _, SqL.of hCL⟩, tt, fun f4 G4 ej tj i4 nfj => ⟨_, rfl, by show 3 ≤ sizeLine; decide, fun c4 ncj => ?_⟩⟩
    have sc := same_upd (o := (.tup [V.ref f4, .str "many", xs])) ncj
    have hCL := sc _ _ (ej _ _ hCL (fun ps z => by cases z))
    have hc4 : upd G4 c4 (.tup [V.ref f4, .str "many", xs]) c4 = some (.tup [V.ref f4, .str "many", xs]) := upd_same
    refine ⟨CL, _, _, rfl, rfl, hCL, by show 4 < sizeLine; decide, ?_⟩
    have hc0 := keepT (o := .lst (((([V.ref c0] ++ [.ref c1]) ++ [.ref c2]) ++ [.ref c3]) ++ [.ref c4])) (sc _ _ (ej _ _ hc0 (fun ps z => by cases z))) hCL
    have hc1 := keepT (o := .lst (((([V.ref c0] ++ [.ref c1]) ++ [.ref c2]) ++ [.ref c3]) ++ [.ref c4])) (sc _ _ (ej _ _ hc1 (fun ps z => by cases z))) hCL
    have hc2 := keepT (o := .lst (((([V.ref c0] ++ [.ref c1]) ++ [.ref c2]) ++ [.ref c3]) ++ [.ref c4])) (sc _ _ (ej _ _ hc2 (fun ps z => by cases z))) hCL
    have hc3 := keepT (o := .lst (((([V.ref c0] ++ [.ref c1]) ++ [.ref c2]) ++ [.ref c3]) ++ [.ref c4])) (sc _ _ (ej _ _ hc3 (fun ps z => by cases z))) hCL
    have hc4 := keepT (o := .lst (((([V.ref c0] ++ [.ref c1]) ++ [.ref c2]) ++ [.ref c3]) ++ [.ref c4])) hc4 hCL
    have i0 := ((i0.ext ej).ext (ExtN.of sc)).updL (o := .lst (((([V.ref c0] ++ [.ref c1]) ++ [.ref c2]) ++ [.ref c3]) ++ [.ref c4])) hCL
    have i1 := ((i1.ext ej).ext (ExtN.of sc)).updL (o := .lst (((([V.ref c0] ++ [.ref c1]) ++ [.ref c2]) ++ [.ref c3]) ++ [.ref c4])) hCL
    have i2 := ((i2.ext ej).ext (ExtN.of sc)).updL (o := .lst (((([V.ref c0] ++ [.ref c1]) ++ [.ref c2]) ++ [.ref c3]) ++ [.ref c4])) hCL
    have i3 := ((i3.ext ej).ext (ExtN.of sc)).updL (o := .lst (((([V.ref c0] ++ [.ref c1]) ++ [.ref c2]) ++ [.ref c3]) ++ [.ref c4])) hCL
    have i4 := (i4.ext (ExtN.of sc)).updL (o := .lst (((([V.ref c0] ++ [.ref c1]) ++ [.ref c2]) ++ [.ref c3]) ++ [.ref c4])) hCL
    have en := extN_upd (o := .lst (((([V.ref c0] ++ [.ref c1]) ++ [.ref c2]) ++ [.ref c3]) ++ [.ref c4])) ((en.trans ej).trans (ExtN.of sc)) nCL0
    have tt := tabs_upd (o := .lst (((([V.ref c0] ++ [.ref c1]) ++ [.ref c2]) ++ [.ref c3]) ++ [.ref c4])) (tj.ext sc) hCL
    have hCL : upd (upd G4 c4 (.tup [V.ref f4, .str "many", xs])) CL (.lst (((([V.ref c0] ++ [.ref c1]) ++ [.ref c2]) ++ [.ref c3]) ++ [.ref c4])) CL = some (.lst (((([V.ref c0] ++ [.ref c1]) ++ [.ref c2]) ++ [.ref c3]) ++ [.ref c4])) := upd_same
    generalize upd (upd G4 c4 (.tup [V.ref f4, .str "many", xs])) CL (.lst (((([V.ref c0] ++ [.ref c1]) ++ [.ref c2]) ++ [.ref c3]) ++ [.ref c4])) = Gb4 at hCL en tt hc0 hc1 hc2 hc3 hc4 i0 i1 i2 i3 i4 ⊢
    clear sc ej tj nfj ncj
    have XX : ∀ kc : Fin 3, Err1 K CS ([C1, C2, C4].getD kc.val 0) := fun kc => match kc with | 0 => X1 | 1 => X2 | 2 => X4
    have hpG : Pot Gb4 p (n + 50) := by
      obtain ⟨x1, x2, x3, e, r1, r2, r3, r4⟩ := hp
      exact ⟨x1, x2, x3, en _ _ e (fun ps z => by cases z), r1, r2, r3, by omega⟩
    have toP : ∀ {H' : Hp}, ExtN Gb4 H' → ExtP p H H' := fun {H'} e b o z ne nt => e b o (en b o (wo_le _ _ (sm _ _ (wo_at z ne))) nt) nt
    have hdb := dk_extN hdb en
    have hdg := dk_extN hdg en
    refine ⟨.ref CL, rfl, CL, rfl, ⟨_, SqL.of hCL⟩, ?_⟩
    refine for_list (xs := (((([V.ref c0] ++ [.ref c1]) ++ [.ref c2]) ++ [.ref c3]) ++ [.ref c4])) (fun j σ H8 => ∃ y7 y8 y9 y10 y11, σ = [some (.ref p), some (.ref G), some (.ref M), some xb, some xo, some xs, some (.ref CL), y7, y8, y9, y10, y11] ∧ ExtN Gb4 H8 ∧ Tabs T H8) ⟨_, _, _, _, _, rfl, ExtN.refl _, tt⟩ (fun j σ H8 _ hP => ?_) (fun j x σ H8 hx hP => ?_) fun σ H8 hP => ?_
    · obtain ⟨_, _, _, _, _, _, e8, _⟩ := hP
      exact sqL_extN (SqL.of hCL) e8
    · obtain ⟨y7, y8, y9, y10, y11, rfl, e8, t8⟩ := hP
      obtain ⟨jj, ff, c, kc, vv, dv, rfl, hc, isl, hdv, okv, look⟩ : ∃ (jj : Fin 5) (ff c : Addr) (kc : Fin 3) (vv : V) (dv : PyData), x = .ref c ∧ Gb4 c = some (.tup [.ref ff, .str (wordK kc), vv]) ∧ IsLam _ (lamCopiesRefused jj.val) ff Gb4 ∧ Dk K Gb4 vv dv ∧ okData dv = true ∧
          (∀ (H9 : Hp) (E' : XK) (Q' : VK) (r : L2.St), ExtN Gb4 H9 → Err K ([C1, C2, C4].getD kc.val 0) vv H9 E' → lookN K C1 C2 C4 jj E' (some (.ref p) :: some (.ref G) :: some (.ref M) :: some xb :: some xo :: some xs :: r) H9 Q') := by
        match j, hx with
        | 0, hx =>
          refine ⟨0, f0, c0, 0, xb, db, (Option.some.inj hx).symm, hc0, i0, hdb, okb, fun H9 E' Q' r e9 er => ?_⟩
          exact ⟨_, rfl, _, rfl, _, rfl, _, rfl, xb, .non, xo, xo, xs, db, .none, do_, do_, ds, rfl, dk_extN hdb e9, .dp .non, hdo _, hdo _, hds _, fun _ => er, fun z => (by rw [rb] at z; cases z), fun z => (by rw [rb] at z; cases z), fun z => (by rw [rb] at z; cases z), fun z => (by rw [rb] at z; cases z), fun z => (by rw [rb] at z; cases z)⟩
        | 1, hx =>
          refine ⟨1, f1, c1, 0, xb, db, (Option.some.inj hx).symm, hc1, i1, hdb, okb, fun H9 E' Q' r e9 er => ?_⟩
          exact ⟨_, rfl, _, rfl, _, rfl, _, rfl, _, rfl, .ref G, xb, xo, xo, xs, _, db, do_, do_, ds, rfl, dk_extN hdg e9, dk_extN hdb e9, hdo _, hdo _, hds _, fun z => (by rw [rg] at z; cases z), fun _ _ => er, fun _ z => (by rw [rb] at z; cases z), fun _ z => (by rw [rb] at z; cases z), fun _ z => (by rw [rb] at z; cases z), fun _ z => (by rw [rb] at z; cases z)⟩
        | 2, hx =>
          refine ⟨2, f2, c2, 1, xo, do_, (Option.some.inj hx).symm, hc2, i2, hdo _, oko, fun H9 E' Q' r e9 er => ?_⟩
          exact ⟨_, rfl, _, rfl, _, rfl, _, rfl, .ref G, .ref G, xo, .non, xs, _, _, do_, .none, ds, rfl, dk_extN hdg e9, dk_extN hdg e9, hdo _, .dp .non, hds _, fun z => (by rw [rg] at z; cases z), fun _ z => (by rw [rg] at z; cases z), fun _ _ _ => er, fun _ _ z => (by rw [ro] at z; cases z), fun _ _ z => (by rw [ro] at z; cases z), fun _ _ z => (by rw [ro] at z; cases z)⟩
        | 3, hx =>
          refine ⟨3, f3, c3, 1, xo, do_, (Option.some.inj hx).symm, hc3, i3, hdo _, oko, fun H9 E' Q' r e9 er => ?_⟩
          exact ⟨_, rfl, _, rfl, _, rfl, _, rfl, .ref G, .ref G, .int 0, xo, xs, _, _, .int 0, do_, ds, rfl, dk_extN hdg e9, dk_extN hdg e9, .dp (.int _), hdo _, hds _, fun z => (by rw [rg] at z; cases z), fun _ z => (by rw [rg] at z; cases z), fun _ _ z => (by cases z), fun _ _ _ _ => er, fun _ _ _ z => (by rw [ro] at z; cases z), fun _ _ _ z => (by rw [ro] at z; cases z)⟩
        | 4, hx =>
          refine ⟨4, f4, c4, 2, xs, ds, (Option.some.inj hx).symm, hc4, i4, hds _, oks, fun H9 E' Q' r e9 er => ?_⟩
          exact ⟨_, rfl, _, rfl, _, rfl, .ref G, .ref G, .int 0, .int 255, xs, _, _, .int 0, .int 255, ds, rfl, dk_extN hdg e9, dk_extN hdg e9, .dp (.int _), .dp (.int _), hds _, fun z => (by rw [rg] at z; cases z), fun _ z => (by rw [rg] at z; cases z), fun _ _ z => (by cases z), fun _ _ _ z => (by cases z), fun _ _ _ _ _ => er, fun _ _ _ _ z => (by rw [rs] at z; cases z)⟩
        | j + 5, hx => cases hx
      have hc8 := e8 _ _ hc (fun ps z => by cases z)
      refine ⟨c, [.ref ff, .str (wordK kc), vv], rfl, SqT.of hc8, rfl, .ref ff, [.str (wordK kc), vv], rfl, .str (wordK kc), [vv], rfl, vv, [], rfl, rfl, ?_⟩
      refine ⟨.ref ff, rfl, jj, ff, rfl, isl.ext e8, fun H9 s9 E' Q' hE hB => ?_⟩
      have e9 : ExtN Gb4 H9 := e8.trans (ExtN.of s9)
      have t9 := t8.ext s9
      refine lookN_to (look H9 E' Q' _ e9 fun H10 dd s10 nd => hE _ _ _ ⟨(XX kc).x, _, dd, rfl, rfl, fun ea pt nea npt => ?_⟩)
      clear hE hB look
      have sd := same_upd (o := .xd [("value", vv)]) nd
      have se := same_upd (o := ErrO ([C1, C2, C4].getD kc.val 0) dd ea) nea
      have sp := same_upd (o := .tup [V.ref ea, .non]) npt
      have s11 := s10.trans ((sd.trans se).trans sp)
      have herr := sp _ _ (upd_same (H := upd H10 dd (.xd [("value", vv)])) (a := ea) (o := ErrO ([C1, C2, C4].getD kc.val 0) dd ea))
      have hdd := (se.trans sp) _ _ (upd_same (H := H10) (a := dd) (o := .xd [("value", vv)]))
      refine ⟨pt, [.ref ea, .non], 0, .ref ea, rfl, rfl, SqT.of upd_same, at0, ?_⟩
      have e11 := e9.trans (ExtN.of s11)
      have t11 := t9.ext s11
      generalize upd (upd (upd H10 dd (.xd [("value", vv)])) ea (ErrO ([C1, C2, C4].getD kc.val 0) dd ea)) pt (.tup [V.ref ea, .non]) = H11 at herr hdd e11 t11 ⊢
      clear sd se sp s11 nea npt nd
      refine fun K1 nK1 => ?_
      have sK := same_upd (o := .dK []) nK1
      refine ⟨.ref ea, rfl, ea, _, C1, dd, _, _, rfl, sK _ _ herr, sK _ _ hdd, (XX kc).i, kk kc 0, ?_⟩
      refine ⟨.ref ea, rfl, ea, _, C2, dd, _, _, rfl, sK _ _ herr, sK _ _ hdd, (XX kc).i, kk kc 1, ?_⟩
      refine ⟨upd_same, [(.inr "memory", .bl (decide (kc = 0))), (.inr "address", .bl (decide (kc = 1)))], rfl, (by show 2 ≤ 15; decide), ?_⟩
      rw [merged2]
      have s12 := Same.updNew (o := .dK [(.inr "memory", .bl (decide (kc = 0))), (.inr "address", .bl (decide (kc = 1)))]) sK nK1
      have hK2 : upd (upd H11 K1 (.dK [])) K1 (.dK [(.inr "memory", .bl (decide (kc = 0))), (.inr "address", .bl (decide (kc = 1)))]) K1 = some (.dK [(.inr "memory", .bl (decide (kc = 0))), (.inr "address", .bl (decide (kc = 1)))]) := upd_same
      generalize upd (upd H11 K1 (.dK [])) K1 (.dK [(.inr "memory", .bl (decide (kc = 0))), (.inr "address", .bl (decide (kc = 1)))]) = H12 at s12 hK2 ⊢
      refine ⟨.ref ea, rfl, ea, _, C4, dd, _, _, rfl, s12 _ _ herr, s12 _ _ hdd, (XX kc).i, kk kc 2, .ref K1, rfl, K1, _, rfl, DPut.k (k := .inr "many") hK2 (by show 2 < sizeLine; decide), ?_⟩
      rw [put3]
      have s13 := Same.updNew (o := .dK [(.inr "memory", .bl (decide (kc = 0))), (.inr "address", .bl (decide (kc = 1))), (.inr "many", .bl (decide (kc = 2)))]) s12 nK1
      have hK3 : upd H12 K1 (.dK [(.inr "memory", .bl (decide (kc = 0))), (.inr "address", .bl (decide (kc = 1))), (.inr "many", .bl (decide (kc = 2)))]) K1 = some (.dK [(.inr "memory", .bl (decide (kc = 0))), (.inr "address", .bl (decide (kc = 1))), (.inr "many", .bl (decide (kc = 2)))]) := upd_same
      generalize upd H12 K1 (.dK [(.inr "memory", .bl (decide (kc = 0))), (.inr "address", .bl (decide (kc = 1))), (.inr "many", .bl (decide (kc = 2)))]) = H13 at s13 hK3 ⊢
      refine ⟨.ref K1, rfl, .str (wordK kc), rfl, K1, .bl true, rfl, .inl ⟨_, .inr (wordK kc), .inl hK3, rfl, val3 kc⟩, true, rfl, iteF ?_⟩
      have e13 := e11.trans (ExtN.of s13)
      have hdk := dk_extN hdv e13
      refine ⟨.ref ea, rfl, ea, _, dd, [("value", vv)], vv, rfl, s13 _ _ herr, (XX kc).i.f, (XX kc).n, s13 _ _ hdd, rfl, vv, dv, rfl, hdk, okv, vv, rfl, vv, dv, rfl, hdk, okv, rfl, _, rfl, ite2 (fun e => same_ne e) fun _ => ?_⟩
      exact ⟨_, _, _, _, _, rfl, e13, t11.ext s13⟩
    · obtain ⟨y7, y8, y9, y10, y11, rfl, e8, t8⟩ := hP
      refine q _ ?_ (toP e8) t8
      obtain ⟨x1, x2, x3, e, r1, r2, r3, r4⟩ := hpG
      exact ⟨x1, x2, x3, e8 _ _ e (fun ps z => by cases z), r1, r2, r3, by omega⟩
end
end K24

set_option maxRecDepth 100000
set_option maxHeartbeats 16000000
/-! k24: the first ones, and what they tell. -/
namespace K24
open PySem PySem.Spec PyProof.Rows L2 LamX VG
/-- what the first of some kinds is -/
def FirstAt (K : PySem.W.Frag) (H : Hp) (zs : List Str) (its : List Item) (v : V) : Prop := (its.find? (isK zs) = none ∧ v = .non) ∨ ∃ r it, v = .ref r ∧ its.find? (isK zs) = some it ∧ IsItem K H r it
theorem find_has {zs : List Str} : ∀ its : List Item, (its.find? (isK zs)).isSome = its.any (isK zs)
  | [] => rfl
  | it :: its => by
    rw [List.find?_cons, List.any_cons]
    cases c : isK zs it with
    | true => rfl
    | false => rw [find_has its]; rfl
theorem has_any {z : Str} : ∀ its : List Item, has z its = its.any (isK [z])
  | [] => rfl
  | it :: its => by
    rw [List.any_cons, ← has_any its]
    unfold has kinds isK
    rw [List.map_cons]
    by_cases c : it.kind = z
    · simp [c]
    · simp [c, Ne.symm c]
theorem has_any2 {a b : Str} : ∀ its : List Item, (has a its || has b its) = its.any (isK [a, b])
  | [] => rfl
  | it :: its => by
    rw [List.any_cons, ← has_any2 its, has_any, has_any, List.any_cons, List.any_cons, ← has_any, ← has_any]
    have e : isK [a, b] it = (isK [a] it || isK [b] it) := by
      unfold isK
      by_cases c : it.kind = a <;> by_cases d : it.kind = b <;> simp [c, d]
    rw [e]
    cases isK [a] it <;> cases isK [b] it <;> cases has a its <;> cases has b its <;> rfl
theorem sum_none {z : Str} : ∀ {its : List Item}, its.any (isK [z]) = false → sumOf z its = 0
  | [], _ => rfl
  | it :: its, h => by
    rw [List.any_cons, Bool.or_eq_false_iff] at h
    have ih := sum_none h.2
    unfold sumOf at ih ⊢
    have c : decide (it.kind = z) = false := by have := h.1; unfold isK at this; simpa using this
    rw [List.filter_cons, if_neg (by rw [c]; exact Bool.false_ne_true)]
    exact ih
theorem sum_some {z : Str} {it0 : Item} : ∀ {its : List Item}, (kinds its).Nodup → its.find? (isK [z]) = some it0 → sumOf z its = third it0
  | [], _, h => by cases h
  | it :: its, nd, h => by
    rw [List.find?_cons] at h
    unfold kinds at nd
    rw [List.map_cons, List.nodup_cons] at nd
    cases c : isK [z] it with
    | true =>
      rw [c] at h
      cases h
      have ck : it0.kind = z := by unfold isK at c; simpa using c
      have no : its.any (isK [z]) = false := by
        rw [← has_any]
        unfold has kinds
        rw [← ck]
        exact decide_eq_false nd.1
      have e0 := sum_none no
      unfold sumOf at e0 ⊢
      rw [List.filter_cons, if_pos (decide_eq_true ck), List.map_cons, List.sum_cons, e0, Int.add_zero]
    | false =>
      rw [c] at h
      have ck : decide (it.kind = z) = false := by unfold isK at c; simpa using c
      have ih := sum_some nd.2 h
      unfold sumOf at ih ⊢
      rw [List.filter_cons, if_neg (by rw [ck]; exact Bool.false_ne_true)]
      exact ih
theorem find_kind {z : Str} {it : Item} {its : List Item} (h : its.find? (isK [z]) = some it) : it.kind = z ∧ it ∈ its := by
  have h1 := List.find?_some h
  unfold isK at h1
  exact ⟨by simpa using h1, List.mem_of_find?_eq_some h⟩
theorem okAll_ok {its : List Item} (h : okAll its = true) : ∀ it ∈ its, it.ok = true := fun it hi => by
  obtain ⟨j, hj⟩ := List.getElem?_of_mem hi
  have hl := (List.getElem?_eq_some_iff.mp hj).1
  have e : okAt its j = true := List.all_eq_true.mp h j (List.mem_range.mpr hl)
  unfold okAt at e
  rw [hj] at e
  exact (Bool.and_eq_true_iff.mp e).1
/-- the sums are small -/
theorem sum_small {z : Str} {its : List Item} (hz : z = "string" ∨ z = "buffer") (nd : (kinds its).Nodup) (ok : okAll its = true) : 0 ≤ sumOf z its ∧ sumOf z its ≤ 16 := by
  cases e : its.find? (isK [z]) with
  | none =>
    have : its.any (isK [z]) = false := by rw [← find_has, e]; rfl
    rw [sum_none this]
    omega
  | some it =>
    rw [sum_some nd e]
    obtain ⟨ek, hi⟩ := find_kind e
    have o := okAll_ok ok it hi
    cases it with
    | str a n => simp [Item.ok, isW] at o; simp only [third]; omega
    | buf a n => simp [Item.ok, isW] at o; simp only [third]; omega
    | _ => simp [third]
section
variable {P : Program} {w : World} {K : PySem.W.Frag} {mg : Str → Option Value} {base : Heap}
theorem first_to {H : Hp} {kl c : Addr} {zs : List Str} {rs : List Addr} {its : List Item} {Q : VK} {E : XK} (g : Good K H c rs its) (ok : ∀ it ∈ its, okN 2 3272 (dIt it)) (hk : H kl = some (.lst (zs.map V.str))) (q : ∀ H' v, Same H H' → FirstAt K H' zs its v → Q v H') : spFirstOf K [.ref c, .ref kl] H Q E :=
  ⟨c, kl, zs, rs, its, rfl, g.s, g.a, g.l, ok, hk, fun H' s e => q H' _ s (.inl ⟨e, rfl⟩), fun H' r it s e hi => q H' _ s (.inr ⟨r, it, rfl, e, hi⟩)⟩
theorem FirstAt.non {H : Hp} {z : Str} {its : List Item} {v : V} (f : FirstAt K H [z] its v) : decide (v = V.non) = !has z its := by
  rw [has_any, ← find_has]
  rcases f with ⟨e, rfl⟩ | ⟨r, it, rfl, e, _⟩
  · rw [e]; rfl
  · rw [e]; rfl
theorem FirstAt.non2 {H : Hp} {a b : Str} {its : List Item} {v : V} (f : FirstAt K H [a, b] its v) : decide (v = V.non) = !(has a its || has b its) := by
  rw [has_any2, ← find_has]
  rcases f with ⟨e, rfl⟩ | ⟨r, it, rfl, e, _⟩
  · rw [e]; rfl
  · rw [e]; rfl
theorem FirstAt.str {H : Hp} {its : List Item} {v : V} (f : FirstAt K H ["string"] its v) (h : has "string" its = true) (nd : (kinds its).Nodup) : ∃ a n, sumOf "string" its = n ∧ ∃ r, v = .ref r ∧ SqT K H r [.str "string", .int a, .int n] := by
  rcases f with ⟨e, rfl⟩ | ⟨r, it, rfl, e, hi⟩
  · rw [has_any, ← find_has, e] at h; cases h
  · obtain ⟨ek, _⟩ := find_kind e
    obtain ⟨b, h1, _⟩ := hi
    cases it with
    | str a n => exact ⟨a, n, sum_some nd e, r, rfl, h1⟩
    | buf a n => exact absurd (show ("buffer" : Str) = "string" from ek) (by decide)
    | map x y l s => exact absurd (show ("map" : Str) = "string" from ek) (by decide)
    | grant x y l s => exact absurd (show ("grant" : Str) = "string" from ek) (by decide)
    | right p l b => exact absurd (show ("right" : Str) = "string" from ek) (by decide)
    | win x y => exact absurd (show ("window" : Str) = "string" from ek) (by decide)
    | plc p => exact absurd (show ("place" : Str) = "string" from ek) (by decide)
theorem FirstAt.buf {H : Hp} {its : List Item} {v : V} (f : FirstAt K H ["buffer"] its v) (h : has "buffer" its = true) (nd : (kinds its).Nodup) : ∃ a n, sumOf "buffer" its = n ∧ ∃ r, v = .ref r ∧ SqT K H r [.str "buffer", .int a, .int n] := by
  rcases f with ⟨e, rfl⟩ | ⟨r, it, rfl, e, hi⟩
  · rw [has_any, ← find_has, e] at h; cases h
  · obtain ⟨ek, _⟩ := find_kind e
    obtain ⟨b, h1, _⟩ := hi
    cases it with
    | buf a n => exact ⟨a, n, sum_some nd e, r, rfl, h1⟩
    | str a n => exact absurd (show ("string" : Str) = "buffer" from ek) (by decide)
    | map x y l s => exact absurd (show ("map" : Str) = "buffer" from ek) (by decide)
    | grant x y l s => exact absurd (show ("grant" : Str) = "buffer" from ek) (by decide)
    | right p l b => exact absurd (show ("right" : Str) = "buffer" from ek) (by decide)
    | win x y => exact absurd (show ("window" : Str) = "buffer" from ek) (by decide)
    | plc p => exact absurd (show ("place" : Str) = "buffer" from ek) (by decide)
theorem FirstAt.same {H H' : Hp} {zs : List Str} {its : List Item} {v : V} (s : Same H H') (f : FirstAt K H zs its v) : FirstAt K H' zs its v := by
  rcases f with f | ⟨r, it, e1, e2, hi⟩
  · exact .inl f
  · exact .inr ⟨r, it, e1, e2, hi.same s⟩
theorem least_none {H1 H2 : Hp} {c1 c2 : Addr} {r1 r2 : List Addr} {i1 i2 : List Item} (g1 : Good K H1 c1 r1 i1) (g2 : Good K H2 c2 r2 i2) (d1 : (kinds i1).Nodup) (d2 : (kinds i2).Nodup) (e : (!has "string" i1 || !has "buffer" i2) = true) : least (sumOf "string" i1) (sumOf "buffer" i2) = 0 := by
  have a := sum_small (.inl rfl) d1 g1.o
  have b := sum_small (.inr rfl) d2 g2.o
  unfold least
  cases h1 : has "string" i1 with
  | false =>
    rw [has_any] at h1
    rw [sum_none h1] at a ⊢
    split <;> omega
  | true =>
    rw [h1] at e
    have h2 : has "buffer" i2 = false := by simpa using e
    rw [has_any] at h2
    rw [sum_none h2] at b ⊢
    split <;> omega
theorem okN_bl (b : Bool) : okN 0 50 (.bool b) := ⟨by cases b <;> rfl, by simp [PyData.weight], rfl, Nat.le_refl 0, rfl⟩
theorem res_ok {H1 H2 : Hp} {c1 c2 : Addr} {r1 r2 : List Addr} {i1 i2 : List Item} (g1 : Good K H1 c1 r1 i1) (g2 : Good K H2 c2 r2 i2) (d1 : (kinds i1).Nodup) (d2 : (kinds i2).Nodup) (x y : Bool) : okData (.tuple [.int (least (sumOf "string" i1) (sumOf "buffer" i2)), .bool x, .bool y]) = true := by
  have a := sum_small (.inl rfl) d1 g1.o
  have b := sum_small (.inr rfl) d2 g2.o
  have l0 : 0 ≤ least (sumOf "string" i1) (sumOf "buffer" i2) ∧ least (sumOf "string" i1) (sumOf "buffer" i2) ≤ 16 := by
    unfold least
    split <;> omega
  refine (okN.tup (k := 0) (m := 50) (fun d hd => ?_) (by simp)).ok (by decide) (by decide)
  simp only [List.mem_cons, List.not_mem_nil, or_false] at hd
  rcases hd with rfl | rfl | rfl
  · exact okN.int (by omega) (by omega)
  · exact okN_bl _
  · exact okN_bl _
theorem res_dp {H : Hp} {t : Addr} {i : Int} {x y : Bool} (h : SqT K H t [.int i, .bl x, .bl y]) : Dp K H (.ref t) (.tuple [.int i, .bool x, .bool y]) := .tup h (.cons (.int _) (.cons (.bl _) (.cons (.bl _) .nil)))
end
end K24

set_option maxRecDepth 100000
set_option maxHeartbeats 16000000
/-! k24: whether what fits is right. -/
namespace K24
open PySem PySem.Spec PyProof.Rows L2 LamX VG
theorem scFittingRight : FnScope ["pot", "lap", "sent", "received", "string", "buffer", "words", "pages", "window", "right", "place", "has_pages", "has_right", "bad", "caughts", "one"] ["pot"] (defScope sFittingRight) := ⟨rfl, rfl, rfl, by decide +kernel, rfl, by decide +kernel, by decide +kernel⟩
def lamFittingRight (i : Nat) : LamD := (((defBody sFittingRight).map fun s => ((bodyOf s).map lamsS).flatten).flatten).getD i ⟨⟨[], [], none, [], [], none, []⟩, .Constant .none 0 ⟨0, 0, 0, 0⟩, defScope sFittingRight⟩
theorem lamFittingRight_sc (i : Nat) (h : i < 2) : LamS (defScope sFittingRight) (lamFittingRight i).scope := by
  match i, h with
  | 0, _ => exact lamS_by (by decide +kernel)
  | 1, _ => exact lamS_by (by decide +kernel)
theorem keepE {H : Hp} {a l C d : Addr} {ys : List V} {o : HO} (h : H a = some (ErrO C d a)) (hl : H l = some (.lst ys)) : upd H l o a = some (ErrO C d a) := by
  rw [upd_ne (fun z => by rw [z, hl] at h; unfold ErrO at h; cases h)]
  exact h
theorem keepX {H : Hp} {a l : Addr} {fs : List (Str × V)} {ys : List V} {o : HO} (h : H a = some (.xd fs)) (hl : H l = some (.lst ys)) : upd H l o a = some (.xd fs) := by
  rw [upd_ne (fun z => by rw [z, hl] at h; cases h)]
  exact h
theorem okItL {its : List Item} (h : ∀ it ∈ its, okN 2 3272 (dIt it)) (hl : its.length ≤ 20) : okData (.list (its.map dIt)) = true := by
  obtain ⟨j1, j2, j3, j4, j5⟩ := okN.all (k := 2) (m := 3272) (ds := its.map dIt) fun d hd => by
    obtain ⟨it, hi, rfl⟩ := List.mem_map.mp hd
    exact h it hi
  have : (3272 + 1) * (its.map dIt).length ≤ (3272 + 1) * 20 := Nat.mul_le_mul_left _ (by rw [List.length_map]; exact hl)
  refine okN.ok (k := 3) (m := 65460) ⟨by simpa [PyData.leavesShort] using j1, by simp only [PyData.weight]; omega, by simpa [PyData.showable] using j3, by simp only [PyData.depth]; omega, by simpa [PyData.canLay0] using j5⟩ (by decide) (by decide)
theorem IsItem.extN {K : PySem.W.Frag} {H H' : Hp} {r : Addr} {it : Item} (h : IsItem K H r it) (e : ExtN H H') : IsItem K H' r it := by
  obtain ⟨b, h1, h2⟩ := h
  refine ⟨b, sqT_extN h1 e, ?_⟩
  cases it <;> first | exact sqT_extN h2 e | trivial
theorem AreItems.extN {K : PySem.W.Frag} {H H' : Hp} (e : ExtN H H') : ∀ {rs : List Addr} {its : List Item}, AreItems K H rs its → AreItems K H' rs its
  | [], [], _ => trivial
  | _ :: _, _ :: _, h => ⟨h.1.extN e, AreItems.extN e h.2⟩
  | [], _ :: _, h => h.elim
  | _ :: _, [], h => h.elim
theorem Rowsy.extN {K : PySem.W.Frag} {H H' : Hp} {v : V} {b : Bool} (g : Rowsy K H v b) (e : ExtN H H') : Rowsy K H' v b := by
  rcases g with ⟨d, h1, h2, h3⟩ | ⟨c, rs, its, h1, h2, h3, h4, h5, h6⟩
  · exact .inl ⟨d, dk_extN h1 e, h2, h3⟩
  · exact .inr ⟨c, rs, its, h1, sqT_extN h2 e, h3.extN e, h4, h5, h6⟩
section
variable {P : Program} {w : World} {K : PySem.W.Frag} {mg : Str → Option Value} {base : Heap}
def spFittingRight (K : PySem.W.Frag) (T : List (Addr × Str)) : Sp := fun vs H Q _ => ∃ (p : Addr) (n : Nat), vs = [.ref p] ∧ Pot H p n ∧ n + 3000 < 1000000 ∧ Tabs T H ∧ ∀ H', Pot H' p (n + 1000) → ExtP p H H' → Tabs T H' → Q (.bl true) H'
theorem ok_FittingRight {k : Nat} {f : Addr} {fd : FuncData} {C3 CS g cc Pt:Addr} {gd:FuncData} {T:List (Addr × Str)} (F : Fun K "_law_is_fitting_right" "_law_is_fitting_right" sFittingRight f fd) (hcc : fd.code = .ref cc) (TB : TabB base mg cc Pt) (Tm : (Pt, Str.ofString "_law_is_fitting_right.<locals>." ++ "<lambda>") ∈ T) (T1 : ∀ p ∈ T, p.1 = Pt → p.2 = Str.ofString "_law_is_fitting_right.<locals>." ++ "<lambda>") (FH : Fun K "_law_heard" "_law_heard" sHeard g gd) (bH : L2.Binds K gd ["call"] []) (gH : mg "_law_heard" = some (.ref g)) (gS : mg "CoreError" = some (.ref CS)) (gFd : Cal P w K mg base (L2.CX P w) (k + 8) "fitting" ["sent", "received"] (spFitting K C3)) (gFo : Cal P w K mg base CX0 (k + 8) "_law_first_of" ["items", "kinds"] (spFirstOf K)) (gSi : Cal P w K mg base CX0 (k + 8) "_law_some_items" ["pot"] (spSomeItems K)) (gOf : Cal P w K mg base CX0 (k + 8) "_law_of" ["pot", "some"] (spOf K)) (gFi : Cal P w K mg base (L2.CX P w) (k + 6) "fitting" ["sent", "received"] (spFitting K C3)) (gFiK : CalK P w K mg base (L2.CX P w) (k + 6) "fitting" ["sent", "received"] ["sent", "received"] kw2 (spFitting K C3)) (gBadRows : mg "BadRows" = some (.ref C3)) (X3 : Err1 K CS C3) (kt : PySem.W.kitOne K (.ref C3) (.ref C3) = some true) (fall : mg "all" = none) (fisinstance : mg "isinstance" = none) (flist : mg "list" = none) (fmin : mg "min" = none) (frange : mg "range" = none) (frepr : mg "repr" = none) : FnG P w K mg base (k + 9) f fd ["pot"] (spFittingRight K T) := by
  obtain ⟨fFd, fdFd, GFd, kFd, bFd, mFd⟩ := gFd
  obtain ⟨fFo, fdFo, GFo, kFo, bFo, mFo⟩ := gFo
  obtain ⟨fSi, fdSi, GSi, kSi, bSi, mSi⟩ := gSi
  obtain ⟨fOf, fdOf, GOf, kOf, bOf, mOf⟩ := gOf
  obtain ⟨fFi, fdFi, GFi, kFi, bFi, mFi⟩ := gFi
  obtain ⟨fFiK, fdFiK, GFiK, kFiK, bFiK, mFiK⟩ := gFiK
  refine fnG_code F hcc scFittingRight (fun vs H Q E h => ?_) (fun A outer s H vs Q hr gd h => ?_)
  · obtain ⟨p, n, rfl, _⟩ := h
    rfl
  · have M : LamM (cxOf CX0 P w K mg base ["pot", "lap", "sent", "received", "string", "buffer", "words", "pages", "window", "right", "place", "has_pages", "has_right", "bad", "caughts", "one"] "_law_is_fitting_right" (defScope sFittingRight) f (.ref cc) A outer s H E0).nox T cc Pt := ⟨TB, rfl, Tm, T1⟩
    obtain ⟨p, n, rfl, hp, hn, hT, q⟩ := h
    refine ⟨_, (pss_cons (ps_for PassesOwn.never rfl (pi_range1 (by rfl) frange (pa_cons pe_int pa_nil)) (pg_name (i := 1) scFittingRight.nd rfl (.inl rfl)) (pss_cons (ps_asg (pe_tup (pa_cons (pe_call GSi hr (by rfl) mSi kSi bSi .nil pass0 (pa_cons (pv 0) pa_nil)) (pa_cons (pe_call GSi hr (by rfl) mSi kSi bSi .nil pass0 (pa_cons (pv 0) pa_nil)) pa_nil))) (pg_tup (by rfl) (pgs_cons (pg_name (i := 2) scFittingRight.nd rfl (.inr rfl)) (pgs_cons (pg_name (i := 3) scFittingRight.nd rfl (.inl rfl)) pgs_nil)))) (pss_cons (ps_par (i := 4) (j := 5) (by rfl) scFittingRight.nd rfl rfl (by decide) rfl rfl (pa_cons (pe_call GFo hr (by rfl) mFo kFo bFo .nil pass0 (pa_cons (pv 2) (pa_cons (pe_lst (pa_cons pe_str pa_nil)) pa_nil))) (pa_cons (pe_call GFo hr (by rfl) mFo kFo bFo .nil pass0 (pa_cons (pv 3) (pa_cons (pe_lst (pa_cons pe_str pa_nil)) pa_nil))) pa_nil)) (by rfl)) (pss_cons (ps_set (i := 6) scFittingRight.nd rfl (.inl rfl) (pe_ifExp (PW.pt (pw_or (pt_cmpR op_isN (pv 4) pe_non (nomark _)) (pw_or1 (pt_cmpR op_isN (pv 5) pe_non (nomark _))))) pe_int (pe_callB (call_min2 rfl) (by rfl) fmin (by decide +kernel) (pa_cons (pe_ix ix_tup (pv 4) pe_int (fun _ _ => rfl)) (pa_cons (pe_ix ix_tup (pv 5) pe_int (fun _ _ => rfl)) pa_nil))))) (pss_cons (ps_par (i := 7) (j := 8) (by rfl) scFittingRight.nd rfl rfl (by decide) rfl rfl (pa_cons (pe_call GFo hr (by rfl) mFo kFo bFo .nil pass0 (pa_cons (pv 2) (pa_cons (pe_lst (pa_cons pe_str (pa_cons pe_str pa_nil))) pa_nil))) (pa_cons (pe_call GFo hr (by rfl) mFo kFo bFo .nil pass0 (pa_cons (pv 3) (pa_cons (pe_lst (pa_cons pe_str pa_nil)) pa_nil))) pa_nil)) (by rfl)) (pss_cons (ps_par (i := 9) (j := 10) (by rfl) scFittingRight.nd rfl rfl (by decide) rfl rfl (pa_cons (pe_call GFo hr (by rfl) mFo kFo bFo .nil pass0 (pa_cons (pv 2) (pa_cons (pe_lst (pa_cons pe_str pa_nil)) pa_nil))) (pa_cons (pe_call GFo hr (by rfl) mFo kFo bFo .nil pass0 (pa_cons (pv 3) (pa_cons (pe_lst (pa_cons pe_str pa_nil)) pa_nil))) pa_nil)) (by rfl)) (pss_cons (ps_set (i := 11) scFittingRight.nd rfl (.inl rfl) (pe_and (pe_cmpR op_notN (pv 7) pe_non (nomark _)) (pe_one (pe_cmpR op_notN (pv 8) pe_non (nomark _))))) (pss_cons (ps_set (i := 12) scFittingRight.nd rfl (.inl rfl) (pe_and (pe_cmpR op_notN (pv 9) pe_non (nomark _)) (pe_one (pe_cmpR op_notN (pv 10) pe_non (nomark _))))) (pss_cons (ps_if (pt_cmpR op_ne (pe_callB (call_repr gd hr.units) (by rfl) frepr (by decide +kernel) (pa_cons (pe_call GFd hr (by rfl) mFd kFd bFd .nil passX (pa_cons (pv 2) (pa_cons (pv 3) pa_nil))) pa_nil)) (pe_callB (call_repr gd hr.units) (by rfl) frepr (by decide +kernel) (pa_cons (pe_tup (pa_cons (pv 6) (pa_cons (pv 11) (pa_cons (pv 12) pa_nil)))) pa_nil)) (nomark _)) (pss_one (ps_ret pe_bl)) pss_nil) (pss_cons (ps_set (i := 13) scFittingRight.nd rfl (.inr rfl) (pe_call GOf hr (by rfl) mOf kOf bOf .nil pass0 (pa_cons (pv 0) (pa_cons (pe_lst (pa_cons (pe_callTy call_list_of (by rfl) flist (by decide +kernel) (pa_cons (pv 2) pa_nil)) (pa_cons pe_non (pa_cons (pe_tup (pa_cons (pe_tup (pa_cons pe_str (pa_cons pe_int (pa_cons pe_int pa_nil)))) pa_nil)) (pa_cons (pe_tup (pa_cons (pe_tup (pa_cons pe_str (pa_cons pe_int pa_nil))) pa_nil)) (pa_cons pe_int (pa_cons (pe_tup (pa_cons (pe_tup (pa_cons pe_str (pa_cons (pe_tup (pa_cons pe_int (pa_cons pe_int pa_nil))) (pa_cons pe_str (pa_cons pe_int pa_nil))))) pa_nil)) pa_nil))))))) pa_nil)))) (pss_cons (ps_set (i := 14) scFittingRight.nd rfl (.inl rfl) (pe_lst (pa_cons (pe_ix ix_tup (pe_heard (ι := Unit) (D := fun _ => lamFittingRight 0) (k := (k+6)) FH bH (by rfl) gH gS hr (pe_lam M (lamFittingRight_sc 0 (by omega)) (by rfl)) (fun _ => lamFittingRight_sc 0 (by omega)) (fun _ _ _ _ => by rfl) (fun _ A' outer' s' H' E' f' c' hr' => pe_call (X := lamCx _ A' outer' s' H' E' (lamFittingRight 0).scope f' c') GFi hr' (by rfl) mFi kFi bFi .nil VG.passL (pa_cons (pv 13) (pa_cons pe_non pa_nil)))) pe_int (fun _ _ => rfl)) pa_nil))) (pss_cons (ps_expr (pe_bm PySem.F.plainAttrs_list PySem.F.slot_list_append PySem.F.type_list_append mt_append (pv 14) (pa_cons (pe_ix ix_tup (pe_heard (ι := Unit) (D := fun _ => lamFittingRight 1) (k := (k+6)) FH bH (by rfl) gH gS hr (pe_lam M (lamFittingRight_sc 1 (by omega)) (by rfl)) (fun _ => lamFittingRight_sc 1 (by omega)) (fun _ _ _ _ => by rfl) (fun _ A' outer' s' H' E' f' c' hr' => pe_callK0 (X := lamCx _ A' outer' s' H' E' (lamFittingRight 1).scope f' c') GFiK hr' (by rfl) mFiK kFiK bFiK VG.passL (pk_cons (pv 2) (pk_cons (pv 13) pk_nil)))) pe_int (fun _ _ => rfl)) pa_nil))) (pss_one (ps_if (pt_not (pt_val (pe_callB (cr_all rfl) (by rfl) fall (by decide +kernel) (pa_cons (pe_lc (own := [("one", 15)]) (g := (gName 15)) (tt := tYes) rfl scFittingRight.nd (pi_list (pv 14)) (blkOk_by (N := ["pot", "lap", "sent", "received", "string", "buffer", "words", "pages", "window", "right", "place", "has_pages", "has_right", "bad", "caughts", "one"]) (sc := defScope sFittingRight) (by decide +kernel)) (fun _ _ _ _ _ => (pg_name (i := 15) scFittingRight.nd rfl (.inl rfl))) (fun _ _ _ _ _ => pts_nil) (fun _ _ _ _ _ => (pe_and (pe_callB (show CallR _ (.builtin "isinstance") (rIsErrB K) from call_isErrB) (by rfl) fisinstance (by decide +kernel) (pa_cons (pv 15) (pa_cons (pgr (by rfl) gBadRows) pa_nil))) (pe_one (pe_cmpR op_eq (pe_callB (show CallR _ (.builtin "repr") (rRepr K) from call_repr gd hr.units) (by rfl) frepr (by decide +kernel) (pa_cons (show PE _ _ (tErrF K "value" _) from pe_errF (pv 15)) pa_nil)) (pe_callB (show CallR _ (.builtin "repr") (rRepr K) from call_repr gd hr.units) (by rfl) frepr (by decide +kernel) (pa_cons (pv 13) pa_nil)) (nomark _)))))) pa_nil)))) (pss_one (ps_ret pe_bl)) pss_nil)))))))))))))) (pss_one (ps_ret pe_bl))), ?_⟩
    refine ⟨8, rfl, by omega, by omega, ?_⟩
    refine for_range (n := 8) (fun i σ H' => ∃ y1 y2 y3 y4 y5 y6 y7 y8 y9 y10 y11 y12 y13 y14 y15, σ = [some (.ref p), y1, y2, y3, y4, y5, y6, y7, y8, y9, y10, y11, y12, y13, y14, y15] ∧ Pot H' p (n + 100 * i) ∧ ExtP p H H' ∧ Tabs T H') ⟨_, _, _, _, _, _, _, _, _, _, _, _, _, _, _, rfl, hp, fun b o e _ _ => e, hT⟩ (fun i σ Hi hi hP => ?_) fun σ H' hP => ?_
    · obtain ⟨y1, y2, y3, y4, y5, y6, y7, y8, y9, y10, y11, y12, y13, y14, y15, rfl, hp, ex, ht⟩ := hP
      have hpl := pot_lst hp
      refine ⟨.ref p, rfl, p, _, rfl, hp, by omega, fun Ha c1 r1 i1 hpa sa g1 k1 d1 nc1 => ?_⟩
      refine ⟨.ref p, rfl, p, _, rfl, hpa, by omega, fun Hb c2 r2 i2 hpb sb g2 k2 d2 nc2 => ?_⟩
      have g1 := g1.same sb
      have ss := sa.trans sb
      clear sa sb hp hpa nc1 nc2
      refine ⟨by show 2 ≤ sizeLine; decide, fun P2 nP2 => ?_⟩
      have sP := same_upd (o := .tup [V.ref c1, .ref c2]) nP2
      refine ⟨P2, [.ref c1, .ref c2], rfl, SqT.of upd_same, rfl, .ref c1, [.ref c2], rfl, .ref c2, [], rfl, rfl, ?_⟩
      have gw := g1.same (wo_same_of (a := p) sP)
      have g1 := Good.same wo_le gw
      have g2 := Good.same wo_le (g2.same (wo_same_of (a := p) sP))
      have hp := hpb.same sP
      have ss := ss.trans (wo_same_of sP)
      generalize upd Hb P2 (.tup [V.ref c1, .ref c2]) = Hc at gw g1 g2 hp ss ⊢
      clear sP hpb
      have s : Same Hc Hc := Same.refl _
      refine ⟨.ref c1, rfl, by show 1 ≤ sizeLine; decide, fun kl1 nk => ?_⟩
      dsimp only [tNil]
      refine first_to (c := c1) (kl := kl1) (zs := ["string"]) (g1.same (s.trans (same_upd (o := .lst [V.str "string"]) nk))) k1 upd_same fun Hf1 vs_ s' fs => ?_
      have s := (s.trans (same_upd (o := .lst [V.str "string"]) nk)).trans s'
      clear s' nk
      refine ⟨.ref c2, rfl, by show 1 ≤ sizeLine; decide, fun kl2 nk => ?_⟩
      dsimp only [tNil]
      refine first_to (c := c2) (kl := kl2) (zs := ["buffer"]) (g2.same (s.trans (same_upd (o := .lst [V.str "buffer"]) nk))) k2 upd_same fun Hf2 vb s' fb => ?_
      have s := (s.trans (same_upd (o := .lst [V.str "buffer"]) nk)).trans s'
      have fs := fs.same ((same_upd (o := .lst [V.str "buffer"]) nk).trans s')
      clear s' nk
      refine ⟨_, _, rfl, ?_⟩
      refine orT (x := !has "string" i1) (y := !has "buffer" i2) (fun R r => ⟨_, rfl, rfl, _, rfl, by rw [fs.non]; exact r⟩) (fun _ R r => ⟨_, rfl, rfl, _, rfl, by rw [fb.non]; exact r⟩) ?_
      refine both (fun v H' => v = .int (least (sumOf "string" i1) (sumOf "buffer" i2)) ∧ H' = Hf2) (fun e R r => ?_) (fun e R r => ?_) fun v H' hv => ?_
      · exact r _ _ ⟨congrArg V.int (least_none g1 g2 d1 d2 e).symm, rfl⟩
      · have e := Bool.or_eq_false_iff.mp e
        obtain ⟨a1, z1, q1, ar, rfl, q1'⟩ := fs.str (by simpa using e.1) d1
        obtain ⟨a2, z2, q2, br, rfl, q2'⟩ := fb.buf (by simpa using e.2) d2
        refine ⟨.ref ar, rfl, ar, _, 2, _, rfl, rfl, q1', at2, .ref br, rfl, br, _, 2, _, rfl, rfl, q2', at2, _, _, rfl, ?_⟩
        exact r _ _ ⟨by rw [← q1, ← q2]; rfl, rfl⟩
      obtain ⟨rfl, rfl⟩ := hv
      refine ⟨.ref c1, rfl, by show 2 ≤ sizeLine; decide, fun kl3 nk => ?_⟩
      dsimp only [tNil]
      refine first_to (c := c1) (kl := kl3) (zs := ["map", "grant"]) (g1.same (s.trans (same_upd (o := .lst [V.str "map", .str "grant"]) nk))) k1 upd_same fun Hf3 vm s' fm => ?_
      have s := (s.trans (same_upd (o := .lst [V.str "map", .str "grant"]) nk)).trans s'
      clear s' nk
      refine ⟨.ref c2, rfl, by show 1 ≤ sizeLine; decide, fun kl4 nk => ?_⟩
      dsimp only [tNil]
      refine first_to (c := c2) (kl := kl4) (zs := ["window"]) (g2.same (s.trans (same_upd (o := .lst [V.str "window"]) nk))) k2 upd_same fun Hf4 vw s' fw => ?_
      have s := (s.trans (same_upd (o := .lst [V.str "window"]) nk)).trans s'
      clear s' nk
      refine ⟨_, _, rfl, ?_⟩
      refine ⟨.ref c1, rfl, by show 1 ≤ sizeLine; decide, fun kl5 nk => ?_⟩
      dsimp only [tNil]
      refine first_to (c := c1) (kl := kl5) (zs := ["right"]) (g1.same (s.trans (same_upd (o := .lst [V.str "right"]) nk))) k1 upd_same fun Hf5 vr s' fr => ?_
      have s := (s.trans (same_upd (o := .lst [V.str "right"]) nk)).trans s'
      clear s' nk
      refine ⟨.ref c2, rfl, by show 1 ≤ sizeLine; decide, fun kl6 nk => ?_⟩
      dsimp only [tNil]
      refine first_to (c := c2) (kl := kl6) (zs := ["place"]) (g2.same (s.trans (same_upd (o := .lst [V.str "place"]) nk))) k2 upd_same fun Hf6 vp s' fp => ?_
      have s := (s.trans (same_upd (o := .lst [V.str "place"]) nk)).trans s'
      clear s' nk
      refine ⟨_, _, rfl, ?_⟩
      try dsimp only [gName, tSeq, tAsg, tIfS]
      refine andIs (x := has "map" i1 || has "grant" i1) (y := has "window" i2) (fun R r => ⟨_, rfl, rfl, by rw [fm.non2, Bool.not_not]; exact r⟩) (fun R r => ⟨_, rfl, rfl, by rw [fw.non, Bool.not_not]; exact r⟩) ?_
      try dsimp only [gName, tSeq, tAsg, tIfS]
      refine andIs (x := has "right" i1) (y := has "place" i2) (fun R r => ⟨_, rfl, rfl, by rw [fr.non, Bool.not_not]; exact r⟩) (fun R r => ⟨_, rfl, rfl, by rw [fp.non, Bool.not_not]; exact r⟩) ?_
      clear fs fb fm fw fr fp
      refine ⟨.ref c1, rfl, .ref c2, rfl, .ref c1, .ref c2, rfl, .inr (.inr ⟨c1, c2, r1, r2, i1, i2, rfl, rfl, g1.same s, g2.same s, fun Hg t sg htu => ?_⟩)⟩
      have okr := res_ok g1 g2 d1 d2 ((has "map" i1 || has "grant" i1) && has "window" i2) (has "right" i1 && has "place" i2)
      refine ⟨.ref t, _, rfl, .dp (res_dp htu), okr, ?_⟩
      refine ⟨_, rfl, _, rfl, _, rfl, by show 3 ≤ sizeLine; decide, fun t2 nt2 => ?_⟩
      refine ⟨.ref t2, _, rfl, .dp (res_dp (SqT.of upd_same)), okr, rfl, _, rfl, ite2 (fun e => same_ne e) fun _ => ?_⟩
      have s := (s.trans sg).trans (same_upd (o := .tup [.int (least (sumOf "string" i1) (sumOf "buffer" i2)), .bl ((has "map" i1 || has "grant" i1) && has "window" i2), .bl (has "right" i1 && has "place" i2)]) nt2)
      generalize upd Hg t2 (.tup [.int (least (sumOf "string" i1) (sumOf "buffer" i2)), .bl ((has "map" i1 || has "grant" i1) && has "window" i2), .bl (has "right" i1 && has "place" i2)]) = Hh at s ⊢
      have gw := gw.same (wo_same_of (a := p) s)
      have g1 := g1.same s
      have hp := hp.same s
      have ss := ss.trans (wo_same_of s)
      clear s sg htu nt2 g2 okr
      try dsimp only [gName, List.set]
      have sq : Same (wo Hh p) (wo Hh p) := Same.refl _
      refine ⟨.ref p, rfl, .ref c1, rfl, c1, _, rfl, .inr g1.s, fun LS nLS => ?_⟩
      have hLS : upd Hh LS (.lst (r1.map V.ref)) LS = some (.lst (r1.map V.ref)) := upd_same
      have eLS := hp.ne nLS
      have hp := hp.upd (o := (.lst (r1.map V.ref))) eLS
      have sq := sq.trans (wo_same_of (same_upd (o := (.lst (r1.map V.ref))) nLS))
      generalize upd Hh LS (.lst (r1.map V.ref)) = Hq1 at hLS hp sq ⊢
      refine ⟨by show 3 ≤ sizeLine; decide, fun u1 nu1 => ?_⟩
      have hu1 : upd Hq1 u1 (.tup [V.str "string", .int 0, .int 17]) u1 = some (.tup [V.str "string", .int 0, .int 17]) := upd_same
      have eu1 := hp.ne nu1
      have hLS := same_upd (o := (.tup [V.str "string", .int 0, .int 17])) nu1 _ _ hLS
      have hp := hp.upd (o := (.tup [V.str "string", .int 0, .int 17])) eu1
      have sq := sq.trans (wo_same_of (same_upd (o := (.tup [V.str "string", .int 0, .int 17])) nu1))
      generalize upd Hq1 u1 (.tup [V.str "string", .int 0, .int 17]) = Hq2 at hu1 hp sq hLS ⊢
      refine ⟨by show 1 ≤ sizeLine; decide, fun u2 nu2 => ?_⟩
      have hu2 : upd Hq2 u2 (.tup [V.ref u1]) u2 = some (.tup [V.ref u1]) := upd_same
      have eu2 := hp.ne nu2
      have hLS := same_upd (o := (.tup [V.ref u1])) nu2 _ _ hLS
      have hu1 := same_upd (o := (.tup [V.ref u1])) nu2 _ _ hu1
      have hp := hp.upd (o := (.tup [V.ref u1])) eu2
      have sq := sq.trans (wo_same_of (same_upd (o := (.tup [V.ref u1])) nu2))
      generalize upd Hq2 u2 (.tup [V.ref u1]) = Hq3 at hu2 hp sq hLS hu1 ⊢
      refine ⟨by show 2 ≤ sizeLine; decide, fun v1 nv1 => ?_⟩
      have hv1 : upd Hq3 v1 (.tup [V.str "place", .int 16]) v1 = some (.tup [V.str "place", .int 16]) := upd_same
      have ev1 := hp.ne nv1
      have hLS := same_upd (o := (.tup [V.str "place", .int 16])) nv1 _ _ hLS
      have hu1 := same_upd (o := (.tup [V.str "place", .int 16])) nv1 _ _ hu1
      have hu2 := same_upd (o := (.tup [V.str "place", .int 16])) nv1 _ _ hu2
      have hp := hp.upd (o := (.tup [V.str "place", .int 16])) ev1
      have sq := sq.trans (wo_same_of (same_upd (o := (.tup [V.str "place", .int 16])) nv1))
      generalize upd Hq3 v1 (.tup [V.str "place", .int 16]) = Hq4 at hv1 hp sq hLS hu1 hu2 ⊢
      refine ⟨by show 1 ≤ sizeLine; decide, fun v2 nv2 => ?_⟩
      have hv2 : upd Hq4 v2 (.tup [V.ref v1]) v2 = some (.tup [V.ref v1]) := upd_same
      have ev2 := hp.ne nv2
      have hLS := same_upd (o := (.tup [V.ref v1])) nv2 _ _ hLS
      have hu1 := same_upd (o := (.tup [V.ref v1])) nv2 _ _ hu1
      have hu2 := same_upd (o := (.tup [V.ref v1])) nv2 _ _ hu2
      have hv1 := same_upd (o := (.tup [V.ref v1])) nv2 _ _ hv1
      have hp := hp.upd (o := (.tup [V.ref v1])) ev2
      have sq := sq.trans (wo_same_of (same_upd (o := (.tup [V.ref v1])) nv2))
      generalize upd Hq4 v2 (.tup [V.ref v1]) = Hq5 at hv2 hp sq hLS hu1 hu2 hv1 ⊢
      refine ⟨by show 2 ≤ sizeLine; decide, fun w1 nw1 => ?_⟩
      have hw1 : upd Hq5 w1 (.tup [V.int 1, .int 2]) w1 = some (.tup [V.int 1, .int 2]) := upd_same
      have ew1 := hp.ne nw1
      have hLS := same_upd (o := (.tup [V.int 1, .int 2])) nw1 _ _ hLS
      have hu1 := same_upd (o := (.tup [V.int 1, .int 2])) nw1 _ _ hu1
      have hu2 := same_upd (o := (.tup [V.int 1, .int 2])) nw1 _ _ hu2
      have hv1 := same_upd (o := (.tup [V.int 1, .int 2])) nw1 _ _ hv1
      have hv2 := same_upd (o := (.tup [V.int 1, .int 2])) nw1 _ _ hv2
      have hp := hp.upd (o := (.tup [V.int 1, .int 2])) ew1
      have sq := sq.trans (wo_same_of (same_upd (o := (.tup [V.int 1, .int 2])) nw1))
      generalize upd Hq5 w1 (.tup [V.int 1, .int 2]) = Hq6 at hw1 hp sq hLS hu1 hu2 hv1 hv2 ⊢
      refine ⟨by show 4 ≤ sizeLine; decide, fun w2 nw2 => ?_⟩
      have hw2 : upd Hq6 w2 (.tup [V.str "map", .ref w1, .str "r", .int 0]) w2 = some (.tup [V.str "map", .ref w1, .str "r", .int 0]) := upd_same
      have ew2 := hp.ne nw2
      have hLS := same_upd (o := (.tup [V.str "map", .ref w1, .str "r", .int 0])) nw2 _ _ hLS
      have hu1 := same_upd (o := (.tup [V.str "map", .ref w1, .str "r", .int 0])) nw2 _ _ hu1
      have hu2 := same_upd (o := (.tup [V.str "map", .ref w1, .str "r", .int 0])) nw2 _ _ hu2
      have hv1 := same_upd (o := (.tup [V.str "map", .ref w1, .str "r", .int 0])) nw2 _ _ hv1
      have hv2 := same_upd (o := (.tup [V.str "map", .ref w1, .str "r", .int 0])) nw2 _ _ hv2
      have hw1 := same_upd (o := (.tup [V.str "map", .ref w1, .str "r", .int 0])) nw2 _ _ hw1
      have hp := hp.upd (o := (.tup [V.str "map", .ref w1, .str "r", .int 0])) ew2
      have sq := sq.trans (wo_same_of (same_upd (o := (.tup [V.str "map", .ref w1, .str "r", .int 0])) nw2))
      generalize upd Hq6 w2 (.tup [V.str "map", .ref w1, .str "r", .int 0]) = Hq7 at hw2 hp sq hLS hu1 hu2 hv1 hv2 hw1 ⊢
      refine ⟨by show 1 ≤ sizeLine; decide, fun w3 nw3 => ?_⟩
      have hw3 : upd Hq7 w3 (.tup [V.ref w2]) w3 = some (.tup [V.ref w2]) := upd_same
      have ew3 := hp.ne nw3
      have hLS := same_upd (o := (.tup [V.ref w2])) nw3 _ _ hLS
      have hu1 := same_upd (o := (.tup [V.ref w2])) nw3 _ _ hu1
      have hu2 := same_upd (o := (.tup [V.ref w2])) nw3 _ _ hu2
      have hv1 := same_upd (o := (.tup [V.ref w2])) nw3 _ _ hv1
      have hv2 := same_upd (o := (.tup [V.ref w2])) nw3 _ _ hv2
      have hw1 := same_upd (o := (.tup [V.ref w2])) nw3 _ _ hw1
      have hw2 := same_upd (o := (.tup [V.ref w2])) nw3 _ _ hw2
      have hp := hp.upd (o := (.tup [V.ref w2])) ew3
      have sq := sq.trans (wo_same_of (same_upd (o := (.tup [V.ref w2])) nw3))
      generalize upd Hq7 w3 (.tup [V.ref w2]) = Hq8 at hw3 hp sq hLS hu1 hu2 hv1 hv2 hw1 hw2 ⊢
      refine ⟨by show 6 ≤ sizeLine; decide, fun bl nbl => ?_⟩
      have hbl : upd Hq8 bl (.lst [V.ref LS, .non, .ref u2, .ref v2, .int 7, .ref w3]) bl = some (.lst [V.ref LS, .non, .ref u2, .ref v2, .int 7, .ref w3]) := upd_same
      have ebl := hp.ne nbl
      have hLS := same_upd (o := (.lst [V.ref LS, .non, .ref u2, .ref v2, .int 7, .ref w3])) nbl _ _ hLS
      have hu1 := same_upd (o := (.lst [V.ref LS, .non, .ref u2, .ref v2, .int 7, .ref w3])) nbl _ _ hu1
      have hu2 := same_upd (o := (.lst [V.ref LS, .non, .ref u2, .ref v2, .int 7, .ref w3])) nbl _ _ hu2
      have hv1 := same_upd (o := (.lst [V.ref LS, .non, .ref u2, .ref v2, .int 7, .ref w3])) nbl _ _ hv1
      have hv2 := same_upd (o := (.lst [V.ref LS, .non, .ref u2, .ref v2, .int 7, .ref w3])) nbl _ _ hv2
      have hw1 := same_upd (o := (.lst [V.ref LS, .non, .ref u2, .ref v2, .int 7, .ref w3])) nbl _ _ hw1
      have hw2 := same_upd (o := (.lst [V.ref LS, .non, .ref u2, .ref v2, .int 7, .ref w3])) nbl _ _ hw2
      have hw3 := same_upd (o := (.lst [V.ref LS, .non, .ref u2, .ref v2, .int 7, .ref w3])) nbl _ _ hw3
      have hp := hp.upd (o := (.lst [V.ref LS, .non, .ref u2, .ref v2, .int 7, .ref w3])) ebl
      have sq := sq.trans (wo_same_of (same_upd (o := (.lst [V.ref LS, .non, .ref u2, .ref v2, .int 7, .ref w3])) nbl))
      generalize upd Hq8 bl (.lst [V.ref LS, .non, .ref u2, .ref v2, .int 7, .ref w3]) = Hq9 at hbl hp sq hLS hu1 hu2 hv1 hv2 hw1 hw2 hw3 ⊢
      refine ⟨p, bl, _, _, rfl, SqL.of (wo_at hbl ebl), by simp, (by show 6 ≤ 1000; decide), hp, by omega, fun xb hxb Hq10 hpN sN => ?_⟩
      have hLS := car sN hLS eLS
      have hu1 := car sN hu1 eu1
      have hu2 := car sN hu2 eu2
      have hv1 := car sN hv1 ev1
      have hv2 := car sN hv2 ev2
      have hw1 := car sN hw1 ew1
      have hw2 := car sN hw2 ew2
      have hw3 := car sN hw3 ew3
      have hbl := car sN hbl ebl
      replace hp := hpN
      replace sq := sq.trans sN
      clear hpN sN
      clear hbl
      have g1 := Good.same wo_le (gw.same sq)
      have hT := tabs_wo ht hpl (ss.trans sq)
      have toP : ∀ {H' : Hp}, ExtN Hq10 H' → ExtP p H H' := fun {H'} e b o z ne nt => e b o (wo_le _ _ (sq _ _ (ss _ _ (wo_at (ex b o z ne nt) ne)))) nt
      obtain ⟨db, hdb, rb, okb⟩ : ∃ d, Dk K Hq10 xb d ∧ Rowsy K Hq10 xb false ∧ okData d = true := by
        simp only [List.mem_cons, List.not_mem_nil, or_false] at hxb
        rcases hxb with rfl | rfl | rfl | rfl | rfl | rfl
        · exact ⟨.list (i1.map dIt), .dp (.lst (SqL.of hLS) g1.a.dp), .inl ⟨_, .dp (.lst (SqL.of hLS) g1.a.dp), (by show "list" ≠ "tuple"; decide), rfl⟩, okItL k1 (by rw [← g1.a.len]; exact g1.l)⟩
        · exact ⟨.none, .dp .non, .inl ⟨_, .dp .non, (by show "NoneType" ≠ "tuple"; decide), rfl⟩, by decide +kernel⟩
        · have hi : IsItem K Hq10 u1 (.str 0 17) := ⟨u1, SqT.of hu1, trivial⟩
          exact ⟨.tuple [dIt (.str 0 17)], .dp (.tup (SqT.of hu2) (.cons hi.dp .nil)), .inr ⟨u2, [u1], [.str 0 17], rfl, SqT.of hu2, ⟨hi, trivial⟩, (fun it h => by rw [List.mem_singleton.mp h]; trivial), (by show 1 ≤ 20; decide), rfl⟩, by decide +kernel⟩
        · have hi : IsItem K Hq10 v1 (.plc 16) := ⟨v1, SqT.of hv1, trivial⟩
          exact ⟨.tuple [dIt (.plc 16)], .dp (.tup (SqT.of hv2) (.cons hi.dp .nil)), .inr ⟨v2, [v1], [.plc 16], rfl, SqT.of hv2, ⟨hi, trivial⟩, (fun it h => by rw [List.mem_singleton.mp h]; trivial), (by show 1 ≤ 20; decide), rfl⟩, by decide +kernel⟩
        · exact ⟨.int 7, .dp (.int _), .inl ⟨_, .dp (.int _), (by show "int" ≠ "tuple"; decide), rfl⟩, by decide +kernel⟩
        · have hi : IsItem K Hq10 w2 (.map 1 2 "r" 0) := ⟨w1, SqT.of hw2, SqT.of hw1⟩
          exact ⟨.tuple [dIt (.map 1 2 "r" 0)], .dp (.tup (SqT.of hw3) (.cons hi.dp .nil)), .inr ⟨w3, [w2], [.map 1 2 "r" 0], rfl, SqT.of hw3, ⟨hi, trivial⟩, (fun it h => by rw [List.mem_singleton.mp h]; exact ⟨⟨by decide, by decide, by simp⟩, by decide⟩), (by show 1 ≤ 20; decide), rfl⟩, by decide +kernel⟩
      clear hxb hLS hu1 hu2 hv1 hv2 hw1 hw2 hw3 gw sq ss ht
      refine ⟨hT, fun f0 F0 e0 t0 l0 nf0 => ⟨(), f0, rfl, l0, fun H5 s5 E' Q' hE hB => ?_⟩⟩
      have e5 := e0.trans (ExtN.of s5)
      refine ⟨xb, rfl, xb, .non, rfl, .inl ⟨rb.extN e5, fun H6 dd s6 nd => hE _ _ _ ⟨X3.x, C3, dd, rfl, rfl, fun ea pt nea npt => ?_⟩⟩⟩
      clear hE hB
      have sd := same_upd (o := .xd [("value", xb)]) nd
      have se := same_upd (o := ErrO C3 dd ea) nea
      have sp := same_upd (o := .tup [V.ref ea, .non]) npt
      have herr := sp _ _ (upd_same (H := upd H6 dd (.xd [("value", xb)])) (a := ea) (o := ErrO C3 dd ea))
      have hdd := (se.trans sp) _ _ (upd_same (H := H6) (a := dd) (o := .xd [("value", xb)]))
      refine ⟨pt, [.ref ea, .non], 0, .ref ea, rfl, rfl, SqT.of upd_same, at0, ?_⟩
      have s11 := s6.trans ((sd.trans se).trans sp)
      have e6 := e5.trans (ExtN.of s11)
      have t6 := (t0.ext s5).ext s11
      generalize upd (upd (upd H6 dd (.xd [("value", xb)])) ea (ErrO C3 dd ea)) pt (.tup [V.ref ea, .non]) = H7 at herr hdd e6 t6 ⊢
      clear sd se sp s11 nea npt nd s6 s5 e5
      refine ⟨by show 1 ≤ sizeLine; decide, fun CL nCL => ?_⟩
      have sl := same_upd (o := .lst [V.ref ea]) nCL
      have hCL : upd H7 CL (.lst [V.ref ea]) CL = some (.lst [V.ref ea]) := upd_same
      have nCL0 := none_ext e6 nCL
      have herr := sl _ _ herr
      have hdd := sl _ _ hdd
      have e7 := e6.trans (ExtN.of sl)
      have t7 := t6.ext sl
      generalize upd H7 CL (.lst [V.ref ea]) = H8 at hCL herr hdd e7 t7 ⊢
      clear sl nCL e6 t6
      refine ⟨.ref CL, rfl, .inl ⟨rfl, _, SqL.of hCL⟩, t7, fun f1 F1 e1 t1 l1 nf1 => ⟨(), f1, rfl, l1, fun H9 s9 E' Q' hE hB => ?_⟩⟩
      have e8 := e1.trans (ExtN.of s9)
      have e9 := e7.trans e8
      refine ⟨.ref c1, rfl, xb, rfl, .ref c1, xb, rfl, .inr (.inl ⟨(g1.rowsy).extN e9, rb.extN e9, fun H10 dd2 s10 nd => hE _ _ _ ⟨X3.x, C3, dd2, rfl, rfl, fun ea2 pt nea npt => ?_⟩⟩)⟩
      clear hE hB
      have sd := same_upd (o := .xd [("value", xb)]) nd
      have se := same_upd (o := ErrO C3 dd2 ea2) nea
      have sp := same_upd (o := .tup [V.ref ea2, .non]) npt
      have herr2 := sp _ _ (upd_same (H := upd H10 dd2 (.xd [("value", xb)])) (a := ea2) (o := ErrO C3 dd2 ea2))
      have hdd2 := (se.trans sp) _ _ (upd_same (H := H10) (a := dd2) (o := .xd [("value", xb)]))
      refine ⟨pt, [.ref ea2, .non], 0, .ref ea2, rfl, rfl, SqT.of upd_same, at0, ?_⟩
      have s11 := s10.trans ((sd.trans se).trans sp)
      have e11 := e8.trans (ExtN.of s11)
      have t11 := (t1.ext s9).ext s11
      have hCL := e11 _ _ hCL (fun ps z => by cases z)
      have herr := e11 _ _ herr (fun ps z => by unfold ErrO at z; cases z)
      have hdd := e11 _ _ hdd (fun ps z => by cases z)
      generalize upd (upd (upd H10 dd2 (.xd [("value", xb)])) ea2 (ErrO C3 dd2 ea2)) pt (.tup [V.ref ea2, .non]) = H11 at herr hdd herr2 hdd2 hCL e11 t11 ⊢
      clear sd se sp s11 nea npt nd s10 s9 e8 e9
      refine ⟨CL, _, _, rfl, rfl, hCL, by show 1 < sizeLine; decide, ?_⟩
      have herr := keepE (o := .lst ([V.ref ea] ++ [.ref ea2])) herr hCL
      have herr2 := keepE (o := .lst ([V.ref ea] ++ [.ref ea2])) herr2 hCL
      have hdd := keepX (o := .lst ([V.ref ea] ++ [.ref ea2])) hdd hCL
      have hdd2 := keepX (o := .lst ([V.ref ea] ++ [.ref ea2])) hdd2 hCL
      have e12 := extN_upd (o := .lst ([V.ref ea] ++ [.ref ea2])) (e7.trans e11) nCL0
      have t12 := tabs_upd (o := .lst ([V.ref ea] ++ [.ref ea2])) t11 hCL
      have hCL : upd H11 CL (.lst ([V.ref ea] ++ [.ref ea2])) CL = some (.lst ([V.ref ea] ++ [.ref ea2])) := upd_same
      generalize upd H11 CL (.lst ([V.ref ea] ++ [.ref ea2])) = H12 at hCL herr herr2 hdd hdd2 e12 t12 ⊢
      clear e11 t11 e7 t7 nCL0
      try dsimp only [gName, List.set]
      have hdk := dk_extN hdb e12
      refine ⟨.ref CL, rfl, CL, rfl, ⟨_, SqL.of hCL⟩, fun D nD => ?_⟩
      refine lc_list (xs := [V.ref ea] ++ [.ref ea2]) (fun i H' => Same H12 H' ∧ H' D = some (.lst ((List.replicate i true).map V.bl))) ⟨same_upd nD, upd_same⟩ (fun i H' _ hP => SqL.of (hP.1 _ _ hCL)) (fun i x H' hx hP => ?_) fun H' hP => ?_
      · obtain ⟨sm, hD⟩ := hP
        obtain ⟨ee, de, rfl, h1, h2, hi2⟩ : ∃ ee de, x = .ref ee ∧ H12 ee = some (ErrO C3 de ee) ∧ H12 de = some (.xd [("value", xb)]) ∧ i < 2 := by
          match i, hx with
          | 0, hx => exact ⟨ea, dd, (Option.some.inj hx).symm, herr, hdd, by decide⟩
          | 1, hx => exact ⟨ea2, dd2, (Option.some.inj hx).symm, herr2, hdd2, by decide⟩
          | i + 2, hx => cases hx
        have hk := Dk.same sm hdk
        refine ⟨rfl, ?_⟩
        unfold tYes
        refine iteT ⟨.ref ee, rfl, ee, C3, C3, de, _, true, rfl, sm _ _ h1, sm _ _ h2, X3.i, kt, true, rfl, iteT ⟨.ref ee, rfl, ee, C3, de, [("value", xb)], xb, rfl, sm _ _ h1, X3.i.f, X3.n, sm _ _ h2, rfl, xb, db, rfl, hk, okb, xb, rfl, xb, db, rfl, hk, okb, rfl, ?_⟩⟩
        refine ⟨_, hD, small1000 (by rw [List.length_map, List.length_replicate]; omega), Same.updNew sm nD, ?_⟩
        rw [upd_same, List.replicate_succ', List.map_append, decide_eq_true rfl]
        rfl
      · obtain ⟨sm, hD⟩ := hP
        refine ⟨D, List.replicate 2 true, rfl, SqL.of hD, ?_⟩
        refine ⟨true, rfl, iteF ?_⟩
        refine ⟨_, _, _, _, _, _, _, _, _, _, _, _, _, _, _, rfl, ?_, toP (e12.trans (ExtN.of sm)), t12.ext sm⟩
        obtain ⟨x1, x2, x3, e, r1, r2, r3, r4⟩ := hp
        exact ⟨x1, x2, x3, sm _ _ (e12 _ _ e (fun ps z => by cases z)), r1, r2, r3, by omega⟩
    · obtain ⟨y1, y2, y3, y4, y5, y6, y7, y8, y9, y10, y11, y12, y13, y14, y15, rfl, hp, ex, ht⟩ := hP
      exact q _ (hp.mono (by omega)) ex ht
end
end K24

set_option maxRecDepth 100000
set_option maxHeartbeats 8000000
/-! k24: the whole of it. -/
namespace K24
open PySem PySem.Spec PyProof.Rows L2 LamX VG
theorem scRight : FnScope ["pot"] ["pot"] (defScope sRight) := ⟨rfl, rfl, rfl, by decide +kernel, rfl, by decide +kernel, by decide +kernel⟩
theorem scLaw : FnScope ["script", "place"] ["script"] (defScope sLaw) := ⟨rfl, rfl, rfl, by decide +kernel, rfl, by decide +kernel, by decide +kernel⟩
section
variable {P : Program} {w : World} {K : PySem.W.Frag} {mg : Str → Option Value} {base : Heap}
def spRight (K : PySem.W.Frag) (T : List (Addr × Str)) : Sp := fun vs H Q _ => ∃ p : Addr, vs = [.ref p] ∧ Pot H p 0 ∧ Tabs T H ∧ ∀ H', ExtP p H H' → Tabs T H' → Q (.bl true) H'
theorem ok_Right {k : Nat} {f : Addr} {fd : FuncData} {T:List (Addr × Str)} (F : Fun K "_law_right" "_law_right" sRight f fd) (gCr : CalG P w K mg base (k + 9) "_law_are_copies_right" ["pot"] (spCopiesRight K)) (gCf : CalG P w K mg base (k + 9) "_law_are_copies_refused" ["pot"] (spCopiesRefused K T)) (gFr : CalG P w K mg base (k + 9) "_law_is_fitting_right" ["pot"] (spFittingRight K T))   : FnG P w K mg base (k + 10) f fd ["pot"] (spRight K T) := by
  obtain ⟨fCr, fdCr, GCr, kCr, bCr, mCr⟩ := gCr
  obtain ⟨fCf, fdCf, GCf, kCf, bCf, mCf⟩ := gCf
  obtain ⟨fFr, fdFr, GFr, kFr, bFr, mFr⟩ := gFr
  refine fnG_of F scRight (fun vs H Q E h => ?_) (fun cdv A outer s H vs Q hr gd h => ?_)
  · obtain ⟨p, rfl, _⟩ := h
    rfl
  · obtain ⟨p, rfl, hp, hT, q⟩ := h
    refine ⟨_, (pss_one (ps_ret (pe_and (pe_callG GCr hr gd (by rfl) mCr kCr bCr (pa_cons (pv 0) pa_nil)) (pe_and (pe_callG GCf hr gd (by rfl) mCf kCf bCf (pa_cons (pv 0) pa_nil)) (pe_one (pe_callG GFr hr gd (by rfl) mFr kFr bFr (pa_cons (pv 0) pa_nil))))))), ?_⟩
    refine ⟨.ref p, rfl, p, 0, rfl, hp, by decide, fun H1 hp1 s1 => ⟨true, rfl, iteT ?_⟩⟩
    refine ⟨.ref p, rfl, p, _, rfl, hp1, by decide, tabs_wo hT (pot_lst hp) s1, fun H2 hp2 e2 t2 => ⟨true, rfl, iteT ?_⟩⟩
    refine ⟨.ref p, rfl, p, _, rfl, hp2, by decide, t2, fun H3 hp3 e3 t3 => ?_⟩
    exact q H3 (fun b o e ne nt => e3 b o (e2 b o (wo_le _ _ (s1 _ _ (wo_at e ne))) ne nt) ne nt) t3
def spLaw (K : PySem.W.Frag) (T : List (Addr × Str)) : Sp := fun vs H Q _ => ∃ (a : Addr) (ns : List Int), vs = [.ref a] ∧ SqL K H a (ns.map V.int) ∧ ns.length ≤ 63 ∧ Tabs T H ∧ ∀ H', Q (.bl true) H'
theorem ok_Law {k : Nat} {f : Addr} {fd : FuncData} {T:List (Addr × Str)} (F : Fun K "law" "law" sLaw f fd) (gRt : CalG P w K mg base (k + 10) "_law_right" ["pot"] (spRight K T)) (gPo : Cal P w K mg base CX0 (k + 10) "_law_pot" ["script", "place"] (spPot K)) (gCe : Cal P w K mg base CX0 (k + 10) "_law_cells" ["script", "most"] (spCells K))  (fall : mg "all" = none) : FnG P w K mg base (k + 11) f fd ["script"] (spLaw K T) := by
  obtain ⟨fRt, fdRt, GRt, kRt, bRt, mRt⟩ := gRt
  obtain ⟨fPo, fdPo, GPo, kPo, bPo, mPo⟩ := gPo
  obtain ⟨fCe, fdCe, GCe, kCe, bCe, mCe⟩ := gCe
  refine fnG_of F scLaw (fun vs H Q E h => ?_) (fun cdv A outer s H vs Q hr gd h => ?_)
  · obtain ⟨a, ns, rfl, _⟩ := h
    rfl
  · obtain ⟨a, ns, rfl, hs, hn, hT, q⟩ := h
    refine ⟨_, (pss_one (ps_ret (pe_callB (cr_all rfl) (by rfl) fall (by decide +kernel) (pa_cons (pe_lc (own := [("place", 1)]) (g := (gName 1)) (tt := tYes) rfl scLaw.nd (pi_list (pe_call GCe hr (by rfl) mCe kCe bCe .nil pass0 (pa_cons (pv 0) (pa_cons pe_int pa_nil)))) (blkOk_by (N := ["script", "place"]) (sc := defScope sLaw) (by decide +kernel)) (fun _ _ _ _ _ => (pg_name (i := 1) scLaw.nd rfl (.inl rfl))) (fun _ _ _ _ _ => pts_nil) (fun _ _ _ _ _ => (pe_callG GRt hr gd (by rfl) mRt kRt bRt (pa_cons (pe_call GPo hr (by rfl) mPo kPo bPo .nil pass0 (pa_cons (pv 0) (pa_cons (pv 1) pa_nil))) pa_nil)))) pa_nil)))), ?_⟩
    refine ⟨.ref a, rfl, a, ns, rfl, hs, hn, fun l m hm nl => ?_⟩
    have s1 := same_upd (o := .lst ((List.range m).map fun i => V.int (i : Nat))) nl
    refine ⟨l, rfl, ⟨_, SqL.of upd_same⟩, fun D nD => ?_⟩
    have s2 := same_upd (o := .lst []) nD
    have hs1 := s1.seq hs
    have hl1 : SqL K (upd H l (.lst ((List.range m).map fun i => V.int (i : Nat)))) l ((List.range m).map fun i => V.int (i : Nat)) := SqL.of upd_same
    have hT1 := hT.ext s1
    generalize upd H l (.lst ((List.range m).map fun i => V.int (i : Nat))) = H0 at nD s2 hs1 hl1 hT1 ⊢
    refine lc_list (xs := (List.range m).map fun i => V.int (i : Nat)) (fun i H' => ExtN H0 H' ∧ Tabs T H' ∧ H' D = some (.lst ((List.replicate i true).map V.bl)))
      ⟨ExtN.of s2, hT1.ext s2, upd_same⟩ (fun i H' _ hP => sqL_extN hl1 hP.1) (fun i x H' hx hP => ?_) fun H2 hP => ?_
    · obtain ⟨en, ht, hD⟩ := hP
      obtain ⟨j, hj, rfl⟩ := List.mem_map.mp (List.mem_of_getElem? hx)
      have hjm := List.mem_range.mp hj
      have hi : i < m := by have := (List.getElem?_eq_some_iff.mp hx).1; rw [List.length_map, List.length_range] at this; exact this
      refine ⟨rfl, ?_⟩
      unfold tYes
      refine iteT ⟨.ref a, rfl, .int (j : Nat), rfl, a, ns, j, rfl, sqL_extN hs1 en, hn, by omega, fun p H3 np s3 hp => ⟨p, rfl, hp, ht.ext s3, fun H4 e4 t4 => ?_⟩⟩
      have nDp : D ≠ p := fun z => by rw [z, np] at hD; cases hD
      have hD4 := e4 _ _ (s3 _ _ hD) nDp (fun ps z => by cases z)
      refine ⟨_, hD4, small1000 (by rw [List.length_map, List.length_replicate]; omega), fun b o e nt => ?_, tabs_upd t4 hD4, ?_⟩
      · rw [upd_ne (ne_of_none e nD)]
        have eb := en b o e nt
        exact e4 b o (s3 b o eb) (fun z => by rw [z, np] at eb; cases eb) nt
      · rw [upd_same, List.replicate_succ', List.map_append]
        rfl
    · obtain ⟨en, ht, hD⟩ := hP
      have ea : (List.replicate ((List.range m).map fun i => V.int (i : Nat)).length true).all id = true := List.all_eq_true.mpr fun x hx => by
        rw [List.eq_of_mem_replicate hx]
        rfl
      refine ⟨D, List.replicate ((List.range m).map fun i => V.int (i : Nat)).length true, rfl, SqL.of hD, ?_⟩
      rw [ea]
      exact q _
end
end K24

set_option maxRecDepth 100000
set_option maxHeartbeats 2000000
/-! k24: the law's call from outside, with some empty tables. -/
namespace K24
open PySem PySem.Spec PyProof.Rows L2 LamX VG
/-- the tables, and the script where the written part has it not -/
def startT (K : PySem.W.Frag) (Ps : List Addr) (a : Addr) (o : Obj) (xs : List V) : Hp := fun b =>
  if b ∈ Ps then some (.tbl #[]) else if b = a then (match K.lookup a with
    | none => some (.frz o (.lst xs))
    | some _ => none) else none
theorem startT_cases {K : PySem.W.Frag} {Ps : List Addr} {a b : Addr} {o : Obj} {xs : List V} {u : HO} (h : startT K Ps a o xs b = some u) : (b ∈ Ps ∧ u = .tbl #[]) ∨ (b = a ∧ K.lookup a = none ∧ u = .frz o (.lst xs)) := by
  unfold startT at h
  by_cases c : b ∈ Ps
  · rw [if_pos c] at h
    exact .inl ⟨c, (Option.some.inj h).symm⟩
  · rw [if_neg c] at h
    by_cases c2 : b = a
    · rw [if_pos c2] at h
      cases hk : K.lookup a with
      | some x =>
        rw [hk] at h
        cases h
      | none =>
        rw [hk] at h
        exact .inr ⟨c2, rfl, (Option.some.inj h).symm⟩
    · rw [if_neg c2] at h
      cases h
theorem call_tops {P : Program} {w : World} {K : PySem.W.Frag} {mg mb : Str → Option Value} {k : Nat} {fa a : Addr} {Ts : List (Addr × Addr)} {fd : FuncData} {x : Str} {sp : Sp} {s : Shared} {us : List Value} {ns : List Int}
    (kin : K.In s.heap) (gl : s.heap.Ns mainGlobals mg) (bl : s.heap.Ns builtinsNs mb) (blb : ∀ y : Str, y ≠ "__name__" → mb y = bootBuiltins y) (nol : s.heap.NoLimit) (gens : s.gens = #[])
    (tabs : ∀ t ∈ Ts, s.heap.get? t.2 = some { cls := .none, data := .fields #[] }) (tabsK : ∀ t ∈ Ts, K.lookup t.2 = none) (cods : ∀ t ∈ Ts, PySem.W.CodeHd s.heap t.1 t.2)
    (bmain : ∃ (bm : Addr) (ob : Obj), mg "__builtins__" = some (.ref bm) ∧ bm ≠ builtinsNs ∧ s.heap.get? bm = some ob ∧ ob.cls = .type "module" ∧ ob.dict = some builtinsNs ∧ ob.data = .plain)
    (scr : s.heap.get? a = some { cls := .type "list", data := .seq us.toArray }) (areI : IntsAre us ns) (short : ns.length ≤ sizeLine) (room : Room k callerA)
    (F : ∀ base : Heap, K.In base → base.Ns mainGlobals mg → (∀ t ∈ Ts, TabB base mg t.1 t.2) → FnG P w K mg base k fa fd [x] sp) (bind : ∀ (s : Shared) (u : Value), BindsTo s fd ⟨[u], []⟩ [(x, u)])
    (keep : ∀ H : Hp, (∀ t ∈ Ts, H t.2 = some (.tbl #[])) → SqL K H a (ns.map V.int) → sp [.ref a] H (fun v _ => v = .bl true) E0) :
    codeAny (model P w) callerA (.call (.ref fa) ⟨[.ref a], []⟩) (fun r s' => r = .ok (.ret (.bool true)) ∧ OldK s.heap s'.heap ∧ s'.os = s.os ∧ AllBare s'.gens) s := by
  have vals := vals_ints areI
  have same_len := areI.length
  have tab : ∀ b ∈ Ts.map (·.2), s.heap.get? b = some { cls := .none, data := .fields #[] } := fun b hb => by
    obtain ⟨t, ht, rfl⟩ := List.mem_map.mp hb
    exact tabs t ht
  generalize hH : startT K (Ts.map (·.2)) a { cls := .type "list", data := .seq us.toArray } (ns.map V.int) = H
  have look : ∀ {b : Addr} {u : HO}, H b = some u → (b ∈ Ts.map (·.2) ∧ u = .tbl #[]) ∨ (b = a ∧ K.lookup a = none ∧ u = .frz { cls := .type "list", data := .seq us.toArray } (.lst (ns.map V.int))) := fun {b u} e => startT_cases (hH ▸ e)
  have apart : a ∉ Ts.map (·.2) := fun z => by
    have e := tab a z
    rw [e] at scr
    exact absurd (congrArg Obj.data (Option.some.inj scr)) (fun y => nomatch y)
  have hP : ∀ b ∈ Ts.map (·.2), H b = some (.tbl #[]) := fun b hb => by rw [← hH]; exact if_pos hb
  have hPt : ∀ t ∈ Ts, H t.2 = some (.tbl #[]) := fun t ht => hP _ (List.mem_map.mpr ⟨t, ht, rfl⟩)
  have hseq : SqL K H a (ns.map V.int) := by
    cases hk : K.lookup a with
    | some o =>
      have e := (kin a o hk).symm.trans scr
      exact .inr ⟨_, us.toArray, _, by rw [hk, Option.some.inj e], rfl, rfl, rfl, by rw [List.size_toArray, same_len]; exact short, by simpa using vals⟩
    | none =>
      refine .inl (.inr ⟨{ cls := .type "list", data := .seq us.toArray }, ?_⟩)
      rw [← hH]
      unfold startT
      rw [if_neg apart, if_pos rfl, hk]
  have sound : HOk P w H s.heap := fun b u e => by
    rcases look e with ⟨hb, rfl⟩ | ⟨rfl, _, rfl⟩
    · exact tab b hb
    · exact ⟨scr, by rw [List.length_map]; exact short, us, _, vals, scr⟩
  -- what is no list and no empty record is not tracked
  have out : ∀ {b : Addr} {o : Obj}, s.heap.get? b = some o → (∀ is n, o.data ≠ .seq is n) → o.data ≠ .fields #[] → H b = none := fun {b o} e n1 n2 => by
    cases q : H b with
    | none => rfl
    | some u =>
      rcases look q with ⟨hb, _⟩ | ⟨rfl, _⟩
      · exact absurd (congrArg Obj.data (Option.some.inj ((tab b hb).symm.trans e))).symm n2
      · exact absurd (congrArg Obj.data (Option.some.inj (scr.symm.trans e))).symm (n1 _ _)
  have outD : ∀ {b : Addr} {o : Obj} {es : Array DictEntry} {n : Nat}, s.heap.get? b = some o → o.data = .dict es n → H b = none := fun {b o es n} e d => out e (fun _ _ z => by rw [d] at z; cases z) fun z => by rw [d] at z; cases z
  have dictK : ∀ {b : Addr} {m : Str → Option Value}, s.heap.Ns b m → (hidT s.heap H).Ns b m := fun {b m} hn => by
    obtain ⟨o, es, n, e, d, r⟩ := hn
    exact ⟨o, es, n, hidT_get e (outD e d), d, r⟩
  have kinB : K.In (hidT s.heap H) := fun b o e => hidT_get (kin b o e) (by
    cases q : H b with
    | none => rfl
    | some u =>
      rcases look q with ⟨hb, _⟩ | ⟨rfl, z, _⟩
      · obtain ⟨t, ht, rfl⟩ := List.mem_map.mp hb
        exact absurd ((tabsK t ht).symm.trans e) fun y => nomatch y
      · exact absurd (z.symm.trans e) fun y => nomatch y)
  have module : L2.Mod K mg (hidT s.heap H) := by
    obtain ⟨ml, e1, e2⟩ := nol
    exact ⟨kinB, dictK gl, ⟨mb, dictK bl, blb⟩, ml, dictK e1, e2⟩
  have table : ∀ t ∈ Ts, TabB (hidT s.heap H) mg t.1 t.2 := fun t ht => by
    have cod := cods t ht
    have tab := tabs t ht
    refine ⟨?_, ?_, fun z => ?_⟩
    · obtain ⟨o, vs, file, tf, flags, tg, inF, text, tt, e1, e2, e3, e4, rest⟩ := cod
      refine ⟨o, vs, file, tf, flags, tg, inF, text, tt, hidT_get e1 (out e1 (fun _ _ y => by rw [e3] at y; cases y) fun y => ?_), e2, e3, e4, rest⟩
      rw [e3] at y
      have y' : vs = #[] := Data.fields.inj y
      rw [y'] at e4
      cases e4
    · obtain ⟨bm, ob, m1, m2, m3, m4, m5, m6⟩ := bmain
      refine ⟨bm, ob, m1, m2, fun y => ?_, fun y => ?_, hidT_get m3 (out m3 (fun _ _ y => by rw [m6] at y; cases y) fun y => by rw [m6] at y; cases y), m4, m5, m6⟩
      · obtain ⟨o, es, n, e, d, _⟩ := gl
        rw [← y, m3] at e
        rw [← Option.some.inj e, m6] at d
        cases d
      · have e := m3.symm.trans (y ▸ tab)
        have d := m6
        rw [Option.some.inj e] at d
        cases d
    · obtain ⟨o, es, n, e, d, _⟩ := gl
      have e' := e.symm.trans (z ▸ tab)
      rw [Option.some.inj e'] at d
      cases d
  have env : Env0 P w K mg (hidT s.heap H) callerA [] s H := ⟨rfl, module, fun b o e => of_hidT e, Nat.le_of_eq (hidT_size _ _), trivial, fun b hb => (List.not_mem_nil hb).elim, sound, .of_eq gens⟩
  refine codeAny_mono ((F _ kinB (dictK gl) table).run callerA [] s H ⟨[.ref a], []⟩ [.ref a] [.ref a] _ room rfl env (bind s (.ref a)) (.cons rfl .nil) (keep H hPt hseq)) fun r s' res => ?_
  match r, res with
  | .ok (.ret u), res =>
    obtain ⟨v, H', same_os, bare, un, sound', rv, ev⟩ := res
    have ev' : v = .bl true := ev
    subst ev'
    obtain rfl : u = Value.bool true := rv
    have stays : ∀ b o, b ∉ Ts.map (·.2) → s.heap.get? b = some o → s'.heap.get? b = some o := fun b o nb e => by
      cases q : H b with
      | none => exact un.keep b o e q (fun z => (List.not_mem_nil z).elim) (by simp)
      | some u =>
        rcases look q with ⟨z, _⟩ | ⟨rfl, _, rfl⟩
        · exact absurd z nb
        · have g := (sound' b _ (un.frzs b _ _ q)).1
          rw [← Option.some.inj (scr.symm.trans e)]
          exact g
    refine ⟨rfl, ⟨fun b o e => ?_, fun b o e => ?_⟩, same_os, bare⟩
    · by_cases hb : b ∈ Ts.map (·.2)
      · obtain ⟨more, hm⟩ := un.tbls b #[] (hP b hb)
        have after : s'.heap.get? b = some { cls := .none, data := .fields (#[] ++ more) } := sound' b _ hm
        obtain ⟨t, ht, rfl⟩ := List.mem_map.mp hb
        obtain rfl := Option.some.inj ((tabs t ht).symm.trans e)
        refine .inr (.inl ⟨((cods t ht).tab (tabs t ht)).isCodeTable, rfl, #[], more, rfl, ?_⟩)
        rw [after]
      · exact .inl (stays b o hb e)
    · by_cases hb : b ∈ Ts.map (·.2)
      · obtain ⟨more, hm⟩ := un.tbls b #[] (hP b hb)
        exact ⟨_, sound' b _ hm⟩
      · exact ⟨o, stays b o hb e⟩
  | .ok .next, res => exact False.elim res
  | .ok .brk, res => exact False.elim res
  | .ok .cont, res => exact False.elim res
  | .error e, res => exact False.elim res
end K24

set_option maxRecDepth 100000
set_option maxHeartbeats 16000000
/-! k24: the end. -/
namespace K24
open PySem PySem.Spec PyProof.Rows L2 LamX VG
def dd (x : Str) (st : Stmt) : He.DefD := ⟨(x, none), x, x, defArgs st, defBody st, defScope st, [], []⟩
def dI (C : Str) : He.DefD := ⟨(C, some "__init__"), "__init__", "CoreError.__init__", defArgs sInit, defBody sInit, defScope sInit, [], []⟩
def fns : List He.DefD := [dd "is_within" sWithin, dd "is_word" sIsWord, dd "is_address" sIsAddress, dd "is_tuple_of" sIsTupleOf, dd "is_block" sIsBlock, dd "copied" sCopied, dd "fitting" sFitting, dd "_is_reach" sIsReach, dd "_many_in" sManyIn, dd "_fits_behind" sFitsBehind, dd "_words_of" sWordsOf, dd "_row_words" sRowWords, dd "_numbers_told" sNumbersTold, dd "_is_one_of" sIsOneOf, dd "_block_word" sBlockWord, dd "_law_pot" sPot, dd "_law_take" sTake, dd "_law_of" sOf, dd "_law_some" sSome, dd "_law_cells" sCells, dd "_law_heard" sHeard, dd "_law_memory" sMemory, dd "_law_copied" sLCopied, dd "_law_are_copies_right" sCopiesRight, dd "_law_are_copies_refused" sCopiesRefused, dd "_law_some_items" sSomeItems, dd "_law_first_of" sFirstOf, dd "_law_is_fitting_right" sFittingRight, dd "_law_right" sRight, dd "law" sLaw, dI "BadMemory", dI "BadAddress", dI "BadRows", dI "BadMany"]
def fas : List He.Fa := [.glo "is_within", .glo "is_word", .glo "is_address", .glo "is_tuple_of", .glo "is_block", .glo "copied", .glo "fitting", .glo "_is_reach", .glo "_many_in", .glo "_fits_behind", .glo "_words_of", .glo "_row_words", .glo "_numbers_told", .glo "_is_one_of", .glo "_block_word", .glo "_law_pot", .glo "_law_take", .glo "_law_of", .glo "_law_some", .glo "_law_cells", .glo "_law_heard", .glo "_law_memory", .glo "_law_copied", .glo "_law_are_copies_right", .glo "_law_are_copies_refused", .glo "_law_some_items", .glo "_law_first_of", .glo "_law_is_fitting_right", .glo "_law_right", .glo "law", .glo "KINDS", .glo "PAGE_LETTERS", .glo "RIGHT_LETTERS", .glo "CoreError", .glo "BadMemory", .glo "BadAddress", .glo "BadRows", .glo "BadMany", .int "NO_BADGE" 65535, .free "abs", .free "all", .free "enumerate", .free "int", .free "isinstance", .free "len", .free "list", .free "max", .free "min", .free "range", .free "repr", .free "str", .free "sum", .free "tuple", .free "type"]
def rfd1 : He.Defn := ("_law_are_copies_refused", none)
def rfd2 : He.Defn := ("_law_is_fitting_right", none)
def cds : List He.Defn := [rfd1, rfd2]
/-- a tuple with no dict -/
def plB (K : PySem.W.Frag) (a : Addr) : Bool := match K.lookup a with
  | some o => decide (o.cls = .type "tuple") && o.dict.isNone
  | none => false
theorem plB_ok {K : PySem.W.Frag} {a : Addr} (h : plB K a = true) : PlainT K a := by
  unfold plB at h
  split at h
  · rename_i o ho
    simp only [Bool.and_eq_true, decide_eq_true_eq, Option.isNone_iff_eq_none] at h
    exact ⟨o, ho, h.1, h.2⟩
  · cases h
def kiB (K : PySem.W.Frag) (a b : Addr) (r : Bool) : Bool := decide (PySem.W.kitOne K (.ref a) (.ref b) = some r)
def er (K : PySem.W.Frag) (C : Str) : Bool := errB K (He.ga K C) (He.ma K (He.ga K C) "__init__") (He.ga K "CoreError") && isCB K (He.ga K C)
def kits (K : PySem.W.Frag) (A B C : Addr) : Bool := (kiB K A A true && (kiB K A B false && kiB K A C false)) && ((kiB K B A false && (kiB K B B true && kiB K B C false)) && (kiB K C A false && (kiB K C B false && kiB K C C true)))
theorem kits_ok {K : PySem.W.Frag} {A B C : Addr} (h : kits K A B C = true) : Kit3 K A B C := by
  unfold kits kiB at h
  simp only [Bool.and_eq_true, decide_eq_true_eq] at h
  obtain ⟨⟨a, b, c⟩, ⟨d, e, f⟩, g, h, i⟩ := h
  intro x y
  match x, y with
  | 0, 0 => exact a
  | 0, 1 => exact b
  | 0, 2 => exact c
  | 1, 0 => exact d
  | 1, 1 => exact e
  | 1, 2 => exact f
  | 2, 0 => exact g
  | 2, 1 => exact h
  | 2, 2 => exact i
theorem er_ok {K : PySem.W.Frag} {C : Str} (h : er K C = true) : ErrC K (He.ga K C) (He.ma K (He.ga K C) "__init__") ∧ Err1 K (He.ga K "CoreError") (He.ga K C) := by
  unfold er at h
  obtain ⟨a, b⟩ := Bool.and_eq_true_iff.mp h
  obtain ⟨E, _, m⟩ := errB_ok a
  exact ⟨E, isCB_ok b, E.noV, m⟩
def tuB (K : PySem.W.Frag) (x : Str) (vs : List V) : Bool := ktB K (He.ga K x) vs && plB K (He.ga K x)
def exs (K : PySem.W.Frag) : Bool := (er K "BadMemory" && (er K "BadAddress" && (er K "BadRows" && er K "BadMany"))) && ((kits K (He.ga K "BadMemory") (He.ga K "BadAddress") (He.ga K "BadMany") && kiB K (He.ga K "BadRows") (He.ga K "BadRows") true) &&
  ((tuB K "KINDS" kindL && (tuB K "PAGE_LETTERS" (pageL.map V.str) && tuB K "RIGHT_LETTERS" (rightL.map V.str))) && decide ((He.cT K rfd1).2 ≠ (He.cT K rfd2).2)))
def tabL (A B : Addr) : List (Addr × Str) := [(A, Str.ofString "_law_are_copies_refused.<locals>." ++ "<lambda>"), (B, Str.ofString "_law_is_fitting_right.<locals>." ++ "<lambda>")]
def cTs (K : PySem.W.Frag) : List (Addr × Addr) := [He.cT K rfd1, He.cT K rfd2]
theorem kw5_vals {vs : List V} {us : List Value} {zs : List V} {ws : List Value} (r : Vals vs us) (rz : Vals zs ws) : Vals (kw5 vs zs) (kw5 us ws) := by
  cases r with
  | nil =>
    cases rz with
    | nil => exact .nil
    | cons a rz =>
    cases rz with
    | nil => exact .nil
    | cons b rz =>
    cases rz with
    | nil => exact .nil
    | cons c rz =>
    cases rz with
    | nil => exact .nil
    | cons d rz =>
    cases rz with
    | nil => exact .nil
    | cons e rz =>
    cases rz with
    | nil => exact .cons e (.cons d (.cons c (.cons b (.cons a .nil))))
    | cons f rz => exact .nil
  | cons a r => exact .nil
theorem kw2_vals {vs : List V} {us : List Value} {zs : List V} {ws : List Value} (r : Vals vs us) (rz : Vals zs ws) : Vals (kw2 vs zs) (kw2 us ws) := by
  cases r with
  | nil =>
    cases rz with
    | nil => exact .nil
    | cons a rz =>
    cases rz with
    | nil => exact .nil
    | cons b rz =>
    cases rz with
    | nil => exact .cons a (.cons b .nil)
    | cons c rz => exact .nil
  | cons a r => exact .nil
theorem all_in {P : Program} {w : World} {K : PySem.W.Frag} {h : Heap} {mg : Str → Option Value} (X : K.In h) (G : h.Ns mainGlobals mg) (c : He.SaysX fas fns [] cds exs w h K) :
    ∃ fd : FuncData, (∀ (s : Shared) (u : Value), BindsTo s fd ⟨[u], []⟩ [("script", u)]) ∧ mg "law" = some (.ref (He.ga K "law")) ∧
      ∀ base : Heap, K.In base → base.Ns mainGlobals mg → (∀ t ∈ cTs K, TabB base mg t.1 t.2) → FnG P w K mg base 11 (He.ga K "law") fd ["script"] (spLaw K (tabL (He.cT K rfd1).2 (He.cT K rfd2).2)) := by
  have sd := c.t.d
  obtain ⟨fd0, D0⟩ := sd.def_ 0 (d := dd "is_within" sWithin) rfl
  have F0 : Fun K "is_within" "is_within" sWithin (He.ga K "is_within") fd0 := defFun D0
  have b0 : L2.Binds K fd0 ["value", "low", "high"] [] := F0.binds (ps := ["value", "low", "high"]) fun _ _ _ _ _ _ us hl => match us, hl with | [_, _, _], _ => rfl
  have g0 := He.glo_ok X G (sd.fact 0 (f := .glo "is_within") rfl)
  obtain ⟨fd1, D1⟩ := sd.def_ 1 (d := dd "is_word" sIsWord) rfl
  have F1 : Fun K "is_word" "is_word" sIsWord (He.ga K "is_word") fd1 := defFun D1
  have b1 : L2.Binds K fd1 ["value"] [] := F1.binds (ps := ["value"]) fun _ _ _ _ _ _ us hl => match us, hl with | [_], _ => rfl
  have g1 := He.glo_ok X G (sd.fact 1 (f := .glo "is_word") rfl)
  obtain ⟨fd2, D2⟩ := sd.def_ 2 (d := dd "is_address" sIsAddress) rfl
  have F2 : Fun K "is_address" "is_address" sIsAddress (He.ga K "is_address") fd2 := defFun D2
  have b2 : L2.Binds K fd2 ["value"] [] := F2.binds (ps := ["value"]) fun _ _ _ _ _ _ us hl => match us, hl with | [_], _ => rfl
  have g2 := He.glo_ok X G (sd.fact 2 (f := .glo "is_address") rfl)
  obtain ⟨fd3, D3⟩ := sd.def_ 3 (d := dd "is_tuple_of" sIsTupleOf) rfl
  have F3 : Fun K "is_tuple_of" "is_tuple_of" sIsTupleOf (He.ga K "is_tuple_of") fd3 := defFun D3
  have b3 : L2.Binds K fd3 ["value", "many"] [] := F3.binds (ps := ["value", "many"]) fun _ _ _ _ _ _ us hl => match us, hl with | [_, _], _ => rfl
  have g3 := He.glo_ok X G (sd.fact 3 (f := .glo "is_tuple_of") rfl)
  obtain ⟨fd4, D4⟩ := sd.def_ 4 (d := dd "is_block" sIsBlock) rfl
  have F4 : Fun K "is_block" "is_block" sIsBlock (He.ga K "is_block") fd4 := defFun D4
  have b4 : L2.Binds K fd4 ["value"] [] := F4.binds (ps := ["value"]) fun _ _ _ _ _ _ us hl => match us, hl with | [_], _ => rfl
  have g4 := He.glo_ok X G (sd.fact 4 (f := .glo "is_block") rfl)
  obtain ⟨fd5, D5⟩ := sd.def_ 5 (d := dd "copied" sCopied) rfl
  have F5 : Fun K "copied" "copied" sCopied (He.ga K "copied") fd5 := defFun D5
  have b5 : L2.Binds K fd5 ["source", "target", "start", "goal", "many"] [] := F5.binds (ps := ["source", "target", "start", "goal", "many"]) fun _ _ _ _ _ _ us hl => match us, hl with | [_, _, _, _, _], _ => rfl
  have g5 := He.glo_ok X G (sd.fact 5 (f := .glo "copied") rfl)
  obtain ⟨fd6, D6⟩ := sd.def_ 6 (d := dd "fitting" sFitting) rfl
  have F6 : Fun K "fitting" "fitting" sFitting (He.ga K "fitting") fd6 := defFun D6
  have b6 : L2.Binds K fd6 ["sent", "received"] [] := F6.binds (ps := ["sent", "received"]) fun _ _ _ _ _ _ us hl => match us, hl with | [_, _], _ => rfl
  have g6 := He.glo_ok X G (sd.fact 6 (f := .glo "fitting") rfl)
  obtain ⟨fd7, D7⟩ := sd.def_ 7 (d := dd "_is_reach" sIsReach) rfl
  have F7 : Fun K "_is_reach" "_is_reach" sIsReach (He.ga K "_is_reach") fd7 := defFun D7
  have b7 : L2.Binds K fd7 ["value"] [] := F7.binds (ps := ["value"]) fun _ _ _ _ _ _ us hl => match us, hl with | [_], _ => rfl
  have g7 := He.glo_ok X G (sd.fact 7 (f := .glo "_is_reach") rfl)
  obtain ⟨fd8, D8⟩ := sd.def_ 8 (d := dd "_many_in" sManyIn) rfl
  have F8 : Fun K "_many_in" "_many_in" sManyIn (He.ga K "_many_in") fd8 := defFun D8
  have b8 : L2.Binds K fd8 ["rows", "kind"] [] := F8.binds (ps := ["rows", "kind"]) fun _ _ _ _ _ _ us hl => match us, hl with | [_, _], _ => rfl
  have g8 := He.glo_ok X G (sd.fact 8 (f := .glo "_many_in") rfl)
  obtain ⟨fd9, D9⟩ := sd.def_ 9 (d := dd "_fits_behind" sFitsBehind) rfl
  have F9 : Fun K "_fits_behind" "_fits_behind" sFitsBehind (He.ga K "_fits_behind") fd9 := defFun D9
  have b9 : L2.Binds K fd9 ["row", "rows"] [] := F9.binds (ps := ["row", "rows"]) fun _ _ _ _ _ _ us hl => match us, hl with | [_, _], _ => rfl
  have g9 := He.glo_ok X G (sd.fact 9 (f := .glo "_fits_behind") rfl)
  obtain ⟨fd10, D10⟩ := sd.def_ 10 (d := dd "_words_of" sWordsOf) rfl
  have F10 : Fun K "_words_of" "_words_of" sWordsOf (He.ga K "_words_of") fd10 := defFun D10
  have b10 : L2.Binds K fd10 ["value"] [] := F10.binds (ps := ["value"]) fun _ _ _ _ _ _ us hl => match us, hl with | [_], _ => rfl
  have g10 := He.glo_ok X G (sd.fact 10 (f := .glo "_words_of") rfl)
  obtain ⟨fd11, D11⟩ := sd.def_ 11 (d := dd "_row_words" sRowWords) rfl
  have F11 : Fun K "_row_words" "_row_words" sRowWords (He.ga K "_row_words") fd11 := defFun D11
  have b11 : L2.Binds K fd11 ["value"] [] := F11.binds (ps := ["value"]) fun _ _ _ _ _ _ us hl => match us, hl with | [_], _ => rfl
  have g11 := He.glo_ok X G (sd.fact 11 (f := .glo "_row_words") rfl)
  obtain ⟨fd12, D12⟩ := sd.def_ 12 (d := dd "_numbers_told" sNumbersTold) rfl
  have F12 : Fun K "_numbers_told" "_numbers_told" sNumbersTold (He.ga K "_numbers_told") fd12 := defFun D12
  have b12 : L2.Binds K fd12 ["kind", "parts"] [] := F12.binds (ps := ["kind", "parts"]) fun _ _ _ _ _ _ us hl => match us, hl with | [_, _], _ => rfl
  have g12 := He.glo_ok X G (sd.fact 12 (f := .glo "_numbers_told") rfl)
  obtain ⟨fd13, D13⟩ := sd.def_ 13 (d := dd "_is_one_of" sIsOneOf) rfl
  have F13 : Fun K "_is_one_of" "_is_one_of" sIsOneOf (He.ga K "_is_one_of") fd13 := defFun D13
  have b13 : L2.Binds K fd13 ["value", "table"] [] := F13.binds (ps := ["value", "table"]) fun _ _ _ _ _ _ us hl => match us, hl with | [_, _], _ => rfl
  have g13 := He.glo_ok X G (sd.fact 13 (f := .glo "_is_one_of") rfl)
  obtain ⟨fd14, D14⟩ := sd.def_ 14 (d := dd "_block_word" sBlockWord) rfl
  have F14 : Fun K "_block_word" "_block_word" sBlockWord (He.ga K "_block_word") fd14 := defFun D14
  have b14 : L2.Binds K fd14 ["block"] [] := F14.binds (ps := ["block"]) fun _ _ _ _ _ _ us hl => match us, hl with | [_], _ => rfl
  have g14 := He.glo_ok X G (sd.fact 14 (f := .glo "_block_word") rfl)
  obtain ⟨fd15, D15⟩ := sd.def_ 15 (d := dd "_law_pot" sPot) rfl
  have F15 : Fun K "_law_pot" "_law_pot" sPot (He.ga K "_law_pot") fd15 := defFun D15
  have b15 : L2.Binds K fd15 ["script", "place"] [] := F15.binds (ps := ["script", "place"]) fun _ _ _ _ _ _ us hl => match us, hl with | [_, _], _ => rfl
  have g15 := He.glo_ok X G (sd.fact 15 (f := .glo "_law_pot") rfl)
  obtain ⟨fd16, D16⟩ := sd.def_ 16 (d := dd "_law_take" sTake) rfl
  have F16 : Fun K "_law_take" "_law_take" sTake (He.ga K "_law_take") fd16 := defFun D16
  have b16 : L2.Binds K fd16 ["pot", "upto"] [] := F16.binds (ps := ["pot", "upto"]) fun _ _ _ _ _ _ us hl => match us, hl with | [_, _], _ => rfl
  have g16 := He.glo_ok X G (sd.fact 16 (f := .glo "_law_take") rfl)
  obtain ⟨fd17, D17⟩ := sd.def_ 17 (d := dd "_law_of" sOf) rfl
  have F17 : Fun K "_law_of" "_law_of" sOf (He.ga K "_law_of") fd17 := defFun D17
  have b17 : L2.Binds K fd17 ["pot", "some"] [] := F17.binds (ps := ["pot", "some"]) fun _ _ _ _ _ _ us hl => match us, hl with | [_, _], _ => rfl
  have g17 := He.glo_ok X G (sd.fact 17 (f := .glo "_law_of") rfl)
  obtain ⟨fd18, D18⟩ := sd.def_ 18 (d := dd "_law_some" sSome) rfl
  have F18 : Fun K "_law_some" "_law_some" sSome (He.ga K "_law_some") fd18 := defFun D18
  have b18 : L2.Binds K fd18 ["pot", "pool", "many"] [] := F18.binds (ps := ["pot", "pool", "many"]) fun _ _ _ _ _ _ us hl => match us, hl with | [_, _, _], _ => rfl
  have g18 := He.glo_ok X G (sd.fact 18 (f := .glo "_law_some") rfl)
  obtain ⟨fd19, D19⟩ := sd.def_ 19 (d := dd "_law_cells" sCells) rfl
  have F19 : Fun K "_law_cells" "_law_cells" sCells (He.ga K "_law_cells") fd19 := defFun D19
  have b19 : L2.Binds K fd19 ["script", "most"] [] := F19.binds (ps := ["script", "most"]) fun _ _ _ _ _ _ us hl => match us, hl with | [_, _], _ => rfl
  have g19 := He.glo_ok X G (sd.fact 19 (f := .glo "_law_cells") rfl)
  obtain ⟨fd20, D20⟩ := sd.def_ 20 (d := dd "_law_heard" sHeard) rfl
  have F20 : Fun K "_law_heard" "_law_heard" sHeard (He.ga K "_law_heard") fd20 := defFun D20
  have b20 : L2.Binds K fd20 ["call"] [] := F20.binds (ps := ["call"]) fun _ _ _ _ _ _ us hl => match us, hl with | [_], _ => rfl
  have g20 := He.glo_ok X G (sd.fact 20 (f := .glo "_law_heard") rfl)
  obtain ⟨fd21, D21⟩ := sd.def_ 21 (d := dd "_law_memory" sMemory) rfl
  have F21 : Fun K "_law_memory" "_law_memory" sMemory (He.ga K "_law_memory") fd21 := defFun D21
  have b21 : L2.Binds K fd21 ["pot"] [] := F21.binds (ps := ["pot"]) fun _ _ _ _ _ _ us hl => match us, hl with | [_], _ => rfl
  have g21 := He.glo_ok X G (sd.fact 21 (f := .glo "_law_memory") rfl)
  obtain ⟨fd22, D22⟩ := sd.def_ 22 (d := dd "_law_copied" sLCopied) rfl
  have F22 : Fun K "_law_copied" "_law_copied" sLCopied (He.ga K "_law_copied") fd22 := defFun D22
  have b22 : L2.Binds K fd22 ["source", "target", "start", "goal", "many"] [] := F22.binds (ps := ["source", "target", "start", "goal", "many"]) fun _ _ _ _ _ _ us hl => match us, hl with | [_, _, _, _, _], _ => rfl
  have g22 := He.glo_ok X G (sd.fact 22 (f := .glo "_law_copied") rfl)
  obtain ⟨fd23, D23⟩ := sd.def_ 23 (d := dd "_law_are_copies_right" sCopiesRight) rfl
  have F23 : Fun K "_law_are_copies_right" "_law_are_copies_right" sCopiesRight (He.ga K "_law_are_copies_right") fd23 := defFun D23
  have b23 : L2.Binds K fd23 ["pot"] [] := F23.binds (ps := ["pot"]) fun _ _ _ _ _ _ us hl => match us, hl with | [_], _ => rfl
  have g23 := He.glo_ok X G (sd.fact 23 (f := .glo "_law_are_copies_right") rfl)
  obtain ⟨fd24, D24⟩ := sd.def_ 24 (d := dd "_law_are_copies_refused" sCopiesRefused) rfl
  have F24 : Fun K "_law_are_copies_refused" "_law_are_copies_refused" sCopiesRefused (He.ga K "_law_are_copies_refused") fd24 := defFun D24
  have b24 : L2.Binds K fd24 ["pot"] [] := F24.binds (ps := ["pot"]) fun _ _ _ _ _ _ us hl => match us, hl with | [_], _ => rfl
  have g24 := He.glo_ok X G (sd.fact 24 (f := .glo "_law_are_copies_refused") rfl)
  obtain ⟨fd25, D25⟩ := sd.def_ 25 (d := dd "_law_some_items" sSomeItems) rfl
  have F25 : Fun K "_law_some_items" "_law_some_items" sSomeItems (He.ga K "_law_some_items") fd25 := defFun D25
  have b25 : L2.Binds K fd25 ["pot"] [] := F25.binds (ps := ["pot"]) fun _ _ _ _ _ _ us hl => match us, hl with | [_], _ => rfl
  have g25 := He.glo_ok X G (sd.fact 25 (f := .glo "_law_some_items") rfl)
  obtain ⟨fd26, D26⟩ := sd.def_ 26 (d := dd "_law_first_of" sFirstOf) rfl
  have F26 : Fun K "_law_first_of" "_law_first_of" sFirstOf (He.ga K "_law_first_of") fd26 := defFun D26
  have b26 : L2.Binds K fd26 ["items", "kinds"] [] := F26.binds (ps := ["items", "kinds"]) fun _ _ _ _ _ _ us hl => match us, hl with | [_, _], _ => rfl
  have g26 := He.glo_ok X G (sd.fact 26 (f := .glo "_law_first_of") rfl)
  obtain ⟨fd27, D27⟩ := sd.def_ 27 (d := dd "_law_is_fitting_right" sFittingRight) rfl
  have F27 : Fun K "_law_is_fitting_right" "_law_is_fitting_right" sFittingRight (He.ga K "_law_is_fitting_right") fd27 := defFun D27
  have b27 : L2.Binds K fd27 ["pot"] [] := F27.binds (ps := ["pot"]) fun _ _ _ _ _ _ us hl => match us, hl with | [_], _ => rfl
  have g27 := He.glo_ok X G (sd.fact 27 (f := .glo "_law_is_fitting_right") rfl)
  obtain ⟨fd28, D28⟩ := sd.def_ 28 (d := dd "_law_right" sRight) rfl
  have F28 : Fun K "_law_right" "_law_right" sRight (He.ga K "_law_right") fd28 := defFun D28
  have b28 : L2.Binds K fd28 ["pot"] [] := F28.binds (ps := ["pot"]) fun _ _ _ _ _ _ us hl => match us, hl with | [_], _ => rfl
  have g28 := He.glo_ok X G (sd.fact 28 (f := .glo "_law_right") rfl)
  obtain ⟨fd29, D29⟩ := sd.def_ 29 (d := dd "law" sLaw) rfl
  have F29 : Fun K "law" "law" sLaw (He.ga K "law") fd29 := defFun D29
  have b29 : L2.Binds K fd29 ["script"] [] := F29.binds (ps := ["script"]) fun _ _ _ _ _ _ us hl => match us, hl with | [_], _ => rfl
  have g29 := He.glo_ok X G (sd.fact 29 (f := .glo "law") rfl)
  obtain ⟨fd30, D30⟩ := sd.def_ 30 (d := dI "BadMemory") rfl
  have F30 : Fun K "__init__" "CoreError.__init__" sInit (He.ma K (He.ga K "BadMemory") "__init__") fd30 := defFun D30
  have b30 : L2.Binds K fd30 ["self", "value"] [] := F30.binds (ps := ["self", "value"]) fun _ _ _ _ _ _ us hl => match us, hl with | [_, _], _ => rfl
  obtain ⟨fd31, D31⟩ := sd.def_ 31 (d := dI "BadAddress") rfl
  have F31 : Fun K "__init__" "CoreError.__init__" sInit (He.ma K (He.ga K "BadAddress") "__init__") fd31 := defFun D31
  have b31 : L2.Binds K fd31 ["self", "value"] [] := F31.binds (ps := ["self", "value"]) fun _ _ _ _ _ _ us hl => match us, hl with | [_, _], _ => rfl
  obtain ⟨fd32, D32⟩ := sd.def_ 32 (d := dI "BadRows") rfl
  have F32 : Fun K "__init__" "CoreError.__init__" sInit (He.ma K (He.ga K "BadRows") "__init__") fd32 := defFun D32
  have b32 : L2.Binds K fd32 ["self", "value"] [] := F32.binds (ps := ["self", "value"]) fun _ _ _ _ _ _ us hl => match us, hl with | [_, _], _ => rfl
  obtain ⟨fd33, D33⟩ := sd.def_ 33 (d := dI "BadMany") rfl
  have F33 : Fun K "__init__" "CoreError.__init__" sInit (He.ma K (He.ga K "BadMany") "__init__") fd33 := defFun D33
  have b33 : L2.Binds K fd33 ["self", "value"] [] := F33.binds (ps := ["self", "value"]) fun _ _ _ _ _ _ us hl => match us, hl with | [_, _], _ => rfl
  have gKINDS := He.glo_ok X G (sd.fact 30 (f := .glo "KINDS") rfl)
  have gPAGE_LETTERS := He.glo_ok X G (sd.fact 31 (f := .glo "PAGE_LETTERS") rfl)
  have gRIGHT_LETTERS := He.glo_ok X G (sd.fact 32 (f := .glo "RIGHT_LETTERS") rfl)
  have gCoreError := He.glo_ok X G (sd.fact 33 (f := .glo "CoreError") rfl)
  have gBadMemory := He.glo_ok X G (sd.fact 34 (f := .glo "BadMemory") rfl)
  have gBadAddress := He.glo_ok X G (sd.fact 35 (f := .glo "BadAddress") rfl)
  have gBadRows := He.glo_ok X G (sd.fact 36 (f := .glo "BadRows") rfl)
  have gBadMany := He.glo_ok X G (sd.fact 37 (f := .glo "BadMany") rfl)
  obtain ⟨tN, gNO_BADGE⟩ := He.int_ok X G (sd.fact 38 (f := .int "NO_BADGE" 65535) rfl)
  have fabs := He.free_ok X G (sd.fact 39 (f := .free "abs") rfl)
  have fall := He.free_ok X G (sd.fact 40 (f := .free "all") rfl)
  have fenumerate := He.free_ok X G (sd.fact 41 (f := .free "enumerate") rfl)
  have fint := He.free_ok X G (sd.fact 42 (f := .free "int") rfl)
  have fisinstance := He.free_ok X G (sd.fact 43 (f := .free "isinstance") rfl)
  have flen := He.free_ok X G (sd.fact 44 (f := .free "len") rfl)
  have flist := He.free_ok X G (sd.fact 45 (f := .free "list") rfl)
  have fmax := He.free_ok X G (sd.fact 46 (f := .free "max") rfl)
  have fmin := He.free_ok X G (sd.fact 47 (f := .free "min") rfl)
  have frange := He.free_ok X G (sd.fact 48 (f := .free "range") rfl)
  have frepr := He.free_ok X G (sd.fact 49 (f := .free "repr") rfl)
  have fstr := He.free_ok X G (sd.fact 50 (f := .free "str") rfl)
  have fsum := He.free_ok X G (sd.fact 51 (f := .free "sum") rfl)
  have ftuple := He.free_ok X G (sd.fact 52 (f := .free "tuple") rfl)
  have ftype := He.free_ok X G (sd.fact 53 (f := .free "type") rfl)
  obtain ⟨⟨xa, xb, xc, xd⟩, ⟨xk, xr⟩, ⟨tk, tp, tr⟩, xn⟩ : ((er K "BadMemory" = true ∧ er K "BadAddress" = true ∧ er K "BadRows" = true ∧ er K "BadMany" = true) ∧ (kits K (He.ga K "BadMemory") (He.ga K "BadAddress") (He.ga K "BadMany") = true ∧ kiB K (He.ga K "BadRows") (He.ga K "BadRows") true = true) ∧
      (tuB K "KINDS" kindL = true ∧ tuB K "PAGE_LETTERS" (pageL.map V.str) = true ∧ tuB K "RIGHT_LETTERS" (rightL.map V.str) = true) ∧ (He.cT K rfd1).2 ≠ (He.cT K rfd2).2) := by
    have m := c.more
    unfold exs at m
    simpa only [Bool.and_eq_true, decide_eq_true_eq] using m
  obtain ⟨E1, X1⟩ := er_ok xa
  obtain ⟨E2, X2⟩ := er_ok xb
  obtain ⟨E3, X3⟩ := er_ok xc
  obtain ⟨E4, X4⟩ := er_ok xd
  have kk := kits_ok xk
  have kt : PySem.W.kitOne K (.ref (He.ga K "BadRows")) (.ref (He.ga K "BadRows")) = some true := of_decide_eq_true xr
  have tK := ktB_ok (Bool.and_eq_true_iff.mp tk).1
  have dK := plB_ok (Bool.and_eq_true_iff.mp tk).2
  have tP := ktB_ok (Bool.and_eq_true_iff.mp tp).1
  have dP := plB_ok (Bool.and_eq_true_iff.mp tp).2
  have tR := ktB_ok (Bool.and_eq_true_iff.mp tr).1
  have dR := plB_ok (Bool.and_eq_true_iff.mp tr).2
  have hcc1 : fd24.code = .ref (He.cT K rfd1).1 := by
    obtain ⟨oc, od, kV, doc, pm, an, cdv, ct, osl, e0, lk, hcd⟩ := F24.ex
    obtain ⟨cc, rfl⟩ := He.codeIn_ref hcd
    have e1 : fd24.code = .ref cc := by rw [e0]
    have e2 : He.codeOf K rfd1 = cc := He.codeOf_eq (p := rfd1) lk e1
    rw [e1, ← e2]
    rfl
  have hcc2 : fd27.code = .ref (He.cT K rfd2).1 := by
    obtain ⟨oc, od, kV, doc, pm, an, cdv, ct, osl, e0, lk, hcd⟩ := F27.ex
    obtain ⟨cc, rfl⟩ := He.codeIn_ref hcd
    have e1 : fd27.code = .ref cc := by rw [e0]
    have e2 : He.codeOf K rfd2 = cc := He.codeOf_eq (p := rfd2) lk e1
    rw [e1, ← e2]
    rfl
  have kb5 : KBinds K fd5 ["source", "target", "start", "goal", "many"] ["many", "goal", "start", "target", "source"] kw5 kw5 := ⟨fun s us ws _ hl => by
    obtain ⟨oc, od, kV, doc, pm, an, cdv, ct, osl, rfl, lk, hcd⟩ := F5.ex
    match us, ws, hl with
    | [], [_, _, _, _, _], _ => exact .of_eq rfl, fun r rz => kw5_vals r rz⟩
  have kb6 : KBinds K fd6 ["sent", "received"] ["sent", "received"] kw2 kw2 := ⟨fun s us ws _ hl => by
    obtain ⟨oc, od, kV, doc, pm, an, cdv, ct, osl, rfl, lk, hcd⟩ := F6.ex
    match us, ws, hl with
    | [], [_, _], _ => exact .of_eq rfl, fun r rz => kw2_vals r rz⟩
  refine ⟨fd29, fun s u => .of_eq (by obtain ⟨oc, od, kV, doc, pm, an, cdv, ct, osl, e0, lk, hcd⟩ := F29.ex; rw [e0]; rfl), g29, fun base KB GB TBs => ?_⟩
  have TB1 := TBs _ List.mem_cons_self
  have TB2 := TBs _ (List.mem_cons_of_mem _ List.mem_cons_self)
  have w0 : FnOk P w K mg base CX0 1 _ fd0 _ (spWithin K) := ok_within (k := 0) F0 ftype fint
  have w1 : FnOk P w K mg base CX0 2 _ fd1 _ (spIsWord K) := ok_isWord (k := 0) F1 F0 b0 g0 ftype fint
  have w15 : FnOk P w K mg base CX0 1 _ fd15 _ (spPot K) := ok_pot (k := 0) F15 flen fsum fint fabs
  have w16 : FnOk P w K mg base CX0 1 _ fd16 _ spTake := ok_take (k := 0) F16 fint
  have w17 : FnOk P w K mg base CX0 2 _ fd17 _ (spOf K) := ok_of (k := 0) F17 w16 F16.kp b16 g16 flen
  have w18 : FnOk P w K mg base CX0 2 _ fd18 _ (spSomeP K) := ok_someP (k := 0) F18 w16 F16.kp b16 g16 flist frange flen
  have w19 : FnOk P w K mg base CX0 1 _ fd19 _ (spCells K) := ok_cells (k := 0) F19 flist frange fmax fmin flen
  have w2 : FnOk P w K mg base CX0 2 _ fd2 _ ((spAddr K)) := ok_IsAddress (k := 0) F2 (gWi := ⟨_, _, w0, F0.kp, b0, g0⟩)
  have w3 : FnOk P w K mg base CX0 1 _ fd3 _ ((spTup K)) := ok_IsTupleOf (k := 0) F3 (flen := flen) (ftuple := ftuple) (ftype := ftype)
  have w4 : FnOk P w K mg base CX0 2 _ fd4 _ ((spBlock K)) := ok_IsBlock (k := 0) F4 (gWi := ⟨_, _, w0, F0.kp, b0, g0⟩) (gTo := ⟨_, _, w3, F3.kp, b3, g3⟩)
  have w13 : FnOk P w K mg base CX0 1 _ fd13 _ ((spOneOf K)) := ok_IsOneOf (k := 0) F13
  have w14 : FnOk P w K mg base CX0 1 _ fd14 _ ((spBlockWord K)) := ok_BlockWord (k := 0) F14
  have w7 : FnOk P w K mg base CX0 3 _ fd7 _ ((spReach K)) := ok_IsReach (k := 0) F7 (gWo := ⟨_, _, w1, F1.kp, b1, g1⟩) (gTo := ⟨_, _, w3.mono (by omega), F3.kp, b3, g3⟩) (fall := fall)
  have w12 : FnOk P w K mg base CX0 3 _ fd12 _ ((spNumbers K)) := ok_NumbersTold (k := 0) F12 (gWi := ⟨_, _, w0.mono (by omega), F0.kp, b0, g0⟩) (gAd := ⟨_, _, w2, F2.kp, b2, g2⟩) (gBl := ⟨_, _, w4, F4.kp, b4, g4⟩) (gOo := ⟨_, _, w13.mono (by omega), F13.kp, b13, g13⟩) (gBw := ⟨_, _, w14.mono (by omega), F14.kp, b14, g14⟩) (gPAGE_LETTERS := gPAGE_LETTERS) (gRIGHT_LETTERS := gRIGHT_LETTERS) (tP := tP) (tR := tR) (dP := dP) (dR := dR) (gNO_BADGE := gNO_BADGE) (flen := flen)
  have w11 : FnOk P w K mg base CX0 4 _ fd11 _ ((spRowWords K)) := ok_RowWords (k := 0) F11 (gNu := ⟨_, _, w12, F12.kp, b12, g12⟩) (gKINDS := gKINDS) (tK := tK) (dK := dK) (flen := flen) (fstr := fstr) (ftuple := ftuple) (ftype := ftype)
  have w9 : FnOk P w K mg base CX0 1 _ fd9 _ ((spFits K)) := ok_FitsBehind (k := 0) F9
  have w10 : FnOk P w K mg base CX0 5 _ fd10 _ ((spWordsOf K)) := ok_WordsOf (k := 0) F10 (gRw := ⟨_, _, w11, F11.kp, b11, g11⟩) (gFb := ⟨_, _, w9.mono (by omega), F9.kp, b9, g9⟩) (fenumerate := fenumerate) (ftuple := ftuple) (ftype := ftype)
  have w8 : FnOk P w K mg base CX0 1 _ fd8 _ ((spManyIn K)) := ok_ManyIn (k := 0) F8 (fsum := fsum)
  have w6 : FnOk P w K mg base (L2.CX P w) 6 _ fd6 _ ((spFitting K (He.ga K "BadRows"))) := ok_Fitting (k := 0) F6 (gWs := ⟨_, _, w10, F10.kp, b10, g10⟩) (gMi := ⟨_, _, w8.mono (by omega), F8.kp, b8, g8⟩) (E3 := E3) (I3 := F32) (bI3 := b32) (gBadRows := gBadRows) (fmin := fmin)
  have w5 : FnOk P w K mg base (L2.CX P w) 4 _ fd5 _ ((spCopied K (He.ga K "BadMemory") (He.ga K "BadAddress") (He.ga K "BadMany"))) := ok_Copied (k := 0) F5 (gRe := ⟨_, _, w7, F7.kp, b7, g7⟩) (gAd := ⟨_, _, w2.mono (by omega), F2.kp, b2, g2⟩) (gWi := ⟨_, _, w0.mono (by omega), F0.kp, b0, g0⟩) (E1 := E1) (I1 := F30) (bI1 := b30) (gBadMemory := gBadMemory) (E2 := E2) (I2 := F31) (bI2 := b31) (gBadAddress := gBadAddress) (E4 := E4) (I4 := F33) (bI4 := b33) (gBadMany := gBadMany) (flist := flist) (frange := frange) (ftuple := ftuple)
  have w22 : FnOk P w K mg base CX0 1 _ fd22 _ ((spLCopied K)) := ok_LCopied (k := 0) F22 (flist := flist) (frange := frange) (ftuple := ftuple)
  have w21 : FnOk P w K mg base CX0 3 _ fd21 _ ((spMemory K)) := ok_Memory (k := 0) F21 (gOf := ⟨_, _, w17, F17.kp, b17, g17⟩) (gTa := ⟨_, _, w16.mono (by omega), F16.kp, b16, g16⟩) (frange := frange)
  have w23 : FnG P w K mg base 5 _ fd23 _ ((spCopiesRight K)) := ok_CopiesRight (k := 0) F23 (gMe := ⟨_, _, w21.mono (by omega), F21.kp, b21, g21⟩) (gCo := ⟨_, _, w5, F5.kp, b5, g5⟩) (gLc := ⟨_, _, w22.mono (by omega), F22.kp, b22, g22⟩) (gTa := ⟨_, _, w16.mono (by omega), F16.kp, b16, g16⟩) (gOf := ⟨_, _, w17.mono (by omega), F17.kp, b17, g17⟩) (gCoK := ⟨_, _, w5, F5.kp, kb5, g5⟩) (flist := flist) (fmax := fmax) (fmin := fmin) (frange := frange) (frepr := frepr) (ftuple := ftuple)
  have w25 : FnOk P w K mg base CX0 3 _ fd25 _ ((spSomeItems K)) := ok_SomeItems (k := 0) F25 (gOf := ⟨_, _, w17, F17.kp, b17, g17⟩) (gTa := ⟨_, _, w16.mono (by omega), F16.kp, b16, g16⟩) (gSo := ⟨_, _, w18, F18.kp, b18, g18⟩) (ftuple := ftuple)
  have w26 : FnOk P w K mg base CX0 1 _ fd26 _ ((spFirstOf K)) := ok_FirstOf (k := 0) F26
  have w24 : FnG P w K mg base 7 _ fd24 _ ((spCopiesRefused K (tabL (He.cT K rfd1).2 (He.cT K rfd2).2))) := ok_CopiesRefused (k := 0) F24 hcc1 TB1 List.mem_cons_self (fun p hp ep => by
    rcases List.mem_cons.mp hp with rfl | hp
    · rfl
    · rcases List.mem_singleton.mp hp with rfl
      exact absurd ep.symm xn) F20 b20 g20 gCoreError (gCo := ⟨_, _, w5, F5.kp, b5, g5⟩) (gOf := ⟨_, _, w17.mono (by omega), F17.kp, b17, g17⟩) (gBadMemory := gBadMemory) (gBadAddress := gBadAddress) (gBadMany := gBadMany) (X1 := X1) (X2 := X2) (X4 := X4) (kk := kk) (fisinstance := fisinstance) (frepr := frepr)
  have w27 : FnG P w K mg base 9 _ fd27 _ ((spFittingRight K (tabL (He.cT K rfd1).2 (He.cT K rfd2).2))) := ok_FittingRight (k := 0) F27 hcc2 TB2 (List.mem_cons_of_mem _ List.mem_cons_self) (fun p hp ep => by
    rcases List.mem_cons.mp hp with rfl | hp
    · exact absurd ep xn
    · rcases List.mem_singleton.mp hp with rfl
      rfl) F20 b20 g20 gCoreError (gFd := ⟨_, _, w6.mono (by omega), F6.kp, b6, g6⟩) (gFo := ⟨_, _, w26.mono (by omega), F26.kp, b26, g26⟩) (gSi := ⟨_, _, w25.mono (by omega), F25.kp, b25, g25⟩) (gOf := ⟨_, _, w17.mono (by omega), F17.kp, b17, g17⟩) (gFi := ⟨_, _, w6, F6.kp, b6, g6⟩) (gFiK := ⟨_, _, w6, F6.kp, kb6, g6⟩) (gBadRows := gBadRows) (X3 := X3) (kt := kt) (fall := fall) (fisinstance := fisinstance) (flist := flist) (fmin := fmin) (frange := frange) (frepr := frepr)
  have w28 : FnG P w K mg base 10 _ fd28 _ ((spRight K (tabL (He.cT K rfd1).2 (He.cT K rfd2).2))) := ok_Right (k := 0) F28 (gCr := ⟨_, _, w23.lift (by omega), F23.kp, b23, g23⟩) (gCf := ⟨_, _, w24.lift (by omega), F24.kp, b24, g24⟩) (gFr := ⟨_, _, w27, F27.kp, b27, g27⟩)
  have w29 : FnG P w K mg base 11 _ fd29 _ ((spLaw K (tabL (He.cT K rfd1).2 (He.cT K rfd2).2))) := ok_Law (k := 0) F29 (gRt := ⟨_, _, w28, F28.kp, b28, g28⟩) (gPo := ⟨_, _, w15.mono (by omega), F15.kp, b15, g15⟩) (gCe := ⟨_, _, w19.mono (by omega), F19.kp, b19, g19⟩) (fall := fall)
  exact w29
end K24

set_option maxRecDepth 100000
set_option maxHeartbeats 0
/-! k24: the top's run, and the law. -/
namespace K24
open PySem PySem.Spec PyProof.Rows L2 LamX VG
abbrev hook5 : PySem.W.Hook := He.hookX 5 fas fns [] cds exs
def seen5 (s : PySem.W.SharedT) : He.AlX := He.obsX 5 fas fns [] cds exs (HandSHeadRun.getT s)
theorem seen5_eq (s : PySem.W.SharedT) : seen5 s = hook5.obs s.abs := He.obsX_eq (HandSHeadRun.getT_eq s)
def bound1 : List Str := ["is_within", "is_word", "is_address", "is_tuple_of", "is_block", "copied", "fitting", "_is_reach", "_many_in", "_fits_behind", "_words_of", "_row_words"]
def bound2 : List Str := ["_numbers_told", "_is_one_of", "_block_word", "_law_pot", "_law_take", "_law_of", "_law_some", "_law_cells", "_law_heard", "_law_memory", "_law_copied", "_law_are_copies_right"]
def bound3 : List Str := ["_law_are_copies_refused", "_law_some_items", "_law_first_of", "_law_is_fitting_right", "_law_right", "KINDS", "PAGE_LETTERS", "RIGHT_LETTERS", "CoreError", "BadMemory", "BadAddress", "BadRows"]
def bound4 : List Str := ["BadMany", "NO_BADGE"]
def bound : List Str := bound1 ++ (bound2 ++ (bound3 ++ (bound4)))
abbrev RunAt (w : World) : Prop := HandSHeadRun.RunEq (PySem.W.OpenLaw.row PySem.Challenge.rw_clankernel_k24_whole_strings_copied_and) (PySem.W.view (PySem.W.OpenLaw.row PySem.Challenge.rw_clankernel_k24_whole_strings_copied_and).prog [43]) hook5 seen5 4000 bound w
theorem run_f (w : World) : RunAt (w.withFollow "special-get-raises" false) := by
  intro os
  kernel_rfl
theorem run_t (w : World) : RunAt (w.withFollow "special-get-raises" true) := by
  intro os
  kernel_rfl
theorem top_run (w : World) : RunAt w := PySem.W.byRow2 "special-get-raises" run_f run_t w
end K24

set_option maxRecDepth 100000
set_option maxHeartbeats 8000000
namespace K24
open PySem PySem.Spec PyProof.Rows L2 LamX VG
theorem walk_top : PySem.W.WalkO (PySem.W.view (PySem.W.OpenLaw.row PySem.Challenge.rw_clankernel_k24_whole_strings_copied_and).prog [43]) bound (PySem.W.XL (PySem.W.view (PySem.W.OpenLaw.row PySem.Challenge.rw_clankernel_k24_whole_strings_copied_and).prog [43]) []) hook5.says
    PySem.Challenge.rw_clankernel_k24_whole_strings_copied_and.row.toRowW (HandSHeadRun.topDef (PySem.W.OpenLaw.row PySem.Challenge.rw_clankernel_k24_whole_strings_copied_and).prog 43) [] (fun f vs => PySem.call f vs) := by
  refine Att.attach_callB (l := PySem.Challenge.rw_clankernel_k24_whole_strings_copied_and) (n := 63) rfl (by kernel_rfl) fun w s₀ s₁ mg mb fa o pm cd doc a vs ns G Y ho hd hcd hmg hobj hints hlen _ hg => ?_
  obtain ⟨K, KX, c⟩ := Y
  obtain ⟨fd, hb, g, F⟩ := all_in (P := PySem.Challenge.rw_clankernel_k24_whole_strings_copied_and.prog) KX G.T.g c
  have e : (HandSHeadRun.topDef (PySem.W.OpenLaw.row PySem.Challenge.rw_clankernel_k24_whole_strings_copied_and).prog 43).name = ("law" : Str) := by kernel_rfl
  rw [e, g] at hmg
  obtain rfl := Value.ref.inj (Option.some.inj hmg)
  have mem : ∀ t ∈ cTs K, ∃ r, r ∈ cds ∧ t = He.cT K r := fun t ht => by
    rcases List.mem_cons.mp ht with rfl | ht
    · exact ⟨rfd1, List.mem_cons_self, rfl⟩
    · exact ⟨rfd2, List.mem_cons_of_mem _ List.mem_cons_self, List.mem_singleton.mp ht⟩
  refine call_tops (Ts := cTs K) KX G.T.g G.T.b G.T.builtins G.T.nolimit hg (fun t ht => by obtain ⟨r, hr, rfl⟩ := mem t ht; exact c.empty _ hr) (fun t ht => by obtain ⟨r, hr, rfl⟩ := mem t ht; exact c.out _ hr) (fun t ht => by obtain ⟨r, hr, rfl⟩ := mem t ht; exact PySem.W.codeHd_of_K KX (c.hd _ hr)) G.T.bmain hobj hints (Nat.le_trans hlen (by decide)) ⟨rfl, by decide, by decide⟩ F hb fun H hT hS => ?_
  refine ⟨a, ns, rfl, hS, hlen, fun p hp => ?_, fun _ => rfl⟩
  have hp2 : H p.1 = some (.tbl #[]) := by
    rcases List.mem_cons.mp hp with rfl | hp
    · exact hT (He.cT K rfd1) List.mem_cons_self
    · rw [List.mem_singleton.mp hp]
      exact hT (He.cT K rfd2) (List.mem_cons_of_mem _ List.mem_cons_self)
  exact ⟨#[], hp2, trivial, fun pos cv hc => by cases hc⟩
end K24
open PySem PySem.W PySem.Calls PyProof.Rows
set_option maxRecDepth 100000 in
set_option maxHeartbeats 0 in
theorem PySem.Challenge.cw_clankernel_k24_whole_strings_copied_and_holds : PySem.Challenge.rw_clankernel_k24_whole_strings_copied_and.Holds := by
  w_on; o_law
  refine HandSHeadRun.head_any (r := OpenLaw.row PySem.Challenge.rw_clankernel_k24_whole_strings_copied_and) (q := view (OpenLaw.row PySem.Challenge.rw_clankernel_k24_whole_strings_copied_and).prog [43]) (H := K24.hook5) (ob := K24.seen5) (M := 4000) (loose := K24.bound) (d := HandSHeadRun.topDef (OpenLaw.row PySem.Challenge.rw_clankernel_k24_whole_strings_copied_and).prog 43) (kwd := []) K24.seen5_eq
    (by kernel_rfl) (fun s => by kernel_rfl) K24.top_run (by kernel_rfl) (by kernel_rfl) (by kernel_rfl) (by rfl) (by first | assumption | decide +kernel) (by decide +kernel) ⟨rfl, rfl, rfl, rfl, rfl, by decide +kernel⟩ ?hw ?hc
  case hw => w_witness2
  case hc => exact K24.walk_top
