import PyProof.Rows.All
import Wide.All
import OpenK.AllK
import Wide.FinOn
import HandS.Base
import HandS.ForMost
import HandS.ForExc
import HandS.IsInst
import HandS.Zip
import HandS.Star
import HandS.Flow
import HandS.FStr
import HandS.TupAny
import HandS.Wide
import HandS.Conv
import HandS.ExcInit
import HandS.Steps
import HandS.Style
import HandS.ExcField
import HandS.ExcIs
import HandS.ExcValue
import HandS.Lambda
import PyProof.ReprRoads
import PyProof.ReprLen
import HandS.Strs
import HandS.SetFor
import HandS.SetKeys
import HandS.TupSets
import PyProof.SeqIndex
import PyProof.ListStr
import HandS.Defaults
import HandS.Head2
import HandS.HeadHook4
import HandS.HeadWalk
import KE.KStateDown
import PySem.Challenge.RW_clankernel_k00_whole_rows_and_words
set_option Elab.async false
set_option linter.all false
set_option maxRecDepth 100000
/-! k00, the mathematics: rows and their words, as the program and as the law reckon them. -/
namespace K00
open PySem

/-- each row's name, its least word, how many registers, its greatest N -/
def shapes : List (Str × Int × Nat × Option Int) := [
  ("set", 4096, 1, some 511), ("high", 8192, 1, some 255), ("copy", 12288, 2, none), ("add", 12289, 2, none), ("sub", 12290, 2, none), ("mul", 12291, 2, none),
  ("div", 12292, 2, none), ("rem", 12293, 2, none), ("and", 12294, 2, none), ("or", 12295, 2, none), ("xor", 12296, 2, none), ("shl", 12297, 2, none), ("shr", 12298, 2, none),
  ("load", 16384, 2, some 63), ("store", 20480, 2, some 63), ("jump", 24576, 0, some 255), ("zero", 28672, 1, some 255), ("some", 32768, 1, some 255), ("less", 36864, 2, none),
  ("same", 40960, 2, none), ("link", 45056, 1, some 255), ("go", 49152, 1, none), ("call", 53248, 0, some 15), ("trap", 57344, 0, some 255)]
def reck : List Str := ["copy", "add", "sub", "mul", "div", "rem", "and", "or", "xor", "shl", "shr"]
def names : List (Option Str) := [none, some "set", some "high", none, some "load", some "store", some "jump", some "zero", some "some", some "less", some "same", some "link", some "go", some "call", some "trap", none]
def nameOf (w : Int) : Option Str := if w / 4096 = 3 then (if w % 64 < 11 then some (reck.getD (w % 64).toNat "") else none) else names.getD (w / 4096).toNat none
/-- the parts of what stands above the least word -/
def parts (many : Nat) (r : Int) : List Int × Int := match many with
  | 0 => ([], r)
  | 1 => ([r / 512], r % 512)
  | _ => ([r / 512, r % 512 / 64], r % 512 % 64)
def rowWith (nm : Str) (s : Int × Nat × Option Int) (w : Int) : Option (Str × List Int) :=
  let p := parts s.2.1 (w - s.1)
  match s.2.2 with
  | none => if p.2 = 0 then some (nm, p.1) else none
  | some m => if p.2 ≤ m then some (nm, p.1 ++ [p.2]) else none
/-- the row that a word tells, as the program finds it -/
def pRow (w : Int) : Option (Str × List Int) := match nameOf w with
  | none => none
  | some nm => match shapes.lookup nm with
    | none => none
    | some s => rowWith nm s w
/-- the greatest value of each part -/
def bnds (s : Int × Nat × Option Int) : List Int := List.replicate s.2.1 7 ++ s.2.2.toList
def okParts : List Int → List Int → Bool
  | [], [] => true
  | a :: as, b :: bs => (decide (0 ≤ a) && decide (a ≤ b)) && okParts as bs
  | _, _ => false
def IsRow (nm : Str) (ps : List Int) : Prop := ∃ s, shapes.lookup nm = some s ∧ okParts ps (bnds s) = true
def wSum (ps : List Int) (n : Nat) : Int := match n, ps with
  | 0, _ => 0
  | 1, a :: _ => a * 512
  | _, a :: b :: _ => a * 512 + b * 64
  | _, _ => 0
def wordWith (s : Int × Nat × Option Int) (ps : List Int) : Int := s.1 + wSum ps s.2.1 + (match s.2.2 with | none => 0 | some _ => ps.getLastD 0)
def wordOf (nm : Str) (ps : List Int) : Int := match shapes.lookup nm with
  | none => 0
  | some s => wordWith s ps

theorem mem_of_lookup {α : Type} : ∀ {l : List (Str × α)} {k : Str} {v : α}, l.lookup k = some v → (k, v) ∈ l
  | [], _, _, h => by simp [List.lookup] at h
  | (a, b) :: l, k, v, h => by
    unfold List.lookup at h
    cases e : k == a with
    | true =>
      rw [e] at h
      have e1 : k = a := by simpa using e
      have e2 : b = v := Option.some.inj h
      rw [e1, e2]
      exact List.mem_cons_self
    | false =>
      rw [e] at h
      exact List.mem_cons_of_mem _ (mem_of_lookup h)
/-- all 24 of them -/
theorem lookup_all (Q : Str → (Int × Nat × Option Int) → Prop) (h : ∀ p ∈ shapes, Q p.1 p.2) {nm : Str} {s : Int × Nat × Option Int} (e : shapes.lookup nm = some s) : Q nm s := h (nm, s) (mem_of_lookup e)
theorem ok1 {ps : List Int} {a : Int} (h : okParts ps [a] = true) : ∃ x, ps = [x] ∧ 0 ≤ x ∧ x ≤ a := by
  match ps, h with
  | [x], h => simp [okParts] at h; exact ⟨x, rfl, h.1, h.2⟩
  | _ :: _ :: _, h => simp [okParts] at h
theorem ok2 {ps : List Int} {a b : Int} (h : okParts ps [a, b] = true) : ∃ x y, ps = [x, y] ∧ 0 ≤ x ∧ x ≤ a ∧ 0 ≤ y ∧ y ≤ b := by
  match ps, h with
  | [x, y], h => simp [okParts] at h; exact ⟨x, y, rfl, h.1.1, h.1.2, h.2.1, h.2.2⟩
  | [_], h => simp [okParts] at h
  | _ :: _ :: _ :: _, h => simp [okParts] at h
theorem ok3 {ps : List Int} {a b c : Int} (h : okParts ps [a, b, c] = true) : ∃ x y z, ps = [x, y, z] ∧ 0 ≤ x ∧ x ≤ a ∧ 0 ≤ y ∧ y ≤ b ∧ 0 ≤ z ∧ z ≤ c := by
  match ps, h with
  | [x, y, z], h => simp [okParts] at h; exact ⟨x, y, z, rfl, h.1.1, h.1.2, h.2.1.1, h.2.1.2, h.2.2.1, h.2.2.2⟩
  | [_], h => simp [okParts] at h
  | [_, _], h => simp [okParts] at h
  | _ :: _ :: _ :: _ :: _, h => simp [okParts] at h

theorem nameOf_g {w g : Int} (hg : w / 4096 = g) (h3 : g ≠ 3) : nameOf w = names.getD g.toNat none := by
  unfold nameOf
  rw [hg, if_neg h3]
theorem nameOf_3 {w n : Int} (hg : w / 4096 = 3) (hn : w % 64 = n) (h : n < 11) : nameOf w = some (reck.getD n.toNat "") := by
  unfold nameOf
  rw [hg, if_pos rfl, hn, if_pos h]
theorem pRow_of {w : Int} {nm : Str} {s : Int × Nat × Option Int} (h1 : nameOf w = some nm) (h2 : shapes.lookup nm = some s) : pRow w = rowWith nm s w := by
  unfold pRow
  rw [h1]
  simp only
  rw [h2]

/-- the three kinds of shapes -/
inductive Kind : Str → Int → Nat → Option Int → Prop
  | grp (nm : Str) (g : Nat) (many : Nat) (most b : Int) : b = 4096 * (g : Int) → g ≠ 3 → 0 < g → g < 15 → names.getD g none = some nm → many ≤ 2 → 0 ≤ most → most < (if many = 0 then 4096 else if many = 1 then 512 else 64) → Kind nm b many (some most)
  | bare (nm : Str) (g : Nat) (many : Nat) (b : Int) : b = 4096 * (g : Int) → g ≠ 3 → 0 < g → g < 15 → names.getD g none = some nm → 1 ≤ many → many ≤ 2 → Kind nm b many none
  | rck (nm : Str) (n : Nat) (b : Int) : b = 12288 + (n : Int) → n < 11 → reck.getD n "" = nm → Kind nm b 2 none
theorem kinds : ∀ p ∈ shapes, Kind p.1 p.2.1 p.2.2.1 p.2.2.2 := by
  intro p hp
  simp only [shapes, List.mem_cons, List.not_mem_nil, or_false] at hp
  rcases hp with rfl | rfl | rfl | rfl | rfl | rfl | rfl | rfl | rfl | rfl | rfl | rfl | rfl | rfl | rfl | rfl | rfl | rfl | rfl | rfl | rfl | rfl | rfl | rfl
  · exact .grp _ 1 _ _ _ rfl (by decide) (by decide) (by decide) rfl (by decide) (by decide) (by decide)
  · exact .grp _ 2 _ _ _ rfl (by decide) (by decide) (by decide) rfl (by decide) (by decide) (by decide)
  · exact .rck _ 0 _ rfl (by decide) rfl
  · exact .rck _ 1 _ rfl (by decide) rfl
  · exact .rck _ 2 _ rfl (by decide) rfl
  · exact .rck _ 3 _ rfl (by decide) rfl
  · exact .rck _ 4 _ rfl (by decide) rfl
  · exact .rck _ 5 _ rfl (by decide) rfl
  · exact .rck _ 6 _ rfl (by decide) rfl
  · exact .rck _ 7 _ rfl (by decide) rfl
  · exact .rck _ 8 _ rfl (by decide) rfl
  · exact .rck _ 9 _ rfl (by decide) rfl
  · exact .rck _ 10 _ rfl (by decide) rfl
  · exact .grp _ 4 _ _ _ rfl (by decide) (by decide) (by decide) rfl (by decide) (by decide) (by decide)
  · exact .grp _ 5 _ _ _ rfl (by decide) (by decide) (by decide) rfl (by decide) (by decide) (by decide)
  · exact .grp _ 6 _ _ _ rfl (by decide) (by decide) (by decide) rfl (by decide) (by decide) (by decide)
  · exact .grp _ 7 _ _ _ rfl (by decide) (by decide) (by decide) rfl (by decide) (by decide) (by decide)
  · exact .grp _ 8 _ _ _ rfl (by decide) (by decide) (by decide) rfl (by decide) (by decide) (by decide)
  · exact .bare _ 9 _ _ rfl (by decide) (by decide) (by decide) rfl (by decide) (by decide)
  · exact .bare _ 10 _ _ rfl (by decide) (by decide) (by decide) rfl (by decide) (by decide)
  · exact .grp _ 11 _ _ _ rfl (by decide) (by decide) (by decide) rfl (by decide) (by decide) (by decide)
  · exact .bare _ 12 _ _ rfl (by decide) (by decide) (by decide) rfl (by decide) (by decide)
  · exact .grp _ 13 _ _ _ rfl (by decide) (by decide) (by decide) rfl (by decide) (by decide) (by decide)
  · exact .grp _ 14 _ _ _ rfl (by decide) (by decide) (by decide) rfl (by decide) (by decide) (by decide)
theorem rep0 : List.replicate 0 (7 : Int) = [] := rfl
theorem rep1 : List.replicate 1 (7 : Int) = [7] := rfl
theorem rep2 : List.replicate 2 (7 : Int) = [7, 7] := rfl
/-- a row's word is a word, and tells it -/
theorem word_row {nm : Str} {ps : List Int} (h : IsRow nm ps) : 0 ≤ wordOf nm ps ∧ wordOf nm ps ≤ 65535 ∧ pRow (wordOf nm ps) = some (nm, ps) := by
  obtain ⟨s, hs, ho⟩ := h
  have e : wordOf nm ps = wordWith s ps := by unfold wordOf; rw [hs]
  rw [e]
  have K : Kind nm s.1 s.2.1 s.2.2 := lookup_all (fun nm s => Kind nm s.1 s.2.1 s.2.2) kinds hs
  obtain ⟨b, many, most⟩ := s
  simp only [bnds] at ho
  cases K with
  | grp g _ m _ hb h3 h0 h15 hn h2 hm hm2 =>
    subst hb
    simp only at h2
    have hg3 : (g : Int) ≠ 3 := by omega
    match many, h2 with
    | 0, _ =>
      rw [rep0] at ho
      obtain ⟨x, rfl, hx, hx2⟩ := ok1 ho
      simp only [↓reduceIte] at hm2
      have ew : wordWith (4096 * (g : Int), 0, some m) [x] = 4096 * (g : Int) + x := by simp [wordWith, wSum]
      rw [ew]
      refine ⟨by omega, by omega, ?_⟩
      rw [pRow_of ((nameOf_g (g := g) (by omega) hg3).trans hn) hs]
      simp only [rowWith, parts]
      have e1 : 4096 * (g : Int) + x - 4096 * g = x := by omega
      rw [e1, if_pos hx2]
      rfl
    | 1, _ =>
      rw [rep1] at ho
      obtain ⟨x, y, rfl, hx, hx2, hy, hy2⟩ := ok2 ho
      have hm2 : m < 512 := hm2
      have ew : wordWith (4096 * (g : Int), 1, some m) [x, y] = 4096 * (g : Int) + x * 512 + y := by simp [wordWith, wSum]
      rw [ew]
      refine ⟨by omega, by omega, ?_⟩
      rw [pRow_of ((nameOf_g (g := g) (by omega) hg3).trans hn) hs]
      simp only [rowWith, parts]
      have e1 : (4096 * (g : Int) + x * 512 + y - 4096 * g) / 512 = x := by omega
      have e2 : (4096 * (g : Int) + x * 512 + y - 4096 * g) % 512 = y := by omega
      rw [e1, e2, if_pos hy2]
      rfl
    | 2, _ =>
      rw [rep2] at ho
      obtain ⟨x, y, z, rfl, hx, hx2, hy, hy2, hz, hz2⟩ := ok3 ho
      have hm2 : m < 64 := hm2
      have ew : wordWith (4096 * (g : Int), 2, some m) [x, y, z] = 4096 * (g : Int) + (x * 512 + y * 64) + z := by simp [wordWith, wSum]
      rw [ew]
      refine ⟨by omega, by omega, ?_⟩
      rw [pRow_of ((nameOf_g (g := g) (by omega) hg3).trans hn) hs]
      simp only [rowWith, parts]
      have e1 : (4096 * (g : Int) + (x * 512 + y * 64) + z - 4096 * g) / 512 = x := by omega
      have e2 : (4096 * (g : Int) + (x * 512 + y * 64) + z - 4096 * g) % 512 / 64 = y := by omega
      have e3 : (4096 * (g : Int) + (x * 512 + y * 64) + z - 4096 * g) % 512 % 64 = z := by omega
      rw [e1, e2, e3, if_pos hz2]
      rfl
  | bare g _ _ hb h3 h0 h15 hn h1 h2 =>
    subst hb
    simp only at h1 h2
    have hg3 : (g : Int) ≠ 3 := by omega
    match many, h1, h2 with
    | 1, _, _ =>
      rw [rep1] at ho
      obtain ⟨x, rfl, hx, hx2⟩ := ok1 (by simpa using ho)
      have ew : wordWith (4096 * (g : Int), 1, none) [x] = 4096 * (g : Int) + x * 512 := by simp [wordWith, wSum]
      rw [ew]
      refine ⟨by omega, by omega, ?_⟩
      rw [pRow_of ((nameOf_g (g := g) (by omega) hg3).trans hn) hs]
      simp only [rowWith, parts]
      have e1 : (4096 * (g : Int) + x * 512 - 4096 * g) / 512 = x := by omega
      have e2 : (4096 * (g : Int) + x * 512 - 4096 * g) % 512 = 0 := by omega
      rw [e1, e2, if_pos rfl]
    | 2, _, _ =>
      rw [rep2] at ho
      obtain ⟨x, y, rfl, hx, hx2, hy, hy2⟩ := ok2 (by simpa using ho)
      have ew : wordWith (4096 * (g : Int), 2, none) [x, y] = 4096 * (g : Int) + (x * 512 + y * 64) := by simp [wordWith, wSum]
      rw [ew]
      refine ⟨by omega, by omega, ?_⟩
      rw [pRow_of ((nameOf_g (g := g) (by omega) hg3).trans hn) hs]
      simp only [rowWith, parts]
      have e1 : (4096 * (g : Int) + (x * 512 + y * 64) - 4096 * g) / 512 = x := by omega
      have e2 : (4096 * (g : Int) + (x * 512 + y * 64) - 4096 * g) % 512 / 64 = y := by omega
      have e3 : (4096 * (g : Int) + (x * 512 + y * 64) - 4096 * g) % 512 % 64 = 0 := by omega
      rw [e1, e2, e3, if_pos rfl]
  | rck n _ hb hn hr =>
    subst hb
    rw [rep2] at ho
    obtain ⟨x, y, rfl, hx, hx2, hy, hy2⟩ := ok2 (by simpa using ho)
    have ew : wordWith (12288 + (n : Int), 2, none) [x, y] = 12288 + (n : Int) + (x * 512 + y * 64) := by simp [wordWith, wSum]
    rw [ew]
    refine ⟨by omega, by omega, ?_⟩
    rw [pRow_of ((nameOf_3 (n := n) (by omega) (by omega) (by omega)).trans (congrArg some hr)) hs]
    simp only [rowWith, parts]
    have e1 : (12288 + (n : Int) + (x * 512 + y * 64) - (12288 + n)) / 512 = x := by omega
    have e2 : (12288 + (n : Int) + (x * 512 + y * 64) - (12288 + n)) % 512 / 64 = y := by omega
    have e3 : (12288 + (n : Int) + (x * 512 + y * 64) - (12288 + n)) % 512 % 64 = 0 := by omega
    rw [e1, e2, e3, if_pos rfl]
end K00

set_option maxRecDepth 100000
/-! k00, the mathematics, further: what the law reckons is what the program reckons. -/
namespace K00
open PySem
def lnames : List Str := ["", "set", "high", "", "load", "store", "jump", "zero", "some", "less", "same", "link", "go", "call", "trap", ""]
def lName (w : Int) : Str := if w / 4096 = 3 ∧ w % 64 < 11 then reck.getD (w % 64).toNat "" else lnames.getD (w / 4096).toNat ""
def lims : List (Str × Int) := [("jump", 256), ("call", 16), ("trap", 256)]
def lRowWith (nm : Str) (w : Int) : Option (Str × List Int) :=
  if nm ∈ reck then some (nm, [w / 512 % 8, w / 64 % 8])
  else if nm ∈ (["load", "store"] : List Str) then some (nm, [w / 512 % 8, w / 64 % 8, w % 64])
  else if nm ∈ (["less", "same"] : List Str) then (if w % 64 = 0 then some (nm, [w / 512 % 8, w / 64 % 8]) else none)
  else if nm = "go" then (if w % 512 = 0 then some (nm, [w / 512 % 8]) else none)
  else if nm ∈ (["jump", "call", "trap"] : List Str) then (if w % 4096 < (lims.lookup nm).getD 0 then some (nm, [w % 4096]) else none)
  else if nm = "" ∨ (nm ≠ "set" ∧ 255 < w % 512) then none
  else some (nm, [w / 512 % 8, w % 512])
def lRow (w : Int) : Option (Str × List Int) := lRowWith (lName w) w

theorem one_eq {α : Type} {c d : Prop} [Decidable c] [Decidable d] {a b : α} (h : c ↔ d) (e : c → a = b) {o : α} : (if c then a else o) = (if d then b else o) := by
  by_cases k : c
  · rw [if_pos k, if_pos (h.mp k), e k]
  · rw [if_neg k, if_neg (fun z => k (h.mpr z))]
theorem l3 {nm : Str} {a b c x y z : Int} (h1 : a = x) (h2 : b = y) (h3 : c = z) : some (nm, [a, b, c]) = some (nm, [x, y, z]) := by rw [h1, h2, h3]
theorem l2 {nm : Str} {a b x y : Int} (h1 : a = x) (h2 : b = y) : some (nm, [a, b]) = some (nm, [x, y]) := by rw [h1, h2]
theorem l1 {nm : Str} {a x : Int} (h1 : a = x) : some (nm, [a]) = some (nm, [x]) := by rw [h1]

theorem row_load {nm : Str} {w b : Int} (h1 : nm ∉ reck) (h2 : nm ∈ (["load", "store"] : List Str)) (g : Int) (hg : w / 4096 = g) (hb : b = 4096 * g) : rowWith nm (b, 2, some 63) w = lRowWith nm w := by
  unfold lRowWith
  rw [if_neg h1, if_pos h2]
  simp only [rowWith, parts]
  rw [if_pos (by omega)]
  exact l3 (by omega) (by omega) (by omega)
theorem row_less {nm : Str} {w b : Int} (h1 : nm ∉ reck) (h2 : nm ∉ (["load", "store"] : List Str)) (h3 : nm ∈ (["less", "same"] : List Str)) (g : Int) (hg : w / 4096 = g) (hb : b = 4096 * g) : rowWith nm (b, 2, none) w = lRowWith nm w := by
  unfold lRowWith
  rw [if_neg h1, if_neg h2, if_pos h3]
  simp only [rowWith, parts]
  exact one_eq (by omega) fun _ => l2 (by omega) (by omega)
theorem row_go {nm : Str} {w b : Int} (h1 : nm ∉ reck) (h2 : nm ∉ (["load", "store"] : List Str)) (h3 : nm ∉ (["less", "same"] : List Str)) (h4 : nm = "go") (g : Int) (hg : w / 4096 = g) (hb : b = 4096 * g) : rowWith nm (b, 1, none) w = lRowWith nm w := by
  unfold lRowWith
  rw [if_neg h1, if_neg h2, if_neg h3, if_pos h4]
  simp only [rowWith, parts]
  exact one_eq (by omega) fun _ => l1 (by omega)
theorem row_jump {nm : Str} {w b m : Int} (h1 : nm ∉ reck) (h2 : nm ∉ (["load", "store"] : List Str)) (h3 : nm ∉ (["less", "same"] : List Str)) (h4 : nm ≠ "go") (h5 : nm ∈ (["jump", "call", "trap"] : List Str)) (hm : (lims.lookup nm).getD 0 = m + 1)
    (g : Int) (hg : w / 4096 = g) (hb : b = 4096 * g) : rowWith nm (b, 0, some m) w = lRowWith nm w := by
  unfold lRowWith
  rw [if_neg h1, if_neg h2, if_neg h3, if_neg h4, if_pos h5, hm]
  simp only [rowWith, parts]
  exact one_eq (by omega) fun _ => l1 (by omega)
theorem row_high {nm : Str} {w b : Int} (h1 : nm ∉ reck) (h2 : nm ∉ (["load", "store"] : List Str)) (h3 : nm ∉ (["less", "same"] : List Str)) (h4 : nm ≠ "go") (h5 : nm ∉ (["jump", "call", "trap"] : List Str)) (h6 : nm ≠ "") (h7 : nm ≠ "set")
    (g : Int) (hg : w / 4096 = g) (hb : b = 4096 * g) : rowWith nm (b, 1, some 255) w = lRowWith nm w := by
  unfold lRowWith
  rw [if_neg h1, if_neg h2, if_neg h3, if_neg h4, if_neg h5]
  simp only [rowWith, parts]
  by_cases c : w % 512 ≤ 255
  · rw [if_pos (by omega), if_neg (by rintro (z | z); exact h6 z; omega)]
    exact l2 (by omega) (by omega)
  · rw [if_neg (by omega), if_pos (.inr ⟨h7, by omega⟩)]
theorem row_set {w : Int} (hg : w / 4096 = 1) : rowWith "set" (4096, 1, some 511) w = lRowWith "set" w := by
  unfold lRowWith
  rw [if_neg (by decide), if_neg (by decide), if_neg (by decide), if_neg (by decide), if_neg (by decide), if_neg (by rintro (z | z); exact absurd z (by decide); exact absurd rfl z.1)]
  simp only [rowWith, parts]
  rw [if_pos (by omega)]
  exact l2 (by omega) (by omega)
theorem row_reck {nm : Str} {w b n : Int} (h1 : nm ∈ reck) (hg : w / 4096 = 3) (hn : w % 64 = n) (hb : b = 12288 + n) : rowWith nm (b, 2, none) w = lRowWith nm w := by
  unfold lRowWith
  rw [if_pos h1]
  simp only [rowWith, parts]
  have h0 : 0 ≤ w % 64 := by omega
  rw [if_pos (by omega)]
  exact l2 (by omega) (by omega)
theorem lRow_none {w : Int} (h : lName w = "") : lRow w = none := by
  unfold lRow
  rw [h]
  unfold lRowWith
  rw [if_neg (by decide), if_neg (by decide), if_neg (by decide), if_neg (by decide), if_neg (by decide), if_pos (.inl rfl)]
theorem lName_g {w g : Int} (hg : w / 4096 = g) (h3 : ¬ (g = 3 ∧ w % 64 < 11)) : lName w = lnames.getD g.toNat "" := by
  unfold lName
  rw [hg, if_neg h3]
theorem lName_3 {w n : Int} (hg : w / 4096 = 3) (hn : w % 64 = n) (h : n < 11) : lName w = reck.getD n.toNat "" := by
  unfold lName
  rw [hg, hn, if_pos ⟨rfl, h⟩]
theorem row_law {w : Int} (h0 : 0 ≤ w) (h1 : w ≤ 65535) : pRow w = lRow w := by
  have hc : w / 4096 = 0 ∨ w / 4096 = 1 ∨ w / 4096 = 2 ∨ w / 4096 = 3 ∨ w / 4096 = 4 ∨ w / 4096 = 5 ∨ w / 4096 = 6 ∨ w / 4096 = 7 ∨ w / 4096 = 8 ∨ w / 4096 = 9 ∨ w / 4096 = 10 ∨ w / 4096 = 11 ∨ w / 4096 = 12 ∨ w / 4096 = 13 ∨ w / 4096 = 14 ∨ w / 4096 = 15 := by omega
  have go : ∀ {g : Int} {nm : Str} {s : Int × Nat × Option Int}, w / 4096 = g → g ≠ 3 → names.getD g.toNat none = some nm → lnames.getD g.toNat "" = nm → shapes.lookup nm = some s → rowWith nm s w = lRowWith nm w → pRow w = lRow w := fun {g nm s} hg h3 e1 e2 e3 e => by
    rw [pRow_of ((nameOf_g hg h3).trans e1) e3, e]
    unfold lRow
    rw [lName_g hg (fun z => h3 z.1), e2]
  have no : ∀ {g : Int}, w / 4096 = g → g ≠ 3 → names.getD g.toNat none = none → lnames.getD g.toNat "" = "" → pRow w = lRow w := fun {g} hg h3 e1 e2 => by
    rw [lRow_none ((lName_g hg (fun z => h3 z.1)).trans e2)]
    unfold pRow
    rw [(nameOf_g hg h3).trans e1]
  rcases hc with g | g | g | g | g | g | g | g | g | g | g | g | g | g | g | g
  · exact no g (by decide) rfl rfl
  · exact go g (by decide) rfl rfl rfl (row_set g)
  · exact go g (by decide) rfl rfl rfl (row_high (by decide) (by decide) (by decide) (by decide) (by decide) (by decide) (by decide) _ g rfl)
  · have hn : w % 64 = 0 ∨ w % 64 = 1 ∨ w % 64 = 2 ∨ w % 64 = 3 ∨ w % 64 = 4 ∨ w % 64 = 5 ∨ w % 64 = 6 ∨ w % 64 = 7 ∨ w % 64 = 8 ∨ w % 64 = 9 ∨ w % 64 = 10 ∨ 11 ≤ w % 64 := by omega
    have go3 : ∀ {n : Int} {nm : Str} {b : Int}, w % 64 = n → n < 11 → reck.getD n.toNat "" = nm → nm ∈ reck → shapes.lookup nm = some (b, 2, none) → b = 12288 + n → pRow w = lRow w := fun {n nm b} hn h e1 e2 e3 e => by
      rw [pRow_of ((nameOf_3 g hn h).trans (congrArg some e1)) e3, row_reck e2 g hn e]
      unfold lRow
      rw [lName_3 g hn h, e1]
    rcases hn with n | n | n | n | n | n | n | n | n | n | n | n
    · exact go3 n (by decide) rfl (by decide) rfl rfl
    · exact go3 n (by decide) rfl (by decide) rfl rfl
    · exact go3 n (by decide) rfl (by decide) rfl rfl
    · exact go3 n (by decide) rfl (by decide) rfl rfl
    · exact go3 n (by decide) rfl (by decide) rfl rfl
    · exact go3 n (by decide) rfl (by decide) rfl rfl
    · exact go3 n (by decide) rfl (by decide) rfl rfl
    · exact go3 n (by decide) rfl (by decide) rfl rfl
    · exact go3 n (by decide) rfl (by decide) rfl rfl
    · exact go3 n (by decide) rfl (by decide) rfl rfl
    · exact go3 n (by decide) rfl (by decide) rfl rfl
    · rw [lRow_none ((lName_g g (fun z => by omega)).trans rfl)]
      have e : nameOf w = none := by
        unfold nameOf
        rw [if_pos g, if_neg (by omega)]
      unfold pRow
      rw [e]
  · exact go g (by decide) rfl rfl rfl (row_load (by decide) (by decide) _ g rfl)
  · exact go g (by decide) rfl rfl rfl (row_load (by decide) (by decide) _ g rfl)
  · exact go g (by decide) rfl rfl rfl (row_jump (by decide) (by decide) (by decide) (by decide) (by decide) rfl _ g rfl)
  · exact go g (by decide) rfl rfl rfl (row_high (by decide) (by decide) (by decide) (by decide) (by decide) (by decide) (by decide) _ g rfl)
  · exact go g (by decide) rfl rfl rfl (row_high (by decide) (by decide) (by decide) (by decide) (by decide) (by decide) (by decide) _ g rfl)
  · exact go g (by decide) rfl rfl rfl (row_less (by decide) (by decide) (by decide) _ g rfl)
  · exact go g (by decide) rfl rfl rfl (row_less (by decide) (by decide) (by decide) _ g rfl)
  · exact go g (by decide) rfl rfl rfl (row_high (by decide) (by decide) (by decide) (by decide) (by decide) (by decide) (by decide) _ g rfl)
  · exact go g (by decide) rfl rfl rfl (row_go (by decide) (by decide) (by decide) (by decide) _ g rfl)
  · exact go g (by decide) rfl rfl rfl (row_jump (by decide) (by decide) (by decide) (by decide) (by decide) rfl _ g rfl)
  · exact go g (by decide) rfl rfl rfl (row_jump (by decide) (by decide) (by decide) (by decide) (by decide) rfl _ g rfl)
  · exact no g (by decide) rfl rfl
/-- a word stands less than 4096 above the least word of its row -/
theorem near {w : Int} {nm : Str} {s : Int × Nat × Option Int} (h0 : 0 ≤ w) (h1 : w ≤ 65535) (e : nameOf w = some nm) (e2 : shapes.lookup nm = some s) : 0 ≤ w - s.1 ∧ w - s.1 < 4096 := by
  have hc : w / 4096 = 0 ∨ w / 4096 = 1 ∨ w / 4096 = 2 ∨ w / 4096 = 3 ∨ w / 4096 = 4 ∨ w / 4096 = 5 ∨ w / 4096 = 6 ∨ w / 4096 = 7 ∨ w / 4096 = 8 ∨ w / 4096 = 9 ∨ w / 4096 = 10 ∨ w / 4096 = 11 ∨ w / 4096 = 12 ∨ w / 4096 = 13 ∨ w / 4096 = 14 ∨ w / 4096 = 15 := by omega
  have go : ∀ {g : Int} {nm' : Str} {s' : Int × Nat × Option Int}, w / 4096 = g → g ≠ 3 → names.getD g.toNat none = some nm' → shapes.lookup nm' = some s' → s'.1 = 4096 * g → 0 ≤ w - s.1 ∧ w - s.1 < 4096 := fun {g nm' s'} hg h3 e1 e3 hb => by
    have q : some nm' = some nm := e1.symm.trans ((nameOf_g hg h3).symm.trans e)
    cases q
    have q2 : s' = s := Option.some.inj (e3.symm.trans e2)
    subst q2
    omega
  have no : ∀ {g : Int}, w / 4096 = g → g ≠ 3 → names.getD g.toNat none = none → 0 ≤ w - s.1 ∧ w - s.1 < 4096 := fun {g} hg h3 e1 => by
    rw [nameOf_g hg h3, e1] at e
    cases e
  rcases hc with g | g | g | g | g | g | g | g | g | g | g | g | g | g | g | g
  · exact no g (by decide) rfl
  · exact go g (by decide) rfl rfl rfl
  · exact go g (by decide) rfl rfl rfl
  · have hn : w % 64 = 0 ∨ w % 64 = 1 ∨ w % 64 = 2 ∨ w % 64 = 3 ∨ w % 64 = 4 ∨ w % 64 = 5 ∨ w % 64 = 6 ∨ w % 64 = 7 ∨ w % 64 = 8 ∨ w % 64 = 9 ∨ w % 64 = 10 ∨ 11 ≤ w % 64 := by omega
    have go3 : ∀ {n : Int} {nm' : Str} {s' : Int × Nat × Option Int}, w % 64 = n → n < 11 → reck.getD n.toNat "" = nm' → shapes.lookup nm' = some s' → s'.1 = 12288 + n → 0 ≤ w - s.1 ∧ w - s.1 < 4096 := fun {n nm' s'} hn h e1 e3 hb => by
      have q : some nm' = some nm := (congrArg some e1).symm.trans ((nameOf_3 g hn h).symm.trans e)
      cases q
      have q2 : s' = s := Option.some.inj (e3.symm.trans e2)
      subst q2
      omega
    rcases hn with n | n | n | n | n | n | n | n | n | n | n | n
    · exact go3 n (by decide) rfl rfl rfl
    · exact go3 n (by decide) rfl rfl rfl
    · exact go3 n (by decide) rfl rfl rfl
    · exact go3 n (by decide) rfl rfl rfl
    · exact go3 n (by decide) rfl rfl rfl
    · exact go3 n (by decide) rfl rfl rfl
    · exact go3 n (by decide) rfl rfl rfl
    · exact go3 n (by decide) rfl rfl rfl
    · exact go3 n (by decide) rfl rfl rfl
    · exact go3 n (by decide) rfl rfl rfl
    · exact go3 n (by decide) rfl rfl rfl
    · have e' : nameOf w = none := by
        unfold nameOf
        rw [if_pos g, if_neg (by omega)]
      rw [e'] at e
      cases e
  · exact go g (by decide) rfl rfl rfl
  · exact go g (by decide) rfl rfl rfl
  · exact go g (by decide) rfl rfl rfl
  · exact go g (by decide) rfl rfl rfl
  · exact go g (by decide) rfl rfl rfl
  · exact go g (by decide) rfl rfl rfl
  · exact go g (by decide) rfl rfl rfl
  · exact go g (by decide) rfl rfl rfl
  · exact go g (by decide) rfl rfl rfl
  · exact go g (by decide) rfl rfl rfl
  · exact go g (by decide) rfl rfl rfl
  · exact no g (by decide) rfl
theorem many2 : ∀ p ∈ shapes, p.2.2.1 ≤ 2 ∧ ∀ m, p.2.2.2 = some m → 0 ≤ m := by decide
theorem ok_mk1 {x a : Int} (h : 0 ≤ x) (h2 : x ≤ a) : okParts [x] [a] = true := by simp [okParts, h, h2]
theorem ok_mk2 {x a y b : Int} (h : 0 ≤ x) (h2 : x ≤ a) (h3 : 0 ≤ y) (h4 : y ≤ b) : okParts [x, y] [a, b] = true := by simp [okParts, h, h2, h3, h4]
theorem ok_mk3 {x a y b z c : Int} (h : 0 ≤ x) (h2 : x ≤ a) (h3 : 0 ≤ y) (h4 : y ≤ b) (h5 : 0 ≤ z) (h6 : z ≤ c) : okParts [x, y, z] [a, b, c] = true := by simp [okParts, h, h2, h3, h4, h5, h6]
theorem rowWith_back {nm nm' : Str} {b : Int} {many : Nat} {most : Option Int} {ps : List Int} {w : Int} (hm : many ≤ 2) (h0 : 0 ≤ w - b) (h1 : w - b < 4096) (h : rowWith nm (b, many, most) w = some (nm', ps)) :
    nm = nm' ∧ okParts ps (bnds (b, many, most)) = true ∧ wordWith (b, many, most) ps = w := by
  match many, hm, most, h with
  | 0, _, none, h =>
    simp only [rowWith, parts] at h
    split at h
    · cases h
      refine ⟨rfl, rfl, ?_⟩
      simp only [wordWith, wSum]
      omega
    · cases h
  | 0, _, some m, h =>
    simp only [rowWith, parts] at h
    split at h
    · cases h
      refine ⟨rfl, ok_mk1 h0 (by assumption), ?_⟩
      show b + 0 + (w - b) = w
      omega
    · cases h
  | 1, _, none, h =>
    simp only [rowWith, parts] at h
    split at h
    · cases h
      refine ⟨rfl, ok_mk1 (by omega) (by omega), ?_⟩
      simp only [wordWith, wSum]
      omega
    · cases h
  | 1, _, some m, h =>
    simp only [rowWith, parts] at h
    split at h
    · cases h
      refine ⟨rfl, ok_mk2 (by omega) (by omega) (by omega) (by assumption), ?_⟩
      simp only [wordWith, wSum, List.cons_append, List.nil_append, List.getLastD, List.getLast]
      omega
    · cases h
  | 2, _, none, h =>
    simp only [rowWith, parts] at h
    split at h
    · cases h
      refine ⟨rfl, ok_mk2 (by omega) (by omega) (by omega) (by omega), ?_⟩
      simp only [wordWith, wSum]
      omega
    · cases h
  | 2, _, some m, h =>
    simp only [rowWith, parts] at h
    split at h
    · cases h
      refine ⟨rfl, ok_mk3 (by omega) (by omega) (by omega) (by omega) (by omega) (by assumption), ?_⟩
      simp only [wordWith, wSum, List.cons_append, List.nil_append, List.getLastD, List.getLast]
      omega
    · cases h
/-- what a word tells is a row, and its word leads back -/
theorem row_word {w : Int} {nm : Str} {ps : List Int} (h0 : 0 ≤ w) (h1 : w ≤ 65535) (h : pRow w = some (nm, ps)) : IsRow nm ps ∧ wordOf nm ps = w := by
  unfold pRow at h
  cases e : nameOf w with
  | none => rw [e] at h; cases h
  | some nm' =>
    rw [e] at h
    simp only at h
    cases e2 : shapes.lookup nm' with
    | none => rw [e2] at h; cases h
    | some s =>
      rw [e2] at h
      have h : rowWith nm' s w = some (nm, ps) := h
      obtain ⟨n0, n1⟩ := near h0 h1 e e2
      have hm := (many2 _ (mem_of_lookup e2)).1
      obtain ⟨b, many, most⟩ := s
      obtain ⟨q1, q2, q3⟩ := rowWith_back hm n0 n1 h
      subst q1
      refine ⟨⟨_, e2, q2⟩, ?_⟩
      unfold wordOf
      rw [e2]
      exact q3
/-! ### the law's own word -/
def lnames1 : List Str := ["set", "high", "", "load", "store", "jump", "zero", "some", "less", "same", "link", "go", "call", "trap"]
def lWord (nm : Str) (ps : List Int) : Int :=
  if nm ∈ reck then 12288 + 512 * ps.getD 0 0 + 64 * ps.getD 1 0 + (reck.idxOf nm : Nat)
  else
    let b : Int := 4096 * ((lnames1.idxOf nm : Nat) + 1)
    if nm ∈ (["jump", "call", "trap"] : List Str) then b + ps.getD 0 0
    else if nm ∈ (["load", "store"] : List Str) then b + 512 * ps.getD 0 0 + 64 * ps.getD 1 0 + ps.getD 2 0
    else if nm ∈ (["less", "same"] : List Str) then b + 512 * ps.getD 0 0 + 64 * ps.getD 1 0
    else b + 512 * ps.getD 0 0 + (if nm = "go" then 0 else ps.getD 1 0)
theorem lw_reck {nm : Str} {b : Int} {n : Nat} (h : nm ∈ reck) (hi : reck.idxOf nm = n) (hb : b = 12288 + (n : Int)) (ps : List Int) (ho : okParts ps (bnds (b, 2, none)) = true) : lWord nm ps = wordWith (b, 2, none) ps := by
  obtain ⟨x, y, rfl, _⟩ := ok2 (show okParts ps [7, 7] = true from ho)
  unfold lWord
  rw [if_pos h, hi]
  show 12288 + 512 * x + 64 * y + (n : Int) = b + (x * 512 + y * 64) + 0
  omega
theorem lw_jump {nm : Str} {b m : Int} {n : Nat} (h : nm ∉ reck) (h2 : nm ∈ (["jump", "call", "trap"] : List Str)) (hi : lnames1.idxOf nm = n) (hb : b = 4096 * ((n : Int) + 1)) (ps : List Int) (ho : okParts ps (bnds (b, 0, some m)) = true) : lWord nm ps = wordWith (b, 0, some m) ps := by
  obtain ⟨x, rfl, _⟩ := ok1 (show okParts ps [m] = true from ho)
  unfold lWord
  rw [if_neg h, hi]
  simp only
  rw [if_pos h2]
  show 4096 * ((n : Int) + 1) + x = b + 0 + x
  omega
theorem lw_load {nm : Str} {b m : Int} {n : Nat} (h : nm ∉ reck) (h2 : nm ∉ (["jump", "call", "trap"] : List Str)) (h3 : nm ∈ (["load", "store"] : List Str)) (hi : lnames1.idxOf nm = n) (hb : b = 4096 * ((n : Int) + 1)) (ps : List Int) (ho : okParts ps (bnds (b, 2, some m)) = true) :
    lWord nm ps = wordWith (b, 2, some m) ps := by
  obtain ⟨x, y, z, rfl, _⟩ := ok3 (show okParts ps [7, 7, m] = true from ho)
  unfold lWord
  rw [if_neg h, hi]
  simp only
  rw [if_neg h2, if_pos h3]
  show 4096 * ((n : Int) + 1) + 512 * x + 64 * y + z = b + (x * 512 + y * 64) + z
  omega
theorem lw_less {nm : Str} {b : Int} {n : Nat} (h : nm ∉ reck) (h2 : nm ∉ (["jump", "call", "trap"] : List Str)) (h3 : nm ∉ (["load", "store"] : List Str)) (h4 : nm ∈ (["less", "same"] : List Str)) (hi : lnames1.idxOf nm = n) (hb : b = 4096 * ((n : Int) + 1)) (ps : List Int)
    (ho : okParts ps (bnds (b, 2, none)) = true) : lWord nm ps = wordWith (b, 2, none) ps := by
  obtain ⟨x, y, rfl, _⟩ := ok2 (show okParts ps [7, 7] = true from ho)
  unfold lWord
  rw [if_neg h, hi]
  simp only
  rw [if_neg h2, if_neg h3, if_pos h4]
  show 4096 * ((n : Int) + 1) + 512 * x + 64 * y = b + (x * 512 + y * 64) + 0
  omega
theorem lw_go {nm : Str} {b : Int} {n : Nat} (h : nm ∉ reck) (h2 : nm ∉ (["jump", "call", "trap"] : List Str)) (h3 : nm ∉ (["load", "store"] : List Str)) (h4 : nm ∉ (["less", "same"] : List Str)) (h5 : nm = "go") (hi : lnames1.idxOf nm = n) (hb : b = 4096 * ((n : Int) + 1)) (ps : List Int)
    (ho : okParts ps (bnds (b, 1, none)) = true) : lWord nm ps = wordWith (b, 1, none) ps := by
  obtain ⟨x, rfl, _⟩ := ok1 (show okParts ps [7] = true from ho)
  unfold lWord
  rw [if_neg h, hi]
  simp only
  rw [if_neg h2, if_neg h3, if_neg h4, if_pos h5]
  show 4096 * ((n : Int) + 1) + 512 * x + 0 = b + (x * 512) + 0
  omega
theorem lw_set {nm : Str} {b m : Int} {n : Nat} (h : nm ∉ reck) (h2 : nm ∉ (["jump", "call", "trap"] : List Str)) (h3 : nm ∉ (["load", "store"] : List Str)) (h4 : nm ∉ (["less", "same"] : List Str)) (h5 : nm ≠ "go") (hi : lnames1.idxOf nm = n) (hb : b = 4096 * ((n : Int) + 1)) (ps : List Int)
    (ho : okParts ps (bnds (b, 1, some m)) = true) : lWord nm ps = wordWith (b, 1, some m) ps := by
  obtain ⟨x, y, rfl, _⟩ := ok2 (show okParts ps [7, m] = true from ho)
  unfold lWord
  rw [if_neg h, hi]
  simp only
  rw [if_neg h2, if_neg h3, if_neg h4, if_neg h5]
  show 4096 * ((n : Int) + 1) + 512 * x + y = b + (x * 512) + y
  omega
theorem lWord_all : ∀ p ∈ shapes, ∀ ps : List Int, okParts ps (bnds p.2) = true → lWord p.1 ps = wordWith p.2 ps := by
  intro p hp
  simp only [shapes, List.mem_cons, List.not_mem_nil, or_false] at hp
  rcases hp with rfl | rfl | rfl | rfl | rfl | rfl | rfl | rfl | rfl | rfl | rfl | rfl | rfl | rfl | rfl | rfl | rfl | rfl | rfl | rfl | rfl | rfl | rfl | rfl
  · exact lw_set (by decide) (by decide) (by decide) (by decide) (by decide) rfl rfl
  · exact lw_set (by decide) (by decide) (by decide) (by decide) (by decide) rfl rfl
  · exact lw_reck (by decide) rfl rfl
  · exact lw_reck (by decide) rfl rfl
  · exact lw_reck (by decide) rfl rfl
  · exact lw_reck (by decide) rfl rfl
  · exact lw_reck (by decide) rfl rfl
  · exact lw_reck (by decide) rfl rfl
  · exact lw_reck (by decide) rfl rfl
  · exact lw_reck (by decide) rfl rfl
  · exact lw_reck (by decide) rfl rfl
  · exact lw_reck (by decide) rfl rfl
  · exact lw_reck (by decide) rfl rfl
  · exact lw_load (by decide) (by decide) (by decide) rfl rfl
  · exact lw_load (by decide) (by decide) (by decide) rfl rfl
  · exact lw_jump (by decide) (by decide) rfl rfl
  · exact lw_set (by decide) (by decide) (by decide) (by decide) (by decide) rfl rfl
  · exact lw_set (by decide) (by decide) (by decide) (by decide) (by decide) rfl rfl
  · exact lw_less (by decide) (by decide) (by decide) (by decide) rfl rfl
  · exact lw_less (by decide) (by decide) (by decide) (by decide) rfl rfl
  · exact lw_set (by decide) (by decide) (by decide) (by decide) (by decide) rfl rfl
  · exact lw_go (by decide) (by decide) (by decide) (by decide) (by decide) rfl rfl
  · exact lw_jump (by decide) (by decide) rfl rfl
  · exact lw_jump (by decide) (by decide) rfl rfl
theorem lWord_eq {nm : Str} {ps : List Int} (h : IsRow nm ps) : lWord nm ps = wordOf nm ps := by
  obtain ⟨s, hs, ho⟩ := h
  unfold wordOf
  rw [hs]
  exact lWord_all (nm, s) (mem_of_lookup hs) ps ho
/-! ### texts -/
def sizes : List (Str × List Int) := [("set", [8, 512]), ("high", [8, 256]), ("load", [8, 8, 64]), ("store", [8, 8, 64]), ("jump", [256]), ("zero", [8, 256]), ("some", [8, 256]), ("less", [8, 8]), ("same", [8, 8]), ("link", [8, 256]), ("go", [8]), ("call", [16]), ("trap", [256]),
  ("copy", [8, 8]), ("add", [8, 8]), ("sub", [8, 8]), ("mul", [8, 8]), ("div", [8, 8]), ("rem", [8, 8]), ("and", [8, 8]), ("or", [8, 8]), ("xor", [8, 8]), ("shl", [8, 8]), ("shr", [8, 8])]
def pWords (nm : Str) (many : Nat) (ps : List Int) : List Str := nm :: ((ps.take many).map fun n => Str.ofString "r" ++ ((toString n : String) : Str)) ++ (ps.drop many).map fun n => ((toString n : String) : Str)
def lWords (nm : Str) (zs ps : List Int) : List Str := nm :: (ps.zip zs).map fun p => if p.2 = 8 then Str.ofString "r" ++ ((toString p.1 : String) : Str) else ((toString p.1 : String) : Str)
theorem sizes_all : ∀ p ∈ shapes, sizes.lookup p.1 = some ((bnds p.2).map (· + 1)) := by decide
theorem sizes_none : ∀ nm : Str, shapes.lookup nm = none → sizes.lookup nm = none := by
  intro nm h
  cases e : sizes.lookup nm with
  | none => rfl
  | some z =>
    have hm : (nm, z) ∈ sizes := mem_of_lookup e
    have hall : ∀ p ∈ sizes, (shapes.lookup p.1).isSome = true := by decide
    have := hall _ hm
    rw [h] at this
    cases this
theorem words_all : ∀ p ∈ shapes, ∀ ps : List Int, okParts ps (bnds p.2) = true → pWords p.1 p.2.2.1 ps = lWords p.1 ((bnds p.2).map (· + 1)) ps := by
  intro p hp
  simp only [shapes, List.mem_cons, List.not_mem_nil, or_false] at hp
  rcases hp with rfl | rfl | rfl | rfl | rfl | rfl | rfl | rfl | rfl | rfl | rfl | rfl | rfl | rfl | rfl | rfl | rfl | rfl | rfl | rfl | rfl | rfl | rfl | rfl
  all_goals
    intro ps ho
    first
      | (obtain ⟨x, y, z, rfl, _⟩ := ok3 (show okParts ps [7, 7, _] = true from ho); rfl)
      | (obtain ⟨x, y, rfl, _⟩ := ok2 (show okParts ps [7, _] = true from ho); rfl)
      | (obtain ⟨x, rfl, _⟩ := ok1 (show okParts ps [_] = true from ho); rfl)
end K00

set_option maxRecDepth 100000
/-! k00: the text by places, its scopes. -/
namespace K00
open PySem PySem.Spec PyProof.Rows L2
def topS (i : Nat) : Stmt := PySem.Challenge.pw_clankernel_k00_whole_rows_and_words.main.body.getD i (.Pass ⟨0, 0, 0, 0⟩)
abbrev sWithin : Stmt := topS 1
abbrev sIsWord : Stmt := topS 2
abbrev sRowOf : Stmt := topS 12
abbrev sWordOf : Stmt := topS 13
abbrev sRowText : Stmt := topS 14
abbrev sIsPlaced : Stmt := topS 15
abbrev sIsRow : Stmt := topS 16
abbrev sNameOf : Stmt := topS 17
abbrev sPot : Stmt := topS 19
abbrev sTake : Stmt := topS 20
abbrev sOf : Stmt := topS 21
abbrev sSome : Stmt := topS 22
abbrev sCells : Stmt := topS 23
abbrev sHeard : Stmt := topS 24
abbrev sOdd : Stmt := topS 25
abbrev sBent : Stmt := topS 26
abbrev sIsInt : Stmt := topS 27
abbrev sCellWord : Stmt := topS 28
abbrev sCellRow : Stmt := topS 29
abbrev sSizes : Stmt := topS 30
abbrev sLRowText : Stmt := topS 31
abbrev sLIsRow : Stmt := topS 32
abbrev sAnyRow : Stmt := topS 33
abbrev sWordRight : Stmt := topS 34
abbrev sSomeWords : Stmt := topS 35
abbrev sRefused : Stmt := topS 36
abbrev sRight : Stmt := topS 37
abbrev sLaw : Stmt := topS 38
theorem scWithin : FnScope ["value", "low", "high"] ["value", "low", "high"] (defScope sWithin) := ⟨rfl, rfl, rfl, by decide +kernel, rfl, by decide +kernel, by decide +kernel⟩
theorem scIsWord : FnScope ["value"] ["value"] (defScope sIsWord) := ⟨rfl, rfl, rfl, by decide +kernel, rfl, by decide +kernel, by decide +kernel⟩
theorem scNameOf : FnScope ["word", "group", "number"] ["word"] (defScope sNameOf) := ⟨rfl, rfl, rfl, by decide +kernel, rfl, by decide +kernel, by decide +kernel⟩
theorem scRowOf : FnScope ["word", "name", "base", "many", "most", "rest", "numbers", "weight"] ["word"] (defScope sRowOf) := ⟨rfl, rfl, rfl, by decide +kernel, rfl, by decide +kernel, by decide +kernel⟩
theorem scWordOf : FnScope ["row", "base", "many", "most", "word", "number", "weight"] ["row"] (defScope sWordOf) := ⟨rfl, rfl, rfl, by decide +kernel, rfl, by decide +kernel, by decide +kernel⟩
theorem scIsPlaced : FnScope ["row"] ["row"] (defScope sIsPlaced) := ⟨rfl, rfl, rfl, by decide +kernel, rfl, by decide +kernel, by decide +kernel⟩
theorem scTake : FnScope ["pot", "upto", "digit", "prime", "blend"] ["pot", "upto"] (defScope sTake) := ⟨rfl, rfl, rfl, by decide +kernel, rfl, by decide +kernel, by decide +kernel⟩
end K00

set_option maxRecDepth 100000
set_option maxHeartbeats 2000000
/-! k00: data on the heap; is_within, is_word. -/
namespace K00
open PySem PySem.Spec PyProof.Rows L2
/-! ### data: what stands on the heap, as values of any kind -/
/-- a value of any kind: as Dp tells, or one of the dicts that are drawn -/
inductive Dk (K : PySem.W.Frag) (H : Hp) : V → PyData → Prop
  | dp {v : V} {d : PyData} : Dp K H v d → Dk K H v d
  | d0 {a : Addr} : H a = some (.dK []) → Dk K H (.ref a) (.dict [])
  | d1 {a : Addr} : H a = some (.dK [(.inr "a", .int 1)]) → Dk K H (.ref a) (.dict [(.str "a", .int 1)])
def tyName : PyData → String
  | .none => "NoneType"
  | .bool _ => "bool"
  | .int _ => "int"
  | .str _ => "str"
  | .list _ => "list"
  | .tuple _ => "tuple"
  | .dict _ => "dict"
theorem Dk.ty {K : PySem.W.Frag} {H : Hp} {v : V} {d : PyData} (h : Dk K H v d) : TyB K H v (tyName d) := by
  cases h with
  | dp h =>
    cases h with
    | non => exact .non
    | bl b => exact .bl b
    | int i => exact .int i
    | str x => exact .str x
    | lst hs _ => exact .lst hs
    | tup hs _ => exact .tup hs
  | d0 h => exact .dK h
  | d1 h => exact .dK h
theorem Same.seqT {K : PySem.W.Frag} {H H' : Hp} {a : Addr} {xs : List V} (e : Same H H') (h : SqT K H a xs) : SqT K H' a xs := by
  rcases h with (h | ⟨o, h⟩) | h
  · exact .inl (.inl (e _ _ h))
  · exact .inl (.inr ⟨o, e _ _ h⟩)
  · exact .inr h
mutual
theorem dp_same {K : PySem.W.Frag} {H H' : Hp} (e : Same H H') : ∀ (d : PyData) (v : V), Dp K H v d → Dp K H' v d
  | .none, _, h => by cases h; exact .non
  | .bool b, _, h => by cases h; exact .bl b
  | .int i, _, h => by cases h; exact .int i
  | .str x, _, h => by cases h; exact .str x
  | .list ds, _, h => by
    cases h with
    | lst hs ha => exact .lst (e.seq hs) (dpAll_same e ds _ ha)
  | .tuple ds, _, h => by
    cases h with
    | tup hs ha => exact .tup (Same.seqT e hs) (dpAll_same e ds _ ha)
  | .dict _, _, h => by cases h
theorem dpAll_same {K : PySem.W.Frag} {H H' : Hp} (e : Same H H') : ∀ (ds : List PyData) (vs : List V), DpAll K H vs ds → DpAll K H' vs ds
  | [], _, h => by cases h; exact .nil
  | d :: ds, _, h => by
    cases h with
    | cons h1 h2 => exact .cons (dp_same e d _ h1) (dpAll_same e ds _ h2)
end
theorem Dk.same {K : PySem.W.Frag} {H H' : Hp} (e : Same H H') {d : PyData} {v : V} (h : Dk K H v d) : Dk K H' v d := by
  cases h with
  | dp h => exact .dp (dp_same e _ _ h)
  | d0 h => exact .d0 (e _ _ h)
  | d1 h => exact .d1 (e _ _ h)
theorem same_upd {H : Hp} {p : Addr} {o : HO} (h : H p = none) : Same H (upd H p o) := fun b x e => by
  rw [upd_ne (ne_of_none e h)]
  exact e
/-! ### is_within -/
def isW : PyData → Int → Int → Bool
  | .int i, lo, hi => decide (lo ≤ i) && decide (i ≤ hi)
  | _, _, _ => false
/-- a name of the module that holds an object -/
theorem pgr {X : Cx} {x : Str} {a : Addr} {pos : Pos} (hg : Gl X x) (hm : X.mg x = some (.ref a)) (hd : (x == ("__debug__" : Str)) = false := by decide) : PE X (.Name x pos) (tC (.ref a)) := pe_glob hg hm rfl hd
section
variable {P : Program} {w : World} {K : PySem.W.Frag} {mg : Str → Option Value} {base : Heap}
def spWithin (K : PySem.W.Frag) : Sp := fun vs H Q _ => ∃ (v : V) (d : PyData) (lo hi : Int), vs = [v, .int lo, .int hi] ∧ Dk K H v d ∧ Q (.bl (isW d lo hi)) H
theorem ok_within {f : Addr} {fd : FuncData} {k : Nat} (F : Fun K "is_within" "is_within" sWithin f fd) (mt : mg "type" = none) (mi : mg "int" = none) : FnOk P w K mg base CX0 (k + 1) f fd ["value", "low", "high"] (spWithin K) := by
  refine F.ok scWithin (fun vs H Q E h => ?_) (fun cdv A outer s H vs Q E hr h => ?_)
  · obtain ⟨v, d, lo, hi, rfl, _⟩ := h
    rfl
  · obtain ⟨v, d, lo, hi, rfl, hd, q⟩ := h
    refine ⟨_, pss_one (ps_ret (pe_and (pe_cmpR op_isTyB (pe_callTy call_type1 (by rfl) mt (by decide +kernel) (pa_cons (pv 0) pa_nil)) (pe_bltn (v := .ty "int") (by rfl) mi (by decide +kernel) rfl) (nomark _))
      (pe_one (pe_chain op_le op_le (pv 1) (pv 0) (pv 2))))), ?_⟩
    refine ⟨v, rfl, v, tyName d, rfl, hd.ty, _, _, rfl, rfl, _, rfl, ?_⟩
    cases hd with
    | d0 h => exact iteF q
    | d1 h => exact iteF q
    | dp hd =>
      cases hd with
      | non => exact iteF q
      | bl b => exact iteF q
      | str x => exact iteF q
      | lst hs _ => exact iteF q
      | tup hs _ => exact iteF q
      | int i =>
        refine iteT ?_
        refine ⟨_, rfl, _, rfl, lo, i, rfl, rfl, _, rfl, ?_⟩
        by_cases c : lo ≤ i
        · rw [decide_eq_true c]
          refine iteT ⟨_, rfl, i, hi, rfl, rfl, ?_⟩
          have e : isW (.int i) lo hi = decide (i ≤ hi) := by simp [isW, c]
          rw [e] at q
          exact q
        · rw [decide_eq_false c]
          have e : isW (.int i) lo hi = false := by simp [isW, c]
          rw [e] at q
          exact iteF q
def spIsWord (K : PySem.W.Frag) : Sp := fun vs H Q _ => ∃ (v : V) (d : PyData), vs = [v] ∧ Dk K H v d ∧ Q (.bl (isW d 0 65535)) H
theorem ok_isWord {f f1 : Addr} {fd fd1 : FuncData} {k : Nat} (F : Fun K "is_word" "is_word" sIsWord f fd) (F1 : Fun K "is_within" "is_within" sWithin f1 fd1) (b1 : Binds K fd1 ["value", "low", "high"] []) (g1 : mg "is_within" = some (.ref f1)) (mt : mg "type" = none) (mi : mg "int" = none) :
    FnOk P w K mg base CX0 (k + 2) f fd ["value"] (spIsWord K) := by
  have G : FnOk P w K mg base CX0 (k + 1) f1 fd1 ["value", "low", "high"] (spWithin K) := ok_within F1 mt mi
  refine F.ok scIsWord (fun vs H Q E h => ?_) (fun cdv A outer s H vs Q E hr h => ?_)
  · obtain ⟨v, d, rfl, _⟩ := h
    rfl
  · obtain ⟨v, d, rfl, hd, q⟩ := h
    refine ⟨_, pss_one (ps_ret (pe_call G hr (by rfl) g1 F1.kp b1 .nil pass0 (pa_cons (pv 0) (pa_cons pe_int (pa_cons pe_int pa_nil))))), ?_⟩
    exact ⟨v, rfl, v, d, 0, 65535, rfl, hd, q⟩
/-! ### _name_of -/
/-- a tuple of the written part -/
def KT (K : PySem.W.Frag) (a : Addr) (xs : List V) : Prop := ∃ (o : Obj) (its : Array Value) (n : Nat), K.lookup a = some o ∧ o.cls = .type "tuple" ∧ o.data = .seq its n ∧ its.size ≤ sizeLine ∧ Vals xs its.toList
theorem KT.sq {a : Addr} {xs : List V} (h : KT K a xs) {H : Hp} : SqT K H a xs := .inr h
def optS : Option Str → V
  | none => .non
  | some x => .str x
def spNameOf : Sp := fun vs H Q _ => ∃ w : Int, vs = [.int w] ∧ 0 ≤ w ∧ w ≤ 65535 ∧ Q (optS (nameOf w)) H
theorem ok_nameOf {f aN aR : Addr} {fd : FuncData} {k : Nat} (F : Fun K "_name_of" "_name_of" sNameOf f fd) (gN : mg "NAMES" = some (.ref aN)) (gR : mg "RECKONED" = some (.ref aR)) (tN : KT K aN (names.map optS)) (tR : KT K aR (reck.map V.str)) (ml : mg "len" = none) :
    FnOk P w K mg base CX0 (k + 1) f fd ["word"] spNameOf := by
  refine F.ok scNameOf (fun vs H Q E h => ?_) (fun cdv A outer s H vs Q E hr h => ?_)
  · obtain ⟨v, rfl, _⟩ := h
    rfl
  · obtain ⟨w, rfl, h0, h1, q⟩ := h
    refine ⟨_, pss_cons (ps_set (i := 1) scNameOf.nd rfl (.inl rfl) (pe_op op_fdiv (pv 0) pe_int))
      (pss_cons (ps_if (pt_cmpR op_ne (pv 1) pe_int (nomark _)) (pss_one (ps_ret (pe_ix ix_tup (pgr (by rfl) gN) (pv 1) (fun _ _ => rfl)))) pss_nil)
      (pss_cons (ps_set (i := 2) scNameOf.nd rfl (.inl rfl) (pe_op op_mod (pv 0) pe_int))
      (pss_one (ps_ret (pe_ifExp (pt_cmpR op_lt (pv 2) (pe_callB call_len_seq (by rfl) ml PySem.boot_len (pa_cons (pgr (by rfl) gR) pa_nil)) (nomark _))
        (pe_ix ix_tup (pgr (by rfl) gR) (pv 2) (fun _ _ => rfl)) pe_non))))), ?_⟩
    refine ⟨_, rfl, w, 4096, rfl, rfl, ⟨by decide, by decide⟩, ?_⟩
    refine ⟨_, rfl, rfl, _, rfl, ?_⟩
    by_cases c : w / 4096 = 3
    · have e : decide (V.int (w / 4096) = V.int 3) = true := decide_eq_true (by rw [c])
      rw [e]
      refine iteF ?_
      refine ⟨_, rfl, w, 64, rfl, rfl, (by show (0 : Int) < 64; decide), ?_⟩
      refine ⟨_, rfl, aR, reck.map V.str, rfl, .inr tR.sq, w % 64, 11, rfl, rfl, _, rfl, ?_⟩
      by_cases c2 : w % 64 < 11
      · rw [decide_eq_true c2]
        have ew : w % 64 = (((w % 64).toNat : Nat) : Int) := by omega
        have hl : (w % 64).toNat < reck.length := by show (w % 64).toNat < 11; omega
        refine iteT ⟨_, rfl, aR, reck.map V.str, w % 64, _, rfl, rfl, tR.sq, at_of ew (v := .str (reck.getD (w % 64).toNat "")) ?_, ?_⟩
        · rw [List.getElem?_map, List.getElem?_eq_getElem hl, List.getD_eq_getElem?_getD, List.getElem?_eq_getElem hl]
          rfl
        · have en : nameOf w = some (reck.getD (w % 64).toNat "") := by
            unfold nameOf
            rw [if_pos c, if_pos c2]
          rw [en] at q
          exact q
      · rw [decide_eq_false c2]
        have en : nameOf w = none := by
          unfold nameOf
          rw [if_pos c, if_neg c2]
        rw [en] at q
        exact iteF q
    · have e : decide (V.int (w / 4096) = V.int 3) = false := decide_eq_false fun z => c (V.int.inj z)
      rw [e]
      have ew : w / 4096 = (((w / 4096).toNat : Nat) : Int) := by omega
      have hl : (w / 4096).toNat < names.length := by show (w / 4096).toNat < 16; omega
      refine iteT ⟨_, rfl, aN, names.map optS, w / 4096, _, rfl, rfl, tN.sq, at_of ew (v := optS (names.getD (w / 4096).toNat none)) ?_, ?_⟩
      · rw [List.getElem?_map, List.getElem?_eq_getElem hl, List.getD_eq_getElem?_getD, List.getElem?_eq_getElem hl]
        rfl
      · have en : nameOf w = names.getD (w / 4096).toNat none := by
          unfold nameOf
          rw [if_neg c]
        rw [en] at q
        exact q
end
end K00

set_option maxRecDepth 100000
set_option maxHeartbeats 2000000
/-! k00: the errors; their __init__. -/
namespace K00
open PySem PySem.Spec PyProof.Rows L2
abbrev sInit : Stmt := inClass (topS 4) 0
theorem scInit : FnScope ["self", "value"] ["self", "value"] (defScope sInit) := ⟨rfl, rfl, rfl, by decide +kernel, rfl, by decide +kernel, by decide +kernel⟩
/-- what stands in the written part of an error's class -/
structure ErrC (K : PySem.W.Frag) (C fI : Addr) : Prop where
  oex : OexC K C
  iC : PySem.W.findIn K (.ref C) "__init__" = some (some (.ref fI))
  tI : PySem.W.typeIn K (.ref fI) = some (.type "function")
  noV : PySem.W.findIn K (.ref C) "value" = some none
section
variable {P : Program} {w : World} {K : PySem.W.Frag} {mg : Str → Option Value} {base : Heap}
def spInit (K : PySem.W.Frag) : Sp := fun vs H Q _ => ∃ (a C : Addr) (v : V), vs = [.ref a, v] ∧ H a = some (exo a C none) ∧ OexC K C ∧ PySem.W.findIn K (.ref C) "value" = some none ∧
  ∀ dx, H dx = none → dx ≠ a → Q .non (upd (upd H dx (exd dx [("value", v)])) a (exo a C (some dx)))
theorem ok_init {f : Addr} {fd : FuncData} {k : Nat} (F : Fun K "__init__" "CoreError.__init__" sInit f fd) : FnOk P w K mg base CX0 (k + 1) f fd ["self", "value"] (spInit K) := by
  refine F.ok scInit (fun vs H Q E h => ?_) (fun cdv A outer s H vs Q E hr h => ?_)
  · obtain ⟨a, C, v, rfl, _⟩ := h
    rfl
  · obtain ⟨a, C, v, rfl, ha, T, hn, q⟩ := h
    refine ⟨_, pss_one (ps_ost (pv 0) (pv 1)), ?_⟩
    exact ⟨v, rfl, .ref a, rfl, a, C, rfl, T, hn, .inl ⟨ha, fun dx n ne => q dx n ne⟩⟩
/-- the heap behind a made error: its own dict is new, nothing else -/
theorem err_heap {H : Hp} {a d C : Addr} {v : V} (ha : H a = none) (hne : d ≠ a) :
    upd (del (upd (upd (upd H a (exo a C none)) d (exd d [("value", v)])) a (exo a C (some d))) a) d (.xd [("value", v)]) = upd H d (.xd [("value", v)]) := by
  funext b
  by_cases hb : b = d
  · rw [hb, upd_same, upd_same]
  · rw [upd_ne hb, upd_ne hb]
    by_cases hc : b = a
    · rw [hc, del_same, ha]
    · rw [del_ne hc, upd_ne hc, upd_ne hb, upd_ne hc]
/-- what the making of C(v) asks -/
def Need (K : PySem.W.Frag) (C : Addr) (v : V) (H1 : Hp) (Q : XK) : Prop := [v].length ≤ 1000 ∧ ∀ a, H1 a = none → spInit K (.ref a :: ([v] ++ [])) (upd H1 a (exo a C none))
  (fun u H2 => u = .non ∧ ∃ (d : Addr) (fs : List (Str × V)), H2 a = some (exo a C (some d)) ∧ H2 d = some (exd d fs) ∧ H1 d = none ∧ Q (.ref C) (some d) (upd (del H2 a) d (.xd fs))) (fun _ _ _ => False)
theorem need_ok {C fI : Addr} {v : V} {H1 : Hp} {Q : XK} (T : ErrC K C fI) (h : ∀ d, H1 d = none → Q (.ref C) (some d) (upd H1 d (.xd [("value", v)]))) : Need K C v H1 Q := by
  refine ⟨by simp, fun a ha => ⟨a, C, v, rfl, upd_same, T.oex, T.noV, fun dx n ne => ⟨rfl, dx, [("value", v)], upd_same, ?_, ?_, ?_⟩⟩⟩
  · rw [upd_ne ne, upd_same]
  · rw [upd_ne ne] at n
    exact n
  · rw [upd_ne ne] at n
    rw [err_heap ha ne]
    exact h dx n
/-- raise C(e) -/
def tErr (K : PySem.W.Frag) (C : Addr) (W : WX) (te : TE) : TS := fun _ σ H => te σ H fun v H1 => Need K C v H1 fun cls d H' => W cls d σ H'
end
section
variable {X : Cx}
theorem ps_err {W : WX} {x : Str} {C fI : Addr} {fd : FuncData} {k : Nat} {e : Expr} {te : TE} {p pos pos2 : Pos} (hc : X.calm = true) (T : ErrC X.K C fI) (F : Fun X.K "__init__" "CoreError.__init__" sInit fI fd) (b : Binds X.K fd ["self", "value"] []) (hr : Room (k + 2) X.A) (tk : Takes X W)
    (hg : Gl X x) (hm : X.mg x = some (.ref C)) (he : PE X e te) (hdb : (x == ("__debug__" : Str)) = false := by decide) (hs : starEach (e :: []) X.env = (false, eval e X.env) :: starEach [] X.env := by rfl) :
    PS X (.Raise (some (.Call (.Name x p) [e] [] pos)) none pos2) (tErr X.K C W te) := by
  have G : FnOk X.prog X.w X.K X.mg X.base CX0 (k + 1) fI fd ["self", "value"] (spInit X.K) := ok_init F
  have R := ps_raise (pos := pos2) hc tk (pmk_oex (p := p) (pos := pos) (sp := spInit X.K) T.oex T.iC T.tI G hr b .nil pass0 hg hm (pa_cons he pa_nil hs) hdb hs)
  exact ⟨fun pins s σ H D I h => R.run pins s σ H D I h⟩
end
end K00

set_option maxRecDepth 100000
set_option maxHeartbeats 2000000
/-! k00: row_of. -/
namespace K00
open PySem PySem.Spec PyProof.Rows L2
/-- the table of rows as it stands in the written part -/
structure ShT (K : PySem.W.Frag) (w : World) (d : Addr) : Prop where
  dict : ∃ es n, KDict K w d es n
  no : ∀ z, shapes.lookup z = none → PySem.W.nsIn K d z = some none
  yes : ∀ z s, shapes.lookup z = some s → ∃ t, PySem.W.nsIn K d z = some (some (.ref t)) ∧ KT K t [.int s.1, .int (s.2.1 : Nat), match s.2.2 with | none => .non | some m => .int m]
def optI : Option Int → V
  | none => .non
  | some m => .int m
theorem ShT.get {K : PySem.W.Frag} {w : World} {d : Addr} (T : ShT K w d) {z : Str} {s : Int × Nat × Option Int} (h : shapes.lookup z = some s) : ∃ t, KDct K w d z (.ref t) ∧ KT K t [.int s.1, .int (s.2.1 : Nat), optI s.2.2] := by
  obtain ⟨es, n, D⟩ := T.dict
  obtain ⟨t, h1, h2⟩ := T.yes z s h
  refine ⟨t, ⟨es, n, .ref t, D.at_, D.lit, h1, rfl⟩, ?_⟩
  obtain ⟨b, many, most⟩ := s
  cases most <;> exact h2
theorem cut_take (xs : List V) (j : Nat) : cutV xs none (some (j : Int)) = xs.take j := by
  unfold cutV
  rw [HT.sIx_none, HT.sIx_nat, List.drop_zero, Nat.sub_zero]
  by_cases h : j ≤ xs.length
  · rw [Nat.min_eq_left h]
  · rw [Nat.min_eq_right (by omega), List.take_of_length_le (Nat.le_refl _), List.take_of_length_le (by omega)]
/-- t[:j] of a written tuple -/
theorem slice_to {K : PySem.W.Frag} {H : Hp} {a : Addr} {xs : List V} {j : Nat} {Q : VK} (h : SqT K H a xs) (q : ∀ p H', SqT K H' p (xs.take j) → Same H H' → Q (.ref p) H') : rSlA K (.ref a) none (some (j : Int)) H Q := by
  refine ⟨a, xs, rfl, h, fun hw => q a H ?_ (Same.refl H), fun _ p hp => q p _ ?_ (same_upd hp)⟩
  · have e : xs.length ≤ j := by
      have := hw.2
      rw [HT.sIx_nat] at this
      omega
    rw [List.take_of_length_le e]
    exact h
  · rw [cut_take]
    exact SqT.of upd_same
section
variable {P : Program} {w : World} {K : PySem.W.Frag} {mg : Str → Option Value} {base : Heap}
def weights : List V := [.int 512, .int 64]
def spRowOf (K : PySem.W.Frag) (C : Addr) : Sp := fun vs H Q E => ∃ (v : V) (d : PyData), vs = [v] ∧ Dk K H v d ∧
  (∀ x : Int, d = .int x → 0 ≤ x → x ≤ 65535 → ∀ H', Same H H' → (pRow x = none → Q .non H') ∧ ∀ nm ps a, pRow x = some (nm, ps) → H' a = some (.tup (.str nm :: ps.map V.int)) → H a = none → Q (.ref a) H') ∧
  (isW d 0 65535 = false → ∀ dd, H dd = none → E (.ref C) (some dd) (upd H dd (.xd [("value", v)])))
theorem scRowOfNd : (["word", "name", "base", "many", "most", "rest", "numbers", "weight"] : List Str).Nodup := scRowOf.nd
theorem isW_int {d : PyData} {lo hi : Int} (h : isW d lo hi = true) : ∃ i, d = .int i ∧ lo ≤ i ∧ i ≤ hi := by
  cases d with
  | int i =>
    simp [isW] at h
    exact ⟨i, rfl, h.1, h.2⟩
  | none => cases h
  | bool _ => cases h
  | str _ => cases h
  | list _ => cases h
  | tuple _ => cases h
  | dict _ => cases h
theorem dk_int {H : Hp} {v : V} {i : Int} (h : Dk K H v (.int i)) : v = .int i := by
  cases h with
  | dp h => cases h; rfl
theorem parts_len (m : Nat) (r : Int) (h : m ≤ 2) : (parts m r).1.length = m := by
  match m, h with
  | 0, _ => rfl
  | 1, _ => rfl
  | 2, _ => rfl
theorem names_all : ∀ o ∈ names, (match o with | none => true | some nm => (shapes.lookup nm).isSome) = true := by decide
theorem reck_all : ∀ nm ∈ reck, (shapes.lookup nm).isSome = true := by decide
theorem nameOf_shape {x : Int} {nm : Str} (h : nameOf x = some nm) : ∃ s, shapes.lookup nm = some s := by
  refine Option.isSome_iff_exists.mp ?_
  unfold nameOf at h
  split at h
  · split at h
    · rename_i h3 h11
      have hl : (x % 64).toNat < reck.length := by show (x % 64).toNat < 11; omega
      rw [List.getD_eq_getElem?_getD, List.getElem?_eq_getElem hl] at h
      have e := Option.some.inj h
      have e : reck[(x % 64).toNat] = nm := e
      rw [← e]
      exact reck_all _ (List.getElem_mem hl)
    · cases h
  · rw [List.getD_eq_getElem?_getD] at h
    cases e : names[(x / 4096).toNat]? with
    | none => rw [e] at h; cases h
    | some o =>
      rw [e] at h
      have h : o = some nm := h
      have hm := names_all o (List.mem_of_getElem? e)
      rw [h] at hm
      exact hm
theorem sqT_upd {H : Hp} {a p : Addr} {xs ys : List V} {o : HO} (h : SqT K H a xs) (hp : H p = some (.lst ys)) : SqT K (upd H p o) a xs := by
  rcases h with (h | ⟨u, h⟩) | h
  · exact .inl (.inl (by rw [upd_ne (ne_of h hp (by intro z; cases z))]; exact h))
  · exact .inl (.inr ⟨u, by rw [upd_ne (ne_of h hp (by intro z; cases z))]; exact h⟩)
  · exact .inr h
theorem Same.updNew {H H' : Hp} {p : Addr} {o : HO} (s : Same H H') (h : H p = none) : Same H (upd H' p o) := fun b x e => by
  rw [upd_ne (ne_of_none e h)]
  exact s b x e
theorem parts_succ {many i : Nat} {r : Int} {v : V} (hi : (weights.take many)[i]? = some v) : ∃ j : Int, v = .int j ∧ 0 < j ∧ j < 1000 ∧ parts (i + 1) r = ((parts i r).1 ++ [(parts i r).2 / j], (parts i r).2 % j) := by
  have hw : weights[i]? = some v := by
    rw [List.getElem?_take] at hi
    split at hi
    · exact hi
    · cases hi
  match i, hw with
  | 0, h => cases h; exact ⟨512, rfl, by decide, by decide, rfl⟩
  | 1, h => cases h; exact ⟨64, rfl, by decide, by decide, rfl⟩
  | _ + 2, h => cases h
theorem ok_rowOf {f f1 f2 fI C aS aW : Addr} {fd fd1 fd2 fdI : FuncData} {k : Nat} (F : Fun K "row_of" "row_of" sRowOf f fd)
    (G1 : FnOk P w K mg base CX0 (k + 2) f1 fd1 ["value"] (spIsWord K)) (k1 : PySem.W.keepIn K (.ref f1) = true) (b1 : Binds K fd1 ["value"] []) (g1 : mg "is_word" = some (.ref f1))
    (G2 : FnOk P w K mg base CX0 (k + 1) f2 fd2 ["word"] spNameOf) (k2 : PySem.W.keepIn K (.ref f2) = true) (b2 : Binds K fd2 ["word"] []) (g2 : mg "_name_of" = some (.ref f2))
    (T : ErrC K C fI) (FI : Fun K "__init__" "CoreError.__init__" sInit fI fdI) (bI : Binds K fdI ["self", "value"] []) (gC : mg "BadWord" = some (.ref C))
    (gS : mg "SHAPES" = some (.ref aS)) (tS : ShT K w aS) (gW : mg "WEIGHTS" = some (.ref aW)) (tW : KT K aW weights) : FnOk P w K mg base (L2.CX P w) (k + 3) f fd ["word"] (spRowOf K C) := by
  refine F.okX scRowOf (fun vs H Q E h => ?_) (fun cdv A outer s H vs Q E hr h => ?_)
  · obtain ⟨v, d, rfl, _⟩ := h
    rfl
  · obtain ⟨v, d, rfl, hd, qi, qe⟩ := h
    refine ⟨_, pss_cons (ps_if (pt_not (pt_val (pe_call G1 hr (by rfl) g1 k1 b1 .nil pass0 (pa_cons (pv 0) pa_nil)))) (pss_one (ps_err rfl T FI bI (k := k) hr (takes_of rfl rfl rfl rfl) (by rfl) gC (pv 0))) pss_nil) (PSs.nox
      (pss_cons (ps_set (i := 1) scRowOf.nd rfl (.inl rfl) (pe_call G2 (hr.mono (by omega)) (by rfl) g2 k2 b2 .nil pass0 (pa_cons (pv 0) pa_nil)))
      (pss_cons (ps_if (pt_cmpR op_isN (pv 1) pe_non (nomark _)) (pss_one (ps_ret pe_non)) pss_nil)
      (pss_cons (ps_asg (pe_ix ix_kdict (pgr (by rfl) gS) (pv 1) (fun _ _ => rfl)) (pg_tup (by rfl) (pgs_cons (pg_name (i := 2) scRowOf.nd rfl (.inl rfl)) (pgs_cons (pg_name (i := 3) scRowOf.nd rfl (.inl rfl)) (pgs_cons (pg_name (i := 4) scRowOf.nd rfl (.inl rfl)) pgs_nil)))))
      (pss_cons (ps_set (i := 5) scRowOf.nd rfl (.inl rfl) (pe_op op_sub (pv 0) (pv 2)))
      (pss_cons (ps_set (i := 6) scRowOf.nd rfl (.inl rfl) (pe_lst pa_nil))
      (pss_cons (ps_for PassesOwn.never rfl (pi_tup (pe_slice sl_tupA (pgr (by rfl) gW) po_none (po_some (pv 3)))) (pg_name (i := 7) scRowOf.nd rfl (.inl rfl))
        (pss_cons (ps_expr (pe_bm PySem.F.plainAttrs_list PySem.F.slot_list_append PySem.F.type_list_append mt_append (pv 6) (pa_cons (pe_op op_fdiv (pv 5) (pv 7)) pa_nil)))
        (pss_one (ps_set (i := 5) scRowOf.nd rfl (.inl rfl) (pe_op op_mod (pv 5) (pv 7))))))
      (pss_cons (ps_if (pt_cmpR op_isN (pv 4) pe_non (nomark _))
        (pss_one (ps_ret (pe_ifExp (pt_cmpR op_eq (pv 5) pe_int (nomark _)) (pe_tup (pa_cons (pv 1) (StX.pa_star (pv 6) pa_nil))) pe_non))) pss_nil)
      (pss_one (ps_ret (pe_ifExp (pt_cmpR op_le (pv 5) (pv 4) (nomark _)) (pe_tup (pa_cons (pv 1) (StX.pa_star (pv 6) (pa_cons (pv 5) pa_nil)))) pe_non))))))))))), ?_⟩
    -- is_word(word)
    refine ⟨v, rfl, v, d, rfl, hd, isW d 0 65535, rfl, ?_⟩
    cases hw : isW d 0 65535 with
    | false => exact iteT ⟨v, rfl, need_ok T fun dd n => qe hw dd n⟩
    | true =>
      refine iteF ?_
      obtain ⟨x, rfl, h0, h1⟩ := isW_int hw
      obtain rfl := dk_int hd
      refine ⟨_, rfl, x, rfl, h0, h1, ?_⟩
      -- name is None
      refine ⟨_, rfl, rfl, _, rfl, ?_⟩
      cases hn : nameOf x with
      | none =>
        refine iteT ?_
        refine (qi x rfl h0 h1 H (Same.refl H)).1 ?_
        unfold pRow
        rw [hn]
      | some nm =>
        refine iteF ?_
        obtain ⟨sh, hsh⟩ := nameOf_shape hn
        obtain ⟨t, kd, kt⟩ := tS.get hsh
        have hp_ : pRow x = rowWith nm sh x := pRow_of hn hsh
        have hm := (many2 _ (mem_of_lookup hsh)).1
        obtain ⟨b, many, most⟩ := sh
        simp only at kt hm hp_
        refine ⟨_, rfl, aS, nm, .ref t, rfl, rfl, kd, ?_⟩
        refine ⟨t, _, rfl, kt.sq, rfl, _, _, rfl, _, _, rfl, _, _, rfl, rfl, ?_⟩
        refine ⟨_, rfl, _, rfl, x, b, rfl, rfl, ?_⟩
        refine ⟨Nat.zero_le _, fun np nn => ?_⟩
        have s1 := same_upd (o := .lst []) nn
        refine ⟨_, rfl, (many : Nat), rfl, slice_to tW.sq fun pw H2 hpw s2 => ?_⟩
        have hlen : (weights.take many).length = many := by
          rw [List.length_take]
          show min many 2 = many
          omega
        refine ⟨pw, rfl, ⟨_, hpw⟩, for_tup (xs := weights.take many) (fun i σ H' => ∃ y7, σ = [some (.int x), some (.str nm), some (.int b), some (.int (many : Nat)), some (optI most), some (.int (parts i (x - b)).2), some (.ref np), y7] ∧
          H' np = some (.lst ((parts i (x - b)).1.map V.int)) ∧ Same H H' ∧ SqT K H' pw (weights.take many)) ⟨none, rfl, s2 _ _ upd_same, s1.trans s2, hpw⟩ (fun i σ H' _ hp => ?_) (fun i v σ H' hv hp => ?_) fun σ H' hp => ?_⟩
        · obtain ⟨_, _, _, _, h⟩ := hp
          exact h
        · obtain ⟨y7, rfl, hnp, sm, hq⟩ := hp
          obtain ⟨j, rfl, j0, j1, ep⟩ := parts_succ (r := x - b) hv
          have hi2 : i < 2 := by
            have := (List.getElem?_eq_some_iff.mp hv).1
            omega
          have hl : (parts i (x - b)).1.length ≤ 2 := by rw [parts_len i _ (by omega)]; omega
          refine ⟨.ref np, rfl, .inl ⟨rfl, _, SqL.of hnp⟩, _, rfl, _, rfl, _, j, rfl, rfl, ⟨j0, by omega⟩, np, _, _, rfl, rfl, hnp, small1000 (by rw [List.length_map]; omega), ?_⟩
          refine ⟨_, rfl, _, rfl, _, j, rfl, rfl, j0, some (.int j), ?_, ?_, Same.updNew sm nn, sqT_upd hq hnp⟩
          · rw [ep]
            rfl
          · rw [upd_same, ep, List.map_append]
            rfl
        · obtain ⟨y7, rfl, hnp, sm, hq⟩ := hp
          rw [hlen] at hnp
          rw [hlen]
          have hl : (parts many (x - b)).1.length ≤ 2 := by rw [parts_len many _ hm]; omega
          refine ⟨_, rfl, rfl, _, rfl, ?_⟩
          have tail : ∀ (zs : List V), zs.length ≤ 1 → (V.str nm :: (((parts many (x - b)).1.map V.int) ++ zs)).length ≤ sizeLine := fun zs hz => by
            rw [List.length_cons, List.length_append, List.length_map]
            exact Nat.le_of_lt (small1000 (by omega))
          have fin : ∀ (ps : List Int) (p : Addr), rowWith nm (b, many, most) x = some (nm, ps) → H' p = none → Q (.ref p) (upd H' p (.tup (V.str nm :: ps.map V.int))) := fun ps p e hp =>
            (qi x rfl h0 h1 _ (sm.trans (same_upd hp))).2 nm ps p (hp_ ▸ e) upd_same (sm.free hp)
          have bad : rowWith nm (b, many, most) x = none → Q .non H' := fun e => (qi x rfl h0 h1 _ sm).1 (hp_ ▸ e)
          cases most with
          | none =>
            refine iteT ?_
            refine ⟨_, rfl, rfl, _, rfl, ite2 (fun e => ?_) (fun e => ?_)⟩
            · have e0 : (parts many (x - b)).2 = 0 := V.int.inj (of_decide_eq_true e)
              refine ⟨_, rfl, _, rfl, np, _, rfl, .inr (SqL.of hnp), tail [] (by simp), fun p hp => ?_⟩
              rw [List.append_nil]
              exact fin _ p (by simp only [rowWith]; rw [if_pos e0]) hp
            · have e0 : ¬ (parts many (x - b)).2 = 0 := fun z => e (decide_eq_true (congrArg V.int z))
              exact bad (by simp only [rowWith]; rw [if_neg e0])
          | some m =>
            refine iteF ?_
            refine ⟨_, rfl, _, rfl, _, m, rfl, rfl, _, rfl, ite2 (fun e => ?_) (fun e => ?_)⟩
            · have e0 := of_decide_eq_true e
              refine ⟨_, rfl, _, rfl, np, _, rfl, .inr (SqL.of hnp), _, rfl, tail [_] (by simp), fun p hp => ?_⟩
              have e2 : ((parts many (x - b)).1.map V.int ++ [V.int (parts many (x - b)).2]) = ((parts many (x - b)).1 ++ [(parts many (x - b)).2]).map V.int := by rw [List.map_append]; rfl
              have q := fin ((parts many (x - b)).1 ++ [(parts many (x - b)).2]) p (by simp only [rowWith]; rw [if_pos e0]) hp
              rw [← e2] at q
              exact q
            · have e0 : ¬ (parts many (x - b)).2 ≤ m := fun z => e (decide_eq_true z)
              exact bad (by simp only [rowWith]; rw [if_neg e0])
end
end K00

set_option maxRecDepth 100000
set_option maxHeartbeats 2000000
/-! k00: zip of a tuple and a list, step by step. -/
namespace K00
open PySem PySem.Spec PyProof.Rows L2 RZ
section
variable {P : Program} {w : World} {A : Around} {E : Value → Shared → Prop} {s : Shared} {la lb ja jb : Addr} {xs ys : Array Value} {zp pI pO : Addr}
/-- an iterator at j: its n-th state, kept while what it stands on is kept; its items -/
structure Steps (P : Program) (w : World) (j : Addr) (own : List Addr) (J : Nat → Heap → Prop) (xs : Array Value) : Prop where
  keep : ∀ {n : Nat} {h h' : Heap}, J n h → (∀ c ∈ own, ∀ o, h.get? c = some o → h'.get? c = some o) → J n h'
  item : ∀ {A : Around} {E : Value → Shared → Prop} {s : Shared} {n : Nat} {x : Value} {Q : Value → Shared → Prop}, J n s.heap → xs[n]? = some x → (∀ h', J (n + 1) h' → Heap.SameBut j s.heap h' → Q x { s with heap := h' }) →
    wpAny (model P w) A (Builtin.SmallTypes.nextOf (.ref j)) Q E s
  stop : ∀ {A : Around} {E : Value → Shared → Prop} {s : Shared} {n : Nat} {Q : Value → Shared → Prop}, A.handled = none → J n s.heap → xs[n]? = none →
    (∀ h' e, Heap.ExtBut j s.heap h' → (∃ o, h'.get? e = some o ∧ o.cls = .type "StopIteration") → E (.ref e) { s with heap := h' }) → wpAny (model P w) A (Builtin.SmallTypes.nextOf (.ref j)) Q E s
theorem steps_tup (hne : la ≠ ja) : Steps P w ja [ja, la] (fun n h => h.IsTupleIter ja la n ∧ h.IsTuple la xs) xs where
  keep := fun {n h h'} ⟨p, q⟩ k => ⟨p.at (k ja (by simp)), by obtain ⟨o, ho, r⟩ := q; exact ⟨o, k la (by simp) o ho, r⟩⟩
  item := fun {A E s n x Q} ⟨p, q⟩ hx h => nextOf_tuple_item p q hx fun h' p' sb => h h' ⟨p', by obtain ⟨o, ho, r⟩ := q; exact ⟨o, (sb.2 la hne).trans ho, r⟩⟩ sb
  stop := fun {A E s n Q} hh ⟨p, q⟩ hx h => nextOf_tuple_end hh p q hx h
theorem steps_lst (hne : lb ≠ jb) : Steps P w jb [jb, lb] (fun n h => h.IsListIter jb lb n ∧ h.IsList lb ys) ys where
  keep := fun {n h h'} ⟨p, q⟩ k => ⟨by obtain ⟨o, ho, r⟩ := p; exact ⟨o, k jb (by simp) o ho, r⟩, by obtain ⟨o, ho, r⟩ := q; exact ⟨o, k lb (by simp) o ho, r⟩⟩
  item := fun {A E s n x Q} ⟨p, q⟩ hx h => wpAny_nextOf_list_item p q hx fun h' p' sb => h h' ⟨p', by obtain ⟨o, ho, r⟩ := q; exact ⟨o, (sb.2 lb hne).trans ho, r⟩⟩ sb
  stop := fun {A E s n Q} hh ⟨p, q⟩ hx h => wpAny_nextOf_list_end hh p q hx h
variable {oa ob : List Addr} {J1 J2 : Nat → Heap → Prop} {n : Nat} {a b x y : Value}
/-- what stands apart from the zip -/
structure Off (zp pI pO ja jb : Addr) (oa ob : List Addr) : Prop where
  pz : pI ≠ zp ∧ pO ≠ zp ∧ ja ≠ zp ∧ jb ≠ zp
  pp : pI ≠ pO ∧ pI ≠ ja ∧ pI ≠ jb ∧ pO ≠ ja ∧ pO ≠ jb ∧ ja ≠ jb
  oa_ : ∀ c ∈ oa, c ≠ zp ∧ c ≠ pO ∧ c ≠ jb
  ob_ : ∀ c ∈ ob, c ≠ zp ∧ c ≠ pO ∧ c ≠ ja
theorem zm_item {Q : Value → Shared → Prop} (S1 : Steps P w ja oa J1 xs) (S2 : Steps P w jb ob J2 ys) (D : Off zp pI pO ja jb oa ob) (hz : IsZip s.heap zp pI pO .none) (hI : IsPair s.heap pI (.ref ja) (.ref jb)) (hO : IsPair s.heap pO a b)
    (h1 : J1 n s.heap) (h2 : J2 n s.heap) (hx : xs[n]? = some x) (hy : ys[n]? = some y)
    (q : ∀ h', IsZip h' zp pI pO (rawInt s.heap.objs.size) → IsPair h' pO x y → J1 (n + 1) h' → J2 (n + 1) h' → IsPair h' s.heap.objs.size x y → h'.objs.size = s.heap.objs.size + 1 →
      (∀ c o, c ≠ zp → c ≠ pO → c ≠ ja → c ≠ jb → s.heap.get? c = some o → h'.get? c = some o) → Q (.ref s.heap.objs.size) { s with heap := h' }) :
    wpAny (model P w) A (Builtin.«zip.__next__» ⟨[.ref zp], []⟩) (fun fin s' => ∃ v, fin = .done (.ret v) ∧ Q v s') E s := by
  obtain ⟨z1, z2, z3, z4⟩ := D.pz
  obtain ⟨p1, p2, p3, p4, p5, p6⟩ := D.pp
  show wpAny _ _ (field (.ref zp) 2 >>= _) _ E s
  refine wpAny_bind (wpAny_field hz rfl (x := .bool false) rfl ?_)
  show wpAny _ _ (field (.ref zp) 3 >>= _) _ E s
  refine wpAny_bind (wpAny_field hz rfl (x := .ref pI) rfl (wpAny_bind (wpAny_seqItems hI rfl ?_)))
  show wpAny _ _ (Builtin.SmallTypes.ownedTupleIsFree (.ref zp) >>= _) _ E s
  refine wpAny_bind ?_; unfold Builtin.SmallTypes.ownedTupleIsFree
  refine wpAny_bind (wpAny_field hz rfl (x := .none) rfl (wpAny_pure ?_)); simp only [if_true]
  refine wpAny_bind (wpAny_rule (wpAny_bind (wpAny_field hz rfl (x := .ref pO) rfl (wpAny_bind (wpAny_setField_rec hz (by simp) fun g1 hz1 b1 => ?_)))))
  replace hz1 : IsZip g1 zp pI pO .ellipsis := hz1
  refine wpAny_bind ?_; simp only [List.zipIdx_cons, List.zipIdx_nil, List.forIn_cons, List.forIn_nil]
  -- the first
  refine wpAny_bind (wpAny_bind (wpAny_onRaise ?_))
  show wpAny _ _ (Builtin.SmallTypes.nextOf (.ref ja) >>= _) _ _ _
  refine wpAny_bind (S1.item (s := { s with heap := g1 }) (S1.keep h1 fun c hc o e => (b1.2 c (D.oa_ c hc).1).trans e) hx fun g2 k1 b2 => wpAny_pure ?_)
  have hO2 : IsPair g2 pO a b := (b2.2 _ p4).trans ((b1.2 _ z2).trans hO)
  refine wpAny_bind (wpAny_seqItems hO2 rfl (wpAny_bind (wpAny_updateSeq_pair hO2 fun g3 hO3 b3 => ?_)))
  replace hO3 : IsPair g3 pO x b := hO3
  refine wpAny_bind (wpAny_letGo (wpAny_pure ?_))
  -- the second
  refine wpAny_bind (wpAny_bind (wpAny_onRaise ?_))
  show wpAny _ _ (Builtin.SmallTypes.nextOf (.ref jb) >>= _) _ _ _
  refine wpAny_bind (S2.item (s := { s with heap := g3 }) (S2.keep h2 fun c hc o e => (b3.2 c (D.ob_ c hc).2.1).trans ((b2.2 c (D.ob_ c hc).2.2).trans ((b1.2 c (D.ob_ c hc).1).trans e))) hy fun g4 k2 b4 => wpAny_pure ?_)
  have hO4 : IsPair g4 pO x b := (b4.2 _ p5).trans hO3
  refine wpAny_bind (wpAny_seqItems hO4 rfl (wpAny_bind (wpAny_updateSeq_pair hO4 fun g5 hO5 b5 => ?_)))
  replace hO5 : IsPair g5 pO x y := hO5
  refine wpAny_bind (wpAny_letGo (wpAny_pure (wpAny_pure ?_)))
  refine wpAny_bind (wpAny_seqItems hO5 rfl (wpAny_bind (wpAny_newTuple ?_)))
  have gs : g5.objs.size = s.heap.objs.size := by rw [b5.1, b4.1, b3.1, b2.1, b1.1]
  have hz5 : IsZip g5 zp pI pO .ellipsis := (b5.2 _ z2.symm).trans ((b4.2 _ z4.symm).trans ((b3.2 _ z2.symm).trans ((b2.2 _ z3.symm).trans hz1)))
  have k5 : ∀ c o, c ≠ zp → c ≠ pO → c ≠ ja → c ≠ jb → s.heap.get? c = some o → g5.get? c = some o := fun c o c1 c2 c3 c4 e => (b5.2 _ c2).trans ((b4.2 _ c4).trans ((b3.2 _ c2).trans ((b2.2 _ c3).trans ((b1.2 _ c1).trans e))))
  have m1 : J1 (n + 1) g5 := S1.keep k1 fun c hc o e => (b5.2 c (D.oa_ c hc).2.1).trans ((b4.2 c (D.oa_ c hc).2.2).trans ((b3.2 c (D.oa_ c hc).2.1).trans e))
  have m2 : J2 (n + 1) g5 := S2.keep k2 fun c hc o e => (b5.2 c (D.ob_ c hc).2.1).trans e
  have zlt : zp < g5.objs.size := Heap.lt_size hz5
  show wpAny _ _ (Builtin.SmallTypes.ownedTupleHandOut (.ref zp) (.ref g5.objs.size) >>= _) _ _ _
  refine wpAny_bind ?_; unfold Builtin.SmallTypes.ownedTupleHandOut
  have hz6 : IsZip (g5.push { cls := .type "tuple", data := .seq #[x, y] }) zp pI pO .ellipsis := Heap.get?_push_of_some _ hz5
  refine wpAny_bind (wpAny_setField_rec hz6 (by simp) fun g7 hz7 b7 => ?_)
  replace hz7 : IsZip g7 zp pI pO (rawInt g5.objs.size) := hz7
  refine wpAny_setField_rec hz7 (by simp) fun g8 hz8 b8 => ?_
  replace hz8 : IsZip g8 zp pI pO (rawInt g5.objs.size) := hz8
  have up : ∀ c o, c ≠ zp → g5.get? c = some o → g8.get? c = some o := fun c o c1 e => (b8.2 _ c1).trans ((b7.2 _ c1).trans (Heap.get?_push_of_some _ e))
  have new : IsPair g8 g5.objs.size x y := (b8.2 _ (Nat.ne_of_gt zlt)).trans ((b7.2 _ (Nat.ne_of_gt zlt)).trans (Heap.get?_push_size _ rfl))
  have size8 : g8.objs.size = g5.objs.size + 1 := by rw [b8.1, b7.1]; exact Heap.size_push ..
  rw [gs] at hz8 new size8
  refine wpAny_pure ⟨_, rfl, ?_⟩; show Q (.ref g5.objs.size) _; rw [gs]
  exact q g8 hz8 (up _ _ z2 hO5) (S1.keep m1 fun c hc o e => up c o (D.oa_ c hc).1 e) (S2.keep m2 fun c hc o e => up c o (D.ob_ c hc).1 e) new size8 fun c o c1 c2 c3 c4 e => up c o c1 (k5 c o c1 c2 c3 c4 e)
theorem zm_end {Q : Fin → Shared → Prop} (hh : A.handled = none) (S1 : Steps P w ja oa J1 xs) (S2 : Steps P w jb ob J2 ys) (D : Off zp pI pO ja jb oa ob) (hz : IsZip s.heap zp pI pO .none) (hI : IsPair s.heap pI (.ref ja) (.ref jb)) (hO : IsPair s.heap pO a b)
    (h1 : J1 n s.heap) (h2 : J2 n s.heap) (out : xs[n]? = none ∨ ys[n]? = none)
    (q : ∀ h' e, (∀ c o, c ≠ zp → c ≠ pO → c ≠ ja → c ≠ jb → s.heap.get? c = some o → h'.get? c = some o) → (∃ o, h'.get? e = some o ∧ o.cls = .type "StopIteration") → E (.ref e) { s with heap := h' }) :
    wpAny (model P w) A (Builtin.«zip.__next__» ⟨[.ref zp], []⟩) Q E s := by
  obtain ⟨z1, z2, z3, z4⟩ := D.pz
  obtain ⟨p1, p2, p3, p4, p5, p6⟩ := D.pp
  show wpAny _ _ (field (.ref zp) 2 >>= _) _ E s
  refine wpAny_bind (wpAny_field hz rfl (x := .bool false) rfl ?_)
  show wpAny _ _ (field (.ref zp) 3 >>= _) _ E s
  refine wpAny_bind (wpAny_field hz rfl (x := .ref pI) rfl (wpAny_bind (wpAny_seqItems hI rfl ?_)))
  show wpAny _ _ (Builtin.SmallTypes.ownedTupleIsFree (.ref zp) >>= _) _ E s
  refine wpAny_bind ?_; unfold Builtin.SmallTypes.ownedTupleIsFree
  refine wpAny_bind (wpAny_field hz rfl (x := .none) rfl (wpAny_pure ?_)); simp only [if_true]
  refine wpAny_bind (wpAny_rule (wpAny_bind (wpAny_field hz rfl (x := .ref pO) rfl (wpAny_bind (wpAny_setField_rec hz (by simp) fun g1 hz1 b1 => ?_)))))
  replace hz1 : IsZip g1 zp pI pO .ellipsis := hz1
  refine wpAny_bind ?_; simp only [List.zipIdx_cons, List.zipIdx_nil, List.forIn_cons, List.forIn_nil]
  refine wpAny_bind (wpAny_bind (wpAny_onRaise ?_))
  show wpAny _ _ (Builtin.SmallTypes.nextOf (.ref ja) >>= _) _ _ _
  have m1 : J1 n g1 := S1.keep h1 fun c hc o e => (b1.2 c (D.oa_ c hc).1).trans e
  cases hx : xs[n]? with
  | none =>
    refine wpAny_bind (S1.stop (s := { s with heap := g1 }) hh m1 hx fun g2 e b2 he => ?_)
    obtain ⟨oe, hoe, hce⟩ := he
    have hz2 : IsZip g2 zp pI pO .ellipsis := b2 _ _ z3.symm hz1
    have ez : e ≠ zp := fun v => by subst v; rw [hz2] at hoe; cases hoe; simp at hce
    exact wpAny_setField_rec hz2 (by simp) fun g3 _ b3 => q g3 e (fun c o c1 _ c3 _ v => (b3.2 _ c1).trans (b2 _ _ c3 ((b1.2 _ c1).trans v))) ⟨oe, (b3.2 _ ez).trans hoe, hce⟩
  | some x =>
    have hy : ys[n]? = none := out.elim (fun v => by rw [hx] at v; cases v) id
    refine wpAny_bind (S1.item (s := { s with heap := g1 }) m1 hx fun g2 k1 b2 => wpAny_pure ?_)
    have hO2 : IsPair g2 pO a b := (b2.2 _ p4).trans ((b1.2 _ z2).trans hO)
    refine wpAny_bind (wpAny_seqItems hO2 rfl (wpAny_bind (wpAny_updateSeq_pair hO2 fun g3 hO3 b3 => wpAny_bind (wpAny_letGo (wpAny_pure ?_)))))
    refine wpAny_bind (wpAny_bind (wpAny_onRaise ?_))
    show wpAny _ _ (Builtin.SmallTypes.nextOf (.ref jb) >>= _) _ _ _
    refine wpAny_bind (S2.stop (s := { s with heap := g3 }) hh (S2.keep h2 fun c hc o e => (b3.2 c (D.ob_ c hc).2.1).trans ((b2.2 c (D.ob_ c hc).2.2).trans ((b1.2 c (D.ob_ c hc).1).trans e))) hy fun g4 e b4 he => ?_)
    obtain ⟨oe, hoe, hce⟩ := he
    have hz4 : IsZip g4 zp pI pO .ellipsis := b4 _ _ z4.symm ((b3.2 _ z2.symm).trans ((b2.2 _ z3.symm).trans hz1))
    have ez : e ≠ zp := fun v => by subst v; rw [hz4] at hoe; cases hoe; simp at hce
    exact wpAny_setField_rec hz4 (by simp) fun g5 _ b5 => q g5 e (fun c o c1 c2 c3 c4 v => (b5.2 _ c1).trans (b4 _ _ c4 ((b3.2 _ c2).trans ((b2.2 _ c3).trans ((b1.2 _ c1).trans v))))) ⟨oe, (b5.2 _ ez).trans hoe, hce⟩
theorem next_item {Q : Option Value → Shared → Prop} (S1 : Steps P w ja oa J1 xs) (S2 : Steps P w jb ob J2 ys) (D : Off zp pI pO ja jb oa ob) (hz : IsZip s.heap zp pI pO .none) (hI : IsPair s.heap pI (.ref ja) (.ref jb)) (hO : IsPair s.heap pO a b)
    (h1 : J1 n s.heap) (h2 : J2 n s.heap) (hx : xs[n]? = some x) (hy : ys[n]? = some y)
    (q : ∀ h', IsZip h' zp pI pO (rawInt s.heap.objs.size) → IsPair h' pO x y → J1 (n + 1) h' → J2 (n + 1) h' → IsPair h' s.heap.objs.size x y → h'.objs.size = s.heap.objs.size + 1 →
      (∀ c o, c ≠ zp → c ≠ pO → c ≠ ja → c ≠ jb → s.heap.get? c = some o → h'.get? c = some o) → Q (some (.ref s.heap.objs.size)) { s with heap := h' }) : wpAny (model P w) A (pyNext (.ref zp)) Q E s := by
  have T : s.TypeIs (.ref zp) "zip" := ⟨_, hz, rfl⟩
  unfold pyNext
  exact wpAny_bind (wpAny_attempt (wpAny_callSpecial?_slot (name := Str.ofString "__next__") T PySem.F.slot_zip_next (wpAny_call_entry PySem.F.slot_zip_next T PySem.F.entry_zip_next (zm_item S1 S2 D hz hI hO h1 h2 hx hy fun h' a1 a2 a3 a4 a5 a6 a7 => wpAny_pure (q h' a1 a2 a3 a4 a5 a6 a7)) (PySem.F.args_zip_next_1 _))))
theorem next_end {Q : Option Value → Shared → Prop} (hh : A.handled = none) (S1 : Steps P w ja oa J1 xs) (S2 : Steps P w jb ob J2 ys) (D : Off zp pI pO ja jb oa ob) (hz : IsZip s.heap zp pI pO .none) (hI : IsPair s.heap pI (.ref ja) (.ref jb)) (hO : IsPair s.heap pO a b)
    (h1 : J1 n s.heap) (h2 : J2 n s.heap) (out : xs[n]? = none ∨ ys[n]? = none) (q : ∀ h', (∀ c o, c ≠ zp → c ≠ pO → c ≠ ja → c ≠ jb → s.heap.get? c = some o → h'.get? c = some o) → Q none { s with heap := h' }) : wpAny (model P w) A (pyNext (.ref zp)) Q E s := by
  have T : s.TypeIs (.ref zp) "zip" := ⟨_, hz, rfl⟩
  unfold pyNext
  refine wpAny_bind (wpAny_attempt (wpAny_callSpecial?_slot (name := Str.ofString "__next__") T PySem.F.slot_zip_next (wpAny_call_entry PySem.F.slot_zip_next T PySem.F.entry_zip_next (zm_end hh S1 S2 D hz hI hO h1 h2 out fun h' e hk he => ?_) (PySem.F.args_zip_next_1 _))))
  obtain ⟨o, ho, hc⟩ := he
  exact wpAny_bind (wpAny_isInstance (T := "StopIteration") (b := true) ⟨o, ho, hc⟩ isSubtype_stop (wpAny_pure (q _ hk)))
end
end K00

set_option maxRecDepth 100000
set_option maxHeartbeats 2000000
/-! k00: zip of a tuple and a list, walked. -/
namespace K00
open PySem PySem.Spec PyProof.Rows L2 RZ
/-- pairs of a tuple's and a list's items -/
def ItzM (K : PySem.W.Frag) (a b : Addr) : It :=
  ⟨fun i H => ∃ (xs ys : List V) (x y : V), SqT K H a xs ∧ SqL K H b ys ∧ xs[i]? = some x ∧ ys[i]? = some y,
    fun i H v H' => ∃ T x y, v = .ref T ∧ H T = none ∧ H' = upd H T (.tup [x, y]) ∧ (∀ xs, SqT K H a xs → xs[i]? = some x) ∧ ∀ ys, SqL K H b ys → ys[i]? = some y,
    fun i H => ∃ xs ys : List V, SqT K H a xs ∧ SqL K H b ys ∧ (xs.length ≤ i ∨ ys.length ≤ i)⟩
def iZipM (K : PySem.W.Frag) (ta : TA) : TI := fun σ H R => ta σ H fun vs H1 => ∃ a b xs ys, vs = [.ref a, .ref b] ∧ SqT K H1 a xs ∧ SqL K H1 b ys ∧ R (ItzM K a b) H1
theorem off_of {zp pI pO ja jb a b : Addr} (D : ZipApart zp pI pO ja jb a b) : Off zp pI pO ja jb [ja, a] [jb, b] where
  pz := ⟨D.TIz, D.TOz, D.i1z, D.i2z⟩
  pp := ⟨D.TITO, D.TIi1, D.TIi2, D.TOi1, D.TOi2, D.i12⟩
  oa_ := fun c hc => by
    rcases List.mem_cons.mp hc with rfl | h
    · exact ⟨D.i1z, D.TOi1.symm, D.i12⟩
    · obtain rfl := List.mem_singleton.mp h; exact ⟨D.l1z, D.l1TO, D.l1i2⟩
  ob_ := fun c hc => by
    rcases List.mem_cons.mp hc with rfl | h
    · exact ⟨D.i2z, D.TOi2.symm, D.i12.symm⟩
    · obtain rfl := List.mem_singleton.mp h; exact ⟨D.l2z, D.l2TO, D.l2i1⟩
theorem turn_zipM {P : Program} {w : World} {K : PySem.W.Frag} {elts : List Expr} {kk : Nat} {tpos : Pos} {a b zp pI pO ja jb : Addr} (D : ZipApart zp pI pO ja jb a b) :
    Turn P w K (.Tuple elts kk tpos) (ItzM K a b) [zp, pI, pO, ja, jb] zp (fun i h => IsZip h zp pI pO .none ∧ IsPair h pI (.ref ja) (.ref jb) ∧ (∃ x y, IsPair h pO x y) ∧ h.IsTupleIter ja a i ∧ h.IsListIter jb b i) where
  mem := by simp
  obj := fun i h st c hc => by
    obtain ⟨f1, f2, ⟨x, y, f3⟩, ⟨o1, e1, _, d1⟩, ⟨o2, e2, _, d2⟩⟩ := st
    simp only [List.mem_cons, List.not_mem_nil, or_false] at hc
    rcases hc with rfl | rfl | rfl | rfl | rfl
    · exact ⟨_, f1, fun v q => nomatch q⟩
    · exact ⟨_, f2, fun v q => nomatch q⟩
    · exact ⟨_, f3, fun v q => nomatch q⟩
    · exact ⟨o1, e1, fun v q => by rw [d1] at q; cases q⟩
    · exact ⟨o2, e2, fun v q => by rw [d2] at q; cases q⟩
  keep := fun i h h' st k => by
    obtain ⟨f1, f2, ⟨x, y, f3⟩, g1, g2⟩ := st
    exact ⟨k zp (by simp) _ f1, k pI (by simp) _ f2, ⟨x, y, k pO (by simp) _ f3⟩, g1.at fun o q => k ja (by simp) o q, g2.at fun o q => k jb (by simp) o q⟩
  item := by
    intro X eP eW eK calm_ i pins s σ H E Iv fresh_ stt goes
    subst eP eW eK
    obtain ⟨f1, f2, ⟨x0, y0, f3⟩, g1, g2⟩ := stt
    obtain ⟨xs, ys, x, y, qx, qy, atx, aty⟩ := goes
    obtain ⟨ia, va, pa, _⟩ := Iv.tuple qx
    obtain ⟨ib, vb, pb, _⟩ := Iv.list qy
    obtain ⟨u, hu, ru⟩ := va.get atx
    obtain ⟨u2, hu2, ru2⟩ := vb.get aty
    have zl : zp < s.heap.objs.size := Heap.lt_size f1
    refine next_item (steps_tup D.l1i1) (steps_lst D.l2i2) (off_of D) f1 f2 f3 ⟨g1, pa⟩ ⟨g2, pb.isList⟩ (x := u) (y := u2) (by simpa using hu) (by simpa using hu2) fun h' z' o' k1 k2 hT hsz kk => ?_
    refine ⟨_, rfl, wpAny_letOwnedTupleGo_zip (s := { s with heap := h' }) z' fun h'' z'' sb => ?_⟩
    have hT2 : h''.get? s.heap.objs.size = some { cls := .type "tuple", data := .seq #[u, u2] } := (sb.2 _ (Nat.ne_of_gt zl)).trans hT
    have new : ObjOk X.prog X.w (upd H s.heap.objs.size (.tup [x, y])) h'' s.heap.objs.size (.tup [x, y]) := ⟨by show 2 ≤ sizeLine; decide, [u, u2], .cons ru (.cons ru2 .nil), ⟨_, hT2, rfl, _, rfl⟩⟩
    have I1 : Inv X pins σ (upd H s.heap.objs.size (.tup [x, y])) { s with heap := h'' } := Iv.turnedNew (t' := s.toks) (ch := [zp, pI, pO, ja, jb]) (fun c o hb q => (sb.2 c (fun q' => hb (by simp [q']))).trans (kk c o (fun q' => hb (by simp [q'])) (fun q' => hb (by simp [q'])) (fun q' => hb (by simp [q'])) (fun q' => hb (by simp [q'])) q)) fresh_ (Nat.le_refl _) new
    refine ⟨.ref s.heap.objs.size, _, I1, rfl, ⟨_, x, y, rfl, Iv.hok.fresh (Nat.le_refl _), rfl, fun l hl => by rw [Iv.tuple_inj hl qx]; exact atx, fun l hl => by rw [Iv.list_inj hl qy]; exact aty⟩, ⟨z'', ?_, ⟨u, u2, ?_⟩, ?_, ?_⟩, fun c hcm => ?_⟩
    · exact (sb.2 _ D.TIz).trans (kk _ _ D.TIz D.TITO D.TIi1 D.TIi2 f2)
    · exact (sb.2 _ D.TOz).trans o'
    · exact k1.1.at fun o q => (sb.2 _ D.i1z).trans q
    · exact k2.1.at fun o q => (sb.2 _ D.i2z).trans q
    · have hlt : c < s.heap.objs.size := by
        simp only [List.mem_cons, List.not_mem_nil, or_false] at hcm
        rcases hcm with rfl | rfl | rfl | rfl | rfl
        · exact zl
        · exact Heap.lt_size f2
        · exact Heap.lt_size f3
        · obtain ⟨_, e1, _⟩ := g1; exact Heap.lt_size e1
        · obtain ⟨_, e2, _⟩ := g2; exact Heap.lt_size e2
      rw [upd_ne (Nat.ne_of_lt hlt)]
      exact (fresh_ c hcm).1
  done := by
    intro X eP eW eK calm_ i pins s σ H E Iv fresh_ stt goes
    subst eP eW eK
    obtain ⟨f1, f2, ⟨x0, y0, f3⟩, g1, g2⟩ := stt
    obtain ⟨xs, ys, qx, qy, ends⟩ := goes
    obtain ⟨ia, va, pa, _⟩ := Iv.tuple qx
    obtain ⟨ib, vb, pb, _⟩ := Iv.list qy
    have la_ := va.length
    have lb_ := vb.length
    have out : ia.toArray[i]? = none ∨ ib.toArray[i]? = none := ends.imp (fun q => by simp; omega) (fun q => by simp; omega)
    exact next_end (Iv.ok.hd calm_) (steps_tup D.l1i1) (steps_lst D.l2i2) (off_of D) f1 f2 f3 ⟨g1, pa⟩ ⟨g2, pb.isList⟩ out fun h' kk => ⟨rfl, Iv.turnedL (t' := s.toks) (ch := [zp, pI, pO, ja, jb]) (fun c o hb q =>
      kk c o (fun q' => hb (by simp [q'])) (fun q' => hb (by simp [q'])) (fun q' => hb (by simp [q'])) (fun q' => hb (by simp [q'])) q) fresh_⟩
  self := fun A i s Q E stt h => wpAny_pyIter_zip stt.1 h
abbrev zm1 (h : Heap) (a : Addr) : Heap := h.push { cls := .type "tuple_iterator", data := .fields #[.ref a, .int 0 0] }
abbrev zm2 (h : Heap) (a b : Addr) : Heap := (zm1 h a).push { cls := .type "list_iterator", data := .fields #[.ref b, .int 0 0] }
abbrev zm3 (h : Heap) (a b : Addr) : Heap := (zm2 h a b).push { cls := .type "tuple", data := .seq #[.ref h.objs.size, .ref (zm1 h a).objs.size] }
abbrev zm4 (h : Heap) (a b : Addr) : Heap := (zm3 h a b).push { cls := .type "tuple", data := .seq #[.none, .none] }
abbrev zm5 (h : Heap) (a b : Addr) : Heap := (zm4 h a b).push { cls := .type "zip", data := .fields #[.none, .bool false, .bool false, .ref (zm2 h a b).objs.size, .ref (zm3 h a b).objs.size] }
theorem meets_zipM (a b : Addr) (xs ys : Array Value) : Meets (Builtin.«zip.__new__» ⟨[.type "zip", .ref a, .ref b], []⟩) (fun _ R s => s.heap.IsTuple a xs ∧ s.heap.IsList b ys ∧ R (.ok (.ret (.ref (zm4 s.heap a b).objs.size))) { s with heap := zm5 s.heap a b }) :=
  .of_wp fun prog w A R s h => by
    obtain ⟨hp, g, d, tk, os⟩ := s; obtain ⟨ha, hb, h⟩ := h
    have hsub := sub_zip
    have fa : Heap.IsTuple (Shared.heap ⟨hp, g, d, tk, os⟩) a xs := ha
    have fb : Heap.IsList (Shared.heap ⟨hp.push { cls := .type "tuple_iterator", data := .fields #[.ref a, .int 0 0] }, g, d, tk, os⟩) b ys := by obtain ⟨o, ho, r⟩ := hb; exact ⟨o, Heap.get?_push_of_some _ ho, r⟩
    wp_walk using wpAny_pyIter_tuple fa, wpAny_pyIter_list fb
    exact ⟨_, rfl, h⟩
theorem pi_zipM {X : Cx} {e e2 : Expr} {ta : TA} {p pos tpos : Pos} {elts : List Expr} {kk : Nat} (hg : Gl X "zip") (hm : X.mg "zip" = none) (ha : PA X [e, e2] ta)
    (hs : starEach [e, e2] X.env = (false, eval e X.env) :: starEach [e2] X.env := by rfl) (hpl : (backTo pos (starEach [e2] X.env)).any (·.1) = false := by rfl) :
    PI X (.Tuple elts kk tpos) (.Call (.Name "zip" p) [e, e2] [] pos) (iZipM X.K ta) := by
  refine ⟨fun pins s σ H R I h => ?_⟩
  refine Call_ (ld_blt I hg hm PyProof.Rows.boot_zip (PyProof.Rows.callWith_type1 (thn (ha.run pos pins s σ H _ I h) fun us s1 ⟨vs, H1, I1, r1, a, b, xs, ys, ex, hqx, hqy, q⟩ => ?_) hs hpl))
  subst ex
  obtain ⟨ua, ub, rfl, ra, rb⟩ : ∃ ua ub, us = [ua, ub] ∧ RelV (.ref a) ua ∧ RelV (.ref b) ub := by
    cases r1 with
    | cons r rr => cases rr with | cons r' rr => cases rr; exact ⟨_, _, rfl, r, r'⟩
  cases ra; cases rb
  have fresh5 : ∀ c, c ∈ [s1.heap.objs.size + 4, s1.heap.objs.size + 2, s1.heap.objs.size + 3, s1.heap.objs.size, s1.heap.objs.size + 1] → FpOk X pins H1 c := fun c hcm => by
    have hle : s1.heap.objs.size ≤ c := by
      simp only [List.mem_cons, List.not_mem_nil, or_false] at hcm
      omega
    exact I1.fpOk hle (I1.hok.fresh hle)
  obtain ⟨its, rv, p1, _⟩ := I1.tuple hqx
  obtain ⟨its2, rv2, p2, _⟩ := I1.list hqy
  obtain ⟨o1, ho1, _⟩ := id p1
  refine callType_new PySem.F.called_zip (by decide) (PySem.F.typeCall_zip_2 _ _) (PySem.F.newCall_zip_2 _ _) (fun obj => PySem.F.args_object_init_3 obj _ _) PySem.F.entry_zip_new (meets_zipM a b its.toArray its2.toArray) ⟨p1, p2.isList, ?_⟩
  have k : ∀ c o, s1.heap.get? c = some o → (zm5 s1.heap a b).get? c = some o := fun c o x => Heap.get?_push_of_some _ (Heap.get?_push_of_some _ (Heap.get?_push_of_some _ (Heap.get?_push_of_some _ (Heap.get?_push_of_some _ x))))
  have z1 : (zm1 s1.heap a).objs.size = s1.heap.objs.size + 1 := Heap.size_push ..
  have z2 : (zm2 s1.heap a b).objs.size = s1.heap.objs.size + 2 := by rw [Heap.size_push, z1]
  have z3 : (zm3 s1.heap a b).objs.size = s1.heap.objs.size + 3 := by rw [Heap.size_push, z2]
  have z4 : (zm4 s1.heap a b).objs.size = s1.heap.objs.size + 4 := by rw [Heap.size_push, z3]
  have c5 : (zm5 s1.heap a b).get? (zm4 s1.heap a b).objs.size = some _ := Heap.get?_push_size _ rfl
  have c4 : (zm5 s1.heap a b).get? (zm3 s1.heap a b).objs.size = some _ := Heap.get?_push_of_some _ (Heap.get?_push_size _ rfl)
  have c3 : (zm5 s1.heap a b).get? (zm2 s1.heap a b).objs.size = some _ := Heap.get?_push_of_some _ (Heap.get?_push_of_some _ (Heap.get?_push_size _ rfl))
  have c2 : (zm5 s1.heap a b).get? (zm1 s1.heap a).objs.size = some _ := Heap.get?_push_of_some _ (Heap.get?_push_of_some _ (Heap.get?_push_of_some _ (Heap.get?_push_size _ rfl)))
  have c1 : (zm5 s1.heap a b).get? s1.heap.objs.size = some _ := Heap.get?_push_of_some _ (Heap.get?_push_of_some _ (Heap.get?_push_of_some _ (Heap.get?_push_of_some _ (Heap.get?_push_size _ rfl))))
  show _ ∧ _
  rw [z2, z3, z4] at c5
  rw [z1, z2] at c3
  rw [z3] at c4
  rw [z1] at c2
  rw [z4]
  refine ⟨⟨_, c5, rfl⟩, wpAny_pyIter_zip c5 ?_⟩
  exact ⟨s1.heap.objs.size + 4, [s1.heap.objs.size + 4, s1.heap.objs.size + 2, s1.heap.objs.size + 3, s1.heap.objs.size, s1.heap.objs.size + 1], _, _, H1, rfl, I1.kept (t' := s1.toks) k, turn_zipM (PySem.W.ktu_apart s1.heap.objs.size a b (Heap.lt_size ho1) p2.lt), ⟨c5, c3, ⟨_, _, c4⟩, ⟨_, c1, rfl, rfl⟩, ⟨_, c2, rfl, rfl⟩⟩, fresh5, q⟩
end K00

set_option maxRecDepth 100000
set_option maxHeartbeats 2000000
/-! k00: what is walked: zip of a tuple and a list; loops and comprehensions over anything of known length. -/
namespace K00
open PySem PySem.Spec PyProof.Rows L2
/-- a comprehension over anything that yields n things -/
theorem lc_any {J : It} {n : Nat} {g : TG} {tt : TT} {te : TE} {vs : List Nat} {σ : L2.St} {H1 : Hp} {D : Addr} {Qd : Hp → Prop} (Pv : Nat → Hp → Prop) (h0 : Pv 0 (upd H1 D (.lst []))) (hgo : ∀ i H, i < n → Pv i H → J.go i H) (hst : ∀ H, Pv n H → J.stop n H)
    (hs : ∀ i x H H', i < n → Pv i H → J.yld i H x H' → g x (wipe σ vs) H' fun σ2 H2 => wipe σ2 vs = wipe σ vs ∧ tt σ2 H2 fun b H3 =>
      if b = true then te σ2 H3 fun y H4 => ∃ acc, H4 D = some (.lst acc) ∧ acc.length < sizeLine ∧ Pv (i + 1) (upd H4 D (.lst (acc ++ [y]))) else Pv (i + 1) H3) (hd : ∀ H, Pv n H → Qd H) :
    ∃ W : Nat → Nat → Hp → Prop, (∃ m, W 0 m (upd H1 D (.lst []))) ∧ ∀ i m H, W i m H →
      (J.stop i H ∧ Qd H) ∨ (J.go i H ∧ ∃ Nx : Hp → Prop, (∀ H', Nx H' → ∃ m', m' < m ∧ W (i + 1) m' H') ∧ ∀ x H', J.yld i H x H' → g x (wipe σ vs) H' fun σ2 H2 => wipe σ2 vs = wipe σ vs ∧ tt σ2 H2 fun b H3 =>
        if b = true then te σ2 H3 fun y H4 => ∃ acc, H4 D = some (.lst acc) ∧ acc.length < sizeLine ∧ Nx (upd H4 D (.lst (acc ++ [y]))) else Nx H3) := by
  refine ⟨fun i m H => i + m = n ∧ Pv i H, ⟨n, Nat.zero_add n, h0⟩, ?_⟩
  rintro i m H ⟨e, p⟩
  by_cases c : i < n
  · exact .inr ⟨hgo i H c p, Pv (i + 1), fun H' q => ⟨m - 1, by omega, by omega, q⟩, fun x H' y => hs i x H H' c p y⟩
  · obtain rfl : i = n := by omega
    exact .inl ⟨hst H p, hd H p⟩
/-- a loop over anything that yields n things -/
theorem for_any {J : It} {n : Nat} {g : TG} {tb : TS} {D : Ends} {σ : L2.St} {H : Hp} (Pv : Nat → L2.St → Hp → Prop) (h0 : Pv 0 σ H) (hgo : ∀ i σ H, i < n → Pv i σ H → J.go i H) (hst : ∀ σ H, Pv n σ H → J.stop n H)
    (hs : ∀ i x σ H H', i < n → Pv i σ H → J.yld i H x H' → g x σ H' fun σ2 H2 => tb { D with nx := Pv (i + 1), ct := Pv (i + 1), bk := D.nx } σ2 H2) (hd : ∀ σ H, Pv n σ H → D.nx σ H) :
    ∃ W : Nat → Nat → L2.St → Hp → Prop, (∃ m, W 0 m σ H) ∧ ∀ i m σ H, W i m σ H →
      (J.stop i H ∧ D.nx σ H) ∨ (J.go i H ∧ ∃ N : L2.St → Hp → Prop, (∀ σ' H', N σ' H' → ∃ m', m' < m ∧ W (i + 1) m' σ' H') ∧ ∀ x H', J.yld i H x H' → g x σ H' fun σ2 H2 => tb { D with nx := N, ct := N, bk := D.nx } σ2 H2) := by
  refine ⟨fun i m σ H => i + m = n ∧ Pv i σ H, ⟨n, Nat.zero_add n, h0⟩, ?_⟩
  rintro i m σ H ⟨e, p⟩
  by_cases c : i < n
  · exact .inr ⟨hgo i σ H c p, Pv (i + 1), fun σ' H' q => ⟨m - 1, by omega, by omega, q⟩, fun x H' y => hs i x σ H H' c p y⟩
  · obtain rfl : i = n := by omega
    exact .inl ⟨hst σ H p, hd σ H p⟩
theorem cut_drop (xs : List V) (j : Nat) : cutV xs (some (j : Int)) none = xs.drop j := by
  unfold cutV
  rw [HT.sIx_none, HT.sIx_nat]
  by_cases h : j ≤ xs.length
  · rw [Nat.min_eq_left h, List.take_of_length_le (by rw [List.length_drop]; omega)]
  · rw [Nat.min_eq_right (by omega), Nat.sub_self, List.take_zero, List.drop_eq_nil_of_le (by omega)]
/-- t[j:] -/
theorem slice_from {K : PySem.W.Frag} {H : Hp} {a : Addr} {xs : List V} {j : Nat} {Q : VK} (h : SqT K H a xs) (q : ∀ p H', SqT K H' p (xs.drop j) → Same H H' → (p = a ∨ H p = none) → Q (.ref p) H') : rSlA K (.ref a) (some (j : Int)) none H Q := by
  refine ⟨a, xs, rfl, h, fun hw => q a H ?_ (Same.refl H) (.inl rfl), fun _ p hp => q p _ ?_ (same_upd hp) (.inr hp)⟩
  · have e := hw.1
    rw [HT.sIx_nat] at e
    by_cases c : xs.length = 0
    · have : xs = [] := List.length_eq_zero_iff.mp c
      subst this
      rw [List.drop_nil]
      exact h
    · obtain rfl : j = 0 := by omega
      exact h
  · rw [cut_drop]
    exact SqT.of upd_same
end K00

set_option maxRecDepth 100000
set_option maxHeartbeats 2000000
/-! k00: is_row. -/
namespace K00
open PySem PySem.Spec PyProof.Rows L2
def okD : List PyData → List Int → Bool
  | [], [] => true
  | d :: ds, b :: bs => isW d 0 b && okD ds bs
  | _, _ => false
def dIsRow : PyData → Bool
  | .tuple (.str nm :: ds) => match shapes.lookup nm with
    | none => false
    | some s => okD ds (bnds s)
  | _ => false
theorem okD_len : ∀ {ds : List PyData} {bs : List Int}, okD ds bs = true → ds.length = bs.length
  | [], [], _ => rfl
  | _ :: ds, _ :: bs, h => by
    simp only [okD, Bool.and_eq_true] at h
    rw [List.length_cons, List.length_cons, okD_len h.2]
  | [], _ :: _, h => by simp [okD] at h
  | _ :: _, [], h => by simp [okD] at h
theorem scIsRow : FnScope ["value", "_", "many", "most", "bounds", "number", "bound"] ["value"] (defScope sIsRow) := ⟨rfl, rfl, rfl, by decide +kernel, rfl, by decide +kernel, by decide +kernel⟩
/-- the tests one by one -/
def okBs (ds : List PyData) (bs : List Int) : List Bool := (ds.zip bs).map fun p => isW p.1 0 p.2
theorem okD_all : ∀ (ds : List PyData) (bs : List Int), ds.length = bs.length → okD ds bs = (okBs ds bs).all id
  | [], [], _ => rfl
  | d :: ds, b :: bs, h => by
    have ih := okD_all ds bs (by simpa using h)
    show (isW d 0 b && okD ds bs) = (isW d 0 b && (okBs ds bs).all id)
    rw [ih]
  | [], _ :: _, h => by simp at h
  | _ :: _, [], h => by simp at h
theorem dpAll_get {K : PySem.W.Frag} {H : Hp} : ∀ {xs : List V} {ds : List PyData}, DpAll K H xs ds → xs.length = ds.length ∧ ∀ (i : Nat) (x : V), xs[i]? = some x → ∃ d, ds[i]? = some d ∧ Dp K H x d
  | [], _, h => by
    cases h
    exact ⟨rfl, fun i x e => by simp at e⟩
  | y :: ys, _, h => by
    cases h with
    | cons h1 h2 =>
      obtain ⟨l, q⟩ := dpAll_get h2
      refine ⟨by rw [List.length_cons, List.length_cons, l], fun i x e => ?_⟩
      match i, e with
      | 0, e =>
        cases e
        exact ⟨_, rfl, h1⟩
      | i + 1, e => exact q i x e
/-- [7] * many, and most behind it, if there is one -/
theorem bounds_read {σ : L2.St} {H : Hp} {b : Int} {many : Nat} {most : Option Int} (hm : many ≤ 2) (h2 : σ[2]? = some (some (.int (many : Nat)))) (h3 : σ[3]? = some (some (optI most))) (Q : VK)
    (q : ∀ (p : Addr) (H5 : Hp), H5 p = some (.lst ((bnds (b, many, most)).map V.int)) → Same H H5 → Q (.ref p) H5) :
    tIf (tTest (tOp (fun x y H Q => y = .non ∧ Q (.bl (decide (x = .non))) H) (tVar 3) (tC .non))) (tOp rRep (tLst (tCons (tC (.int 7)) tNil)) (tVar 2)) (tOp rCat (tOp rRep (tLst (tCons (tC (.int 7)) tNil)) (tVar 2)) (tLst (tCons (tVar 3) tNil))) σ H Q := by
  have rep : (List.replicate ((many : Nat) : Int).toNat [V.int 7]).flatten = (List.replicate many (7 : Int)).map V.int := by
    rw [Int.toNat_natCast]
    match many, hm with
    | 0, _ => rfl
    | 1, _ => rfl
    | 2, _ => rfl
  have hm63 : ((many : Nat) : Int) < 2 ^ 63 := by omega
  have hrl : [V.int 7].length * ((many : Nat) : Int).toNat ≤ sizeLine := by
    rw [Int.toNat_natCast]
    exact Nat.le_of_lt (small1000 (by simp; omega))
  refine ⟨_, h3, rfl, _, rfl, ?_⟩
  cases most with
  | none =>
    refine iteT ⟨by show 1 ≤ sizeLine; decide, fun l nl => ⟨_, h2, l, (many : Nat), [.int 7], rfl, rfl, upd_same, by omega, hm63, hrl, fun p np => ?_⟩⟩
    refine q p _ ?_ ((same_upd nl).trans (same_upd np))
    rw [upd_same, rep]
    show _ = some (HO.lst ((List.replicate many (7 : Int) ++ []).map V.int))
    rw [List.append_nil]
  | some m =>
    refine iteF ⟨by show 1 ≤ sizeLine; decide, fun l nl => ⟨_, h2, l, (many : Nat), [.int 7], rfl, rfl, upd_same, by omega, hm63, hrl, fun p np => ⟨_, h3, by show 1 ≤ sizeLine; decide, fun l2 nl2 => ?_⟩⟩⟩
    refine ⟨p, l2, _, _, rfl, rfl, (by rw [upd_ne (ne_of_none upd_same nl2)]; exact upd_same), upd_same, ?_, fun p2 np2 => ?_⟩
    · rw [rep, List.length_map, List.length_replicate]
      exact Nat.le_of_lt (small1000 (by simp; omega))
    · refine q p2 _ ?_ (((same_upd nl).trans (same_upd np)).trans ((same_upd nl2).trans (same_upd np2)))
      rw [upd_same, rep]
      show some (HO.lst ((List.replicate many 7).map V.int ++ [V.int m])) = some (HO.lst ((List.replicate many 7 ++ [m]).map V.int))
      rw [List.map_append]
      rfl
section
variable {P : Program} {w : World} {K : PySem.W.Frag} {mg : Str → Option Value} {base : Heap}
def spIsRow (K : PySem.W.Frag) : Sp := fun vs H Q _ => ∃ (v : V) (d : PyData), vs = [v] ∧ Dk K H v d ∧ ∀ H', Same H H' → Q (.bl (dIsRow d)) H'
theorem ok_isRow {f f1 aS : Addr} {fd fd1 : FuncData} {k : Nat} (F : Fun K "is_row" "is_row" sIsRow f fd) (G1 : FnOk P w K mg base CX0 (k + 1) f1 fd1 ["value", "low", "high"] (spWithin K)) (k1 : PySem.W.keepIn K (.ref f1) = true) (b1 : Binds K fd1 ["value", "low", "high"] [])
    (g1 : mg "is_within" = some (.ref f1)) (gS : mg "SHAPES" = some (.ref aS)) (tS : ShT K w aS) (mt : mg "type" = none) (mtu : mg "tuple" = none) (ml : mg "len" = none) (ms : mg "str" = none) (ma : mg "all" = none) (mz : mg "zip" = none) :
    FnOk P w K mg base CX0 (k + 2) f fd ["value"] (spIsRow K) := by
  obtain ⟨es, ne, D⟩ := tS.dict
  refine F.ok scIsRow (fun vs H Q E h => ?_) (fun cdv A outer s H vs Q E hr h => ?_)
  · obtain ⟨v, d, rfl, _⟩ := h
    rfl
  · obtain ⟨v, d, rfl, hd, q⟩ := h
    refine ⟨_, pss_cons (ps_if (PW.pt (pw_or (pt_cmpR op_notTyB (pe_callTy call_type1 (by rfl) mt (by decide +kernel) (pa_cons (pv 0) pa_nil)) (pe_bltn (v := .ty "tuple") (by rfl) mtu (by decide +kernel) rfl) (nomark _))
        (pw_or (pt_cmpR op_eq (pe_callB call_len_seq (by rfl) ml PySem.boot_len (pa_cons (pv 0) pa_nil)) pe_int (nomark _))
        (pw_or1 (pt_cmpR op_notTyB (pe_callTy call_type1 (by rfl) mt (by decide +kernel) (pa_cons (pe_ix ix_tup (pv 0) pe_int (fun _ _ => rfl)) pa_nil)) (pe_bltn (v := .ty "str") (by rfl) ms (by decide +kernel) rfl) (nomark _))))))
        (pss_one (ps_ret pe_bl)) pss_nil)
      (pss_cons (ps_if (pt_cmpR (op_notIn_kd D) (pe_ix ix_tup (pv 0) pe_int (fun _ _ => rfl)) (pgr (by rfl) gS) (by rfl)) (pss_one (ps_ret pe_bl)) pss_nil)
      (pss_cons (ps_asg (pe_ix ix_kdict (pgr (by rfl) gS) (pe_ix ix_tup (pv 0) pe_int (fun _ _ => rfl)) (fun _ _ => rfl)) (pg_tup (by rfl) (pgs_cons (pg_name (i := 1) scIsRow.nd rfl (.inl rfl)) (pgs_cons (pg_name (i := 2) scIsRow.nd rfl (.inl rfl)) (pgs_cons (pg_name (i := 3) scIsRow.nd rfl (.inl rfl)) pgs_nil)))))
      (pss_cons (ps_set (i := 4) scIsRow.nd rfl (.inl rfl) (pe_ifExp (pt_cmpR op_isN (pv 3) pe_non (nomark _)) (pe_op op_rep (pe_lst (pa_cons pe_int pa_nil)) (pv 2)) (pe_op op_cat (pe_op op_rep (pe_lst (pa_cons pe_int pa_nil)) (pv 2)) (pe_lst (pa_cons (pv 3) pa_nil)))))
      (pss_cons (ps_if (pt_cmpR op_ne (pe_callB call_len_seq (by rfl) ml PySem.boot_len (pa_cons (pv 0) pa_nil)) (pe_op op_add (pe_callB call_len_seq (by rfl) ml PySem.boot_len (pa_cons (pv 4) pa_nil)) pe_int) (nomark _)) (pss_one (ps_ret pe_bl)) pss_nil)
      (pss_one (ps_ret (pe_callB (cr_all rfl) (by rfl) ma (by decide +kernel) (pa_cons (pe_lc (own := [("number", 5), ("bound", 6)]) (g := gTup K 2 (gCons (gName 5) (gCons (gName 6) gNil))) (tt := tYes) rfl scIsRow.nd
        (pi_zipM (by rfl) mz (pa_cons (pe_slice sl_tupA (pv 0) (po_some pe_int) po_none) (pa_cons (pv 4) pa_nil))) (blkOk_by (N := ["value", "_", "many", "most", "bounds", "number", "bound"]) (sc := defScope sIsRow) (by decide +kernel))
        (fun _ _ _ _ _ => pg_tup (by rfl) (pgs_cons (pg_name (i := 5) scIsRow.nd rfl (.inl rfl)) (pgs_cons (pg_name (i := 6) scIsRow.nd rfl (.inl rfl)) pgs_nil)))
        (fun _ _ _ _ _ => pts_nil) (fun _ _ _ _ _ => pe_call G1 hr (by rfl) g1 k1 b1 .nil pass0 (pa_cons (pv 5) (pa_cons pe_int (pa_cons (pv 6) pa_nil))))) pa_nil)))))))), ?_⟩
    have no : ∀ c : Bool, c = true → dIsRow d = false → Q (.bl false) H := fun _ _ e => by
      have := q H (Same.refl H)
      rw [e] at this
      exact this
    refine ⟨v, rfl, v, tyName d, rfl, hd.ty, _, _, rfl, rfl, _, rfl, ?_⟩
    cases hd with
    | d0 h => exact iteT (iteT (no true rfl rfl))
    | d1 h => exact iteT (iteT (no true rfl rfl))
    | dp hd =>
      cases hd with
      | non => exact iteT (iteT (no true rfl rfl))
      | bl b => exact iteT (iteT (no true rfl rfl))
      | int x => exact iteT (iteT (no true rfl rfl))
      | str x => exact iteT (iteT (no true rfl rfl))
      | lst hs _ => exact iteT (iteT (no true rfl rfl))
      | @tup a xs ds hs ha =>
        refine iteF ⟨.ref a, rfl, a, xs, rfl, .inr hs, rfl, _, rfl, ?_⟩
        cases ha with
        | nil => exact iteT (iteT (no true rfl rfl))
        | @cons x xr d0 dr h0 hr0 =>
          have at0 : ∀ {z : V} {zs : List V}, atI (z :: zs) 0 = some z := at_of (j := 0) rfl rfl
          have en : decide (V.int ((x :: xr).length : Nat) = V.int 0) = false := decide_eq_false fun z => by
            have := V.int.inj z
            rw [List.length_cons] at this
            omega
          rw [en]
          refine iteF ⟨.ref a, rfl, a, x :: xr, 0, x, rfl, rfl, hs, at0, x, tyName d0, rfl, (Dk.dp h0).ty, _, _, rfl, rfl, _, rfl, ?_⟩
          cases h0 with
          | non => exact iteT (no true rfl rfl)
          | bl b => exact iteT (no true rfl rfl)
          | int z => exact iteT (no true rfl rfl)
          | lst _ _ => exact iteT (no true rfl rfl)
          | tup _ _ => exact iteT (no true rfl rfl)
          | str nm =>
            refine iteF ?_
            cases hl : shapes.lookup nm with
            | none =>
              refine ⟨.ref a, rfl, a, _, 0, .str nm, rfl, rfl, hs, at0, nm, none, rfl, rfl, tS.no nm hl, _, rfl, iteT (no true rfl ?_)⟩
              show (match shapes.lookup nm with | none => false | some s => okD dr (bnds s)) = false
              rw [hl]
            | some sh =>
              have ed : dIsRow (.tuple (.str nm :: dr)) = okD dr (bnds sh) := by
                show (match shapes.lookup nm with | none => false | some s => okD dr (bnds s)) = _
                rw [hl]
              obtain ⟨t, et, _⟩ := tS.yes nm sh hl
              obtain ⟨t', kd, kt⟩ := tS.get hl
              have hm := (many2 _ (mem_of_lookup hl)).1
              refine ⟨.ref a, rfl, a, _, 0, .str nm, rfl, rfl, hs, at0, nm, some (.ref t), rfl, rfl, et, _, rfl, iteF ?_⟩
              refine ⟨.ref a, rfl, a, _, 0, .str nm, rfl, rfl, hs, at0, aS, nm, .ref t', rfl, rfl, kd, ?_⟩
              refine ⟨t', _, rfl, kt.sq, rfl, _, _, rfl, _, _, rfl, _, _, rfl, rfl, ?_⟩
              obtain ⟨b, many, most⟩ := sh
              simp only at kt hm ed
              have hbl : (bnds (b, many, most)).length ≤ 3 := by
                unfold bnds
                cases most <;> simp <;> omega
              refine bounds_read (b := b) hm rfl rfl _ fun p H5 hp s5 => ?_
              have hs5 := Same.seqT s5 hs
              have hr5 := dpAll_same s5 _ _ hr0
              obtain ⟨lx, gx⟩ := dpAll_get hr5
              refine ⟨.ref a, rfl, a, _, rfl, .inr hs5, .ref p, rfl, p, _, rfl, .inl (SqL.of hp), _, _, rfl, rfl, rfl, _, rfl, ?_⟩
              by_cases hlen : dr.length = (bnds (b, many, most)).length
              · have e1 : decide (V.int ((V.str nm :: xr).length : Nat) = V.int ((((bnds (b, many, most)).map V.int).length : Nat) + 1)) = true := decide_eq_true (by
                  rw [List.length_cons, List.length_map, lx, hlen]
                  rfl)
                rw [e1]
                refine iteF ?_
                refine ⟨.ref a, rfl, ((1 : Nat) : Int), rfl, ?_⟩
                unfold tNoPart
                refine slice_from (j := 1) hs5 fun p1 H6 hp1 s6 _ => ?_
                refine ⟨.ref p, rfl, p1, p, _, _, rfl, hp1, SqL.of (s6 _ _ hp), fun D nD => ?_⟩
                have hp6 := s6 _ _ hp
                have hr6 := dpAll_same s6 _ _ hr5
                obtain ⟨_, gx6⟩ := dpAll_get hr6
                refine lc_any (n := dr.length) (fun i H' => Same H6 H' ∧ H' D = some (.lst (((okBs dr (bnds (b, many, most))).take i).map V.bl))) ⟨same_upd nD, upd_same⟩ (fun i H' hi hP => ?_) (fun H' hP => ?_) (fun i z H' H'' hi hP hy => ?_) fun H' hP => ?_
                · obtain ⟨sm, _⟩ := hP
                  have h1 : i < xr.length := by omega
                  have h2 : i < ((bnds (b, many, most)).map V.int).length := by rw [List.length_map]; omega
                  exact ⟨_, _, _, _, Same.seqT sm hp1, SqL.of (sm _ _ hp6), List.getElem?_eq_getElem h1, List.getElem?_eq_getElem h2⟩
                · obtain ⟨sm, _⟩ := hP
                  exact ⟨_, _, Same.seqT sm hp1, SqL.of (sm _ _ hp6), .inl (by show xr.length ≤ _; omega)⟩
                · obtain ⟨sm, hD⟩ := hP
                  obtain ⟨T, x1, x2, rfl, nT, rfl, f1, f2⟩ := hy
                  have h2 : i < (bnds (b, many, most)).length := by omega
                  have e1 : xr[i]? = some x1 := f1 _ (Same.seqT sm hp1)
                  have e2 : ((bnds (b, many, most)).map V.int)[i]? = some x2 := f2 _ (SqL.of (sm _ _ hp6))
                  rw [List.getElem?_map, List.getElem?_eq_getElem h2] at e2
                  have e2 : V.int (bnds (b, many, most))[i] = x2 := Option.some.inj e2
                  subst e2
                  obtain ⟨d1, ed1, hd1⟩ := gx6 i x1 e1
                  have sT : Same H' (upd H' T (.tup [x1, .int (bnds (b, many, most))[i]])) := same_upd nT
                  refine ⟨T, [x1, .int _], rfl, SqT.of upd_same, rfl, x1, [.int _], rfl, .int _, [], rfl, rfl, rfl, ?_⟩
                  unfold tYes
                  refine iteT ?_
                  refine ⟨x1, rfl, _, rfl, x1, d1, 0, _, rfl, .dp (dp_same (sm.trans sT) _ _ hd1), _, sT _ _ hD, ?_, ?_⟩
                  · rw [List.length_map, List.length_take]
                    exact small1000 (by omega)
                  · refine ⟨?_, ?_⟩
                    · exact Same.updNew (sm.trans sT) nD
                    · have eo : (okBs dr (bnds (b, many, most)))[i]? = some (isW d1 0 (bnds (b, many, most))[i]) := by
                        unfold okBs
                        rw [List.getElem?_map, (List.getElem?_zip_eq_some (z := (d1, (bnds (b, many, most))[i]))).mpr ⟨ed1, List.getElem?_eq_getElem h2⟩]
                        rfl
                      rw [upd_same, List.take_add_one, eo, List.map_append]
                      rfl
                · obtain ⟨sm, hD⟩ := hP
                  refine ⟨D, okBs dr (bnds (b, many, most)), rfl, SqL.of ?_, ?_⟩
                  · rw [hD, List.take_of_length_le]
                    unfold okBs
                    rw [List.length_map, List.length_zip]
                    omega
                  · have q2 := q H' ((s5.trans s6).trans sm)
                    rw [ed, okD_all _ _ hlen] at q2
                    exact q2
              · have e1 : decide (V.int ((V.str nm :: xr).length : Nat) = V.int ((((bnds (b, many, most)).map V.int).length : Nat) + 1)) = false := decide_eq_false fun z => hlen (by
                  have := V.int.inj z
                  rw [List.length_cons, List.length_map, lx] at this
                  omega)
                rw [e1]
                refine iteT ?_
                have q2 := q H5 s5
                have e0 : okD dr (bnds (b, many, most)) = false := by
                  cases eo : okD dr (bnds (b, many, most)) with
                  | false => rfl
                  | true => exact absurd (okD_len eo) hlen
                rw [ed, e0] at q2
                exact q2
end
end K00

set_option maxRecDepth 100000
set_option maxHeartbeats 2000000
/-! k00: word_of, row_text, is_placed. -/
namespace K00
open PySem PySem.Spec PyProof.Rows L2
def dRow (nm : Str) (ps : List Int) : PyData := .tuple (.str nm :: ps.map .int)
theorem okD_row : ∀ {ds : List PyData} {bs : List Int}, okD ds bs = true → ∃ ps : List Int, ds = ps.map .int ∧ okParts ps bs = true
  | [], [], _ => ⟨[], rfl, rfl⟩
  | d :: ds, b :: bs, h => by
    simp only [okD, Bool.and_eq_true] at h
    obtain ⟨i, rfl, h1, h2⟩ := isW_int h.1
    obtain ⟨ps, rfl, h3⟩ := okD_row h.2
    exact ⟨i :: ps, rfl, by simp [okParts, h1, h2, h3]⟩
  | [], _ :: _, h => by simp [okD] at h
  | _ :: _, [], h => by simp [okD] at h
theorem okParts_D : ∀ {ps bs : List Int}, okParts ps bs = true → okD (ps.map .int) bs = true
  | [], [], _ => rfl
  | p :: ps, b :: bs, h => by
    simp only [okParts, Bool.and_eq_true] at h
    show (isW (.int p) 0 b && okD (ps.map .int) bs) = true
    rw [okParts_D h.2]
    simp only [isW, Bool.and_true, Bool.and_eq_true]
    exact h.1
  | [], _ :: _, h => by simp [okParts] at h
  | _ :: _, [], h => by simp [okParts] at h
theorem dIsRow_row {d : PyData} (h : dIsRow d = true) : ∃ nm ps, d = dRow nm ps ∧ IsRow nm ps := by
  unfold dIsRow at h
  split at h
  · rename_i nm ds
    split at h
    · cases h
    · rename_i s hs
      obtain ⟨ps, rfl, h2⟩ := okD_row h
      exact ⟨nm, ps, rfl, s, hs, h2⟩
  · cases h
theorem row_dIsRow {nm : Str} {ps : List Int} (h : IsRow nm ps) : dIsRow (dRow nm ps) = true := by
  obtain ⟨s, hs, h2⟩ := h
  show (match shapes.lookup nm with | none => false | some s => okD (ps.map .int) (bnds s)) = true
  rw [hs]
  exact okParts_D h2
theorem dpAll_ints {K : PySem.W.Frag} {H : Hp} : ∀ {xs : List V} {ps : List Int}, DpAll K H xs (ps.map .int) → xs = ps.map V.int
  | _, [], h => by cases h; rfl
  | _, p :: ps, h => by
    cases h with
    | cons h1 h2 =>
      cases h1
      rw [dpAll_ints h2]
      rfl
theorem ints_dpAll {K : PySem.W.Frag} {H : Hp} : ∀ (ps : List Int), DpAll K H (ps.map V.int) (ps.map .int)
  | [] => .nil
  | p :: ps => .cons (.int p) (ints_dpAll ps)
theorem dp_row {K : PySem.W.Frag} {H : Hp} {v : V} {nm : Str} {ps : List Int} (h : Dk K H v (dRow nm ps)) : ∃ a, v = .ref a ∧ SqT K H a (.str nm :: ps.map V.int) := by
  cases h with
  | dp h =>
    cases h with
    | tup hs ha =>
      cases ha with
      | cons h1 h2 =>
        cases h1
        rw [dpAll_ints h2] at hs
        exact ⟨_, rfl, hs⟩
theorem row_dp {K : PySem.W.Frag} {H : Hp} {a : Addr} {nm : Str} {ps : List Int} (h : SqT K H a (.str nm :: ps.map V.int)) : Dk K H (.ref a) (dRow nm ps) := .dp (.tup h (.cons (.str nm) (ints_dpAll ps)))
theorem cut_mid (xs : List V) (i j : Nat) (h : i ≤ j) : cutV xs (some (i : Int)) (some (j : Int)) = (xs.drop i).take (j - i) := by
  unfold cutV
  rw [HT.sIx_nat, HT.sIx_nat]
  by_cases h1 : i ≤ xs.length
  · rw [Nat.min_eq_left h1]
    by_cases h2 : j ≤ xs.length
    · rw [Nat.min_eq_left h2]
    · rw [Nat.min_eq_right (by omega), List.take_of_length_le (by rw [List.length_drop]; omega), List.take_of_length_le (by rw [List.length_drop]; omega)]
  · rw [Nat.min_eq_right (by omega), Nat.min_eq_right (by omega), Nat.sub_self, List.take_zero, List.drop_eq_nil_of_le (by omega), List.take_nil]
/-- t[i:j] -/
theorem slice_mid {K : PySem.W.Frag} {H : Hp} {a : Addr} {xs : List V} {i j : Nat} {Q : VK} (hij : i ≤ j) (h : SqT K H a xs) (q : ∀ p H', SqT K H' p ((xs.drop i).take (j - i)) → Same H H' → (p = a ∨ H p = none) → Q (.ref p) H') : rSlA K (.ref a) (some (i : Int)) (some (j : Int)) H Q := by
  refine ⟨a, xs, rfl, h, fun hw => q a H ?_ (Same.refl H) (.inl rfl), fun _ p hp => q p _ ?_ (same_upd hp) (.inr hp)⟩
  · have e := hw.1
    have e2 := hw.2
    rw [HT.sIx_nat] at e e2
    by_cases c : xs.length = 0
    · have : xs = [] := List.length_eq_zero_iff.mp c
      subst this
      rw [List.drop_nil, List.take_nil]
      exact h
    · obtain rfl : i = 0 := by omega
      rw [List.drop_zero, List.take_of_length_le (by omega)]
      exact h
  · rw [← cut_mid xs i j hij]
    exact SqT.of upd_same
theorem okParts_len : ∀ {ps bs : List Int}, okParts ps bs = true → ps.length = bs.length
  | [], [], _ => rfl
  | _ :: ps, _ :: bs, h => by
    simp only [okParts, Bool.and_eq_true] at h
    rw [List.length_cons, List.length_cons, okParts_len h.2]
  | [], _ :: _, h => by simp [okParts] at h
  | _ :: _, [], h => by simp [okParts] at h
theorem okParts_get : ∀ {ps bs : List Int}, okParts ps bs = true → ∀ (i : Nat) (x : Int), ps[i]? = some x → ∃ b, bs[i]? = some b ∧ 0 ≤ x ∧ x ≤ b
  | [], [], _, i, x, e => by simp at e
  | p :: ps, b :: bs, h, i, x, e => by
    simp only [okParts, Bool.and_eq_true, decide_eq_true_eq] at h
    match i, e with
    | 0, e =>
      cases e
      exact ⟨b, rfl, h.1⟩
    | i + 1, e => exact okParts_get h.2 i x e
  | [], _ :: _, h, _, _, _ => by simp [okParts] at h
  | _ :: _, [], h, _, _, _ => by simp [okParts] at h
theorem wSum_succ {ps : List Int} {i : Nat} {x : Int} {v : V} (h1 : ps[i]? = some x) (h2 : weights[i]? = some v) : ∃ j : Int, v = .int j ∧ 0 < j ∧ j < 1000 ∧ wSum ps (i + 1) = wSum ps i + x * j := by
  match i, h2 with
  | 0, h2 =>
    cases h2
    match ps, h1 with
    | a :: r, h1 =>
      cases h1
      exact ⟨512, rfl, by decide, by decide, by simp [wSum]⟩
  | 1, h2 =>
    cases h2
    match ps, h1 with
    | a :: b :: r, h1 =>
      cases h1
      exact ⟨64, rfl, by decide, by decide, by simp [wSum]⟩
  | _ + 2, h2 => cases h2
theorem bnds_all : ∀ p ∈ shapes, ∀ b ∈ bnds p.2, b ≤ 511 := by decide
theorem last_snoc {nm : Str} : ∀ (ps : List Int), ps ≠ [] → ∃ init : List V, (V.str nm :: ps.map V.int) = init ++ [V.int (ps.getLastD 0)]
  | [], h => absurd rfl h
  | a :: r, h => by
    refine ⟨V.str nm :: ((a :: r).dropLast.map V.int), ?_⟩
    have e := List.dropLast_concat_getLast h
    show V.str nm :: (a :: r).map V.int = V.str nm :: ((a :: r).dropLast.map V.int ++ [V.int ((a :: r).getLast h)])
    rw [← List.map_singleton, ← List.map_append, e]
section
variable {P : Program} {w : World} {K : PySem.W.Frag} {mg : Str → Option Value} {base : Heap}
/-- what the functions of rows share: a row goes on to Q, all else is refused -/
def spRow (K : PySem.W.Frag) (C : Addr) (r : Str → List Int → V) : Sp := fun vs H Q E => ∃ (v : V) (d : PyData), vs = [v] ∧ Dk K H v d ∧ (∀ nm ps, d = dRow nm ps → IsRow nm ps → ∀ H', Same H H' → Q (r nm ps) H') ∧
  (dIsRow d = false → ∀ H' dd, Same H H' → H' dd = none → E (.ref C) (some dd) (upd H' dd (.xd [("value", v)])))
theorem scWordOf' : FnScope ["row", "base", "many", "most", "word", "number", "weight"] ["row"] (defScope sWordOf) := scWordOf
theorem ok_wordOf {f f1 fI C aS aW : Addr} {fd fd1 fdI : FuncData} {k : Nat} (F : Fun K "word_of" "word_of" sWordOf f fd)
    (G1 : FnOk P w K mg base CX0 (k + 2) f1 fd1 ["value"] (spIsRow K)) (k1 : PySem.W.keepIn K (.ref f1) = true) (b1 : Binds K fd1 ["value"] []) (g1 : mg "is_row" = some (.ref f1))
    (T : ErrC K C fI) (FI : Fun K "__init__" "CoreError.__init__" sInit fI fdI) (bI : Binds K fdI ["self", "value"] []) (gC : mg "BadRow" = some (.ref C))
    (gS : mg "SHAPES" = some (.ref aS)) (tS : ShT K w aS) (gW : mg "WEIGHTS" = some (.ref aW)) (tW : KT K aW weights) (mz : mg "zip" = none) : FnOk P w K mg base (L2.CX P w) (k + 3) f fd ["row"] (spRow K C fun nm ps => .int (wordOf nm ps)) := by
  refine F.okX scWordOf (fun vs H Q E h => ?_) (fun cdv A outer s H vs Q E hr h => ?_)
  · obtain ⟨v, d, rfl, _⟩ := h
    rfl
  · obtain ⟨v, d, rfl, hd, qi, qe⟩ := h
    refine ⟨_, pss_cons (ps_if (pt_not (pt_val (pe_call G1 hr (by rfl) g1 k1 b1 .nil pass0 (pa_cons (pv 0) pa_nil)))) (pss_one (ps_err rfl T FI bI (k := k) hr (takes_of rfl rfl rfl rfl) (by rfl) gC (pv 0))) pss_nil) (PSs.nox
      (pss_cons (ps_asg (pe_ix ix_kdict (pgr (by rfl) gS) (pe_ix ix_tup (pv 0) pe_int (fun _ _ => rfl)) (fun _ _ => rfl)) (pg_tup (by rfl) (pgs_cons (pg_name (i := 1) scWordOf.nd rfl (.inl rfl)) (pgs_cons (pg_name (i := 2) scWordOf.nd rfl (.inl rfl)) (pgs_cons (pg_name (i := 3) scWordOf.nd rfl (.inl rfl)) pgs_nil)))))
      (pss_cons (ps_set (i := 4) scWordOf.nd rfl (.inl rfl) (pv 1))
      (pss_cons (ps_for PassesOwn.never rfl (RZ.pi_zipA (by rfl) mz (pa_cons (pe_slice sl_tupA (pv 0) (po_some pe_int) (po_some (pe_op op_add (pv 2) pe_int))) (pa_cons (pgr (by rfl) gW) pa_nil))) (pg_tup (by rfl) (pgs_cons (pg_name (i := 5) scWordOf.nd rfl (.inl rfl)) (pgs_cons (pg_name (i := 6) scWordOf.nd rfl (.inl rfl)) pgs_nil)))
        (pss_one (ps_set (i := 4) scWordOf.nd rfl (.inl rfl) (pe_op op_add (pv 4) (pe_op op_mul (pv 5) (pv 6))))))
      (pss_one (ps_ret (pe_ifExp (pt_cmpR op_isN (pv 3) pe_non (nomark _)) (pv 4) (pe_op op_add (pv 4) (pe_ix ix_tup (pv 0) (pe_un un_neg pe_int) (fun _ _ => rfl)))))))))), ?_⟩
    refine ⟨v, rfl, v, d, rfl, hd, fun H1 s1 => ⟨dIsRow d, rfl, ?_⟩⟩
    cases hw : dIsRow d with
    | false => exact iteT ⟨v, rfl, need_ok T fun dd n => qe hw H1 dd s1 n⟩
    | true =>
      refine iteF ?_
      obtain ⟨nm, ps, rfl, hrow⟩ := dIsRow_row hw
      obtain ⟨a, rfl, hs⟩ := dp_row (hd.same s1)
      have at0 : ∀ {z : V} {zs : List V}, atI (z :: zs) 0 = some z := at_of (j := 0) rfl rfl
      obtain ⟨sh, hl, hok⟩ := hrow
      have ew : wordOf nm ps = wordWith sh ps := by unfold wordOf; rw [hl]
      have qi : ∀ H', Same H H' → Q (.int (wordOf nm ps)) H' := qi nm ps rfl ⟨sh, hl, hok⟩
      rw [ew] at qi
      obtain ⟨t', kd, kt⟩ := tS.get hl
      have hm := (many2 _ (mem_of_lookup hl)).1
      have hb := bnds_all _ (mem_of_lookup hl)
      refine ⟨.ref a, rfl, a, _, 0, .str nm, rfl, rfl, hs, at0, aS, nm, .ref t', rfl, rfl, kd, ?_⟩
      refine ⟨t', _, rfl, kt.sq, rfl, _, _, rfl, _, _, rfl, _, _, rfl, rfl, ?_⟩
      obtain ⟨b, many, most⟩ := sh
      simp only at kt hm hb
      refine ⟨_, rfl, ?_⟩
      have hplen := okParts_len hok
      have hmany : many ≤ ps.length := by
        rw [hplen]
        unfold bnds
        simp
      refine ⟨.ref a, rfl, ((1 : Nat) : Int), rfl, _, rfl, _, _, rfl, rfl, ((many + 1 : Nat) : Int), by rfl, ?_⟩
      refine slice_mid (i := 1) (j := many + 1) (by omega) hs fun p1 H2 hp1 s2 _ => ?_
      have ecut : ((V.str nm :: ps.map V.int).drop 1).take (many + 1 - 1) = (ps.take many).map V.int := by
        rw [List.map_take]
        rfl
      rw [ecut] at hp1
      refine ⟨p1, aW, _, _, rfl, .inr ⟨hp1, tW.sq, ?_⟩⟩
      refine for_any (n := many) (fun i σ H' => ∃ y5 y6, σ = [some (.ref a), some (.int b), some (.int (many : Nat)), some (optI most), some (.int (b + wSum ps i)), y5, y6] ∧ Same H2 H') ⟨none, none, ?_, Same.refl _⟩ (fun i σ H' hi hp => ?_) (fun σ H' hp => ?_) (fun i z σ H' H'' hi hp hy => ?_) fun σ H' hp => ?_
      · show [some (V.ref a), some (V.int b), some (V.int (many : Nat)), some (optI most), some (V.int b), none, none] = _
        have : b + wSum ps 0 = b := by simp [wSum]
        rw [this]
      · obtain ⟨_, _, _, sm⟩ := hp
        have h1 : i < ((ps.take many).map V.int).length := by rw [List.length_map, List.length_take]; omega
        have h2 : i < weights.length := by show i < 2; omega
        exact ⟨_, _, _, _, Same.seqT sm hp1, tW.sq, List.getElem?_eq_getElem h1, List.getElem?_eq_getElem h2⟩
      · obtain ⟨_, _, _, sm⟩ := hp
        exact ⟨_, _, Same.seqT sm hp1, tW.sq, .inl (by rw [List.length_map, List.length_take]; omega)⟩
      · obtain ⟨y5, y6, rfl, sm⟩ := hp
        obtain ⟨T2, x1, x2, rfl, nT, rfl, f1, f2⟩ := hy
        have e1 := f1 _ (Same.seqT sm hp1)
        have e2 := f2 _ tW.sq
        have hps : i < ps.length := by omega
        have e3 : x1 = V.int ps[i] := by
          rw [List.getElem?_map, List.getElem?_take, if_pos hi, List.getElem?_eq_getElem hps] at e1
          exact (Option.some.inj e1).symm
        subst e3
        obtain ⟨j, rfl, j0, j1, es⟩ := wSum_succ (ps := ps) (List.getElem?_eq_getElem hps) e2
        obtain ⟨bb, ebb, x0, xb⟩ := okParts_get hok i _ (List.getElem?_eq_getElem hps)
        have hbb := hb bb (List.mem_of_getElem? ebb)
        refine ⟨T2, _, rfl, SqT.of upd_same, rfl, _, _, rfl, _, _, rfl, rfl, ?_⟩
        refine ⟨_, rfl, _, rfl, _, rfl, ps[i], j, rfl, rfl, .inl ⟨by omega, by omega⟩, b + wSum ps i, ps[i] * j, rfl, rfl, some (.int ps[i]), some (.int j), ?_, sm.trans (same_upd nT)⟩
        rw [es, ← Int.add_assoc]
        rfl
      · obtain ⟨y5, y6, rfl, sm⟩ := hp
        refine ⟨_, rfl, rfl, _, rfl, ?_⟩
        cases most with
        | none =>
          refine iteT ⟨_, rfl, ?_⟩
          have q2 := qi H' ((s1.trans s2).trans sm)
          have e : wordWith (b, many, none) ps = b + wSum ps many := by simp [wordWith]
          rw [e] at q2
          exact q2
        | some m =>
          refine iteF ?_
          have hne : ps ≠ [] := fun z => by
            subst z
            simp [bnds] at hplen
          obtain ⟨init, ei⟩ := last_snoc (nm := nm) ps hne
          have hsq := Same.seqT (s2.trans sm) hs
          refine ⟨_, rfl, .ref a, rfl, 1, rfl, a, _, -1, _, rfl, rfl, hsq, (by rw [ei]; exact atI_last _ _), _, _, rfl, rfl, ?_⟩
          exact qi H' ((s1.trans s2).trans sm)
end
end K00

set_option maxRecDepth 100000
set_option maxHeartbeats 2000000
/-! k00: row_text, is_placed. -/
namespace K00
open PySem PySem.Spec PyProof.Rows L2
theorem scRowText : FnScope ["row", "many", "words", "number"] ["row"] (defScope sRowText) := ⟨rfl, rfl, rfl, by decide +kernel, rfl, by decide +kernel, by decide +kernel⟩
theorem scIsPlaced' : FnScope ["row"] ["row"] (defScope sIsPlaced) := scIsPlaced
def rowText (nm : Str) (ps : List Int) : Str := match shapes.lookup nm with
  | none => ""
  | some s => Txt.join " " (pWords nm s.2.1 ps)
def placedV : List V := [.str "jump", .str "zero", .str "some", .str "link"]
def placed (nm : Str) : Bool := inV (.str nm) placedV
theorem log_small {i : Int} (h0 : 0 ≤ i) (h1 : i ≤ 65535) : i.natAbs.log2 < 1920 := by
  by_cases h : i.natAbs = 0
  · rw [h]
    decide
  · refine (Nat.log2_lt h).mpr (Nat.lt_of_lt_of_le (show i.natAbs < 2 ^ 17 by omega) (Nat.pow_le_pow_right (by decide) (by decide)))
theorem txt_small {i : Int} (h0 : 0 ≤ i) (h1 : i ≤ 65535) : (Str.ofString (toString i)).length ≤ 6 := toString_length_le h0 (by decide) (by omega)
theorem names_small : ∀ p ∈ shapes, p.1.length ≤ 8 := by decide
theorem sum_le6 : ∀ (l : List Str), (∀ x ∈ l, x.length ≤ 8) → (l.map (·.length)).sum ≤ 8 * l.length
  | [], _ => Nat.le_refl _
  | x :: r, h => by
    have h1 := h x List.mem_cons_self
    have h2 := sum_le6 r fun y hy => h y (List.mem_cons_of_mem _ hy)
    simp only [List.map_cons, List.sum_cons, List.length_cons]
    omega
theorem len_r {y : Str} : (Str.ofString "r" ++ y).length = y.length + 1 := by
  show (Str.ofString "r" ++ y).cps.size = _
  have e : (Str.ofString "r" ++ y).cps = (Str.ofString "r").cps ++ y.cps := rfl
  rw [e, Array.size_append]
  show 1 + y.cps.size = y.cps.size + 1
  omega
section
variable {P : Program} {w : World} {K : PySem.W.Frag} {mg : Str → Option Value} {base : Heap}
theorem ok_isPlaced {f f1 fI C : Addr} {fd fd1 fdI : FuncData} {k : Nat} (F : Fun K "is_placed" "is_placed" sIsPlaced f fd)
    (G1 : FnOk P w K mg base CX0 (k + 2) f1 fd1 ["value"] (spIsRow K)) (k1 : PySem.W.keepIn K (.ref f1) = true) (b1 : Binds K fd1 ["value"] []) (g1 : mg "is_row" = some (.ref f1))
    (T : ErrC K C fI) (FI : Fun K "__init__" "CoreError.__init__" sInit fI fdI) (bI : Binds K fdI ["self", "value"] []) (gC : mg "BadRow" = some (.ref C)) : FnOk P w K mg base (L2.CX P w) (k + 3) f fd ["row"] (spRow K C fun nm _ => .bl (placed nm)) := by
  refine F.okX scIsPlaced (fun vs H Q E h => ?_) (fun cdv A outer s H vs Q E hr h => ?_)
  · obtain ⟨v, d, rfl, _⟩ := h
    rfl
  · obtain ⟨v, d, rfl, hd, qi, qe⟩ := h
    refine ⟨_, pss_cons (ps_if (pt_not (pt_val (pe_call G1 hr (by rfl) g1 k1 b1 .nil pass0 (pa_cons (pv 0) pa_nil)))) (pss_one (ps_err rfl T FI bI (k := k) hr (takes_of rfl rfl rfl rfl) (by rfl) gC (pv 0))) pss_nil) (PSs.nox
      (pss_one (ps_ret (pe_cmpR op_in_seq (pe_ix ix_tup (pv 0) pe_int (fun _ _ => rfl)) (pe_tup (pa_cons pe_str (pa_cons pe_str (pa_cons pe_str (pa_cons pe_str pa_nil))))) (by rfl))))), ?_⟩
    refine ⟨v, rfl, v, d, rfl, hd, fun H1 s1 => ⟨dIsRow d, rfl, ?_⟩⟩
    cases hw : dIsRow d with
    | false => exact iteT ⟨v, rfl, need_ok T fun dd n => qe hw H1 dd s1 n⟩
    | true =>
      refine iteF ?_
      obtain ⟨nm, ps, rfl, hrow⟩ := dIsRow_row hw
      obtain ⟨a, rfl, hs⟩ := dp_row (hd.same s1)
      have at0 : ∀ {z : V} {zs : List V}, atI (z :: zs) 0 = some z := at_of (j := 0) rfl rfl
      refine ⟨.ref a, rfl, a, _, 0, .str nm, rfl, rfl, hs, at0, by show 4 ≤ sizeLine; decide, fun p hp => ?_⟩
      refine ⟨p, placedV, rfl, .inr (SqT.of upd_same), rfl, rfl, ?_⟩
      exact qi nm ps rfl hrow _ (s1.trans (same_upd hp))
theorem ok_rowText {f f1 fI C aS : Addr} {fd fd1 fdI : FuncData} {k : Nat} (F : Fun K "row_text" "row_text" sRowText f fd)
    (G1 : FnOk P w K mg base CX0 (k + 2) f1 fd1 ["value"] (spIsRow K)) (k1 : PySem.W.keepIn K (.ref f1) = true) (b1 : Binds K fd1 ["value"] []) (g1 : mg "is_row" = some (.ref f1))
    (T : ErrC K C fI) (FI : Fun K "__init__" "CoreError.__init__" sInit fI fdI) (bI : Binds K fdI ["self", "value"] []) (gC : mg "BadRow" = some (.ref C))
    (gS : mg "SHAPES" = some (.ref aS)) (tS : ShT K w aS) (ms : mg "str" = none) : FnOk P w K mg base (L2.CX P w) (k + 3) f fd ["row"] (spRow K C fun nm ps => .str (rowText nm ps)) := by
  refine F.okX scRowText (fun vs H Q E h => ?_) (fun cdv A outer s H vs Q E hr h => ?_)
  · obtain ⟨v, d, rfl, _⟩ := h
    rfl
  · obtain ⟨v, d, rfl, hd, qi, qe⟩ := h
    refine ⟨_, pss_cons (ps_if (pt_not (pt_val (pe_call G1 hr (by rfl) g1 k1 b1 .nil pass0 (pa_cons (pv 0) pa_nil)))) (pss_one (ps_err rfl T FI bI (k := k) hr (takes_of rfl rfl rfl rfl) (by rfl) gC (pv 0))) pss_nil) (PSs.nox
      (pss_cons (ps_set (i := 1) scRowText.nd rfl (.inl rfl) (pe_ix ix_tup (pe_ix ix_kdict (pgr (by rfl) gS) (pe_ix ix_tup (pv 0) pe_int (fun _ _ => rfl)) (fun _ _ => rfl)) pe_int (fun _ _ => rfl)))
      (pss_cons (ps_set (i := 2) scRowText.nd rfl (.inl rfl) (pe_lst (pa_cons (pe_ix ix_tup (pv 0) pe_int (fun _ _ => rfl)) pa_nil)))
      (pss_cons (ps_expr (pe_bm PySem.F.plainAttrs_list PySem.F.slot_list_extend PySem.F.type_list_extend mt_extend (pv 2) (pa_cons
        (pe_lc (own := [("number", 3)]) (g := gName 3) (tt := tYes) rfl scRowText.nd (pi_tup (pe_slice sl_tupA (pv 0) (po_some pe_int) (po_some (pe_op op_add (pv 1) pe_int)))) (blkOk_by (N := ["row", "many", "words", "number"]) (sc := defScope sRowText) (by decide +kernel))
          (fun _ _ _ _ _ => pg_name (i := 3) scRowText.nd rfl (.inl rfl)) (fun _ _ _ _ _ => pts_nil) (fun _ _ _ _ _ => pe_joined (.cons pe_str (.cons (pe_fmt (pv 3)) .nil)))) pa_nil)))
      (pss_cons (ps_expr (pe_bm PySem.F.plainAttrs_list PySem.F.slot_list_extend PySem.F.type_list_extend mt_extend (pv 2) (pa_cons
        (pe_lc (own := [("number", 3)]) (g := gName 3) (tt := tYes) rfl scRowText.nd (pi_tup (pe_slice sl_tupA (pv 0) (po_some (pe_op op_add (pv 1) pe_int)) po_none)) (blkOk_by (N := ["row", "many", "words", "number"]) (sc := defScope sRowText) (by decide +kernel))
          (fun _ _ _ _ _ => pg_name (i := 3) scRowText.nd rfl (.inl rfl)) (fun _ _ _ _ _ => pts_nil) (fun _ _ _ _ _ => pe_callTy call_str_int (by rfl) ms (by decide +kernel) (pa_cons (pv 3) pa_nil))) pa_nil)))
      (pss_one (ps_ret (pe_join pe_str (pv 2))))))))), ?_⟩
    refine ⟨v, rfl, v, d, rfl, hd, fun H1 s1 => ⟨dIsRow d, rfl, ?_⟩⟩
    cases hw : dIsRow d with
    | false => exact iteT ⟨v, rfl, need_ok T fun dd n => qe hw H1 dd s1 n⟩
    | true =>
      refine iteF ?_
      obtain ⟨nm, ps, rfl, hrow⟩ := dIsRow_row hw
      obtain ⟨a, rfl, hs⟩ := dp_row (hd.same s1)
      have at0 : ∀ {z : V} {zs : List V}, atI (z :: zs) 0 = some z := at_of (j := 0) rfl rfl
      obtain ⟨sh, hl, hok⟩ := hrow
      have ew : rowText nm ps = Txt.join " " (pWords nm sh.2.1 ps) := by unfold rowText; rw [hl]
      have qi : ∀ H', Same H H' → Q (.str (rowText nm ps)) H' := qi nm ps rfl ⟨sh, hl, hok⟩
      rw [ew] at qi
      obtain ⟨t', kd, kt⟩ := tS.get hl
      have hm := (many2 _ (mem_of_lookup hl)).1
      have hb := bnds_all _ (mem_of_lookup hl)
      have hnm := names_small _ (mem_of_lookup hl)
      obtain ⟨b, many, most⟩ := sh
      simp only at kt hm hb hnm qi
      have hplen := okParts_len hok
      have hp3 : ps.length ≤ 3 := by
        rw [hplen]
        unfold bnds
        cases most <;> simp <;> omega
      have small : ∀ (i : Nat) (x : Int), ps[i]? = some x → 0 ≤ x ∧ x ≤ 65535 := fun i x e => by
        obtain ⟨bb, ebb, x0, xb⟩ := okParts_get hok i x e
        have hbb := hb bb (List.mem_of_getElem? ebb)
        omega
      -- many = SHAPES[row[0]][1]
      refine ⟨.ref a, rfl, a, _, 0, .str nm, rfl, rfl, hs, at0, aS, nm, .ref t', rfl, rfl, kd, ?_⟩
      refine ⟨t', _, 1, .int (many : Nat), rfl, rfl, kt.sq, at_of (j := 1) rfl rfl, ?_⟩
      -- words = [row[0]]
      refine ⟨.ref a, rfl, a, _, 0, .str nm, rfl, rfl, hs, at0, by show 1 ≤ sizeLine; decide, fun wp nwp => ?_⟩
      have s2 := same_upd (o := .lst [V.str nm]) nwp
      -- the registers
      refine ⟨.ref wp, rfl, .inl ⟨rfl, _, SqL.of upd_same⟩, ?_⟩
      refine ⟨.ref a, rfl, ((1 : Nat) : Int), rfl, _, rfl, _, _, rfl, rfl, ((many + 1 : Nat) : Int), by rfl, ?_⟩
      refine slice_mid (i := 1) (j := many + 1) (by omega) (Same.seqT s2 hs) fun p1 H2 hp1 s3 hp1n => ?_
      have ecut : ((V.str nm :: ps.map V.int).drop 1).take (many + 1 - 1) = (ps.take many).map V.int := by
        rw [List.map_take]
        rfl
      rw [ecut] at hp1
      refine ⟨p1, rfl, ⟨_, hp1⟩, fun D nD => ?_⟩
      refine lc_tup (te := fun σ H Q => tJs [tC (.str "r"), tFmt (tVar 3)] Str.empty σ H fun out H1 => Q (.str out) H1) (xs := (ps.take many).map V.int) (fun i H' => Same H2 H' ∧ H' D = some (.lst (((ps.take many).take i).map fun n => V.str (Str.ofString "r" ++ ((toString n : String) : Str))))) ⟨same_upd nD, upd_same⟩ (fun i H' _ hP => Same.seqT hP.1 hp1) (fun i x H' hx hP => ?_) fun H3 hP => ?_
      · obtain ⟨sm, hD⟩ := hP
        rw [List.getElem?_map] at hx
        cases ex : (ps.take many)[i]? with
        | none => rw [ex] at hx; cases hx
        | some n =>
          rw [ex] at hx
          have hx : V.int n = x := Option.some.inj hx
          subst hx
          have en : ps[i]? = some n := by
            rw [List.getElem?_take] at ex
            split at ex
            · exact ex
            · cases ex
          obtain ⟨n0, n1⟩ := small i n en
          have hi : i < ps.length := (List.getElem?_eq_some_iff.mp en).1
          have l1 := txt_small n0 n1
          refine ⟨rfl, ?_⟩
          unfold tYes
          refine iteT ?_
          refine ⟨Str.ofString "r", rfl, by decide, _, rfl, .inr ⟨n, rfl, log_small n0 n1, _, rfl, ?_, _, hD, ?_, ?_⟩⟩
          · rw [Str.empty_append, len_r]
            exact Nat.le_of_lt (small1000 (by omega))
          · rw [List.length_map, List.length_take, List.length_take]
            exact small1000 (by omega)
          · refine ⟨Same.updNew sm nD, ?_⟩
            rw [upd_same, List.take_add_one, ex, List.map_append, Str.empty_append]
            rfl
      · obtain ⟨sm, hD⟩ := hP
        rw [List.take_of_length_le (by rw [List.length_map]; exact Nat.le_refl _)] at hD
        have hw3 : H3 wp = some (.lst [V.str nm]) := sm _ _ (s3 _ _ upd_same)
        refine ⟨wp, D, _, _, rfl, rfl, hw3, hD, ?_, ?_⟩
        · rw [List.length_map, List.length_take]
          exact Nat.le_of_lt (small1000 (by simp; omega))
        have s4 : Same H1 (upd H3 wp (.lst ([V.str nm] ++ ((ps.take many).map fun n => V.str (Str.ofString "r" ++ ((toString n : String) : Str)))))) := Same.updNew ((s2.trans s3).trans sm) nwp
        -- the number
        refine ⟨.ref wp, rfl, .inl ⟨rfl, _, SqL.of upd_same⟩, ?_⟩
        refine ⟨.ref a, rfl, _, rfl, _, _, rfl, rfl, ((many + 1 : Nat) : Int), by rfl, ?_⟩
        unfold tNoPart
        refine slice_from (j := many + 1) (Same.seqT s4 hs) fun p2 H5 hp2 s5 _ => ?_
        have ecut2 : ((V.str nm :: ps.map V.int).drop (many + 1)) = (ps.drop many).map V.int := by
          rw [List.map_drop]
          rfl
        rw [ecut2] at hp2
        refine ⟨p2, rfl, ⟨_, hp2⟩, fun D2 nD2 => ?_⟩
        refine lc_tup (xs := (ps.drop many).map V.int) (fun i H' => Same H5 H' ∧ H' D2 = some (.lst (((ps.drop many).take i).map fun n => V.str ((toString n : String) : Str)))) ⟨same_upd nD2, upd_same⟩ (fun i H' _ hP => Same.seqT hP.1 hp2) (fun i x H' hx hP => ?_) fun H6 hP => ?_
        · obtain ⟨sm2, hD2⟩ := hP
          rw [List.getElem?_map] at hx
          cases ex : (ps.drop many)[i]? with
          | none => rw [ex] at hx; cases hx
          | some n =>
            rw [ex] at hx
            have hx : V.int n = x := Option.some.inj hx
            subst hx
            have en : ps[many + i]? = some n := by
              rw [List.getElem?_drop] at ex
              exact ex
            obtain ⟨n0, n1⟩ := small _ n en
            have hi : i < (ps.drop many).length := (List.getElem?_eq_some_iff.mp ex).1
            rw [List.length_drop] at hi
            refine ⟨rfl, ?_⟩
            unfold tYes
            refine iteT ?_
            refine ⟨_, rfl, n, rfl, log_small n0 n1, _, hD2, ?_, ?_⟩
            · rw [List.length_map, List.length_take, List.length_drop]
              exact small1000 (by omega)
            · refine ⟨Same.updNew sm2 nD2, ?_⟩
              rw [upd_same, List.take_add_one, ex, List.map_append]
              rfl
        · obtain ⟨sm2, hD2⟩ := hP
          rw [List.take_of_length_le (by rw [List.length_map]; exact Nat.le_refl _)] at hD2
          have hw6 := sm2 _ _ (s5 _ _ upd_same)
          refine ⟨wp, D2, _, _, rfl, rfl, hw6, hD2, ?_, ?_⟩
          · simp only [List.length_append, List.length_map, List.length_take, List.length_drop, List.length_cons, List.length_nil]
            exact Nat.le_of_lt (small1000 (by omega))
          have ewords : ([V.str nm] ++ ((ps.take many).map fun n => V.str (Str.ofString "r" ++ ((toString n : String) : Str)))) ++ ((ps.drop many).map fun n => V.str ((toString n : String) : Str)) = (pWords nm many ps).map V.str := by
            simp [pWords, List.map_append, List.map_map, Function.comp_def]
          rw [ewords]
          refine ⟨⟨_, rfl⟩, .ref wp, rfl, " ", wp, pWords nm many ps, rfl, rfl, .inl (SqL.of upd_same), ?_, ?_⟩
          · have hall : ∀ x ∈ pWords nm many ps, x.length ≤ 8 := fun x hx => by
              unfold pWords at hx
              rcases List.mem_append.mp hx with hx | hx
              · rcases List.mem_cons.mp hx with rfl | hx
                · exact hnm
                · obtain ⟨n, hn, rfl⟩ := List.mem_map.mp hx
                  obtain ⟨i, hi⟩ := List.getElem?_of_mem (List.mem_of_mem_take hn)
                  obtain ⟨n0, n1⟩ := small i n hi
                  have := txt_small n0 n1
                  rw [len_r]
                  omega
              · obtain ⟨n, hn, rfl⟩ := List.mem_map.mp hx
                obtain ⟨i, hi⟩ := List.getElem?_of_mem (List.mem_of_mem_drop hn)
                obtain ⟨n0, n1⟩ := small i n hi
                have := txt_small n0 n1
                omega
            have h1 := sum_le6 _ hall
            have h2 : (pWords nm many ps).length ≤ 4 := by
              simp only [pWords, List.length_append, List.length_cons, List.length_map, List.length_take, List.length_drop]
              omega
            have h3 : (" " : Str).length = 1 := by decide
            rw [h3]
            omega
          · exact qi _ (Same.updNew (s1.trans ((s4.trans s5).trans sm2)) (s1.free nwp))
end
end K00

set_option maxRecDepth 100000
set_option maxHeartbeats 2000000
/-! k00: the law's draws. -/
namespace K00
open PySem PySem.Spec PyProof.Rows L2
theorem scPot : FnScope ["script", "place", "cell", "own", "small"] ["script", "place"] (defScope sPot) := ⟨rfl, rfl, rfl, by decide +kernel, rfl, by decide +kernel, by decide +kernel⟩
theorem scOf : FnScope ["pot", "some"] ["pot", "some"] (defScope sOf) := ⟨rfl, rfl, rfl, by decide +kernel, rfl, by decide +kernel, by decide +kernel⟩
theorem scSome : FnScope ["pot", "pool", "many", "left", "found", "lap"] ["pot", "pool", "many"] (defScope sSome) := ⟨rfl, rfl, rfl, by decide +kernel, rfl, by decide +kernel, by decide +kernel⟩
theorem scCells : FnScope ["script", "most"] ["script", "most"] (defScope sCells) := ⟨rfl, rfl, rfl, by decide +kernel, rfl, by decide +kernel, by decide +kernel⟩
theorem scIsInt : FnScope ["value", "low", "high"] ["value", "low", "high"] (defScope sIsInt) := ⟨rfl, rfl, rfl, by decide +kernel, rfl, by decide +kernel, by decide +kernel⟩
/-- the heap without a -/
def wo (H : Hp) (a : Addr) : Hp := fun b => if b = a then none else H b
theorem wo_ne {H : Hp} {a b : Addr} (h : b ≠ a) : wo H a b = H b := if_neg h
theorem wo_same {H : Hp} {a : Addr} : wo H a a = none := if_pos rfl
theorem wo_le {H : Hp} {a : Addr} : Same (wo H a) H := fun b o e => by
  by_cases h : b = a
  · rw [h, wo_same] at e
    cases e
  · rw [wo_ne h] at e
    exact e
theorem wo_same_of {H H' : Hp} {a : Addr} (s : Same H H') : Same (wo H a) (wo H' a) := fun b o e => by
  by_cases h : b = a
  · rw [h, wo_same] at e
    cases e
  · rw [wo_ne h] at e ⊢
    exact s b o e
theorem wo_upd {H : Hp} {a : Addr} {o : HO} : wo (upd H a o) a = wo H a := by
  funext b
  by_cases h : b = a
  · rw [h, wo_same, wo_same]
  · rw [wo_ne h, wo_ne h, upd_ne h]
theorem wo_at {H : Hp} {a b : Addr} {o : HO} (h : H b = some o) (n : b ≠ a) : wo H a b = some o := by rw [wo_ne n]; exact h
/-- the law's pot: three numbers, the last one below a bound that grows -/
def Pot (H : Hp) (p : Addr) (n : Nat) : Prop := ∃ a b c : Int, H p = some (.lst [.int a, .int b, .int c]) ∧ 0 ≤ b ∧ b < 2305843009213693951 ∧ 0 ≤ c ∧ c ≤ n
theorem Pot.same {H H' : Hp} {p : Addr} {n : Nat} (h : Pot H p n) (s : Same H H') : Pot H' p n := by
  obtain ⟨a, b, c, e, r⟩ := h
  exact ⟨a, b, c, s _ _ e, r⟩
theorem Pot.mono {H : Hp} {p : Addr} {n m : Nat} (h : Pot H p n) (l : n ≤ m) : Pot H p m := by
  obtain ⟨a, b, c, e, r1, r2, r3, r4⟩ := h
  exact ⟨a, b, c, e, r1, r2, r3, by omega⟩
theorem op_powB {X : Cx} : OpR X (binaryOp .Pow) (rI (fun i j => 0 ≤ j ∧ (Builtin.Int.intBits i : Int) * j ≤ 2 ^ 27) fun i j => .int (i ^ j.toNat)) := opI fun i j t u Q s _ hc q => pow_int hc.1 hc.2 q
section
variable {P : Program} {w : World} {K : PySem.W.Frag} {mg : Str → Option Value} {base : Heap}
def spTake : Sp := fun vs H Q _ => ∃ (p : Addr) (u : Int) (n : Nat), vs = [.ref p, .int u] ∧ 0 < u ∧ u < 1000000 ∧ Pot H p n ∧ n < 1000000 ∧ ∀ d H', 0 ≤ d → d < u → Pot H' p (n + 1) → Same (wo H p) (wo H' p) → Q (.int d) H'
theorem ok_take {f : Addr} {fd : FuncData} {k : Nat} (F : Fun K "_law_take" "_law_take" sTake f fd) (mi : mg "int" = none) : FnOk P w K mg base CX0 (k + 1) f fd ["pot", "upto"] spTake := by
  refine F.ok scTake (fun vs H Q E h => ?_) (fun cdv A outer s H vs Q E hr h => ?_)
  · obtain ⟨p, u, n, rfl, _⟩ := h
    rfl
  · obtain ⟨p, u, n, rfl, hu0, hu1, ⟨a, b, c, hp, hb0, hb1, hc0, hc1⟩, hn, q⟩ := h
    refine ⟨_, pss_cons (ps_if (pt_cmpR op_gt (pe_ix ix_list (pv 0) pe_int (fun _ _ => rfl)) pe_int (nomark _))
        (pss_cons (ps_set (i := 2) scTake.nd rfl (.inl rfl) (pe_op op_mod (pe_callTy call_int1 (by rfl) mi (by decide +kernel) (pa_cons (pe_ix ix_list (pv 0) pe_int (fun _ _ => rfl)) pa_nil)) (pv 1)))
        (pss_cons (ps_asg (pe_op op_fdiv (pe_ix ix_list (pv 0) pe_int (fun _ _ => rfl)) (pv 1)) (pg_sub (pv 0) pe_int set_list))
        (pss_one (ps_ret (pv 2))))) pss_nil)
      (pss_cons (ps_asg (pe_op op_add (pe_ix ix_list (pv 0) pe_int (fun _ _ => rfl)) pe_int) (pg_sub (pv 0) pe_int set_list))
      (pss_cons (ps_set (i := 3) scTake.nd rfl (.inl rfl) (pe_ix ix_list (pe_lst (pa_cons pe_int (pa_cons pe_int (pa_cons pe_int (pa_cons pe_int (pa_cons pe_int pa_nil)))))) (pe_op op_mod (pe_callTy call_int1 (by rfl) mi (by decide +kernel) (pa_cons (pe_ix ix_list (pv 0) pe_int (fun _ _ => rfl)) pa_nil)) pe_int) (fun _ _ => rfl)))
      (pss_cons (ps_set (i := 4) scTake.nd rfl (.inl rfl) (pe_op op_mod (pe_callTy call_int1 (by rfl) mi (by decide +kernel) (pa_cons (pe_op op_pow (pe_callTy call_int1 (by rfl) mi (by decide +kernel) (pa_cons
          (pe_op op_add (pe_op op_add (pe_ix ix_list (pv 0) pe_int (fun _ _ => rfl)) (pe_op op_mul (pe_op op_mul pe_int (pe_ix ix_list (pv 0) pe_int (fun _ _ => rfl))) (pe_ix ix_list (pv 0) pe_int (fun _ _ => rfl)))) pe_int) pa_nil)) pe_int) pa_nil)) (pv 3)))
      (pss_cons (ps_set (i := 4) scTake.nd rfl (.inl rfl) (pe_op op_mod (pe_callTy call_int1 (by rfl) mi (by decide +kernel) (pa_cons (pe_op op_mul (pv 4)
          (pe_op op_add (pe_op op_mod (pe_callTy call_int1 (by rfl) mi (by decide +kernel) (pa_cons (pv 4) pa_nil)) pe_int) (pe_op op_mul pe_int (pe_ix ix_list (pv 0) pe_int (fun _ _ => rfl))))) pa_nil)) pe_int))
      (pss_one (ps_ret (pe_op op_mod (pe_callTy call_int1 (by rfl) mi (by decide +kernel) (pa_cons (pe_op op_fdiv (pv 4) pe_int) pa_nil)) (pv 1)))))))), ?_⟩
    have i0 : ∀ {x y z : Int}, atI [V.int x, V.int y, V.int z] 0 = some (.int x) := at_of (j := 0) rfl rfl
    have i1 : ∀ {x y z : Int}, atI [V.int x, V.int y, V.int z] 1 = some (.int y) := at_of (j := 1) rfl rfl
    have i2 : ∀ {x y z : Int}, atI [V.int x, V.int y, V.int z] 2 = some (.int z) := at_of (j := 2) rfl rfl
    refine ⟨.ref p, rfl, p, _, 0, _, rfl, rfl, SqL.of hp, i0, a, 0, rfl, rfl, _, rfl, ite2 (fun e => ?_) (fun e => ?_)⟩
    · have ha : 0 < a := of_decide_eq_true e
      refine ⟨.ref p, rfl, p, _, 0, _, rfl, rfl, SqL.of hp, i0, .inl ⟨a, rfl, _, rfl, a, u, rfl, rfl, hu0, ?_⟩⟩
      refine ⟨.ref p, rfl, p, _, 0, _, rfl, rfl, SqL.of hp, i0, _, rfl, a, u, rfl, rfl, ⟨hu0, by omega⟩, ?_⟩
      refine ⟨.ref p, rfl, p, _, 0, 0, rfl, rfl, hp, rfl, _, rfl, ?_⟩
      refine q (a % u) _ (Int.emod_nonneg _ (by omega)) (Int.emod_lt_of_pos _ hu0) ⟨a / u, b, c, upd_same, hb0, hb1, hc0, by omega⟩ ?_
      rw [wo_upd]
      exact Same.refl _
    · refine ⟨.ref p, rfl, p, _, 2, _, rfl, rfl, SqL.of hp, i2, c, 1, rfl, rfl, ?_⟩
      refine ⟨.ref p, rfl, p, _, 2, 2, rfl, rfl, hp, rfl, ?_⟩
      have hp2 : upd H p (.lst ([V.int a, .int b, .int c].set 2 (.int (c + 1)))) p = some (.lst [.int a, .int b, .int (c + 1)]) := upd_same
      refine ⟨by show 5 ≤ sizeLine; decide, fun l nl => ?_⟩
      have hpl : p ≠ l := ne_of_none hp2 nl
      have hp3 : upd (upd H p (.lst ([V.int a, .int b, .int c].set 2 (.int (c + 1))))) l (.lst [.int 2147483647, .int 2147483629, .int 2147483587, .int 2147483579, .int 2147483563]) p = some (.lst [.int a, .int b, .int (c + 1)]) := by rw [upd_ne hpl]; exact hp2
      have hprime : ∃ pr : Int, atI [V.int 2147483647, .int 2147483629, .int 2147483587, .int 2147483579, .int 2147483563] ((c + 1) % 5) = some (.int pr) ∧ 0 < pr ∧ pr < 2147483648 := by
        have h5 : (c + 1) % 5 = 0 ∨ (c + 1) % 5 = 1 ∨ (c + 1) % 5 = 2 ∨ (c + 1) % 5 = 3 ∨ (c + 1) % 5 = 4 := by omega
        rcases h5 with h | h | h | h | h <;> rw [h]
        · exact ⟨_, at_of (j := 0) rfl rfl, by decide, by decide⟩
        · exact ⟨_, at_of (j := 1) rfl rfl, by decide, by decide⟩
        · exact ⟨_, at_of (j := 2) rfl rfl, by decide, by decide⟩
        · exact ⟨_, at_of (j := 3) rfl rfl, by decide, by decide⟩
        · exact ⟨_, at_of (j := 4) rfl rfl, by decide, by decide⟩
      obtain ⟨pr, hpr, pr0, pr1⟩ := hprime
      refine ⟨.ref p, rfl, p, _, 2, _, rfl, rfl, SqL.of hp3, i2, .inl ⟨c + 1, rfl, c + 1, 5, rfl, rfl, (by show (0 : Int) < 5; decide), ?_⟩⟩
      refine ⟨l, _, (c + 1) % 5, .int pr, rfl, rfl, SqL.of upd_same, hpr, ?_⟩
      -- blend
      refine ⟨.ref p, rfl, p, _, 1, _, rfl, rfl, SqL.of hp3, i1, .ref p, rfl, p, _, 2, _, rfl, rfl, SqL.of hp3, i2, 97001, c + 1, rfl, rfl, .inl ⟨by decide, by decide⟩, ?_⟩
      have hcc : 0 ≤ 97001 * (c + 1) ∧ 97001 * (c + 1) ≤ 97001 * 1000000 := by omega
      refine ⟨.ref p, rfl, p, _, 2, _, rfl, rfl, SqL.of hp3, i2, 97001 * (c + 1), c + 1, rfl, rfl, .inl ⟨by omega, by omega⟩, ?_⟩
      have hsq : 0 ≤ 97001 * (c + 1) * (c + 1) ∧ 97001 * (c + 1) * (c + 1) ≤ 97001 * 1000000 * 1000000 := ⟨Int.mul_nonneg hcc.1 (by omega), Int.mul_le_mul hcc.2 (by omega) (by omega) (by omega)⟩
      refine ⟨b, 97001 * (c + 1) * (c + 1), rfl, rfl, b + 97001 * (c + 1) * (c + 1), 500, rfl, rfl, .inl ⟨_, rfl, ?_⟩⟩
      refine ⟨_, 3, rfl, rfl, ⟨by decide, by decide, by omega⟩, .inl ⟨_, rfl, _, rfl, _, pr, rfl, rfl, pr0, ?_⟩⟩
      generalize hz : (b + 97001 * (c + 1) * (c + 1) + 500) ^ (3 : Int).toNat = z
      have hm1 : 0 ≤ z % pr := Int.emod_nonneg _ (by omega)
      have hm2 : z % pr < pr := Int.emod_lt_of_pos _ pr0
      refine ⟨_, rfl, _, rfl, .inl ⟨_, rfl, _, 10007, rfl, rfl, (by show (0 : Int) < 10007; decide), ?_⟩⟩
      refine ⟨.ref p, rfl, p, _, 2, _, rfl, rfl, SqL.of hp3, i2, 90, c + 1, rfl, rfl, .inl ⟨by decide, by decide⟩, _, _, rfl, rfl, ?_⟩
      refine ⟨z % pr, _, rfl, rfl, .inl ⟨by omega, by omega⟩, .inl ⟨_, rfl, _, 2305843009213693907, rfl, rfl, (by show (0 : Int) < 2305843009213693907; decide), ?_⟩⟩
      refine ⟨_, rfl, _, 167, rfl, rfl, ⟨by decide, by decide⟩, .inl ⟨_, rfl, _, rfl, _, u, rfl, rfl, hu0, ?_⟩⟩
      refine q _ _ (Int.emod_nonneg _ (by omega)) (Int.emod_lt_of_pos _ hu0) ⟨a, b, c + 1, hp3, hb0, hb1, by omega, by omega⟩ fun x o e => ?_
      have hx : x ≠ p := fun z => by
        rw [z, wo_same] at e
        cases e
      rw [wo_ne hx] at e ⊢
      have nl2 := nl
      rw [upd_ne hpl.symm] at nl2
      rw [upd_ne (fun z => by rw [z, nl2] at e; cases e), upd_ne hx]
      exact e
/-- some[..]: any item of it -/
def spOf (K : PySem.W.Frag) : Sp := fun vs H Q _ => ∃ (p l : Addr) (xs : List V) (n : Nat), vs = [.ref p, .ref l] ∧ SqL K (wo H p) l xs ∧ xs ≠ [] ∧ xs.length ≤ 1000 ∧ Pot H p n ∧ n < 1000000 ∧ ∀ x ∈ xs, ∀ H', Pot H' p (n + 1) → Same (wo H p) (wo H' p) → Q x H'
theorem ok_of {f f1 : Addr} {fd fd1 : FuncData} {k : Nat} (F : Fun K "_law_of" "_law_of" sOf f fd) (G1 : FnOk P w K mg base CX0 (k + 1) f1 fd1 ["pot", "upto"] spTake) (k1 : PySem.W.keepIn K (.ref f1) = true) (b1 : Binds K fd1 ["pot", "upto"] []) (g1 : mg "_law_take" = some (.ref f1)) (ml : mg "len" = none) :
    FnOk P w K mg base CX0 (k + 2) f fd ["pot", "some"] (spOf K) := by
  refine F.ok scOf (fun vs H Q E h => ?_) (fun cdv A outer s H vs Q E hr h => ?_)
  · obtain ⟨p, l, xs, n, rfl, _⟩ := h
    rfl
  · obtain ⟨p, l, xs, n, rfl, hl, hne, hlen, hp, hn, q⟩ := h
    refine ⟨_, pss_one (ps_ret (pe_ix ix_list (pv 1) (pe_call G1 hr (by rfl) g1 k1 b1 .nil pass0 (pa_cons (pv 0) (pa_cons (pe_callB call_len_seq (by rfl) ml PySem.boot_len (pa_cons (pv 1) pa_nil)) pa_nil))) (fun _ _ => rfl))), ?_⟩
    have h0 : 0 < xs.length := List.length_pos_iff.mpr hne
    refine ⟨.ref l, rfl, .ref p, rfl, .ref l, rfl, l, xs, rfl, .inl (wo_le.seq hl), ?_⟩
    refine ⟨p, (xs.length : Nat), n, rfl, by omega, by omega, hp, hn, fun d H' d0 d1 hp' s' => ?_⟩
    have ed : d = ((d.toNat : Nat) : Int) := by omega
    have hd : d.toNat < xs.length := by omega
    exact ⟨l, xs, d, xs[d.toNat], rfl, rfl, wo_le.seq (s'.seq hl), at_of ed (List.getElem?_eq_getElem hd), q _ (List.getElem_mem hd) H' hp' s'⟩
end
end K00

set_option maxRecDepth 100000
set_option maxHeartbeats 2000000
/-! k00: the pot; what is an integer; the cells looked at; some of a pool. -/
namespace K00
open PySem PySem.Spec PyProof.Rows L2
theorem Dk.tyx {K : PySem.W.Frag} {H : Hp} {v : V} {d : PyData} (h : Dk K H v d) : TyX K H v (.type (tyName d)) := by
  cases h with
  | dp h =>
    cases h with
    | non => exact .base .non
    | bl b => exact .base (.bl b)
    | int i => exact .base (.int i)
    | str x => exact .base (.str x)
    | lst hs _ =>
      rcases hs with (e | ⟨o, e⟩) | ⟨o, its, n, e, c, _⟩
      · exact .base (.lst e)
      · exact .base (.frz e)
      · exact .kList e c
    | tup hs _ =>
      rcases hs with (e | ⟨o, e⟩) | ⟨o, its, n, e, c, _⟩
      · exact .base (.tup e)
      · exact .fTuple e
      · exact .kTuple e c
  | d0 h => exact .base (.dK h)
  | d1 h => exact .base (.dK h)
section
variable {P : Program} {w : World} {K : PySem.W.Frag} {mg : Str → Option Value} {base : Heap}
theorem ok_isInt {f : Addr} {fd : FuncData} {k : Nat} (F : Fun K "_law_is_int" "_law_is_int" sIsInt f fd) (ms : mg "isinstance" = none) (mi : mg "int" = none) (mb : mg "bool" = none) : FnOk P w K mg base CX0 (k + 1) f fd ["value", "low", "high"] (spWithin K) := by
  refine F.ok scIsInt (fun vs H Q E h => ?_) (fun cdv A outer s H vs Q E hr h => ?_)
  · obtain ⟨v, d, lo, hi, rfl, _⟩ := h
    rfl
  · obtain ⟨v, d, lo, hi, rfl, hd, q⟩ := h
    refine ⟨_, pss_one (ps_ret (pe_and (pe_callB call_isi (by rfl) ms (by decide +kernel) (pa_cons (pv 0) (pa_cons (pe_bltn (v := .ty "int") (by rfl) mi (by decide +kernel) rfl) pa_nil)))
      (pe_and (pe_not (pe_callB call_isi (by rfl) ms (by decide +kernel) (pa_cons (pv 0) (pa_cons (pe_bltn (v := .ty "bool") (by rfl) mb (by decide +kernel) rfl) pa_nil))))
      (pe_one (pe_chain op_le op_le (pv 1) (pv 0) (pv 2)))))), ?_⟩
    have ty := hd.tyx
    refine ⟨v, rfl, ?_⟩
    cases d with
    | none => exact ⟨v, .ty "int", .type "NoneType", .type "int", false, rfl, .ty "int", ty, (kit_ty (show kitB "NoneType" "int" = some false by decide +kernel)), _, rfl, iteF q⟩
    | str x => exact ⟨v, .ty "int", .type "str", .type "int", false, rfl, .ty "int", ty, (kit_ty (show kitB "str" "int" = some false by decide +kernel)), _, rfl, iteF q⟩
    | list _ => exact ⟨v, .ty "int", .type "list", .type "int", false, rfl, .ty "int", ty, (kit_ty (show kitB "list" "int" = some false by decide +kernel)), _, rfl, iteF q⟩
    | tuple _ => exact ⟨v, .ty "int", .type "tuple", .type "int", false, rfl, .ty "int", ty, (kit_ty (show kitB "tuple" "int" = some false by decide +kernel)), _, rfl, iteF q⟩
    | dict _ => exact ⟨v, .ty "int", .type "dict", .type "int", false, rfl, .ty "int", ty, (kit_ty (show kitB "dict" "int" = some false by decide +kernel)), _, rfl, iteF q⟩
    | bool b => exact ⟨v, .ty "int", .type "bool", .type "int", true, rfl, .ty "int", ty, (kit_ty (show kitB "bool" "int" = some true by decide +kernel)), _, rfl, iteT ⟨v, rfl, v, .ty "bool", .type "bool", .type "bool", true, rfl, .ty "bool", ty, (kit_ty (show kitB "bool" "bool" = some true by decide +kernel)), _, rfl, _, rfl, iteF q⟩⟩
    | int i =>
      obtain rfl := dk_int hd
      refine ⟨.int i, .ty "int", .type "int", .type "int", true, rfl, .ty "int", ty, (kit_ty (show kitB "int" "int" = some true by decide +kernel)), _, rfl, iteT ⟨.int i, rfl, .int i, .ty "bool", .type "int", .type "bool", false, rfl, .ty "bool", ty, (kit_ty (show kitB "int" "bool" = some false by decide +kernel)), _, rfl, _, rfl, iteT ?_⟩⟩
      refine ⟨_, rfl, _, rfl, lo, i, rfl, rfl, _, rfl, ?_⟩
      by_cases c : lo ≤ i
      · rw [decide_eq_true c]
        refine iteT ⟨_, rfl, i, hi, rfl, rfl, ?_⟩
        have e : isW (.int i) lo hi = decide (i ≤ hi) := by simp [isW, c]
        rw [e] at q
        exact q
      · rw [decide_eq_false c]
        have e : isW (.int i) lo hi = false := by simp [isW, c]
        rw [e] at q
        exact iteF q
/-- the cells: [0], or [0, 1] -/
def spCells (K : PySem.W.Frag) : Sp := fun vs H Q _ => ∃ (a : Addr) (ns : List Int), vs = [.ref a, .int 2] ∧ SqL K H a (ns.map V.int) ∧ ns.length ≤ 63 ∧ ∀ (q : Addr) (m : Nat), m ≤ 2 → H q = none → Q (.ref q) (upd H q (.lst ((List.range m).map fun i => V.int (i : Nat))))
theorem ok_cells {f : Addr} {fd : FuncData} {k : Nat} (F : Fun K "_law_cells" "_law_cells" sCells f fd) (ml : mg "list" = none) (mr : mg "range" = none) (mx : mg "max" = none) (mn : mg "min" = none) (me : mg "len" = none) : FnOk P w K mg base CX0 (k + 1) f fd ["script", "most"] (spCells K) := by
  refine F.ok scCells (fun vs H Q E h => ?_) (fun cdv A outer s H vs Q E hr h => ?_)
  · obtain ⟨a, ns, rfl, _⟩ := h
    rfl
  · obtain ⟨a, ns, rfl, hs, hn, q⟩ := h
    refine ⟨_, pss_one (ps_ret (pe_listRg rfl (by rfl) ml (prg_1 (by rfl) mr (pe_callB (call_max2 rfl) (by rfl) mx (by decide +kernel) (pa_cons pe_int (pa_cons (pe_callB (call_min2 rfl) (by rfl) mn (by decide +kernel) (pa_cons (pv 1) (pa_cons (pe_callB call_len_seq (by rfl) me PySem.boot_len (pa_cons (pv 0) pa_nil)) pa_nil))) pa_nil)))))), ?_⟩
    refine ⟨_, rfl, .ref a, rfl, a, _, rfl, .inl hs, 2, _, rfl, 1, _, rfl, _, rfl, ?_⟩
    have key : ∀ x : Int, 0 ≤ x → x ≤ 2 → RgOk 0 x ∧ ∀ q_1, H q_1 = none → Q (.ref q_1) (upd H q_1 (.lst (rgV 0 x))) := fun x h0 h2 => by
      refine ⟨RgOk.of_le (by omega) (by omega) (by omega) (by omega), fun p hp => ?_⟩
      have e : rgV 0 x = (List.range x.toNat).map fun i => V.int (i : Nat) := by
        unfold rgV
        rw [Int.sub_zero]
        simp
      rw [e]
      exact q p x.toNat (by omega) hp
    have l63 : ((((ns.map V.int).length : Nat)) : Int) ≥ 0 := Int.natCast_nonneg _
    refine key _ ?_ ?_ <;> split <;> (try split) <;> omega
/-- a new pot of a cell -/
def spPot (K : PySem.W.Frag) : Sp := fun vs H Q _ => ∃ (a : Addr) (ns : List Int) (i : Nat), vs = [.ref a, .int (i : Nat)] ∧ SqL K H a (ns.map V.int) ∧ ns.length ≤ 63 ∧ i ≤ 2 ∧ ∀ (q : Addr) (H' : Hp), H q = none → Same H H' → Pot H' q 0 → Q (.ref q) H'
theorem ok_pot {f : Addr} {fd : FuncData} {k : Nat} (F : Fun K "_law_pot" "_law_pot" sPot f fd) (ml : mg "len" = none) (ms : mg "sum" = none) (mi : mg "int" = none) (ma : mg "abs" = none) : FnOk P w K mg base CX0 (k + 1) f fd ["script", "place"] (spPot K) := by
  refine F.ok scPot (fun vs H Q E h => ?_) (fun cdv A outer s H vs Q E hr h => ?_)
  · obtain ⟨a, ns, i, rfl, _⟩ := h
    rfl
  · obtain ⟨a, ns, i, rfl, hs, hn, hi, q⟩ := h
    refine ⟨_, pss_cons (ps_set (i := 2) scPot.nd rfl (.inl rfl) (pe_ifExp (pt_cmpR op_lt (pv 1) (pe_callB call_len_seq (by rfl) ml PySem.boot_len (pa_cons (pv 0) pa_nil)) (nomark _)) (pe_ix ix_list (pv 0) (pv 1) (fun _ _ => rfl))
        (pe_op op_add (pe_op op_add (pe_op op_mod (pe_callB (cr_sum rfl) (by rfl) ms (by decide +kernel) (pa_cons (pe_slice sl_list (pv 0) po_none (po_some pe_int)) pa_nil)) pe_int) (pe_op op_mul pe_int (pv 1))) pe_int)))
      (pss_cons (ps_set (i := 3) scPot.nd rfl (.inl rfl) (pe_op op_mul (pe_op op_mod (pe_callTy call_int1 (by rfl) mi (by decide +kernel) (pa_cons (pe_callB call_abs (by rfl) ma (by decide +kernel) (pa_cons (pv 2) pa_nil)) pa_nil)) (pe_op op_powB (pe_op op_pow pe_int pe_int) pe_int))
        (pe_callTy call_int1 (by rfl) mi (by decide +kernel) (pa_cons (pe_cmpR op_ge (pe_callB call_abs (by rfl) ma (by decide +kernel) (pa_cons (pv 2) pa_nil)) (pe_op op_pow pe_int pe_int) (nomark _)) pa_nil))))
      (pss_cons (ps_set (i := 4) scPot.nd rfl (.inl rfl) (pe_op op_mod (pe_callTy call_int1 (by rfl) mi (by decide +kernel) (pa_cons (pv 2) pa_nil)) pe_int))
      (pss_one (ps_ret (pe_lst (pa_cons (pv 3) (pa_cons (pe_op op_mod (pe_callTy call_int1 (by rfl) mi (by decide +kernel) (pa_cons (pe_op op_add (pe_op op_add (pe_op op_mul (pv 4) pe_int) (pe_op op_mul (pe_op op_mul pe_int (pv 1)) (pv 1))) pe_int) pa_nil)) pe_int) (pa_cons pe_int pa_nil)))))))), ?_⟩
    refine st_seq (st_setH (PV := fun v H' => ∃ c : Int, v = .int c ∧ Same H H') (fun Q1 q1 => ?_) ?_)
    · refine ⟨_, rfl, .ref a, rfl, a, _, rfl, .inl hs, (i : Nat), ((ns.map V.int).length : Nat), rfl, rfl, _, rfl, ite2 (fun e => ?_) (fun e => ?_)⟩
      · have hlt : i < (ns.map V.int).length := by
          have := of_decide_eq_true e
          omega
        have hlt2 : i < ns.length := by rw [List.length_map] at hlt; exact hlt
        refine ⟨.ref a, rfl, _, rfl, a, _, (i : Nat), .int ns[i], rfl, rfl, hs, at_of rfl (by rw [List.getElem?_map, List.getElem?_eq_getElem hlt2]; rfl), ?_⟩
        exact q1 _ _ ⟨_, rfl, Same.refl H⟩
      · refine ⟨.ref a, rfl, ?_⟩
        unfold tNoPart
        refine ⟨((1 : Nat) : Int), rfl, a, _, rfl, hs, fun l nl => ?_⟩
        have e1 : cutV (ns.map V.int) none (some ((1 : Nat) : Int)) = (ns.take 1).map V.int := by rw [cut_take, List.map_take]
        refine ⟨l, ns.take 1, rfl, SqL.of (by rw [upd_same, ← e1]), ?_⟩
        refine ⟨_, 1000003, rfl, rfl, (by show (0 : Int) < 1000003; decide), _, rfl, 1003, (i : Nat), rfl, rfl, .inl ⟨by decide, by decide⟩, _, _, rfl, rfl, _, 401, rfl, rfl, ?_⟩
        exact q1 _ _ ⟨_, rfl, same_upd nl⟩
    rintro v H1 ⟨c, rfl, s1⟩
    refine ⟨_, rfl, c, rfl, .inl ⟨_, rfl, 10, 60, rfl, rfl, ⟨by decide, by decide, by decide⟩, _, 5, rfl, rfl, ⟨by decide, by decide +kernel⟩, _, _, rfl, rfl, (by show (0 : Int) < _; decide +kernel), ?_⟩⟩
    refine ⟨_, rfl, c, rfl, 10, 18, rfl, rfl, ⟨by decide, by decide, by decide⟩, _, _, rfl, rfl, .inr ⟨_, rfl, _, _, rfl, rfl, .inr ?_, ?_⟩⟩
    · exact (by decide : ∀ z : Bool, -(2 ^ 64) < (if z = true then (1 : Int) else 0) ∧ (if z = true then (1 : Int) else 0) < 2 ^ 64) _
    refine ⟨_, rfl, .inl ⟨c, rfl, c, 2305843009213693951, rfl, rfl, (by show (0 : Int) < 2305843009213693951; decide), ?_⟩⟩
    refine ⟨_, rfl, _, rfl, _, 70001, rfl, rfl, .inr ⟨by decide, by decide⟩, _, rfl, 7001, (i : Nat), rfl, rfl, .inl ⟨by decide, by decide⟩, _, rfl, _, (i : Nat), rfl, rfl, .inr ⟨by omega, by omega⟩, ?_⟩
    refine ⟨_, _, rfl, rfl, _, 300, rfl, rfl, .inl ⟨_, rfl, _, 2305843009213693921, rfl, rfl, (by show (0 : Int) < 2305843009213693921; decide), ?_⟩⟩
    refine ⟨by show 3 ≤ sizeLine; decide, fun p hp => ?_⟩
    refine q p _ (s1.free hp) (s1.trans (same_upd hp)) ⟨_, _, 0, upd_same, Int.emod_nonneg _ (by decide), ?_, by decide, by decide⟩
    have := Int.emod_lt_of_pos (c % 2305843009213693951 * 70001 + 7001 * (i : Int) * (i : Int) + 300) (show (0 : Int) < 2305843009213693921 by decide)
    omega
end
end K00

set_option maxRecDepth 100000
set_option maxHeartbeats 2000000
/-! k00: some of a pool; the law's own words and rows. -/
namespace K00
open PySem PySem.Spec PyProof.Rows L2
theorem scCellWord : FnScope ["row", "name", "parts", "codes", "names", "base"] ["row"] (defScope sCellWord) := ⟨rfl, rfl, rfl, by decide +kernel, rfl, by decide +kernel, by decide +kernel⟩
theorem scCellRow : FnScope ["word", "kind", "one", "other", "rest", "names", "codes", "name"] ["word"] (defScope sCellRow) := ⟨rfl, rfl, rfl, by decide +kernel, rfl, by decide +kernel, by decide +kernel⟩
theorem inV_strs (x : Str) : ∀ l : List Str, inV (.str x) (l.map V.str) = decide (x ∈ l)
  | [] => rfl
  | y :: l => by
    have ih := inV_strs x l
    unfold inV at ih ⊢
    rw [List.map_cons, List.any_cons, ih]
    show ((y == x) || _) = _
    by_cases h : y = x
    · subst h
      simp
    · have h' : ¬ x = y := fun z => h z.symm
      simp [h, h']
theorem flat_strs (l : List Str) : (l.map V.str).all flatV = true := by
  induction l with
  | nil => rfl
  | cons a l ih =>
    rw [List.map_cons, List.all_cons, ih]
    rfl
/-- list.index of a text -/
theorem index_read {K : PySem.W.Frag} {H : Hp} {a : Addr} {l : List Str} {x : Str} {Q : VK} (h : SqL K H a (l.map V.str)) (hx : x ∈ l) (q : Q (.int (l.idxOf x : Nat)) H) : rIndex K (.ref a) [.str x] H Q := by
  have hlt : l.idxOf x < l.length := List.idxOf_lt_length_of_mem hx
  refine ⟨a, l.map V.str, .str x, l.idxOf x, .str x, rfl, rfl, h, rfl, flat_strs l, ?_, by simp [eqV], fun m z hm hz => ?_, q⟩
  · rw [List.getElem?_map, List.getElem?_eq_getElem hlt, List.getElem_idxOf hlt]
    rfl
  · rw [List.getElem?_map] at hz
    cases e : l[m]? with
    | none => rw [e] at hz; cases hz
    | some y =>
      rw [e] at hz
      have hz : V.str y = z := Option.some.inj hz
      subst hz
      show (y == x) = false
      have hne : y ≠ x := fun c => by
        subst c
        have hml : m < l.length := (List.getElem?_eq_some_iff.mp e).1
        have := List.not_of_lt_findIdx (xs := l) (p := (· == y)) (show m < l.findIdx (· == y) from hm)
        have e2 := (List.getElem?_eq_some_iff.mp e).2
        rw [e2] at this
        simp at this
      exact beq_eq_false_iff_ne.mpr hne
section
variable {P : Program} {w : World} {K : PySem.W.Frag} {mg : Str → Option Value} {base : Heap}
/-- so many of a pool -/
def spSome (K : PySem.W.Frag) : Sp := fun vs H Q _ => ∃ (p l : Addr) (xs : List V) (m n : Nat), vs = [.ref p, .ref l, .int (m : Nat)] ∧ SqL K (wo H p) l xs ∧ m ≤ xs.length ∧ xs.length ≤ 1000 ∧ Pot H p n ∧ n + m < 1000000 ∧
  ∀ H' q ys, Pot H' p (n + m) → Same (wo H p) (wo H' p) → wo H' p q = some (.lst ys) → ys.length = m → (∀ y ∈ ys, y ∈ xs) → Q (.ref q) H'
theorem wo_updNew {H H' : Hp} {p q : Addr} {o : HO} (s : Same (wo H p) (wo H' p)) (h : H q = none) : Same (wo H p) (wo (upd H' q o) p) := fun b x e => by
  have hb : b ≠ p := fun z => by rw [z, wo_same] at e; cases e
  have hq : b ≠ q := fun z => by rw [wo_ne hb, z, h] at e; cases e
  have := s b x e
  rw [wo_ne hb] at this ⊢
  rw [upd_ne hq]
  exact this
theorem ok_some {f f1 : Addr} {fd fd1 : FuncData} {k : Nat} (F : Fun K "_law_some" "_law_some" sSome f fd) (G1 : FnOk P w K mg base CX0 (k + 1) f1 fd1 ["pot", "upto"] spTake) (k1 : PySem.W.keepIn K (.ref f1) = true) (b1 : Binds K fd1 ["pot", "upto"] []) (g1 : mg "_law_take" = some (.ref f1))
    (ml : mg "list" = none) (mr : mg "range" = none) (me : mg "len" = none) : FnOk P w K mg base CX0 (k + 2) f fd ["pot", "pool", "many"] (spSome K) := by
  refine F.ok scSome (fun vs H Q E h => ?_) (fun cdv A outer s H vs Q E hr h => ?_)
  · obtain ⟨p, l, xs, m, n, rfl, _⟩ := h
    rfl
  · obtain ⟨p, l, xs, m, n, rfl, hl, hm, hlen, hp, hn, q⟩ := h
    refine ⟨_, pss_cons (ps_par (i := 3) (j := 4) (by rfl) scSome.nd rfl rfl (by decide) rfl rfl (pa_cons (pe_callTy call_list_of (by rfl) ml (by decide +kernel) (pa_cons (pv 1) pa_nil)) (pa_cons (pe_lst pa_nil) pa_nil)) (by rfl))
      (pss_cons (ps_for PassesOwn.never rfl (pi_range1 (by rfl) mr (pa_cons (pv 2) pa_nil)) (pg_name (i := 5) scSome.nd rfl (.inl rfl))
        (pss_one (ps_expr (pe_bm PySem.F.plainAttrs_list PySem.F.slot_list_append PySem.F.type_list_append mt_append (pv 4) (pa_cons (pe_bm PySem.F.plainAttrs_list PySem.F.slot_list_pop PySem.F.type_list_pop mt_popAt (pv 3) (pa_cons
          (pe_call G1 hr (by rfl) g1 k1 b1 .nil pass0 (pa_cons (pv 0) (pa_cons (pe_callB call_len_seq (by rfl) me PySem.boot_len (pa_cons (pv 3) pa_nil)) pa_nil))) pa_nil)) pa_nil)))))
      (pss_one (ps_ret (pv 4)))), ?_⟩
    refine ⟨.ref l, rfl, l, xs, rfl, .inl (wo_le.seq hl), fun L nL => ?_⟩
    have s1 := same_upd (o := .lst xs) nL
    refine ⟨Nat.zero_le _, fun Fo nF => ⟨.ref L, .ref Fo, rfl, ?_⟩⟩
    have s2 := s1.trans (same_upd (o := .lst []) nF)
    have nF0 : H Fo = none := s1.free nF
    obtain ⟨pa, pb, pc, epp, _⟩ := id hp
    have pL : L ≠ p := (ne_of_none epp nL).symm
    have pF : Fo ≠ p := (ne_of_none epp nF0).symm
    have LF : L ≠ Fo := ne_of_none upd_same nF
    refine ⟨_, rfl, (m : Nat), rfl, by omega, by omega, for_range (n := m) (fun i σ H' => ∃ y5 ls fs, σ = [some (.ref p), some (.ref l), some (.int (m : Nat)), some (.ref L), some (.ref Fo), y5] ∧ Pot H' p (n + i) ∧ Same (wo H p) (wo H' p) ∧
      H' L = some (.lst ls) ∧ H' Fo = some (.lst fs) ∧ ls.length = xs.length - i ∧ fs.length = i ∧ (∀ y ∈ ls, y ∈ xs) ∧ ∀ y ∈ fs, y ∈ xs) ⟨none, xs, [], rfl, hp.same s2, wo_same_of s2, ?_, upd_same, by omega, rfl, fun y h => h, fun y h => by cases h⟩ (fun i σ H' hi hP => ?_) fun σ H' hP => ?_⟩
    · rw [upd_ne LF]
      exact upd_same
    · obtain ⟨y5, ls, fs, rfl, hp', sm, hL, hF, ll, lf, al, af⟩ := hP
      refine ⟨.ref Fo, rfl, .inl ⟨rfl, _, SqL.of hF⟩, .ref L, rfl, .inl ⟨rfl, _, SqL.of hL⟩, .ref p, rfl, .ref L, rfl, L, ls, rfl, .inl (SqL.of hL), ?_⟩
      refine ⟨p, (ls.length : Nat), n + i, rfl, by omega, by omega, hp', by omega, fun d H2 d0 d1 hp2 sd => ?_⟩
      have hL2 : H2 L = some (.lst ls) := wo_le _ _ (sd _ _ (wo_at hL pL))
      have hF2 : H2 Fo = some (.lst fs) := wo_le _ _ (sd _ _ (wo_at hF pF))
      have hd : d.toNat < ls.length := by omega
      have eix : ixN ls.length d = some d.toNat := by
        unfold ixN
        rw [if_pos d0, if_pos d1]
      refine ⟨L, ls, d, d.toNat, ls[d.toNat], rfl, rfl, hL2, by omega, by omega, (ixN_seq eix).1, List.getElem?_eq_getElem hd, ?_⟩
      refine ⟨Fo, _, _, rfl, rfl, (by rw [upd_ne LF.symm]; exact hF2), small1000 (by omega), ?_⟩
      refine ⟨_, ls.eraseIdx d.toNat, fs ++ [ls[d.toNat]], rfl, ?_, wo_updNew (wo_updNew (sm.trans sd) nL) nF0, ?_, upd_same, ?_, ?_, ?_, ?_⟩
      · obtain ⟨a1, b1', c1, e1, r1⟩ := hp2
        exact ⟨a1, b1', c1, (by rw [upd_ne pF.symm, upd_ne pL.symm]; exact e1), r1⟩
      · rw [upd_ne LF]
        exact upd_same
      · rw [List.length_eraseIdx, if_pos hd]
        omega
      · rw [List.length_append, lf]
        rfl
      · exact fun y hy => al y (List.mem_of_mem_eraseIdx hy)
      · intro y hy
        rcases List.mem_append.mp hy with h | h
        · exact af y h
        · rw [List.mem_singleton.mp h]
          exact al _ (List.getElem_mem hd)
    · obtain ⟨y5, ls, fs, rfl, hp', sm, hL, hF, ll, lf, al, af⟩ := hP
      exact ⟨_, rfl, q H' Fo fs hp' sm (wo_at hF pF) lf af⟩
end
end K00

set_option maxRecDepth 100000
set_option maxHeartbeats 4000000
/-! k00: the law's own word of a row. -/
namespace K00
open PySem PySem.Spec PyProof.Rows L2
theorem lens_all : ∀ p ∈ shapes, (bnds p.2).length = (if p.1 ∈ reck then 2 else if p.1 ∈ (["jump", "call", "trap"] : List Str) then 1 else if p.1 ∈ (["load", "store"] : List Str) then 3 else if p.1 ∈ (["less", "same"] : List Str) then 2 else if p.1 = "go" then 1 else 2) := by decide
theorem in_names : ∀ p ∈ shapes, p.1 ∉ reck → p.1 ∈ lnames1 := by decide
section
variable {P : Program} {w : World} {K : PySem.W.Frag} {mg : Str → Option Value} {base : Heap}
def spCellWord (K : PySem.W.Frag) : Sp := fun vs H Q _ => ∃ (a : Addr) (nm : Str) (ps : List Int), vs = [.ref a] ∧ SqT K H a (.str nm :: ps.map V.int) ∧ IsRow nm ps ∧ ∀ H', Same H H' → Q (.int (wordOf nm ps)) H'
theorem ok_cellWord {f : Addr} {fd : FuncData} {k : Nat} (F : Fun K "_law_cell_word" "_law_cell_word" sCellWord f fd) : FnOk P w K mg base CX0 (k + 1) f fd ["row"] (spCellWord K) := by
  refine F.ok scCellWord (fun vs H Q E h => ?_) (fun cdv A outer s H vs Q E hr h => ?_)
  · obtain ⟨a, nm, ps, rfl, _⟩ := h
    rfl
  · obtain ⟨a, nm, ps, rfl, hs, hrow, q⟩ := h
    refine ⟨_, pss_cons (ps_par (i := 1) (j := 2) (by rfl) scCellWord.nd rfl rfl (by decide) rfl rfl (pa_cons (pe_ix ix_tup (pv 0) pe_int (fun _ _ => rfl)) (pa_cons (pe_slice sl_tupA (pv 0) (po_some pe_int) po_none) pa_nil)) (by rfl))
      (pss_cons (ps_set (i := 3) scCellWord.nd rfl (.inl rfl) (pe_lst (pa_cons pe_str (pa_cons pe_str (pa_cons pe_str (pa_cons pe_str (pa_cons pe_str (pa_cons pe_str (pa_cons pe_str (pa_cons pe_str (pa_cons pe_str (pa_cons pe_str (pa_cons pe_str pa_nil)))))))))))))
      (pss_cons (ps_if (pt_cmpR op_in_seq (pv 1) (pv 3) (by rfl)) (pss_one (ps_ret (pe_op op_add (pe_op op_add (pe_op op_add pe_int (pe_op op_mul pe_int (pe_ix ix_tup (pv 2) pe_int (fun _ _ => rfl)))) (pe_op op_mul pe_int (pe_ix ix_tup (pv 2) pe_int (fun _ _ => rfl)))) (pe_bm PySem.F.plainAttrs_list PySem.F.slot_list_index PySem.F.type_list_index mt_index (pv 3) (pa_cons (pv 1) pa_nil))))) pss_nil)
      (pss_cons (ps_set (i := 4) scCellWord.nd rfl (.inl rfl) (pe_lst (pa_cons pe_str (pa_cons pe_str (pa_cons pe_str (pa_cons pe_str (pa_cons pe_str (pa_cons pe_str (pa_cons pe_str (pa_cons pe_str (pa_cons pe_str (pa_cons pe_str (pa_cons pe_str (pa_cons pe_str (pa_cons pe_str (pa_cons pe_str pa_nil))))))))))))))))
      (pss_cons (ps_set (i := 5) scCellWord.nd rfl (.inl rfl) (pe_op op_mul pe_int (pe_op op_add (pe_bm PySem.F.plainAttrs_list PySem.F.slot_list_index PySem.F.type_list_index mt_index (pv 4) (pa_cons (pv 1) pa_nil)) pe_int)))
      (pss_cons (ps_if (pt_cmpR op_in_seq (pv 1) (pe_tup (pa_cons pe_str (pa_cons pe_str (pa_cons pe_str pa_nil)))) (by rfl)) (pss_one (ps_ret (pe_op op_add (pv 5) (pe_ix ix_tup (pv 2) pe_int (fun _ _ => rfl))))) pss_nil)
      (pss_cons (ps_if (pt_cmpR op_in_seq (pv 1) (pe_tup (pa_cons pe_str (pa_cons pe_str pa_nil))) (by rfl)) (pss_one (ps_ret (pe_op op_add (pe_op op_add (pe_op op_add (pv 5) (pe_op op_mul pe_int (pe_ix ix_tup (pv 2) pe_int (fun _ _ => rfl)))) (pe_op op_mul pe_int (pe_ix ix_tup (pv 2) pe_int (fun _ _ => rfl)))) (pe_ix ix_tup (pv 2) pe_int (fun _ _ => rfl))))) pss_nil)
      (pss_cons (ps_if (pt_cmpR op_in_seq (pv 1) (pe_tup (pa_cons pe_str (pa_cons pe_str pa_nil))) (by rfl)) (pss_one (ps_ret (pe_op op_add (pe_op op_add (pv 5) (pe_op op_mul pe_int (pe_ix ix_tup (pv 2) pe_int (fun _ _ => rfl)))) (pe_op op_mul pe_int (pe_ix ix_tup (pv 2) pe_int (fun _ _ => rfl)))))) pss_nil)
      (pss_one (ps_ret (pe_op op_add (pe_op op_add (pv 5) (pe_op op_mul pe_int (pe_ix ix_tup (pv 2) pe_int (fun _ _ => rfl)))) (pe_ifExp (pt_cmpR op_eq (pv 1) pe_str (nomark _)) pe_int (pe_ix ix_tup (pv 2) pe_int (fun _ _ => rfl))))))))))))), ?_⟩
    have at0 : ∀ {z : V} {zs : List V}, atI (z :: zs) 0 = some z := at_of (j := 0) rfl rfl
    obtain ⟨sh, hl, hok⟩ := id hrow
    have hlen := lens_all _ (mem_of_lookup hl)
    have hin := in_names _ (mem_of_lookup hl)
    rw [← okParts_len hok] at hlen
    simp only at hlen hin
    rw [← lWord_eq hrow] at q
    refine ⟨.ref a, rfl, a, _, 0, .str nm, rfl, rfl, hs, at0, .ref a, rfl, ((1 : Nat) : Int), rfl, ?_⟩
    unfold tNoPart
    refine slice_from (j := 1) hs fun p1 H1 hp1 s1 _ => ⟨.str nm, .ref p1, rfl, ?_⟩
    have hp1 : SqT K H1 p1 (ps.map V.int) := hp1
    refine ⟨by show 11 ≤ sizeLine; decide, fun c nc => ?_⟩
    have hc : SqL K (upd H1 c (.lst (reck.map V.str))) c (reck.map V.str) := SqL.of upd_same
    have s2 : Same H1 (upd H1 c (.lst (reck.map V.str))) := same_upd nc
    have hp2 := Same.seqT s2 hp1
    have gat : ∀ (z : Int) (j : Nat), z = (j : Int) → j < ps.length → atI (ps.map V.int) z = some (.int (ps.getD j 0)) := fun z j e hj => at_of e (by rw [List.getElem?_map, List.getElem?_eq_getElem hj, List.getD_eq_getElem?_getD, List.getElem?_eq_getElem hj]; rfl)
    have yes : ∀ l : List Str, inV (.str nm) (l.map V.str) = true → nm ∈ l := fun l e => by
      rw [inV_strs] at e
      exact of_decide_eq_true e
    have no : ∀ l : List Str, ¬ inV (.str nm) (l.map V.str) = true → nm ∉ l := fun l e z => e (by rw [inV_strs]; exact decide_eq_true z)
    refine ⟨_, rfl, _, rfl, c, _, rfl, .inl hc, rfl, flat_strs reck, _, rfl, ite2 (fun e => ?_) (fun e => ?_)⟩
    · have hm := yes reck e
      rw [if_pos hm] at hlen
      have el : lWord nm ps = 12288 + 512 * ps.getD 0 0 + 64 * ps.getD 1 0 + (reck.idxOf nm : Nat) := by unfold lWord; rw [if_pos hm]
      rw [el] at q
      refine ⟨_, rfl, p1, _, 0, _, rfl, rfl, hp2, gat 0 0 rfl (by omega), 512, _, rfl, rfl, .inl ⟨by decide, by decide⟩, 12288, _, rfl, rfl, ?_⟩
      refine ⟨_, rfl, p1, _, 1, _, rfl, rfl, hp2, gat 1 1 rfl (by omega), 64, _, rfl, rfl, .inl ⟨by decide, by decide⟩, _, _, rfl, rfl, ?_⟩
      refine ⟨_, rfl, .inl ⟨rfl, _, hc⟩, _, rfl, ?_⟩
      unfold tNil
      refine index_read hc hm ⟨_, _, rfl, rfl, ?_⟩
      exact q _ (s1.trans s2)
    · have hm := no reck e
      have hin := hin hm
      rw [if_neg hm] at hlen
      refine ⟨by show 14 ≤ sizeLine; decide, fun c2 nc2 => ?_⟩
      have s3 := same_upd (o := .lst (lnames1.map V.str)) nc2
      have hp3 := Same.seqT s3 hp2
      have hc2 : SqL K (upd (upd H1 c (.lst (reck.map V.str))) c2 (.lst (lnames1.map V.str))) c2 (lnames1.map V.str) := SqL.of upd_same
      refine ⟨_, rfl, .inl ⟨rfl, _, hc2⟩, _, rfl, ?_⟩
      unfold tNil
      refine index_read hc2 hin ⟨_, 1, rfl, rfl, 4096, _, rfl, rfl, .inl ⟨by decide, by decide⟩, ?_⟩
      -- jump, call, trap
      refine ⟨_, rfl, by show 3 ≤ sizeLine; decide, fun t1 nt1 => ⟨t1, (["jump", "call", "trap"] : List Str).map V.str, rfl, .inr (SqT.of upd_same), rfl, rfl, _, rfl, ?_⟩⟩
      have s4 := same_upd (o := .tup ((["jump", "call", "trap"] : List Str).map V.str)) nt1
      have hp4 := Same.seqT s4 hp3
      refine ite2 (fun e => ?_) (fun e => ?_)
      · have h2 := yes ["jump", "call", "trap"] e
        rw [if_pos h2] at hlen
        have el : lWord nm ps = 4096 * ((lnames1.idxOf nm : Nat) + 1) + ps.getD 0 0 := by unfold lWord; rw [if_neg hm]; simp only; rw [if_pos h2]
        rw [el] at q
        refine ⟨_, rfl, _, rfl, p1, _, 0, _, rfl, rfl, hp4, gat 0 0 rfl (by omega), _, _, rfl, rfl, ?_⟩
        exact q _ (((s1.trans s2).trans s3).trans s4)
      have h2 := no ["jump", "call", "trap"] e
      rw [if_neg h2] at hlen
      refine ⟨_, rfl, by show 2 ≤ sizeLine; decide, fun t2 nt2 => ⟨t2, (["load", "store"] : List Str).map V.str, rfl, .inr (SqT.of upd_same), rfl, rfl, _, rfl, ?_⟩⟩
      have s5 := same_upd (o := .tup ((["load", "store"] : List Str).map V.str)) nt2
      have hp5 := Same.seqT s5 hp4
      refine ite2 (fun e => ?_) (fun e => ?_)
      · have h3 := yes ["load", "store"] e
        rw [if_pos h3] at hlen
        have el : lWord nm ps = 4096 * ((lnames1.idxOf nm : Nat) + 1) + 512 * ps.getD 0 0 + 64 * ps.getD 1 0 + ps.getD 2 0 := by unfold lWord; rw [if_neg hm]; simp only; rw [if_neg h2, if_pos h3]
        rw [el] at q
        refine ⟨_, rfl, _, rfl, p1, _, 0, _, rfl, rfl, hp5, gat 0 0 rfl (by omega), 512, _, rfl, rfl, .inl ⟨by decide, by decide⟩, _, _, rfl, rfl, ?_⟩
        refine ⟨_, rfl, p1, _, 1, _, rfl, rfl, hp5, gat 1 1 rfl (by omega), 64, _, rfl, rfl, .inl ⟨by decide, by decide⟩, _, _, rfl, rfl, ?_⟩
        refine ⟨_, rfl, p1, _, 2, _, rfl, rfl, hp5, gat 2 2 rfl (by omega), _, _, rfl, rfl, ?_⟩
        exact q _ ((((s1.trans s2).trans s3).trans s4).trans s5)
      have h3 := no ["load", "store"] e
      rw [if_neg h3] at hlen
      refine ⟨_, rfl, by show 2 ≤ sizeLine; decide, fun t3 nt3 => ⟨t3, (["less", "same"] : List Str).map V.str, rfl, .inr (SqT.of upd_same), rfl, rfl, _, rfl, ?_⟩⟩
      have s6 := same_upd (o := .tup ((["less", "same"] : List Str).map V.str)) nt3
      have hp6 := Same.seqT s6 hp5
      refine ite2 (fun e => ?_) (fun e => ?_)
      · have h4 := yes ["less", "same"] e
        rw [if_pos h4] at hlen
        have el : lWord nm ps = 4096 * ((lnames1.idxOf nm : Nat) + 1) + 512 * ps.getD 0 0 + 64 * ps.getD 1 0 := by unfold lWord; rw [if_neg hm]; simp only; rw [if_neg h2, if_neg h3, if_pos h4]
        rw [el] at q
        refine ⟨_, rfl, _, rfl, p1, _, 0, _, rfl, rfl, hp6, gat 0 0 rfl (by omega), 512, _, rfl, rfl, .inl ⟨by decide, by decide⟩, _, _, rfl, rfl, ?_⟩
        refine ⟨_, rfl, p1, _, 1, _, rfl, rfl, hp6, gat 1 1 rfl (by omega), 64, _, rfl, rfl, .inl ⟨by decide, by decide⟩, _, _, rfl, rfl, ?_⟩
        exact q _ (((((s1.trans s2).trans s3).trans s4).trans s5).trans s6)
      have h4 := no ["less", "same"] e
      rw [if_neg h4] at hlen
      have el : lWord nm ps = 4096 * ((lnames1.idxOf nm : Nat) + 1) + 512 * ps.getD 0 0 + (if nm = "go" then 0 else ps.getD 1 0) := by unfold lWord; rw [if_neg hm]; simp only; rw [if_neg h2, if_neg h3, if_neg h4]
      rw [el] at q
      have h0 : 0 < ps.length := by split at hlen <;> omega
      refine ⟨_, rfl, _, rfl, p1, _, 0, _, rfl, rfl, hp6, gat 0 0 rfl h0, 512, _, rfl, rfl, .inl ⟨by decide, by decide⟩, _, _, rfl, rfl, ?_⟩
      refine ⟨_, rfl, rfl, _, rfl, ite2 (fun e => ?_) (fun e => ?_)⟩
      · have h5 : nm = "go" := V.str.inj (of_decide_eq_true e)
        rw [if_pos h5] at q
        refine ⟨_, _, rfl, rfl, ?_⟩
        exact q _ (((((s1.trans s2).trans s3).trans s4).trans s5).trans s6)
      · have h5 : ¬ nm = "go" := fun z => e (decide_eq_true (congrArg V.str z))
        rw [if_neg h5] at hlen q
        refine ⟨_, rfl, p1, _, 1, _, rfl, rfl, hp6, gat 1 1 rfl (by omega), _, _, rfl, rfl, ?_⟩
        exact q _ (((((s1.trans s2).trans s3).trans s4).trans s5).trans s6)
end
end K00

set_option maxRecDepth 100000
set_option maxHeartbeats 4000000
/-! k00: the law's own row of a word. -/
namespace K00
open PySem PySem.Spec PyProof.Rows L2
theorem lim_get {nm : Str} (h : nm ∈ (["jump", "call", "trap"] : List Str)) : ∃ m : Int, valV (mergeK [] [(Sum.inr "jump", V.int 256), (Sum.inr "call", V.int 16), (Sum.inr "trap", V.int 256)]) (Sum.inr nm) = some (.int m) ∧ (lims.lookup nm).getD 0 = m := by
  simp only [List.mem_cons, List.not_mem_nil, or_false] at h
  rcases h with rfl | rfl | rfl
  · exact ⟨256, by decide +kernel, rfl⟩
  · exact ⟨16, by decide +kernel, rfl⟩
  · exact ⟨256, by decide +kernel, rfl⟩
theorem dget_of {H : Hp} {a : Addr} {kvs : List (Key × V)} {k : Key} {r : Option V} (h : H a = some (.dK kvs)) (e : valV kvs k = r) : DGet H a (kV k) r := .inl ⟨kvs, k, .inl h, rfl, e.symm⟩
theorem seq_val {te : TE} {g : TG} {rest : TS} {D : Ends} {σ : L2.St} {H : Hp} {PV : V → Hp → Prop} (h : ValH te σ H PV) (q : ∀ v H', PV v H' → g v σ H' (fun σ2 H2 => rest D σ2 H2)) : tSeq (tAsg te g) rest D σ H := h _ fun v H' p => q v H' p
section
variable {P : Program} {w : World} {K : PySem.W.Frag} {mg : Str → Option Value} {base : Heap}
def spCellRow : Sp := fun vs H Q _ => ∃ x : Int, vs = [.int x] ∧ 0 ≤ x ∧ x ≤ 65535 ∧ ∀ H', Same H H' → (lRow x = none → Q .non H') ∧ ∀ nm ps a, lRow x = some (nm, ps) → H' a = some (.tup (.str nm :: ps.map V.int)) → H a = none → Q (.ref a) H'
theorem ok_cellRow {f : Addr} {fd : FuncData} {k : Nat} (F : Fun K "_law_cell_row" "_law_cell_row" sCellRow f fd) : FnOk P w K mg base CX0 (k + 1) f fd ["word"] spCellRow := by
  refine F.ok scCellRow (fun vs H Q E h => ?_) (fun cdv A outer s H vs Q E hr h => ?_)
  · obtain ⟨x, rfl, _⟩ := h
    rfl
  · obtain ⟨x, rfl, h0, h1, q⟩ := h
    refine ⟨_, pss_cons (ps_par3 (i := 1) (j := 2) (l := 3) (by rfl) scCellRow.nd rfl rfl rfl (by decide) (by decide) (by decide) rfl rfl rfl (pa_cons (pe_op op_fdiv (pv 0) pe_int) (pa_cons (pe_op op_mod (pe_op op_fdiv (pv 0) pe_int) pe_int) (pa_cons (pe_op op_mod (pe_op op_fdiv (pv 0) pe_int) pe_int) pa_nil))) (by rfl))
      (pss_cons (ps_set (i := 4) scCellRow.nd rfl (.inl rfl) (pe_op op_mod (pv 0) pe_int))
      (pss_cons (ps_set (i := 5) scCellRow.nd rfl (.inl rfl) (pe_lst (pa_cons pe_str (pa_cons pe_str (pa_cons pe_str (pa_cons pe_str (pa_cons pe_str (pa_cons pe_str (pa_cons pe_str (pa_cons pe_str (pa_cons pe_str (pa_cons pe_str (pa_cons pe_str (pa_cons pe_str (pa_cons pe_str (pa_cons pe_str pa_nil))))))))))))))))
      (pss_cons (ps_set (i := 5) scCellRow.nd rfl (.inl rfl) (pe_op op_cat (pv 5) (pe_lst (pa_cons pe_str (pa_cons pe_str pa_nil)))))
      (pss_cons (ps_set (i := 6) scCellRow.nd rfl (.inl rfl) (pe_lst (pa_cons pe_str (pa_cons pe_str (pa_cons pe_str (pa_cons pe_str (pa_cons pe_str (pa_cons pe_str (pa_cons pe_str (pa_cons pe_str (pa_cons pe_str (pa_cons pe_str (pa_cons pe_str pa_nil)))))))))))))
      (pss_cons (ps_set (i := 7) scCellRow.nd rfl (.inl rfl) (pe_ifExp (PW.pt (pw_and (pt_cmpR op_eq (pv 1) pe_int (nomark _)) (pw_and1 (pt_cmpR op_lt (pv 4) pe_int (nomark _))))) (pe_ix ix_list (pv 6) (pv 4) (fun _ _ => rfl)) (pe_ix ix_list (pv 5) (pv 1) (fun _ _ => rfl))))
      (pss_cons (ps_if (pt_cmpR op_in_seq (pv 7) (pv 6) (by rfl)) (pss_one (ps_ret (pe_tup (pa_cons (pv 7) (pa_cons (pv 2) (pa_cons (pv 3) pa_nil)))))) pss_nil)
      (pss_cons (ps_if (pt_cmpR op_in_seq (pv 7) (pe_tup (pa_cons pe_str (pa_cons pe_str pa_nil))) (by rfl)) (pss_one (ps_ret (pe_tup (pa_cons (pv 7) (pa_cons (pv 2) (pa_cons (pv 3) (pa_cons (pv 4) pa_nil))))))) pss_nil)
      (pss_cons (ps_if (pt_cmpR op_in_seq (pv 7) (pe_tup (pa_cons pe_str (pa_cons pe_str pa_nil))) (by rfl)) (pss_one (ps_ret (pe_ifExp (pt_cmpR op_eq (pv 4) pe_int (nomark _)) (pe_tup (pa_cons (pv 7) (pa_cons (pv 2) (pa_cons (pv 3) pa_nil)))) pe_non))) pss_nil)
      (pss_cons (ps_if (pt_cmpR op_eq (pv 7) pe_str (nomark _)) (pss_one (ps_ret (pe_ifExp (pt_cmpR op_eq (pe_op op_mod (pv 0) pe_int) pe_int (nomark _)) (pe_tup (pa_cons (pv 7) (pa_cons (pv 2) pa_nil))) pe_non))) pss_nil)
      (pss_cons (ps_if (pt_cmpR op_in_seq (pv 7) (pe_tup (pa_cons pe_str (pa_cons pe_str (pa_cons pe_str pa_nil)))) (by rfl)) (pss_one (ps_ret (pe_ifExp (pt_cmpR op_lt (pe_op op_mod (pv 0) pe_int) (pe_dget (hu_of hr) (pe_disp (pps_cons pe_str pe_int (pps_cons pe_str pe_int (pps_cons pe_str pe_int pps_nil))) (by rfl) (by rfl) (fun z => by cases z) (by decide)) (pv 7) (fun _ _ => rfl)) (nomark _)) (pe_tup (pa_cons (pv 7) (pa_cons (pe_op op_mod (pv 0) pe_int) pa_nil))) pe_non))) pss_nil)
      (pss_cons (ps_if (PW.pt (pw_or (pt_cmpR op_eq (pv 7) pe_str (nomark _)) (pw_or1 (PW.pt (pw_and (pt_cmpR op_ne (pv 7) pe_str (nomark _)) (pw_and1 (pt_cmpR op_gt (pe_op op_mod (pv 0) pe_int) pe_int (nomark _)))))))) (pss_one (ps_ret pe_non)) pss_nil)
      (pss_one (ps_ret (pe_tup (pa_cons (pv 7) (pa_cons (pv 2) (pa_cons (pe_op op_mod (pv 0) pe_int) pa_nil))))))))))))))))), ?_⟩
    have p512 : (0 : Int) < 512 := by decide
    refine ⟨_, rfl, x, 4096, rfl, rfl, ⟨by decide, by decide⟩, _, rfl, x, 512, rfl, rfl, ⟨by decide, by decide⟩, _, 8, rfl, rfl, (by show (0 : Int) < 8; decide), _, rfl, x, 64, rfl, rfl, ⟨by decide, by decide⟩, _, 8, rfl, rfl, (by show (0 : Int) < 8; decide), _, _, _, rfl, ?_⟩
    refine ⟨_, rfl, x, 64, rfl, rfl, (by show (0 : Int) < 64; decide), ?_⟩
    refine ⟨by show 14 ≤ sizeLine; decide, fun c1 n1 => ?_⟩
    have s1 := same_upd (o := .lst ((lnames.take 14).map V.str)) n1
    refine ⟨_, rfl, by show 2 ≤ sizeLine; decide, fun c2 n2 => ⟨c1, c2, _, _, rfl, rfl, (by rw [upd_ne (ne_of_none upd_same n2)]; exact upd_same), upd_same, by show 14 + 2 ≤ sizeLine; decide, fun c3 n3 => ?_⟩⟩
    have s2 := same_upd (o := .lst ((lnames.drop 14).map V.str)) n2
    have s3 := same_upd (o := .lst (lnames.map V.str)) n3
    refine ⟨by show 11 ≤ sizeLine; decide, fun c4 n4 => ?_⟩
    have s4 := same_upd (o := .lst (reck.map V.str)) n4
    have sm := ((s1.trans s2).trans s3).trans s4
    have h3 : SqL K (upd (upd (upd (upd H c1 (.lst ((lnames.take 14).map V.str))) c2 (.lst ((lnames.drop 14).map V.str))) c3 (.lst (lnames.map V.str))) c4 (.lst (reck.map V.str))) c3 (lnames.map V.str) := SqL.of (s4 _ _ upd_same)
    have h4 : SqL K (upd (upd (upd (upd H c1 (.lst ((lnames.take 14).map V.str))) c2 (.lst ((lnames.drop 14).map V.str))) c3 (.lst (lnames.map V.str))) c4 (.lst (reck.map V.str))) c4 (reck.map V.str) := SqL.of upd_same
    have q4 := fun H' (s : Same _ H') => q H' (sm.trans s)
    dsimp only [gName]
    refine (seq_val (PV := fun v H' => v = .str (lName x) ∧ Same (upd (upd (upd (upd H c1 (.lst ((lnames.take 14).map V.str))) c2 (.lst ((lnames.drop 14).map V.str))) c3 (.lst (lnames.map V.str))) c4 (.lst (reck.map V.str))) H') (fun Q1 q1 => ?_) ?_)
    · have l16 : (x / 4096).toNat < lnames.length := by show (x / 4096).toNat < 16; omega
      have names_ : tOp (rIxL K) (tVar 5) (tVar 1) [some (.int x), some (.int (x / 4096)), some (.int (x / 512 % 8)), some (.int (x / 64 % 8)), some (.int (x % 64)), some (.ref c3), some (.ref c4), none] _ (fun v H' => v = .str (lnames.getD (x / 4096).toNat "") ∧ Same _ H') := ⟨_, rfl, _, rfl, c3, _, x / 4096, _, rfl, rfl, h3, at_of (show x / 4096 = (((x / 4096).toNat : Nat) : Int) by omega) (by rw [List.getElem?_map, List.getElem?_eq_getElem l16]; rfl), (by rw [List.getD_eq_getElem?_getD, List.getElem?_eq_getElem l16]; rfl), Same.refl _⟩
      refine ⟨_, rfl, rfl, _, rfl, ?_⟩
      by_cases c : x / 4096 = 3
      · rw [decide_eq_true (congrArg V.int c)]
        refine iteT ⟨_, rfl, _, 11, rfl, rfl, _, rfl, ?_⟩
        by_cases c2' : x % 64 < 11
        · rw [decide_eq_true c2']
          have hl : (x % 64).toNat < reck.length := by show (x % 64).toNat < 11; omega
          refine iteT ⟨_, rfl, _, rfl, c4, _, x % 64, _, rfl, rfl, h4, at_of (show x % 64 = (((x % 64).toNat : Nat) : Int) by omega) (by rw [List.getElem?_map, List.getElem?_eq_getElem hl]; rfl), ?_⟩
          refine q1 _ _ ⟨?_, Same.refl _⟩
          unfold lName
          rw [if_pos ⟨c, c2'⟩, List.getD_eq_getElem?_getD, List.getElem?_eq_getElem hl]
          rfl
        · rw [decide_eq_false c2']
          refine iteF ⟨_, rfl, _, rfl, c3, _, x / 4096, _, rfl, rfl, h3, at_of (show x / 4096 = (((x / 4096).toNat : Nat) : Int) by omega) (by rw [List.getElem?_map, List.getElem?_eq_getElem l16]; rfl), ?_⟩
          refine q1 _ _ ⟨?_, Same.refl _⟩
          unfold lName
          rw [if_neg (fun z => c2' z.2), List.getD_eq_getElem?_getD, List.getElem?_eq_getElem l16]
          rfl
      · rw [decide_eq_false (fun z => c (V.int.inj z))]
        refine iteF (iteF ⟨_, rfl, _, rfl, c3, _, x / 4096, _, rfl, rfl, h3, at_of (show x / 4096 = (((x / 4096).toNat : Nat) : Int) by omega) (by rw [List.getElem?_map, List.getElem?_eq_getElem l16]; rfl), ?_⟩)
        refine q1 _ _ ⟨?_, Same.refl _⟩
        unfold lName
        rw [if_neg (fun z => c z.1), List.getD_eq_getElem?_getD, List.getElem?_eq_getElem l16]
        rfl
    rintro v H5 ⟨rfl, s5⟩
    have h6 := s5.seq h4
    have el : lRow x = lRowWith (lName x) x := rfl
    have q5 := fun H' (s : Same H5 H') => q4 H' (s5.trans s)
    rw [el] at q5
    generalize lName x = nm at q5 ⊢
    have fin : ∀ (ps : List Int) (H' : Hp) (p : Addr), lRowWith nm x = some (nm, ps) → Same H5 H' → H' p = none → Q (.ref p) (upd H' p (.tup (.str nm :: ps.map V.int))) := fun ps H' p e s hp =>
      (q5 _ (s.trans (same_upd hp))).2 nm ps p e upd_same ((sm.trans (s5.trans s)).free hp)
    have bad : ∀ H', lRowWith nm x = none → Same H5 H' → Q .non H' := fun H' e s => (q5 H' s).1 e
    have yes : ∀ l : List Str, inV (.str nm) (l.map V.str) = true → nm ∈ l := fun l e => by
      rw [inV_strs] at e
      exact of_decide_eq_true e
    have no : ∀ l : List Str, ¬ inV (.str nm) (l.map V.str) = true → nm ∉ l := fun l e z => e (by rw [inV_strs]; exact decide_eq_true z)
    unfold lRowWith at fin bad
    refine ⟨_, rfl, _, rfl, c4, _, rfl, .inl h6, rfl, flat_strs reck, _, rfl, ite2 (fun e => ?_) (fun e => ?_)⟩
    · have hm := yes reck e
      refine ⟨_, rfl, _, rfl, _, rfl, by show 3 ≤ sizeLine; decide, fun p hp => ?_⟩
      exact fin [x / 512 % 8, x / 64 % 8] _ p (by rw [if_pos hm]) (Same.refl _) hp
    have k1 := no reck e
    refine ⟨_, rfl, by show 2 ≤ sizeLine; decide, fun t1 nt1 => ⟨t1, (["load", "store"] : List Str).map V.str, rfl, .inr (SqT.of upd_same), rfl, rfl, _, rfl, ?_⟩⟩
    have st1 := same_upd (o := .tup ((["load", "store"] : List Str).map V.str)) nt1
    refine ite2 (fun e => ?_) (fun e => ?_)
    · have hm := yes ["load", "store"] e
      refine ⟨_, rfl, _, rfl, _, rfl, _, rfl, by show 4 ≤ sizeLine; decide, fun p hp => ?_⟩
      exact fin [x / 512 % 8, x / 64 % 8, x % 64] _ p (by rw [if_neg k1, if_pos hm]) st1 hp
    have k2 := no ["load", "store"] e
    refine ⟨_, rfl, by show 2 ≤ sizeLine; decide, fun t2 nt2 => ⟨t2, (["less", "same"] : List Str).map V.str, rfl, .inr (SqT.of upd_same), rfl, rfl, _, rfl, ?_⟩⟩
    have st2 := st1.trans (same_upd (o := .tup ((["less", "same"] : List Str).map V.str)) nt2)
    refine ite2 (fun e => ?_) (fun e => ?_)
    · have hm := yes ["less", "same"] e
      refine ⟨_, rfl, rfl, _, rfl, ite2 (fun e2 => ?_) (fun e2 => ?_)⟩
      · have z0 : x % 64 = 0 := V.int.inj (of_decide_eq_true e2)
        refine ⟨_, rfl, _, rfl, _, rfl, by show 3 ≤ sizeLine; decide, fun p hp => ?_⟩
        exact fin [x / 512 % 8, x / 64 % 8] _ p (by rw [if_neg k1, if_neg k2, if_pos hm, if_pos z0]) st2 hp
      · have z0 : ¬ x % 64 = 0 := fun z => e2 (decide_eq_true (congrArg V.int z))
        exact bad _ (by rw [if_neg k1, if_neg k2, if_pos hm, if_neg z0]) st2
    have k3 := no ["less", "same"] e
    refine ⟨_, rfl, rfl, _, rfl, ite2 (fun e => ?_) (fun e => ?_)⟩
    · have hm : nm = "go" := V.str.inj (of_decide_eq_true e)
      refine ⟨_, rfl, x, 512, rfl, rfl, (by show (0 : Int) < 512; decide), rfl, _, rfl, ite2 (fun e2 => ?_) (fun e2 => ?_)⟩
      · have z0 : x % 512 = 0 := V.int.inj (of_decide_eq_true e2)
        refine ⟨_, rfl, _, rfl, by show 2 ≤ sizeLine; decide, fun p hp => ?_⟩
        exact fin [x / 512 % 8] _ p (by rw [if_neg k1, if_neg k2, if_neg k3, if_pos hm, if_pos z0]) st2 hp
      · have z0 : ¬ x % 512 = 0 := fun z => e2 (decide_eq_true (congrArg V.int z))
        exact bad _ (by rw [if_neg k1, if_neg k2, if_neg k3, if_pos hm, if_neg z0]) st2
    have k4 : ¬ nm = "go" := fun z => e (decide_eq_true (congrArg V.str z))
    refine ⟨_, rfl, by show 3 ≤ sizeLine; decide, fun t3 nt3 => ⟨t3, (["jump", "call", "trap"] : List Str).map V.str, rfl, .inr (SqT.of upd_same), rfl, rfl, _, rfl, ?_⟩⟩
    have st3 := st2.trans (same_upd (o := .tup ((["jump", "call", "trap"] : List Str).map V.str)) nt3)
    refine ite2 (fun e => ?_) (fun e => ?_)
    · have hm := yes ["jump", "call", "trap"] e
      obtain ⟨m, gm, em⟩ := lim_get hm
      refine ⟨_, rfl, x, 4096, rfl, rfl, (by show (0 : Int) < 4096; decide), fun d nd => ⟨upd_same, [(Sum.inr "jump", V.int 256), (Sum.inr "call", V.int 16), (Sum.inr "trap", V.int 256)], rfl, by decide, _, rfl, d, .int m, rfl, ?_, _, m, rfl, rfl, _, rfl, ?_⟩⟩
      · exact dget_of (k := Sum.inr nm) upd_same gm
      have st4 := Same.updNew (o := .dK (mergeK [] [(Sum.inr "jump", V.int 256), (Sum.inr "call", V.int 16), (Sum.inr "trap", V.int 256)])) (st3.trans (same_upd (o := .dK []) nd)) (st3.free nd)
      refine ite2 (fun e2 => ?_) (fun e2 => ?_)
      · have z0 : x % 4096 < m := of_decide_eq_true e2
        refine ⟨_, rfl, _, rfl, x, 4096, rfl, rfl, (by show (0 : Int) < 4096; decide), by show 2 ≤ sizeLine; decide, fun p hp => ?_⟩
        exact fin [x % 4096] _ p (by rw [if_neg k1, if_neg k2, if_neg k3, if_neg k4, if_pos hm, em, if_pos z0]) st4 hp
      · have z0 : ¬ x % 4096 < m := fun z => e2 (decide_eq_true z)
        exact bad _ (by rw [if_neg k1, if_neg k2, if_neg k3, if_neg k4, if_pos hm, em, if_neg z0]) st4
    have k5 := no ["jump", "call", "trap"] e
    have last : ¬ (nm = "" ∨ (nm ≠ "set" ∧ 255 < x % 512)) → ∀ H' p, Same H5 H' → H' p = none → Q (.ref p) (upd H' p (.tup [.str nm, .int (x / 512 % 8), .int (x % 512)])) := fun z H' p s hp =>
      fin [x / 512 % 8, x % 512] H' p (by rw [if_neg k1, if_neg k2, if_neg k3, if_neg k4, if_neg k5, if_neg z]) s hp
    have none_ : (nm = "" ∨ (nm ≠ "set" ∧ 255 < x % 512)) → ∀ H', Same H5 H' → Q .non H' := fun z H' s => bad H' (by rw [if_neg k1, if_neg k2, if_neg k3, if_neg k4, if_neg k5, if_pos z]) s
    refine ⟨_, rfl, rfl, _, rfl, ite2 (fun e => ?_) (fun e => ?_)⟩
    · exact iteT (none_ (.inl (V.str.inj (of_decide_eq_true e))) _ st3)
    have n0 : ¬ nm = "" := fun z => e (decide_eq_true (congrArg V.str z))
    have end_ : ¬ (nm ≠ "set" ∧ 255 < x % 512) → tTup (tCons (tVar 7) (tCons (tVar 2) (tCons (tOp (rI (fun _ j => 0 < j) fun i j => .int (i % j)) (tVar 0) (tC (.int 512))) tNil))) [some (.int x), some (.int (x / 4096)), some (.int (x / 512 % 8)), some (.int (x / 64 % 8)), some (.int (x % 64)), some (.ref c3), some (.ref c4), some (.str nm)] _ Q := fun z =>
      ⟨_, rfl, _, rfl, _, rfl, x, 512, rfl, rfl, (by show (0 : Int) < 512; decide), by show 3 ≤ sizeLine; decide, fun p hp => last (fun y => y.elim n0 z) _ p st3 hp⟩
    refine ⟨_, rfl, rfl, _, rfl, ?_⟩
    by_cases c : nm = "set"
    · rw [decide_eq_true (congrArg V.str c)]
      exact iteF (iteF (end_ (fun z => z.1 c)))
    · rw [decide_eq_false (fun z => c (V.str.inj z))]
      refine iteT ⟨_, rfl, x, 512, rfl, rfl, (by show (0 : Int) < 512; decide), _, 255, rfl, rfl, _, rfl, ?_⟩
      by_cases c2 : 255 < x % 512
      · rw [decide_eq_true c2]
        exact iteT (none_ (.inr ⟨c, c2⟩) _ st3)
      · rw [decide_eq_false c2]
        exact iteF (end_ (fun z => c2 z.2))
end
end K00

set_option maxRecDepth 100000
set_option maxHeartbeats 4000000
/-! k00: d.update(e); the sizes of rows. -/
namespace K00
open PySem PySem.Spec PyProof.Rows L2
section
variable {X : Cx}
def rUpdate : V → List V → Hp → VK → Prop := fun x vs H Q => ∃ (a b : Addr) (kvs more : List (Key × V)), x = .ref a ∧ vs = [.ref b] ∧ a ≠ b ∧ H a = some (.dK kvs) ∧ H b = some (.dK more) ∧ kvs.length + more.length ≤ sizeLine ∧ Q .non (upd H a (.dK (mergeK kvs more)))
theorem mt_update : MtM X "dict.update" rUpdate := by
  intro pins s σ H x vs v us Q I rx rv h
  obtain ⟨a, b, kvs, more, rfl, rfl, hne, ha, hb, hz, q⟩ := h
  cases rx
  cases rv with
  | cons r1 r2 =>
    cases r2
    cases r1
    obtain ⟨z, hd, ws, rel, dd⟩ := dk_of I.hok ha
    obtain ⟨z2, hd2, ws2, rel2, dd2⟩ := dk_of I.hok hb
    have hz' : ws.length + ws2.length ≤ sizeLine := by rw [← rel.length, ← rel2.length]; exact hz
    refine call_meetsIn PySem.F.slot_dict_update dd.typeIs PySem.F.entry_dict_update (PySem.F.args_dict_update_2 _ _) (meets_dict_update (mixKind X.prog X.w) a b hne hd2) ⟨ws, ws2, dd, dd2, hz', fun h' dd' _ sb => ?_⟩
    have he : ∃ q, h'.get? a = some q := let ⟨q, _, _, hq, _⟩ := dd'; ⟨q, hq⟩
    refine ⟨.non, _, d_write (t' := s.toks) I (by rw [ha]; exact True.intro) sb he (dk_new ?_ hd (KV.merge rel2 rel) dd'), rfl, q⟩
    exact Nat.le_trans (length_mergeK more kvs) hz
end
theorem scSizes : FnScope ["found", "name"] [] (defScope sSizes) := ⟨rfl, rfl, rfl, by decide +kernel, rfl, by decide +kernel, by decide +kernel⟩
section
variable {P : Program} {w : World} {K : PySem.W.Frag} {mg : Str → Option Value} {base : Heap}
/-- what the sizes of rows are -/
def SizesAt (H : Hp) (q : Addr) : Prop := ∃ kvs : List (Key × V), H q = some (.dK kvs) ∧ kvs.map (·.1) = sizes.map (fun p => Sum.inr p.1) ∧
  ∀ z, (sizes.lookup z = none → valV kvs (.inr z) = none) ∧ ∀ l, sizes.lookup z = some l → ∃ t, valV kvs (.inr z) = some (.ref t) ∧ H t = some (.tup (l.map V.int))
/-- a dict's entries, one by one -/
def Good (H : Hp) : List (Key × V) → List (Str × List Int) → Prop
  | [], [] => True
  | e :: r, s :: ss => e.1 = .inr s.1 ∧ (∃ t, e.2 = .ref t ∧ H t = some (.tup (s.2.map V.int))) ∧ Good H r ss
  | _, _ => False
theorem Good.mono {H H' : Hp} (f : ∀ t xs, H t = some (.tup xs) → H' t = some (.tup xs)) : ∀ {r : List (Key × V)} {s : List (Str × List Int)}, Good H r s → Good H' r s
  | [], [], _ => trivial
  | _ :: _, _ :: _, ⟨h1, ⟨t, h2, h3⟩, h4⟩ => ⟨h1, ⟨t, h2, f t _ h3⟩, Good.mono f h4⟩
  | [], _ :: _, h => h.elim
  | _ :: _, [], h => h.elim
theorem Good.snoc {H : Hp} {z : Str} {l : List Int} {t : Addr} (ht : H t = some (.tup (l.map V.int))) : ∀ {r : List (Key × V)} {s : List (Str × List Int)}, Good H r s → Good H (r ++ [(.inr z, .ref t)]) (s ++ [(z, l)])
  | [], [], _ => ⟨rfl, ⟨t, rfl, ht⟩, trivial⟩
  | _ :: _, _ :: _, ⟨h1, h2, h4⟩ => ⟨h1, h2, Good.snoc ht h4⟩
  | [], _ :: _, h => h.elim
  | _ :: _, [], h => h.elim
theorem Good.keys {H : Hp} : ∀ {r : List (Key × V)} {s : List (Str × List Int)}, Good H r s → r.map (·.1) = s.map fun p => Sum.inr p.1
  | [], [], _ => rfl
  | _ :: _, _ :: _, ⟨h1, _, h4⟩ => by
    rw [List.map_cons, List.map_cons, h1, Good.keys h4]
  | [], _ :: _, h => h.elim
  | _ :: _, [], h => h.elim
theorem Good.any {H : Hp} {z : Str} : ∀ {r : List (Key × V)} {s : List (Str × List Int)}, Good H r s → (r.any fun kv => decide (kv.1 = Sum.inr z)) = decide (z ∈ s.map (·.1))
  | [], [], _ => rfl
  | e :: _, p :: _, ⟨h1, _, h4⟩ => by
    rw [List.any_cons, Good.any h4, h1, key_rr, List.map_cons]
    by_cases h : p.1 = z
    · simp [h]
    · have h' : ¬ z = p.1 := fun y => h y.symm
      simp [h, h']
  | [], _ :: _, h => h.elim
  | _ :: _, [], h => h.elim
theorem Good.put {H : Hp} {z : Str} {l : List Int} {t : Addr} {r : List (Key × V)} {s : List (Str × List Int)} (g : Good H r s) (hz : z ∉ s.map (·.1)) (ht : H t = some (.tup (l.map V.int))) : Good H (putK r (.inr z) (.ref t)) (s ++ [(z, l)]) := by
  unfold putK
  rw [g.any, if_neg (by rw [decide_eq_false hz]; exact Bool.false_ne_true)]
  exact g.snoc ht
theorem Good.merge {H : Hp} : ∀ {more : List (Key × V)} {ms : List (Str × List Int)} {r : List (Key × V)} {s : List (Str × List Int)}, Good H r s → Good H more ms → ((s ++ ms).map (·.1)).Nodup → Good H (mergeK r more) (s ++ ms)
  | [], [], r, s, g, _, _ => by rw [List.append_nil]; exact g
  | e :: more, p :: ms, r, s, g, ⟨h1, ⟨t, h2, h3⟩, h4⟩, nd => by
    have hz : p.1 ∉ s.map (·.1) := fun hm => by
      rw [List.map_append, List.map_cons] at nd
      exact (List.nodup_append.mp nd).2.2 p.1 hm p.1 List.mem_cons_self rfl
    have g2 := g.put (l := p.2) hz h3
    have e1 : mergeK r (e :: more) = mergeK (putK r (.inr p.1) (.ref t)) more := by
      show mergeK (putK r e.1 e.2) more = _
      rw [h1, h2]
    rw [e1]
    have e2 : s ++ p :: ms = (s ++ [(p.1, p.2)]) ++ ms := by simp
    rw [e2] at nd ⊢
    exact Good.merge g2 h4 nd
  | [], _ :: _, _, _, _, h, _ => h.elim
  | _ :: _, [], _, _, _, h, _ => h.elim
theorem Good.get {H : Hp} {z : Str} : ∀ {r : List (Key × V)} {s : List (Str × List Int)}, Good H r s → (s.lookup z = none → valV r (.inr z) = none) ∧ ∀ l, s.lookup z = some l → ∃ t, valV r (.inr z) = some (.ref t) ∧ H t = some (.tup (l.map V.int))
  | [], [], _ => ⟨fun _ => rfl, fun l h => by cases h⟩
  | e :: r, p :: s, ⟨h1, ⟨t, h2, h3⟩, h4⟩ => by
    have ih := Good.get (z := z) h4
    unfold valV at ih ⊢
    rw [List.find?_cons]
    by_cases h : p.1 = z
    · have e1 : decide (e.1 = Sum.inr z) = true := by rw [h1, key_rr]; exact decide_eq_true h
      have e2 : (z == p.1) = true := by rw [h]; exact beq_self_eq_true z
      rw [e1]
      unfold List.lookup
      rw [e2]
      exact ⟨fun y => (by cases y), fun l y => by cases y; exact ⟨t, by rw [← h2]; rfl, h3⟩⟩
    · have e1 : decide (e.1 = Sum.inr z) = false := by rw [h1, key_rr]; exact decide_eq_false h
      have e2 : (z == p.1) = false := beq_eq_false_iff_ne.mpr fun y => h y.symm
      rw [e1]
      unfold List.lookup
      rw [e2]
      exact ih
  | [], _ :: _, h => h.elim
  | _ :: _, [], h => h.elim
theorem Good.len {H : Hp} {r : List (Key × V)} {s : List (Str × List Int)} (g : Good H r s) : r.length = s.length := by
  have z := congrArg List.length g.keys
  rw [List.length_map, List.length_map] at z
  exact z
theorem sizes_step {i : Nat} {x : V} (h : (List.map (fun p : Str × List Int => V.str p.1) (sizes.drop 13))[i]? = some x) : ∃ nm, x = .str nm ∧ sizes.take (13 + (i + 1)) = sizes.take (13 + i) ++ [(nm, [8, 8])] ∧ nm ∉ (sizes.take (13 + i)).map (·.1) ∧ i < 11 := by
  have hi : i < 11 := (List.getElem?_eq_some_iff.mp h).1
  match i, hi with
  | 0, _ => cases h; exact ⟨_, rfl, rfl, by decide, by decide⟩
  | 1, _ => cases h; exact ⟨_, rfl, rfl, by decide, by decide⟩
  | 2, _ => cases h; exact ⟨_, rfl, rfl, by decide, by decide⟩
  | 3, _ => cases h; exact ⟨_, rfl, rfl, by decide, by decide⟩
  | 4, _ => cases h; exact ⟨_, rfl, rfl, by decide, by decide⟩
  | 5, _ => cases h; exact ⟨_, rfl, rfl, by decide, by decide⟩
  | 6, _ => cases h; exact ⟨_, rfl, rfl, by decide, by decide⟩
  | 7, _ => cases h; exact ⟨_, rfl, rfl, by decide, by decide⟩
  | 8, _ => cases h; exact ⟨_, rfl, rfl, by decide, by decide⟩
  | 9, _ => cases h; exact ⟨_, rfl, rfl, by decide, by decide⟩
  | 10, _ => cases h; exact ⟨_, rfl, rfl, by decide, by decide⟩
theorem tup_upd {H : Hp} {d : Addr} {kvs : List (Key × V)} {o : HO} (h : H d = some (.dK kvs)) : ∀ t xs, H t = some (.tup xs) → upd H d o t = some (.tup xs) := fun t xs e => by
  rw [upd_ne (ne_of e h (by intro z; cases z))]
  exact e
theorem tup_same {H H' : Hp} (s : Same H H') : ∀ t xs, H t = some (.tup xs) → H' t = some (.tup xs) := fun t xs e => s _ _ e
theorem sizes_nd : (sizes.map (·.1)).Nodup := by decide
def spSizes : Sp := fun vs H Q _ => vs = [] ∧ ∀ q H', Same H H' → H q = none → SizesAt H' q → Q (.ref q) H'
theorem ok_sizes {f : Addr} {fd : FuncData} {k : Nat} (F : Fun K "_law_row_sizes" "_law_row_sizes" sSizes f fd) : FnOk P w K mg base CX0 (k + 1) f fd [] spSizes := by
  refine F.ok scSizes (fun vs H Q E h => ?_) (fun cdv A outer s H vs Q E hr h => ?_)
  · obtain ⟨rfl, _⟩ := h
    rfl
  · obtain ⟨rfl, q⟩ := h
    refine ⟨_, pss_cons (ps_set (i := 0) scSizes.nd rfl (.inl rfl) (pe_disp (pps_cons pe_str (pe_tup (pa_cons pe_int (pa_cons pe_int pa_nil))) (pps_cons pe_str (pe_tup (pa_cons pe_int (pa_cons pe_int pa_nil))) (pps_cons pe_str (pe_tup (pa_cons pe_int (pa_cons pe_int (pa_cons pe_int pa_nil)))) (pps_cons pe_str (pe_tup (pa_cons pe_int (pa_cons pe_int (pa_cons pe_int pa_nil)))) (pps_cons pe_str (pe_tup (pa_cons pe_int pa_nil)) pps_nil))))) (by rfl) (by rfl) (fun z => by cases z) (by decide)))
      (pss_cons (ps_expr (pe_bm PySem.F.plainAttrs_dict PySem.F.slot_dict_update PySem.F.type_dict_update mt_update (pv 0) (pa_cons (pe_disp (pps_cons pe_str (pe_tup (pa_cons pe_int (pa_cons pe_int pa_nil))) (pps_cons pe_str (pe_tup (pa_cons pe_int (pa_cons pe_int pa_nil))) (pps_cons pe_str (pe_tup (pa_cons pe_int (pa_cons pe_int pa_nil))) (pps_cons pe_str (pe_tup (pa_cons pe_int (pa_cons pe_int pa_nil))) (pps_cons pe_str (pe_tup (pa_cons pe_int (pa_cons pe_int pa_nil))) pps_nil))))) (by rfl) (by rfl) (fun z => by cases z) (by decide)) pa_nil)))
      (pss_cons (ps_expr (pe_bm PySem.F.plainAttrs_dict PySem.F.slot_dict_update PySem.F.type_dict_update mt_update (pv 0) (pa_cons (pe_disp (pps_cons pe_str (pe_tup (pa_cons pe_int pa_nil)) (pps_cons pe_str (pe_tup (pa_cons pe_int pa_nil)) pps_nil)) (by rfl) (by rfl) (fun z => by cases z) (by decide)) pa_nil)))
      (pss_cons (ps_dput (hu_of hr) (pv 0) pe_str (pe_tup (pa_cons pe_int pa_nil)) rfl)
      (pss_cons (ps_for PassesOwn.never rfl (pi_tup (pe_tup (pa_cons pe_str (pa_cons pe_str (pa_cons pe_str (pa_cons pe_str (pa_cons pe_str (pa_cons pe_str (pa_cons pe_str (pa_cons pe_str (pa_cons pe_str (pa_cons pe_str (pa_cons pe_str pa_nil))))))))))))) (pg_name (i := 1) scSizes.nd rfl (.inl rfl))
        (pss_one (ps_dput (hu_of hr) (pv 0) (pv 1) (pe_tup (pa_cons pe_int (pa_cons pe_int pa_nil))) rfl)))
      (pss_one (ps_ret (pv 0))))))), ?_⟩
    refine fun d nd => ⟨by show 2 ≤ sizeLine; decide, fun t1 n1 => ⟨by show 2 ≤ sizeLine; decide, fun t2 n2 => ⟨by show 3 ≤ sizeLine; decide, fun t3 n3 => ⟨by show 3 ≤ sizeLine; decide, fun t4 n4 => ⟨by show 1 ≤ sizeLine; decide, fun t5 n5 => ?_⟩⟩⟩⟩⟩
    have a1 := same_upd (o := .tup [V.int 8, .int 512]) n1
    have a2 := same_upd (o := .tup [V.int 8, .int 256]) n2
    have a3 := same_upd (o := .tup [V.int 8, .int 8, .int 64]) n3
    have a4 := same_upd (o := .tup [V.int 8, .int 8, .int 64]) n4
    have a5 := same_upd (o := .tup [V.int 256]) n5
    have sA := ((((same_upd (o := .dK []) nd).trans a1).trans a2).trans a3).trans (a4.trans a5)
    have hd5 := ((((a1.trans a2).trans a3).trans (a4.trans a5))) _ _ (upd_same (H := H) (a := d) (o := .dK []))
    refine ⟨hd5, [(.inr "set", .ref t1), (.inr "high", .ref t2), (.inr "load", .ref t3), (.inr "store", .ref t4), (.inr "jump", .ref t5)], rfl, by show 5 ≤ 15; decide, ?_⟩
    have g1 : Good _ [(.inr "set", .ref t1), (.inr "high", .ref t2), (.inr "load", .ref t3), (.inr "store", .ref t4), (.inr "jump", .ref t5)] (sizes.take 5) := ⟨rfl, ⟨t1, rfl, (a2.trans (a3.trans (a4.trans a5))) _ _ upd_same⟩, rfl, ⟨t2, rfl, (a3.trans (a4.trans a5)) _ _ upd_same⟩, rfl, ⟨t3, rfl, (a4.trans a5) _ _ upd_same⟩, rfl, ⟨t4, rfl, a5 _ _ upd_same⟩, rfl, ⟨t5, rfl, upd_same⟩, trivial⟩
    have G1 := (Good.merge (r := []) (s := []) trivial g1 (by decide)).mono (tup_upd (o := .dK (mergeK [] [(.inr "set", .ref t1), (.inr "high", .ref t2), (.inr "load", .ref t3), (.inr "store", .ref t4), (.inr "jump", .ref t5)])) hd5)
    have S1 := Same.updNew (o := .dK (mergeK [] [(.inr "set", .ref t1), (.inr "high", .ref t2), (.inr "load", .ref t3), (.inr "store", .ref t4), (.inr "jump", .ref t5)])) sA nd
    generalize hK1 : mergeK [] [(Sum.inr "set", V.ref t1), (.inr "high", .ref t2), (.inr "load", .ref t3), (.inr "store", .ref t4), (.inr "jump", .ref t5)] = K1 at G1 S1 ⊢
    have hd6 : upd (upd (upd (upd (upd (upd (upd H d (HO.dK [])) t1 (HO.tup [V.int 8, V.int 512])) t2 (HO.tup [V.int 8, V.int 256])) t3 (HO.tup [V.int 8, V.int 8, V.int 64])) t4 (HO.tup [V.int 8, V.int 8, V.int 64])) t5 (HO.tup [V.int 256])) d (HO.dK K1) d = some (.dK K1) := upd_same
    clear hK1 g1 hd5 sA a1 a2 a3 a4 a5
    generalize upd (upd (upd (upd (upd (upd (upd H d (HO.dK [])) t1 (HO.tup [V.int 8, V.int 512])) t2 (HO.tup [V.int 8, V.int 256])) t3 (HO.tup [V.int 8, V.int 8, V.int 64])) t4 (HO.tup [V.int 8, V.int 8, V.int 64])) t5 (HO.tup [V.int 256])) d (HO.dK K1) = H1 at G1 S1 hd6 ⊢
    clear n1 n2 n3 n4 n5 
    clear t1 t2 t3 t4 t5
    refine ⟨.ref d, rfl, .inr (.inr (.inl ⟨rfl, .inl ⟨_, hd6⟩⟩)), ?_⟩
    refine fun e ne => ⟨by show 2 ≤ sizeLine; decide, fun t1 n1 => ⟨by show 2 ≤ sizeLine; decide, fun t2 n2 => ⟨by show 2 ≤ sizeLine; decide, fun t3 n3 => ⟨by show 2 ≤ sizeLine; decide, fun t4 n4 => ⟨by show 2 ≤ sizeLine; decide, fun t5 n5 => ?_⟩⟩⟩⟩⟩
    have a1 := same_upd (o := .tup [V.int 8, .int 256]) n1
    have a2 := same_upd (o := .tup [V.int 8, .int 256]) n2
    have a3 := same_upd (o := .tup [V.int 8, .int 8]) n3
    have a4 := same_upd (o := .tup [V.int 8, .int 8]) n4
    have a5 := same_upd (o := .tup [V.int 8, .int 256]) n5
    have sA := (((a1.trans a2).trans a3).trans (a4.trans a5))
    have he5 := sA _ _ (upd_same (H := H1) (a := e) (o := .dK []))
    have hde : d ≠ e := fun z => by rw [z, ne] at hd6; cases hd6
    refine ⟨he5, [((.inr "zero" : Key), V.ref t1), (.inr "some", .ref t2), (.inr "less", .ref t3), (.inr "same", .ref t4), (.inr "link", .ref t5)], rfl, by show 5 ≤ 15; decide, ?_⟩
    have g1 : Good _ [((.inr "zero" : Key), V.ref t1), (.inr "some", .ref t2), (.inr "less", .ref t3), (.inr "same", .ref t4), (.inr "link", .ref t5)] ((sizes.drop 5).take 5) := ⟨rfl, ⟨t1, rfl, (a2.trans (a3.trans (a4.trans a5))) _ _ upd_same⟩, rfl, ⟨t2, rfl, (a3.trans (a4.trans a5)) _ _ upd_same⟩, rfl, ⟨t3, rfl, (a4.trans a5) _ _ upd_same⟩, rfl, ⟨t4, rfl, a5 _ _ upd_same⟩, rfl, ⟨t5, rfl, upd_same⟩, trivial⟩
    have g1' := (Good.merge (r := []) (s := []) trivial g1 (by decide)).mono (tup_upd (o := .dK (mergeK [] [((.inr "zero" : Key), V.ref t1), (.inr "some", .ref t2), (.inr "less", .ref t3), (.inr "same", .ref t4), (.inr "link", .ref t5)])) he5)
    have S0 := (same_upd (o := .dK []) ne).trans sA
    have S2 := Same.updNew (o := .dK (mergeK [] [((.inr "zero" : Key), V.ref t1), (.inr "some", .ref t2), (.inr "less", .ref t3), (.inr "same", .ref t4), (.inr "link", .ref t5)])) S0 ne
    generalize hK2 : mergeK [] [((.inr "zero" : Key), V.ref t1), (.inr "some", .ref t2), (.inr "less", .ref t3), (.inr "same", .ref t4), (.inr "link", .ref t5)] = K2 at g1' S2 ⊢
    have he6 : upd (upd (upd (upd (upd (upd (upd H1 e (HO.dK [])) t1 (HO.tup [V.int 8, V.int 256])) t2 (HO.tup [V.int 8, V.int 256])) t3 (HO.tup [V.int 8, V.int 8])) t4 (HO.tup [V.int 8, V.int 8])) t5 (HO.tup [V.int 8, V.int 256])) e (HO.dK K2) e = some (.dK K2) := upd_same
    generalize upd (upd (upd (upd (upd (upd (upd H1 e (HO.dK [])) t1 (HO.tup [V.int 8, V.int 256])) t2 (HO.tup [V.int 8, V.int 256])) t3 (HO.tup [V.int 8, V.int 8])) t4 (HO.tup [V.int 8, V.int 8])) t5 (HO.tup [V.int 8, V.int 256])) e (HO.dK K2) = H2 at g1' S2 he6 ⊢
    clear hK2 g1 he5 sA a1 a2 a3 a4 a5 S0
    clear n1 n2 n3 n4 n5
    clear t1 t2 t3 t4 t5
    have hd7 := S2 _ _ hd6
    have l1 : K1.length = 5 := by
      have z := congrArg List.length G1.keys
      rw [List.length_map, List.length_map] at z
      exact z
    have l2 : K2.length = 5 := by
      have z := congrArg List.length g1'.keys
      rw [List.length_map, List.length_map] at z
      exact z
    refine ⟨d, e, K1, K2, rfl, rfl, hde, hd7, he6, by rw [l1, l2]; show 10 ≤ sizeLine; decide, ?_⟩
    have G2 := ((G1.mono (tup_same S2)).merge g1' (by decide)).mono (tup_upd (o := .dK (mergeK K1 K2)) hd7)
    have S3 := Same.updNew (o := .dK (mergeK K1 K2)) (S1.trans S2) nd
    have l3 : (mergeK K1 K2).length = 10 := by
      have z := congrArg List.length G2.keys
      rw [List.length_map, List.length_map] at z
      exact z
    have hd8 : upd H2 d (HO.dK (mergeK K1 K2)) d = some (.dK (mergeK K1 K2)) := upd_same
    generalize upd H2 d (HO.dK (mergeK K1 K2)) = H4 at G2 S3 hd8 ⊢
    generalize mergeK K1 K2 = K3 at G2 S3 hd8 l3 ⊢
    clear g1' G1 S1 S2 hd6 he6 hd7 ne hde l1 l2
    clear e H1 H2 K1 K2
    refine ⟨.ref d, rfl, .inr (.inr (.inl ⟨rfl, .inl ⟨_, hd8⟩⟩)), ?_⟩
    refine fun e2 ne => ⟨by show 1 ≤ sizeLine; decide, fun t1 n1 => ⟨by show 1 ≤ sizeLine; decide, fun t2 n2 => ?_⟩⟩
    have a1 := same_upd (o := .tup [V.int 8]) n1
    have a2 := same_upd (o := .tup [V.int 16]) n2
    have sA := a1.trans a2
    have he5 := sA _ _ (upd_same (H := H4) (a := e2) (o := .dK []))
    have hde : d ≠ e2 := fun z => by rw [z, ne] at hd8; cases hd8
    refine ⟨he5, [((.inr "go" : Key), V.ref t1), (.inr "call", .ref t2)], rfl, by show 2 ≤ 15; decide, ?_⟩
    have g1 : Good _ [((.inr "go" : Key), V.ref t1), (.inr "call", .ref t2)] ((sizes.drop 10).take 2) := ⟨rfl, ⟨t1, rfl, a2 _ _ upd_same⟩, rfl, ⟨t2, rfl, upd_same⟩, trivial⟩
    have g1' := (Good.merge (r := []) (s := []) trivial g1 (by decide)).mono (tup_upd (o := .dK (mergeK [] [((.inr "go" : Key), V.ref t1), (.inr "call", .ref t2)])) he5)
    have S0 := (same_upd (o := .dK []) ne).trans sA
    have S2 := Same.updNew (o := .dK (mergeK [] [((.inr "go" : Key), V.ref t1), (.inr "call", .ref t2)])) S0 ne
    generalize hK2 : mergeK [] [((.inr "go" : Key), V.ref t1), (.inr "call", .ref t2)] = K2 at g1' S2 ⊢
    have he6 : upd (upd (upd (upd H4 e2 (HO.dK [])) t1 (HO.tup [V.int 8])) t2 (HO.tup [V.int 16])) e2 (HO.dK K2) e2 = some (.dK K2) := upd_same
    generalize upd (upd (upd (upd H4 e2 (HO.dK [])) t1 (HO.tup [V.int 8])) t2 (HO.tup [V.int 16])) e2 (HO.dK K2) = H5 at g1' S2 he6 ⊢
    clear hK2 g1 he5 sA a1 a2 S0
    clear n1 n2
    clear t1 t2
    have hd9 := S2 _ _ hd8
    have l2 : K2.length = 2 := by
      have z := congrArg List.length g1'.keys
      rw [List.length_map, List.length_map] at z
      exact z
    refine ⟨d, e2, K3, K2, rfl, rfl, hde, hd9, he6, by rw [l3, l2]; show 12 ≤ sizeLine; decide, ?_⟩
    have G3 := ((G2.mono (tup_same S2)).merge g1' (by decide)).mono (tup_upd (o := .dK (mergeK K3 K2)) hd9)
    have S4 := Same.updNew (o := .dK (mergeK K3 K2)) (S3.trans S2) nd
    have l4 : (mergeK K3 K2).length = 12 := by
      have z := congrArg List.length G3.keys
      rw [List.length_map, List.length_map] at z
      exact z
    have hd10 : upd H5 d (HO.dK (mergeK K3 K2)) d = some (.dK (mergeK K3 K2)) := upd_same
    generalize upd H5 d (HO.dK (mergeK K3 K2)) = H6 at G3 S4 hd10 ⊢
    generalize mergeK K3 K2 = K4 at G3 S4 hd10 l4 ⊢
    clear g1' G2 S3 S2 he6 hd8 hd9 ne hde l2 l3
    clear e2 H4 H5 K2 K3
    refine ⟨by show 1 ≤ sizeLine; decide, fun t1 n1 => ?_⟩
    have a1 := same_upd (o := .tup [V.int 256]) n1
    have hd11 := a1 _ _ hd10
    have S5 := Same.updNew (o := .dK (putK K4 (.inr "trap") (.ref t1))) (S4.trans a1) nd
    have G4 := (((G3.mono (tup_same a1)).put (z := "trap") (l := [256]) (by decide) upd_same)).mono (tup_upd (o := .dK (putK K4 (.inr "trap") (.ref t1))) hd11)
    refine ⟨_, rfl, d, _, rfl, DPut.k (k := .inr "trap") hd11 (by rw [l4]; show 12 < sizeLine; decide), ?_⟩
    have hd12 : upd (upd H6 t1 (HO.tup [V.int 256])) d (.dK (putK K4 (.inr "trap") (.ref t1))) d = some (.dK (putK K4 (.inr "trap") (.ref t1))) := upd_same
    generalize upd (upd H6 t1 (HO.tup [V.int 256])) d (.dK (putK K4 (.inr "trap") (.ref t1))) = H7 at G4 S5 hd12 ⊢
    generalize putK K4 (.inr "trap") (.ref t1) = K5 at G4 S5 hd12 ⊢
    clear a1 n1 hd11 l4 G3 S4 hd10
    clear t1 H6 K4
    refine ⟨by show 11 ≤ sizeLine; decide, fun pt nt => ?_⟩
    have aT := same_upd (o := .tup (List.map (fun p : Str × List Int => V.str p.1) (sizes.drop 13))) nt
    refine ⟨pt, rfl, ⟨_, SqT.of upd_same⟩, for_tup (xs := List.map (fun p : Str × List Int => V.str p.1) (sizes.drop 13)) (fun i σ H' => ∃ kvs y1, σ = [some (.ref d), y1] ∧ H' d = some (.dK kvs) ∧ Good H' kvs (sizes.take (13 + i)) ∧ Same H H' ∧ H' pt = some (.tup (List.map (fun p : Str × List Int => V.str p.1) (sizes.drop 13))))
      ⟨K5, none, rfl, aT _ _ hd12, (G4.mono (tup_same aT)), S5.trans aT, upd_same⟩ (fun i σ H' _ hp => ?_) (fun i v σ H' hv hp => ?_) fun σ H' hp => ?_⟩
    · obtain ⟨_, _, _, _, _, _, h⟩ := hp
      exact SqT.of h
    · obtain ⟨kvs, y1, rfl, hd, g, sm, hq⟩ := hp
      obtain ⟨nm, rfl, e1, e2, e3⟩ := sizes_step hv
      refine ⟨by show 2 ≤ sizeLine; decide, fun t1 n1 => ?_⟩
      have a1 := same_upd (o := .tup [V.int 8, V.int 8]) n1
      have gl := g.len
      refine ⟨_, rfl, _, rfl, d, _, rfl, DPut.k (k := .inr nm) (a1 _ _ hd) ?_, ?_⟩
      · rw [gl, List.length_take]
        exact Nat.lt_of_le_of_lt (Nat.min_le_right _ _) (show 24 < sizeLine by decide)
      · refine ⟨_, some (.str nm), rfl, upd_same, ?_, Same.updNew (sm.trans a1) nd, ?_⟩
        · rw [e1]
          exact ((g.mono (tup_same a1)).put e2 upd_same).mono (tup_upd (a1 _ _ hd))
        · exact tup_upd (a1 _ _ hd) _ _ (a1 _ _ hq)
    · obtain ⟨kvs, y1, rfl, hd, g, sm, hq⟩ := hp
      have g' : Good H' kvs sizes := g
      refine ⟨_, rfl, ?_⟩
      exact q d H' sm nd ⟨kvs, hd, g'.keys, fun z => g'.get⟩
end
end K00

set_option maxRecDepth 100000
set_option maxHeartbeats 4000000
/-! k00: the law's own row_text and is_row. -/
namespace K00
open PySem PySem.Spec PyProof.Rows L2
theorem scLRowText : FnScope ["row", "sizes", "found", "part", "size"] ["row"] (defScope sLRowText) := ⟨rfl, rfl, rfl, by decide +kernel, rfl, by decide +kernel, by decide +kernel⟩
theorem scLIsRow : FnScope ["value", "sizes", "part", "size"] ["value"] (defScope sLIsRow) := ⟨rfl, rfl, rfl, by decide +kernel, rfl, by decide +kernel, by decide +kernel⟩
def wOf (p : Int × Int) : Str := if p.2 = 8 then Str.ofString "r" ++ ((toString p.1 : String) : Str) else ((toString p.1 : String) : Str)
theorem lWords_eq (nm : Str) (zs ps : List Int) : lWords nm zs ps = nm :: (ps.zip zs).map wOf := rfl
section
variable {P : Program} {w : World} {K : PySem.W.Frag} {mg : Str → Option Value} {base : Heap}
theorem SizesAt.same {H H' : Hp} {q : Addr} (h : SizesAt H q) (s : Same H H') : SizesAt H' q := by
  obtain ⟨kvs, e, ks, g⟩ := h
  refine ⟨kvs, s _ _ e, ks, fun z => ⟨(g z).1, fun l el => ?_⟩⟩
  obtain ⟨t, e1, e2⟩ := (g z).2 l el
  exact ⟨t, e1, s _ _ e2⟩
theorem SizesAt.get {H : Hp} {q : Addr} {nm : Str} {l : List Int} (h : SizesAt H q) (e : sizes.lookup nm = some l) : ∃ t, DGet H q (.str nm) (some (.ref t)) ∧ H t = some (.tup (l.map V.int)) := by
  obtain ⟨kvs, e0, _, g⟩ := h
  obtain ⟨t, e1, e2⟩ := (g nm).2 l e
  exact ⟨t, dget_of (k := .inr nm) e0 e1, e2⟩
theorem SizesAt.no {H : Hp} {q : Addr} {nm : Str} (h : SizesAt H q) (e : sizes.lookup nm = none) : DGet H q (.str nm) none := by
  obtain ⟨kvs, e0, _, g⟩ := h
  exact dget_of (k := .inr nm) e0 ((g nm).1 e)
def spLText (K : PySem.W.Frag) : Sp := fun vs H Q _ => ∃ (a : Addr) (nm : Str) (ps : List Int), vs = [.ref a] ∧ SqT K H a (.str nm :: ps.map V.int) ∧ IsRow nm ps ∧ ∀ H', Same H H' → Q (.str (rowText nm ps)) H'
theorem ok_lText {f f1 : Addr} {fd fd1 : FuncData} {k : Nat} (F : Fun K "_law_row_text" "_law_row_text" sLRowText f fd)
    (G1 : FnOk P w K mg base CX0 (k + 1) f1 fd1 [] spSizes) (k1 : PySem.W.keepIn K (.ref f1) = true) (b1 : Binds K fd1 [] []) (g1 : mg "_law_row_sizes" = some (.ref f1))
    (mz : mg "zip" = none) (ms : mg "str" = none) (mi : mg "int" = none) : FnOk P w K mg base CX0 (k + 2) f fd ["row"] (spLText K) := by
  refine F.ok scLRowText (fun vs H Q E h => ?_) (fun cdv A outer s H vs Q E hr h => ?_)
  · obtain ⟨a, nm, ps, rfl, _⟩ := h
    rfl
  · obtain ⟨a, nm, ps, rfl, hs, hrow, q⟩ := h
    refine ⟨_, pss_cons (ps_par (i := 1) (j := 2) (by rfl) scLRowText.nd rfl rfl (by decide) rfl rfl (pa_cons (pe_dget (hu_of hr) (pe_call0 G1 hr (by rfl) g1 k1 b1 .nil pass0) (pe_ix ix_tup (pv 0) pe_int (fun _ _ => rfl)) (fun _ _ => rfl)) (pa_cons (pe_lst (pa_cons (pe_ix ix_tup (pv 0) pe_int (fun _ _ => rfl)) pa_nil)) pa_nil)) (by rfl))
      (pss_cons (ps_for PassesOwn.never rfl (RZ.pi_zipA (by rfl) mz (pa_cons (pe_slice sl_tupA (pv 0) (po_some pe_int) po_none) (pa_cons (pv 1) pa_nil))) (pg_tup (by rfl) (pgs_cons (pg_name (i := 3) scLRowText.nd rfl (.inl rfl)) (pgs_cons (pg_name (i := 4) scLRowText.nd rfl (.inl rfl)) pgs_nil)))
        (pss_one (ps_expr (pe_bm PySem.F.plainAttrs_list PySem.F.slot_list_append PySem.F.type_list_append mt_append (pv 2) (pa_cons (pe_ifExp (pt_cmpR op_eq (pv 4) pe_int (nomark _)) (pe_op op_add_str pe_str (pe_callTy call_str_int (by rfl) ms (by decide +kernel) (pa_cons (pe_callTy call_int1 (by rfl) mi (by decide +kernel) (pa_cons (pv 3) pa_nil)) pa_nil))) (pe_callTy call_str_int (by rfl) ms (by decide +kernel) (pa_cons (pe_callTy call_int1 (by rfl) mi (by decide +kernel) (pa_cons (pv 3) pa_nil)) pa_nil))) pa_nil)))))
      (pss_one (ps_ret (pe_join pe_str (pv 2))))), ?_⟩
    obtain ⟨sh, hl, hok⟩ := hrow
    have hmem := mem_of_lookup hl
    have hsz := sizes_all _ hmem
    have hwd := words_all _ hmem ps hok
    have et : rowText nm ps = Txt.join " " (lWords nm ((bnds sh).map (· + 1)) ps) := by
      unfold rowText
      rw [hl]
      show Txt.join " " (pWords nm sh.2.1 ps) = _
      rw [← hwd]
    have hlen : ps.length = (bnds sh).length := okParts_len hok
    have hb3 : (bnds sh).length ≤ 3 := by
      have hm := (many2 _ hmem).1
      obtain ⟨b, many, most⟩ := sh
      simp only at hm
      unfold bnds
      cases most <;> simp <;> omega
    have small : ∀ (i : Nat) (x : Int), ps[i]? = some x → 0 ≤ x ∧ x ≤ 65535 := fun i x e => by
      obtain ⟨bb, ebb, x0, xb⟩ := okParts_get hok i x e
      have hbb := bnds_all _ hmem bb (List.mem_of_getElem? ebb)
      omega
    have hnm := names_small _ hmem
    have hzl : ((bnds sh).map (· + 1)).length = ps.length := by rw [List.length_map, hlen]
    generalize (bnds sh).map (· + 1) = zs at hsz et hzl
    have at0 : ∀ {z : V} {zs : List V}, atI (z :: zs) 0 = some z := at_of (j := 0) rfl rfl
    refine ⟨rfl, fun qz H1 s1 nq sz => ?_⟩
    have hs1 := Same.seqT s1 hs
    obtain ⟨t, dg, ht⟩ := sz.get hsz
    refine ⟨.ref a, rfl, a, _, 0, .str nm, rfl, rfl, hs1, at0, qz, .ref t, rfl, dg, ?_⟩
    refine ⟨.ref a, rfl, a, _, 0, .str nm, rfl, rfl, hs1, at0, by show 1 ≤ sizeLine; decide, fun fp nf => ?_⟩
    have s2 := same_upd (o := .lst [V.str nm]) nf
    refine ⟨_, _, rfl, ?_⟩
    refine ⟨.ref a, rfl, ((1 : Nat) : Int), rfl, ?_⟩
    unfold tNoPart
    refine slice_from (j := 1) (Same.seqT s2 hs1) fun p1 H3 hp1 s3 _ => ?_
    have hp1 : SqT K H3 p1 (ps.map V.int) := hp1
    have ht3 : SqT K H3 t (zs.map V.int) := SqT.of (s3 _ _ (s2 _ _ ht))
    refine ⟨.ref t, rfl, p1, t, _, _, rfl, .inr ⟨hp1, ht3, for_any (n := ps.length) (fun i σ H' => ∃ y3 y4, σ = [some (.ref a), some (.ref t), some (.ref fp), y3, y4] ∧ Same H1 H' ∧ SqT K H' p1 (ps.map V.int) ∧ SqT K H' t (zs.map V.int) ∧ H' fp = some (.lst (.str nm :: (((ps.zip zs).take i).map fun p => V.str (wOf p)))))
      ⟨none, none, rfl, s2.trans s3, hp1, ht3, s3 _ _ upd_same⟩ (fun i σ H' hi hP => ?_) (fun σ H' hP => ?_) (fun i x σ H' H'' hi hP hy => ?_) fun σ H' hP => ?_⟩⟩
    · obtain ⟨_, _, rfl, sm, h1, h2, _⟩ := hP
      have l1 : i < (ps.map V.int).length := by rw [List.length_map]; exact hi
      have l2 : i < (zs.map V.int).length := by rw [List.length_map]; omega
      exact ⟨_, _, _, _, h1, h2, List.getElem?_eq_getElem l1, List.getElem?_eq_getElem l2⟩
    · obtain ⟨_, _, rfl, sm, h1, h2, _⟩ := hP
      exact ⟨_, _, h1, h2, .inl (by rw [List.length_map]; exact Nat.le_refl _)⟩
    · obtain ⟨y3, y4, rfl, sm, h1, h2, hf⟩ := hP
      obtain ⟨T, x1, x2, rfl, nT, rfl, f1, f2⟩ := hy
      have e1 := f1 _ h1
      have e2 := f2 _ h2
      have hz : i < zs.length := by omega
      rw [List.getElem?_map, List.getElem?_eq_getElem hi] at e1
      rw [List.getElem?_map, List.getElem?_eq_getElem hz] at e2
      obtain rfl : V.int ps[i] = x1 := Option.some.inj e1
      obtain rfl : V.int zs[i] = x2 := Option.some.inj e2
      obtain ⟨n0, n1⟩ := small i _ (List.getElem?_eq_getElem hi)
      have sT : Same H' (upd H' T (.tup [.int ps[i], .int zs[i]])) := same_upd nT
      have ez : (ps.zip zs)[i]? = some (ps[i], zs[i]) := List.getElem?_zip_eq_some.mpr ⟨List.getElem?_eq_getElem hi, List.getElem?_eq_getElem hz⟩
      have fin : ∀ y, y = wOf (ps[i], zs[i]) → rAppend (.ref fp) [.str y] (upd H' T (.tup [.int ps[i], .int zs[i]])) fun _ H4 => ∃ y3 y4, ([some (.ref a), some (.ref t), some (.ref fp), some (.int ps[i]), some (.int zs[i])] : L2.St) = [some (.ref a), some (.ref t), some (.ref fp), y3, y4] ∧ Same H1 H4 ∧ SqT K H4 p1 (ps.map V.int) ∧ SqT K H4 t (zs.map V.int) ∧ H4 fp = some (.lst (.str nm :: (((ps.zip zs).take (i + 1)).map fun p => V.str (wOf p)))) := fun y ey => by
        subst ey
        have hf' := sT _ _ hf
        refine ⟨fp, _, _, rfl, rfl, hf', small1000 ?_, _, _, rfl, Same.updNew (sm.trans sT) nf, sqT_upd (Same.seqT sT h1) hf', sqT_upd (Same.seqT sT h2) hf', ?_⟩
        · rw [List.length_cons, List.length_map, List.length_take]
          omega
        · rw [upd_same, List.take_add_one, ez, List.map_append]
          rfl
      refine ⟨T, [.int _, .int _], rfl, SqT.of upd_same, rfl, .int _, [.int _], rfl, .int _, [], rfl, rfl, ?_⟩
      have lr : ∀ z : Str, z.length ≤ 6 → (Str.ofString "r").length + z.length ≤ sizeLine := fun z hz => Nat.le_of_lt (small1000 (by
        have : (Str.ofString "r").length = 1 := by decide
        omega))
      refine ⟨.ref fp, rfl, .inl ⟨rfl, _, SqL.of (sT _ _ hf)⟩, ?_⟩
      refine ⟨.int zs[i], rfl, rfl, _, rfl, ite2 (fun e => ?_) (fun e => ?_)⟩
      · have e8 : zs[i] = 8 := V.int.inj (of_decide_eq_true e)
        refine ⟨_, rfl, .inl ⟨_, rfl, _, rfl, log_small n0 n1, _, _, rfl, rfl, lr _ (txt_small n0 n1), ?_⟩⟩
        exact fin _ (by unfold wOf; rw [if_pos e8])
      · have e8 : ¬ zs[i] = 8 := fun z => e (decide_eq_true (congrArg V.int z))
        refine ⟨_, rfl, .inl ⟨_, rfl, _, rfl, log_small n0 n1, ?_⟩⟩
        exact fin _ (by unfold wOf; rw [if_neg e8])
    · obtain ⟨y3, y4, rfl, sm, h1, h2, hf⟩ := hP
      rw [List.take_of_length_le (by rw [List.length_zip]; omega)] at hf
      have ef : (V.str nm :: ((ps.zip zs).map fun p => V.str (wOf p))) = (lWords nm zs ps).map V.str := by
        rw [lWords_eq, List.map_cons, List.map_map]
        rfl
      rw [ef] at hf
      refine ⟨⟨_, rfl⟩, .ref fp, rfl, " ", fp, lWords nm zs ps, rfl, rfl, .inl (SqL.of hf), ?_, ?_⟩
      · have hall : ∀ x ∈ lWords nm zs ps, x.length ≤ 8 := fun x hx => by
          rw [lWords_eq] at hx
          rcases List.mem_cons.mp hx with rfl | hx
          · exact hnm
          · obtain ⟨⟨n, z⟩, hn, rfl⟩ := List.mem_map.mp hx
            obtain ⟨i, hi⟩ := List.getElem?_of_mem (List.of_mem_zip hn).1
            obtain ⟨n0, n1⟩ := small i n hi
            have := txt_small n0 n1
            unfold wOf
            split
            · rw [len_r]
              show (Str.ofString (toString n)).length + 1 ≤ 8
              omega
            · show (Str.ofString (toString n)).length ≤ 8
              omega
        have h1 := sum_le6 _ hall
        have h2 : (lWords nm zs ps).length ≤ 4 := by
          rw [lWords_eq, List.length_cons, List.length_map, List.length_zip]
          omega
        have h3 : (" " : Str).length = 1 := by decide
        rw [h3]
        omega
      · have q1 := q _ (s1.trans sm)
        rw [et] at q1
        exact q1
end
end K00

set_option maxRecDepth 100000
set_option maxHeartbeats 4000000
/-! k00: the law's own is_row. -/
namespace K00
open PySem PySem.Spec PyProof.Rows L2
section
variable {P : Program} {w : World} {K : PySem.W.Frag} {mg : Str → Option Value} {base : Heap}
def spLIsRow (K : PySem.W.Frag) : Sp := fun vs H Q _ => ∃ (v : V) (d : PyData), vs = [v] ∧ Dk K H v d ∧ (∀ ds, d = .tuple ds → SeqAt.shaped d = true) ∧ ∀ H', Same H H' → Q (.bl (dIsRow d)) H'
theorem ok_lIsRow {f f1 f2 : Addr} {fd fd1 fd2 : FuncData} {k : Nat} (F : Fun K "_law_is_row" "_law_is_row" sLIsRow f fd)
    (G1 : FnOk P w K mg base CX0 (k + 1) f1 fd1 [] spSizes) (k1 : PySem.W.keepIn K (.ref f1) = true) (b1 : Binds K fd1 [] []) (g1 : mg "_law_row_sizes" = some (.ref f1))
    (G2 : FnOk P w K mg base CX0 (k + 1) f2 fd2 ["value", "low", "high"] (spWithin K)) (k2 : PySem.W.keepIn K (.ref f2) = true) (b2 : Binds K fd2 ["value", "low", "high"] []) (g2 : mg "_law_is_int" = some (.ref f2))
    (mz : mg "zip" = none) (ms : mg "str" = none) (mt : mg "tuple" = none) (mi : mg "isinstance" = none) (ml : mg "len" = none) (ma : mg "all" = none) : FnOk P w K mg base CX0 (k + 2) f fd ["value"] (spLIsRow K) := by
  refine F.ok scLIsRow (fun vs H Q E h => ?_) (fun cdv A outer s H vs Q E hr h => ?_)
  · obtain ⟨v, d, rfl, _⟩ := h
    rfl
  · obtain ⟨v, d, rfl, hd, hsh, q⟩ := h
    refine ⟨_, pss_cons (ps_if (PW.pt (pw_or (pt_not (pt_val (pe_callB call_isi (by rfl) mi (by decide +kernel) (pa_cons (pv 0) (pa_cons (pe_bltn (v := .ty "tuple") (by rfl) mt (by decide +kernel) rfl) pa_nil)))))
        (pw_or (pt_cmpR (op_eqD hr.units) (pv 0) (pe_tup pa_nil) (nomark _))
        (pw_or1 (pt_not (pt_val (pe_callB call_isi (by rfl) mi (by decide +kernel) (pa_cons (pe_ix ix_tup (pv 0) pe_int (fun _ _ => rfl)) (pa_cons (pe_bltn (v := .ty "str") (by rfl) ms (by decide +kernel) rfl) pa_nil))))))))) (pss_one (ps_ret pe_bl)) pss_nil)
      (pss_cons (ps_set (i := 1) scLIsRow.nd rfl (.inl rfl) (pe_dget2 (hu_of hr) (pe_call0 G1 hr (by rfl) g1 k1 b1 .nil pass0) (pe_ix ix_tup (pv 0) pe_int (fun _ _ => rfl)) pe_non ⟨rfl, rfl, rfl, rfl⟩))
      (pss_cons (ps_if (PW.pt (pw_or (pt_cmpR op_isN (pv 1) pe_non (nomark _)) (pw_or1 (pt_cmpR op_ne (pe_callB call_len_seq (by rfl) ml PySem.boot_len (pa_cons (pv 0) pa_nil)) (pe_op op_add (pe_callB call_len_seq (by rfl) ml PySem.boot_len (pa_cons (pv 1) pa_nil)) pe_int) (nomark _))))) (pss_one (ps_ret pe_bl)) pss_nil)
      (pss_one (ps_ret (pe_callB (cr_all rfl) (by rfl) ma (by decide +kernel) (pa_cons (pe_lc (own := [("part", 2), ("size", 3)]) (g := gTup K 2 (gCons (gName 2) (gCons (gName 3) gNil))) (tt := tYes) rfl scLIsRow.nd
        (RZ.pi_zipA (by rfl) mz (pa_cons (pe_slice sl_tupA (pv 0) (po_some pe_int) po_none) (pa_cons (pv 1) pa_nil))) (blkOk_by (N := ["value", "sizes", "part", "size"]) (sc := defScope sLIsRow) (by decide +kernel))
        (fun _ _ _ _ _ => pg_tup (by rfl) (pgs_cons (pg_name (i := 2) scLIsRow.nd rfl (.inl rfl)) (pgs_cons (pg_name (i := 3) scLIsRow.nd rfl (.inl rfl)) pgs_nil)))
        (fun _ _ _ _ _ => pts_nil) (fun _ _ _ _ _ => pe_call G2 hr (by rfl) g2 k2 b2 .nil pass0 (pa_cons (pv 2) (pa_cons pe_int (pa_cons (pe_op op_sub (pv 3) pe_int) pa_nil))))) pa_nil)))))), ?_⟩
    have no : ∀ H', Same H H' → dIsRow d = false → Q (.bl false) H' := fun H' s e => by
      have := q H' s
      rw [e] at this
      exact this
    have ty := hd.tyx
    refine ⟨v, rfl, ?_⟩
    cases hd with
    | d0 h => exact ⟨_, .ty "tuple", .type "dict", .type "tuple", false, rfl, .ty "tuple", ty, (kit_ty (show kitB "dict" "tuple" = some false by decide +kernel)), _, rfl, iteT (iteT (no _ (Same.refl _) rfl))⟩
    | d1 h => exact ⟨_, .ty "tuple", .type "dict", .type "tuple", false, rfl, .ty "tuple", ty, (kit_ty (show kitB "dict" "tuple" = some false by decide +kernel)), _, rfl, iteT (iteT (no _ (Same.refl _) rfl))⟩
    | dp hd =>
      cases hd with
      | non => exact ⟨_, .ty "tuple", .type "NoneType", .type "tuple", false, rfl, .ty "tuple", ty, (kit_ty (show kitB "NoneType" "tuple" = some false by decide +kernel)), _, rfl, iteT (iteT (no _ (Same.refl _) rfl))⟩
      | bl b => exact ⟨_, .ty "tuple", .type "bool", .type "tuple", false, rfl, .ty "tuple", ty, (kit_ty (show kitB "bool" "tuple" = some false by decide +kernel)), _, rfl, iteT (iteT (no _ (Same.refl _) rfl))⟩
      | int x => exact ⟨_, .ty "tuple", .type "int", .type "tuple", false, rfl, .ty "tuple", ty, (kit_ty (show kitB "int" "tuple" = some false by decide +kernel)), _, rfl, iteT (iteT (no _ (Same.refl _) rfl))⟩
      | str x => exact ⟨_, .ty "tuple", .type "str", .type "tuple", false, rfl, .ty "tuple", ty, (kit_ty (show kitB "str" "tuple" = some false by decide +kernel)), _, rfl, iteT (iteT (no _ (Same.refl _) rfl))⟩
      | lst hs _ => exact ⟨_, .ty "tuple", .type "list", .type "tuple", false, rfl, .ty "tuple", ty, (kit_ty (show kitB "list" "tuple" = some false by decide +kernel)), _, rfl, iteT (iteT (no _ (Same.refl _) rfl))⟩
      | @tup a xs ds hs ha =>
        have hsd := hsh ds rfl
        refine ⟨_, .ty "tuple", .type "tuple", .type "tuple", true, rfl, .ty "tuple", ty, (kit_ty (show kitB "tuple" "tuple" = some true by decide +kernel)), _, rfl, iteF ?_⟩
        refine ⟨.ref a, rfl, by show 0 ≤ sizeLine; decide, fun p0 n0 => ?_⟩
        have s0 := same_upd (o := .tup []) n0
        refine ⟨.tuple ds, .tuple [], dp_same s0 _ _ (.tup hs ha), .tup (SqT.of upd_same) .nil, hsd, by decide, _, rfl, ?_⟩
        have hs0 := Same.seqT s0 hs
        cases ha with
        | nil => exact iteT (iteT (no _ s0 rfl))
        | @cons x xr d0 dr h0 hr0 =>
          refine iteF ?_
          have at0 : ∀ {z : V} {zs : List V}, atI (z :: zs) 0 = some z := at_of (j := 0) rfl rfl
          refine ⟨.ref a, rfl, a, _, 0, x, rfl, rfl, hs0, at0, ?_⟩
          have ty0 := (Dk.dp (dp_same s0 _ _ h0)).tyx
          cases h0 with
          | non => exact ⟨_, .ty "str", .type "NoneType", .type "str", false, rfl, .ty "str", ty0, (kit_ty (show kitB "NoneType" "str" = some false by decide +kernel)), _, rfl, iteT (no _ s0 rfl)⟩
          | bl b => exact ⟨_, .ty "str", .type "bool", .type "str", false, rfl, .ty "str", ty0, (kit_ty (show kitB "bool" "str" = some false by decide +kernel)), _, rfl, iteT (no _ s0 rfl)⟩
          | int z => exact ⟨_, .ty "str", .type "int", .type "str", false, rfl, .ty "str", ty0, (kit_ty (show kitB "int" "str" = some false by decide +kernel)), _, rfl, iteT (no _ s0 rfl)⟩
          | lst _ _ => exact ⟨_, .ty "str", .type "list", .type "str", false, rfl, .ty "str", ty0, (kit_ty (show kitB "list" "str" = some false by decide +kernel)), _, rfl, iteT (no _ s0 rfl)⟩
          | tup _ _ => exact ⟨_, .ty "str", .type "tuple", .type "str", false, rfl, .ty "str", ty0, (kit_ty (show kitB "tuple" "str" = some false by decide +kernel)), _, rfl, iteT (no _ s0 rfl)⟩
          | str nm =>
            refine ⟨_, .ty "str", .type "str", .type "str", true, rfl, .ty "str", ty0, (kit_ty (show kitB "str" "str" = some true by decide +kernel)), _, rfl, iteF ?_⟩
            refine ⟨rfl, fun qz H1 s1 nq sz => ?_⟩
            have s01 := s0.trans s1
            have hs1 := Same.seqT s01 hs
            obtain ⟨kvs, ek, ks, gk⟩ := id sz
            refine ⟨qz, rfl, .inl ⟨kvs, .inl ek⟩, .ref a, rfl, a, _, 0, .str nm, rfl, rfl, hs1, at0, ?_⟩
            cases hl : shapes.lookup nm with
            | none =>
              have ez := sizes_none nm hl
              refine ⟨none, sz.no ez, .non, rfl, rfl, _, rfl, iteT (iteT (no _ s01 ?_))⟩
              show (match shapes.lookup nm with | none => false | some s => okD dr (bnds s)) = false
              rw [hl]
            | some sh =>
              have ed : dIsRow (.tuple (.str nm :: dr)) = okD dr (bnds sh) := by
                show (match shapes.lookup nm with | none => false | some s => okD dr (bnds s)) = _
                rw [hl]
              have hmem := mem_of_lookup hl
              have hsz := sizes_all _ hmem
              obtain ⟨t, dg, ht⟩ := sz.get hsz
              refine ⟨some (.ref t), dg, .ref t, rfl, rfl, _, rfl, iteF ?_⟩
              have hb3 : (bnds sh).length ≤ 3 := by
                have hm := (many2 _ hmem).1
                obtain ⟨b, many, most⟩ := sh
                simp only at hm
                unfold bnds
                cases most <;> simp <;> omega
              obtain ⟨lx, gx⟩ := dpAll_get (dpAll_same s01 _ _ hr0)
              refine ⟨.ref a, rfl, a, _, rfl, .inr hs1, .ref t, rfl, t, _, rfl, .inr (SqT.of ht), _, _, rfl, rfl, rfl, _, rfl, ?_⟩
              by_cases hlen : dr.length = (bnds sh).length
              · have e1 : decide (V.int ((V.str nm :: xr).length : Nat) = V.int (((((bnds sh).map (· + 1)).map V.int).length : Nat) + 1)) = true := decide_eq_true (by
                  rw [List.length_cons, List.length_map, List.length_map, lx, hlen]
                  rfl)
                rw [e1]
                refine iteF ?_
                refine ⟨.ref a, rfl, ((1 : Nat) : Int), rfl, ?_⟩
                unfold tNoPart
                refine slice_from (j := 1) hs1 fun p1 H6 hp1 s6 _ => ?_
                have hp1 : SqT K H6 p1 xr := hp1
                have ht6 := s6 _ _ ht
                refine ⟨.ref t, rfl, p1, t, _, _, rfl, .inr ⟨hp1, SqT.of ht6, fun D nD => ?_⟩⟩
                have hr6 := dpAll_same (s01.trans s6) _ _ hr0
                obtain ⟨_, gx6⟩ := dpAll_get hr6
                refine lc_any (n := dr.length) (fun i H' => Same H6 H' ∧ H' D = some (.lst (((okBs dr (bnds sh)).take i).map V.bl))) ⟨same_upd nD, upd_same⟩ (fun i H' hi hP => ?_) (fun H' hP => ?_) (fun i z H' H'' hi hP hy => ?_) fun H' hP => ?_
                · obtain ⟨sm, _⟩ := hP
                  have h1 : i < xr.length := by omega
                  have h2 : i < (((bnds sh).map (· + 1)).map V.int).length := by rw [List.length_map, List.length_map]; omega
                  exact ⟨_, _, _, _, Same.seqT sm hp1, SqT.of (sm _ _ ht6), List.getElem?_eq_getElem h1, List.getElem?_eq_getElem h2⟩
                · obtain ⟨sm, _⟩ := hP
                  exact ⟨_, _, Same.seqT sm hp1, SqT.of (sm _ _ ht6), .inl (by show xr.length ≤ _; omega)⟩
                · obtain ⟨sm, hD⟩ := hP
                  obtain ⟨T, x1, x2, rfl, nT, rfl, f1, f2⟩ := hy
                  have h2 : i < (bnds sh).length := by omega
                  have e1 : xr[i]? = some x1 := f1 _ (Same.seqT sm hp1)
                  have e2 : (((bnds sh).map (· + 1)).map V.int)[i]? = some x2 := f2 _ (SqT.of (sm _ _ ht6))
                  rw [List.getElem?_map, List.getElem?_map, List.getElem?_eq_getElem h2] at e2
                  have e2 : V.int ((bnds sh)[i] + 1) = x2 := Option.some.inj e2
                  subst e2
                  obtain ⟨d1, ed1, hd1⟩ := gx6 i x1 e1
                  have sT : Same H' (upd H' T (.tup [x1, .int ((bnds sh)[i] + 1)])) := same_upd nT
                  refine ⟨T, [x1, .int _], rfl, SqT.of upd_same, rfl, x1, [.int _], rfl, .int _, [], rfl, rfl, rfl, ?_⟩
                  unfold tYes
                  refine iteT ?_
                  refine ⟨x1, rfl, _, rfl, _, _, rfl, rfl, x1, d1, 0, (bnds sh)[i] + 1 - 1, rfl, .dp (dp_same (sm.trans sT) _ _ hd1), _, sT _ _ hD, ?_, ?_⟩
                  · rw [List.length_map, List.length_take]
                    exact small1000 (by omega)
                  · refine ⟨?_, ?_⟩
                    · exact Same.updNew (sm.trans sT) nD
                    · have eo : (okBs dr (bnds sh))[i]? = some (isW d1 0 ((bnds sh)[i] + 1 - 1)) := by
                        unfold okBs
                        rw [List.getElem?_map, (List.getElem?_zip_eq_some (z := (d1, (bnds sh)[i]))).mpr ⟨ed1, List.getElem?_eq_getElem h2⟩, Int.add_sub_cancel]
                        rfl
                      rw [upd_same, List.take_add_one, eo, List.map_append]
                      rfl
                · obtain ⟨sm, hD⟩ := hP
                  refine ⟨D, okBs dr (bnds sh), rfl, SqL.of ?_, ?_⟩
                  · rw [hD, List.take_of_length_le]
                    unfold okBs
                    rw [List.length_map, List.length_zip]
                    omega
                  · have q2 := q H' ((s01.trans s6).trans sm)
                    rw [ed, okD_all _ _ hlen] at q2
                    exact q2
              · have e1 : decide (V.int ((V.str nm :: xr).length : Nat) = V.int (((((bnds sh).map (· + 1)).map V.int).length : Nat) + 1)) = false := decide_eq_false fun z => hlen (by
                  have := V.int.inj z
                  rw [List.length_cons, List.length_map, List.length_map, lx] at this
                  omega)
                rw [e1]
                refine iteT ?_
                have e0 : okD dr (bnds sh) = false := by
                  cases eo : okD dr (bnds sh) with
                  | false => rfl
                  | true => exact absurd (okD_len eo) hlen
                exact no _ s01 (by rw [ed, e0])
end
end K00

set_option maxRecDepth 100000
set_option maxHeartbeats 4000000
/-! k00: an exception that is caught and kept. -/
namespace K00
open PySem PySem.Spec PyProof.Rows L2
/-- the exception at a: of the class C, its fields in the dict at d -/
def ErrO (C d a : Addr) : HO := .ext fun h => ∃ (oe : Obj) (fv : Array Value), h.get? a = some oe ∧ Zc (.ref C) (some d) oe ∧ oe.data = .fields fv
theorem errO_ok {P : Program} {w : World} {H : Hp} {h : Heap} {a C d : Addr} {oe : Obj} {fv : Array Value} (e : h.get? a = some oe) (z : Zc (.ref C) (some d) oe) (f : oe.data = .fields fv) : ObjOk P w H h a (ErrO C d a) :=
  ⟨⟨oe, fv, e, z, f⟩, ⟨oe, e⟩, fun _ _ ⟨o1, f1, e1, r1⟩ k => ⟨o1, f1, k _ e1, r1⟩⟩
section
variable {X : Cx} {pins : List (Addr × Obj)} {σ : L2.St} {H : Hp} {s : Shared}
theorem err_get {a C d : Addr} (I : Inv X pins σ H s) (ha : H a = some (ErrO C d a)) : ∃ (oe : Obj) (fv : Array Value), s.heap.get? a = some oe ∧ Zc (.ref C) (some d) oe ∧ oe.data = .fields fv := (I.hok a _ ha).1
/-- from now on a is known -/
theorem track {a : Addr} {o : HO} (I : Inv X pins σ H s) (na : H a = none) (new : ∀ b ob, X.s_0.heap.get? b = some ob → X.H_0 b = none → b ∉ X.ex → b ≠ a) (nl : X.env.locals ≠ a) (nc : ∀ x c, X.env.cells.lookup x = some c → c ≠ a)
    (np : ∀ p ∈ X.pn ++ pins, p.1 ≠ a) (ok : ObjOk X.prog X.w (upd H a o) s.heap a o) : Inv X pins σ (upd H a o) s where
  ok := I.ok
  os := I.os
  bare := I.bare
  base := ⟨I.base.keep, I.base.slot, fun b ob e n hx => by rw [upd_ne (new b ob e n hx)]; exact I.base.free b ob e n hx, I.base.there, fun b xs e => by rw [upd_ne (ne_of_none (I.base.tups b xs e) na)]; exact I.base.tups b xs e,
    fun b ob u e => by rw [upd_ne (ne_of_none (I.base.frzs b ob u e) na)]; exact I.base.frzs b ob u e, fun b ps e => by
      obtain ⟨more, q⟩ := I.base.tbls b ps e
      exact ⟨more, by rw [upd_ne (ne_of_none q na)]; exact q⟩⟩
  loc := I.loc
  cell := I.cell
  free := by rw [upd_ne nl]; exact I.free
  freeC := fun x c e => by rw [upd_ne (nc x c e)]; exact I.freeC x c e
  pin := fun p hp => by
    obtain ⟨e1, e2, e3⟩ := I.pin p hp
    exact ⟨e1, by rw [upd_ne (np p hp)]; exact e2, e3⟩
  hok := I.hok.laidN (fun _ _ e => e) na ok
  len := I.len
/-- what 'except x as n: suite' makes of an exception of its own class: the caught one is known behind it -/
def wHeard (K : PySem.W.Frag) (c : Value) (i : Nat) (ts : Addr → Value → Option Addr → TS) (D : Ends) : WX := fun cls d σ H =>
  PySem.W.exmOne K cls c = some true ∧ ∃ (C dd : Addr), cls = .ref C ∧ d = some dd ∧ ∀ a, H a = none → ts a cls d { nx := fun σ' H' => H' a = none → D.nx (σ'.set i none) (upd H' a (ErrO C dd a)), rt := fun _ _ => False } (σ.set i (some (.ref a))) H
variable {x n : Str} {c : Value} {i : Nat} {body suite : List Stmt} {b₀ : Stmt} {np pos pos' : Pos} {tb : WX → TS} {ts : Addr → Value → Option Addr → TS}
theorem ps_heard (hs : X.stack = X.env :: X.outer) (hf : X.env.frame = some X.env.locals) (hN : X.N.Nodup) (hi : X.N[i]? = some n) (hln : X.env.kindOf n = some .local) (hc : Names X x c)
    (hb : ∀ (Wn : WX) (qn : List (Addr × Obj)) (xe : Value → Shared → Prop), Takes (X.tr qn xe) Wn → PassesOwn (model X.prog X.w) X.A X.env xe → PSs (X.tr qn xe) body (tb Wn))
    (hsu : ∀ (a : Addr) (oe : Obj) (cls : Value) (d : Option Addr) (qn : List (Addr × Obj)), Zc cls d oe → (∃ vs, oe.data = .fields vs) → PSs (X.suite a ((a, oe) :: qn)) (b₀ :: suite) (ts a cls d)) :
    PS X (.Try body [.ExceptHandler (some (.Name x np)) (some n) (b₀ :: suite) pos'] [] [] pos) (fun Dn σ H => tb (wHeard X.K c i ts Dn) Dn σ H) := by
  refine ⟨fun pins s σ H Dn I h => wpAny_Try_except ?_⟩
  have ok := I.ok
  have frames : X.A.frames = some (X.env :: X.outer) := by rw [ok.frames, hs]
  refine wpAny_mono ((hb (wHeard X.K c i ts Dn) (X.pn ++ pins) (fun e s₁ => wpAny (model X.prog X.w) X.A (noteFrame e X.env) (fun _ s₂ => wpAny (model X.prog X.w) X.A (setFlight e none) (fun _ s₃ =>
    wpAny (model X.prog X.w) X.A (handleBy e X.env [.ExceptHandler (some (.Name x np)) (some n) (b₀ :: suite) pos']) (SP X pins Dn) X.xe s₃) X.xe s₂) X.xe s₁) (fun u s' xx => ?_) PassesOwn.looking).run [] s σ H Dn (I.toTry _) h) (fun f s1 res => ?_) (fun e s1 he => he)
  · obtain ⟨a, B, s0E, pins', σ', H', cls, d, rfl, J', keeps_, grow, air, naa, osE, bareE, yes, C, dd, rfl, rfl, wish⟩ := xx
    have I0E : Inv X pins σ' H' s0E := J'.ofTry ok
    rw [show (X.tr (X.pn ++ pins) _).stack = X.env :: X.outer from hs] at air
    show wpAny (model X.prog X.w) X.A (noteFrame (.ref a) X.env) _ _ _
    refine Sky.land Zc.steady frames hf air fun hA fly3 more3 => ?_
    have Ba : B.get? a = none := fly3.2.1
    have IA : Inv X pins σ' H' { s' with heap := hA } := I0E.landed keeps_ fly3.1 (grow.trans more3) osE bareE
    obtain ⟨ob3, fv3, at3, zc3, dt3⟩ := fly3.there
    have ne0 : a ∉ frs (X.env :: X.outer) := fun hm => by
      obtain ⟨_, o', e', hnf⟩ := fly3.2.2.1.mem hm
      rw [at3] at e'; cases e'; exact hnf _ dt3
    have ne1 : a ≠ X.env.locals := fun z => ne0 (List.mem_filterMap.mpr ⟨X.env, List.mem_cons_self, by rw [hf, z]⟩)
    have ne2 : a ∉ X.fs := fun hm => by
      obtain ⟨e, he, q⟩ := List.mem_filterMap.mp hm
      exact ne0 (List.mem_filterMap.mpr ⟨e, List.mem_cons_of_mem _ he, q⟩)
    have noA : s0E.heap.get? a = none := by
      cases q : s0E.heap.get? a with
      | none => rfl
      | some o => exact absurd ((keeps_ a o q (by rw [hs]; exact ne0)).symm.trans Ba) (fun z => nomatch z)
    have newA : ∀ b ob, X.s_0.heap.get? b = some ob → X.H_0 b = none → b ∉ X.ex → b ≠ a := fun b ob e _ hx z => by
      obtain ⟨o', q⟩ := I0E.base.there b ob e hx
      rw [z, noA] at q; cases q
    have npA : ∀ p ∈ X.pn ++ pins, p.1 ≠ a := fun p hp z => by
      have q := (I0E.pin p hp).1
      rw [z, noA] at q; cases q
    have SA := IA.suite at3 dt3 naa ne1 ne2
    refine wpAny_handleBy_cons (codeAny_handlers_test ?_) (by intro q; cases q)
    have looks : PySem.W.Looks (model X.prog X.w) hA (typeOf (.ref a)) (.ref C) := fun A Q E s k q => wpAny_typeOf_ref (k _ _ at3) (by rw [zc3.1]; exact q)
    have meets_ := PySem.W.exm_one (M := model X.prog X.w) (IA.kIn) looks yes
    have tst : ∀ {Q : Value → Shared → Prop} {E : Value → Shared → Prop}, Q c { s' with heap := hA } → wpAny (model X.prog X.w) (X.A.mark (some (.ref a))) (eval (.Name x np) X.env) Q E { s' with heap := hA } := fun {Q E} q => by
      obtain ⟨g1, g2, g3 | ⟨g3, g4, g5⟩⟩ := hc
      · exact ld_glob (X := X.suite a ((a, ob3) :: (X.pn ++ pins))) SA g1 g3 q g2
      · exact ld_blt (X := X.suite a ((a, ob3) :: (X.pn ++ pins))) SA g1 g3 g4 q g5 g2
    refine tst (meets_.here (codeAny_handlers_suite_as (HandSPX.lands_againZ fly3 fun hB_ fly4 more4 => ?_)))
    have IB : Inv X pins σ' H' { s' with heap := hB_ } := I0E.landed keeps_ fly4.1 ((grow.trans more3).trans more4) osE bareE
    obtain ⟨ob4, fv4, at4, zc4, dt4⟩ := fly4.there
    refine store_ok (X := X.suite a ((a, ob4) :: (X.pn ++ pins))) (v := .ref a) (IB.suite at4 dt4 naa ne1 ne2) hN hi (.inl hln) rfl (fun sB SB => ?_) (.inr hln)
    refine wpAny_mono ((hsu a ob4 (.ref C) (some dd) (X.pn ++ pins) zc4 ⟨_, dt4⟩).run [] sB _ H' _ SB (wish a naa)) (fun f sC res => ?_) (fun _ _ z => False.elim z)
    cases f with
    | next =>
      obtain ⟨σ6, HC, SC, qC⟩ := res
      obtain ⟨p1, p2, p3, p4, p5⟩ := SC.pin (a, ob4) (List.mem_append_left _ List.mem_cons_self)
      have IC : Inv X pins σ6 HC sC := SC.unsuite ok
      have ID : Inv X pins σ6 (upd HC a (ErrO C dd a)) sC := track IC p2 newA ne1.symm (fun y c' e z => by
        obtain ⟨v, o, ho, hd⟩ := IC.cell y c' e
        rw [z, p1] at ho; cases ho; exact p5 _ hd) npA (errO_ok p1 zc4 dt4)
      exact gone_ok ID hN hi hln fun sE IE => ⟨_, _, IE, qC p2⟩
    | brk =>
      obtain ⟨_, _, _, qC⟩ := res
      exact qC.elim
    | cont =>
      obtain ⟨_, _, _, qC⟩ := res
      exact qC.elim
    | ret u =>
      obtain ⟨_, _, _, _, _, qC⟩ := res
      exact qC.elim
  · cases f with
    | next =>
      obtain ⟨σ', H', J', q⟩ := res
      exact wpAny_execs_nil ⟨σ', H', J'.ofTry ok, q⟩
    | brk => obtain ⟨σ', H', J', q⟩ := res; exact ⟨σ', H', J'.ofTry ok, q⟩
    | cont => obtain ⟨σ', H', J', q⟩ := res; exact ⟨σ', H', J'.ofTry ok, q⟩
    | ret u => obtain ⟨v, σ', H', J', r, q⟩ := res; exact ⟨v, σ', H', J'.ofTry ok, r, q⟩
/-- isinstance(e, C), e of the very class C -/
def rIsErr : List V → Hp → VK → Prop := fun xs H Q => ∃ (a C d : Addr), xs = [.ref a, .ref C] ∧ H a = some (ErrO C d a) ∧ Q (.bl true) H
theorem err_ans {a C : Addr} : Answers (fun s => ∃ oe, s.heap.get? a = some oe ∧ oe.cls = .ref C) (.ref a) (.ref C) true := by
  intro dep tk prog w A R s hs
  obtain ⟨⟨oe, he, hcl⟩, hq⟩ := hs
  unfold Builtin.«isinstance.nested»
  refine wpAny_bind (wpAny_typeOf_ref he ?_)
  rw [hcl, if_pos (beq_self_eq_true (Value.ref C))]
  first
    | exact wpAny_bind (wpAny_rule (wpAny_pure (hq _)))
    | exact wpAny_bind (wpAny_rule (hq _))
theorem call_isErr : CallR X (.builtin "isinstance") rIsErr := by
  intro pp s σ H xs vus Q I r h
  obtain ⟨a, C, d, rfl, ha, q⟩ := h
  obtain ⟨oe, fv, he, hz, hf⟩ := err_get I ha
  obtain ⟨u1, u2, rfl, r1, r2⟩ : ∃ u1 u2, vus = [u1, u2] ∧ RelV (.ref a) u1 ∧ RelV (.ref C) u2 := by
    cases r with
    | cons r rr => cases rr with | cons r' rr => cases rr; exact ⟨_, _, rfl, r, r'⟩
  cases r1; cases r2
  exact call_isinstance (S := fun _ R s => (∃ oe, s.heap.get? a = some oe ∧ oe.cls = .ref C) ∧ ∀ tk, R (.ok (.ret (.bool true))) { s with toks := tk })
    (fun prog w A R s hs => isinstance_outer (err_ans 0 _ prog w A R s hs) (fun z => nomatch z)) ⟨⟨oe, he, hz.1⟩, fun tk => ⟨.bl true, H, I.kept (t' := tk) fun _ _ z => z, rfl, q⟩⟩
/-- e.f, e a caught exception of an own class -/
def tErrF (K : PySem.W.Frag) (f : Str) (te : TE) : TE := fun σ H Q => te σ H fun x H1 => ∃ (a C d : Addr) (fs : List (Str × V)) (v : V), x = .ref a ∧ H1 a = some (ErrO C d a) ∧ XfC K C ∧ PySem.W.findIn K (.ref C) f = some none ∧ H1 d = some (.xd fs) ∧ fs.lookup f = some v ∧ Q v H1
theorem pe_errF {e : Expr} {te : TE} {pos : Pos} {f : Str} (he : PE X e te) (hb : attributeBase e f X.env (eval e X.env) = eval e X.env := by rfl) : PE X (.Attribute e f pos) (tErrF X.K f te) := by
  refine ⟨fun pp s σ H Q I h => attr_of hb (thn (he.run pp s σ H _ I h) fun u s1 hh => ?_)⟩
  obtain ⟨y, H1, I1, rxu, a, C, d, fs, v, rfl, ha, T, hno, hd, l, q⟩ := hh
  obtain rfl : u = Value.ref a := rxu
  obtain ⟨oe, fv, h1, hz, hfv⟩ := err_get I1 ha
  obtain ⟨mA, nsd, hr⟩ := (show ObjOk X.prog X.w H1 s1.heap d (.xd fs) from I1.hok d _ hd)
  obtain ⟨odd_, look_, lkd⟩ := lookIn_ns nsd
  obtain ⟨u2, atu, rvu⟩ := RelO.some_of (v := v) (o := mA f) (by rw [← l]; exact hr f)
  have J : PySem.W.InstAt s1.heap a oe C (some odd_) := ⟨h1, hz.1, by unfold PySem.W.notCls; rw [hfv] <;> rfl, by rw [hz.2]; exact look_⟩
  exact HandSPX.exc_get I1.kIn J T.ga T.gg T.exC (PySem.W.findObj_own T.hdC hno rfl (by rw [lkd, atu])) (handed_of rvu) ⟨v, H1, I1.tok _, rvu, q⟩
end
end K00

set_option maxRecDepth 100000
set_option maxHeartbeats 4000000
/-! k00: lambdas that are kept, and called by the def that they are handed to. -/
namespace K00
open PySem PySem.Spec PyProof.Rows L2 LamX
/-- a lambda's text -/
structure LamD where
  params : Arguments
  body : Expr
  scope : Scope
/-- the lambda at f: made in X -/
def LamO (X : Cx) (D : LamD) (f c' : Addr) : HO := .ext fun h => ∃ pm ctv : Value, h.get? f = some (PySem.W.kla_obj "<lambda>" (X.env.qual ++ "<lambda>") D.params D.body D.scope (cloFrom X.env.cells D.scope.names []) pm c' ctv)
/-- a known lambda and its code -/
def IsLam (X : Cx) (D : LamD) (f : Addr) (H : Hp) : Prop := ∃ c', H f = some (LamO X D f c') ∧ H c' = some (CodeO c' (X.env.qual ++ "<lambda>"))
theorem IsLam.ext {X : Cx} {D : LamD} {f : Addr} {H H' : Hp} (h : IsLam X D f H) (e : ExtN H H') : IsLam X D f H' := by
  obtain ⟨c', h1, h2⟩ := h
  exact ⟨c', e _ _ h1 (fun ps z => by unfold LamO at z; cases z), e _ _ h2 codeO_ne⟩
section
variable {X : Cx} {pins : List (Addr × Obj)} {σ : L2.St} {H : Hp} {s : Shared}
theorem lamO_ok {P : Program} {w : World} {H : Hp} {h : Heap} {D : LamD} {f c' : Addr} {pm ctv : Value} (e : h.get? f = some (PySem.W.kla_obj "<lambda>" (X.env.qual ++ "<lambda>") D.params D.body D.scope (cloFrom X.env.cells D.scope.names []) pm c' ctv)) : ObjOk P w H h f (LamO X D f c') :=
  ⟨⟨pm, ctv, e⟩, ⟨_, e⟩, fun _ _ ⟨a, b, e1⟩ k => ⟨a, b, k _ e1⟩⟩
/-- what the making asks: the maker's code object and table, the tables at hand -/
structure LamM (X : Cx) (T : List (Addr × Str)) (c P : Addr) : Prop where
  tb : TabB X.base X.mg c P
  code : X.env.code = .ref c
  mem : (P, X.env.qual ++ "<lambda>") ∈ T
  one : ∀ p ∈ T, p.1 = P → p.2 = X.env.qual ++ "<lambda>"
def tLamE (X : Cx) (T : List (Addr × Str)) (D : LamD) : TE := fun σ H Q => Tabs T H ∧ ∀ f H1, ExtN H H1 → Tabs T H1 → IsLam X D f H1 → H f = none → Q (.ref f) H1
theorem pe_lam {T : List (Addr × Str)} {c P : Addr} {params : Arguments} {body : Expr} {scope : Scope} {pos : Pos} (M : LamM X T c P) (L : LamS X.env.scope scope) (hdef : defaultsOf params X.env = ([], [])) : PE X (.Lambda params body scope pos) (tLamE X T ⟨params, body, scope⟩) := by
  refine ⟨fun pins s σ H Q I ⟨hT, q⟩ => ?_⟩
  obtain ⟨tbl, tblP, tri, all⟩ := hT _ M.mem
  have hP' : s.heap.get? P = some { cls := .none, data := .fields tbl } := I.hok P _ tblP
  have hcl := closure_ok (L.has I.ok)
  refine PySem.W.kla_eval hdef ?_
  cases hca : codeAmong pos tbl.toList with
  | some cv =>
    obtain ⟨c', rfl, hco⟩ := all pos cv hca
    refine PySem.W.kla_makeFunctionHit (mg := X.mg) (c := c) (P := P) (ps := tbl) hcl I.ok.glob (I.mod.glob.keeps I.bk) M.code (M.tb.code.keeps I.bk) hP' tri hca (M.tb.bm.keeps I.bk) fun ctv h' tk kept_ szle => ?_
    have I1 : Inv X pins σ H { s with heap := h', toks := tk } := I.kept kept_
    have nf : H h'.objs.size = none := I.hok.fresh szle
    have I2 := I1.laid (t' := tk) (o := LamO X ⟨params, body, scope⟩ h'.objs.size c') (h' := h'.push (PySem.W.kla_obj "<lambda>" (X.env.qual ++ "<lambda>") params body scope (cloFrom X.env.cells scope.names []) ((X.mg "__name__").getD .none) c' ctv)) (fun b o e => Heap.get?_push_of_some _ e) (Nat.le_refl _) (lamO_ok (D := ⟨params, body, scope⟩) (Heap.get?_push_size _ rfl))
    have e : ExtN H (upd H h'.objs.size (LamO X ⟨params, body, scope⟩ h'.objs.size c')) := fun b o z _ => by rw [upd_ne (ne_of_none z nf)]; exact z
    exact ⟨.ref h'.objs.size, _, I2, rfl, q _ _ e (hT.ext fun b o z => by rw [upd_ne (ne_of_none z nf)]; exact z) ⟨c', upd_same, e _ _ hco codeO_ne⟩ nf⟩
  | none =>
    refine PySem.W.kla_makeFunction (mg := X.mg) (c := c) (P := P) (ps := tbl) hcl I.ok.glob (I.mod.glob.keeps I.bk) M.code (M.tb.code.keeps I.bk) hP' tri hca M.tb.gP (M.tb.bm.keeps I.bk) fun c' ctv h' tk kept_ gec ltc rec_ htb => ?_
    obtain ⟨c2, oco, flds, t, ecode, hoc, dat, nmq⟩ := rec_
    cases ecode
    have szle : s.heap.objs.size ≤ h'.objs.size := Nat.le_trans gec (Nat.le_of_lt ltc)
    have nn : H c' = none := I.hok.fresh gec
    have I1 := inv_table (t' := tk) (more := #[rawInt pos.line, rawInt pos.col, .ref c']) (h' := h') I tblP (fun b o hb e => kept_ b o hb e) htb gec ⟨oco, flds, t, hoc, dat, nmq⟩
    have nP : h'.objs.size ≠ P := Nat.ne_of_gt (Nat.lt_of_lt_of_le (Heap.lt_size hP') szle)
    have nf0 : H h'.objs.size = none := I.hok.fresh szle
    have nf : upd (upd H P (.tbl (tbl ++ #[rawInt pos.line, rawInt pos.col, .ref c']))) c' (CodeO c' (X.env.qual ++ "<lambda>")) h'.objs.size = none := by rw [upd_ne (Nat.ne_of_gt ltc), upd_ne nP]; exact nf0
    have I2 := I1.laid (t' := tk) (o := LamO X ⟨params, body, scope⟩ h'.objs.size c') (h' := h'.push (PySem.W.kla_obj "<lambda>" (X.env.qual ++ "<lambda>") params body scope (cloFrom X.env.cells scope.names []) ((X.mg "__name__").getD .none) c' ctv)) (fun b o e => Heap.get?_push_of_some _ e) (Nat.le_refl _) (lamO_ok (D := ⟨params, body, scope⟩) (Heap.get?_push_size _ rfl))
    have e1 : ExtN H (upd (upd H P (.tbl (tbl ++ #[rawInt pos.line, rawInt pos.col, .ref c']))) c' (CodeO c' (X.env.qual ++ "<lambda>"))) := fun b o e n => by
      rw [upd_ne (ne_of_none e nn), upd_ne (fun z => n tbl (Option.some.inj (e.symm.trans (by rw [z]; exact tblP))))]
      exact e
    have T1 : Tabs T (upd (upd H P (.tbl (tbl ++ #[rawInt pos.line, rawInt pos.col, .ref c']))) c' (CodeO c' (X.env.qual ++ "<lambda>"))) := fun p hp => by
      have lst_ : (tbl ++ #[rawInt pos.line, rawInt pos.col, .ref c']).toList = tbl.toList ++ [rawInt pos.line, rawInt pos.col, .ref c'] := by simp
      by_cases hb : p.1 = P
      · rw [M.one p hp hb, hb]
        refine ⟨_, by rw [upd_ne (ne_of_none tblP nn), upd_same], by rw [lst_]; exact PySem.TriplesOk_snoc _ _ _ _ tri, fun p' cv hcv => ?_⟩
        rcases among_app _ tri (lst_ ▸ hcv) with z | z
        · obtain ⟨c0, a1, a2⟩ := all p' cv z
          exact ⟨c0, a1, e1 _ _ a2 codeO_ne⟩
        · exact ⟨c', z, upd_same⟩
      · obtain ⟨ps', a1, a2, a3⟩ := hT p hp
        refine ⟨ps', by rw [upd_ne (ne_of_none a1 nn), upd_ne hb]; exact a1, a2, fun p' cv hcv => ?_⟩
        obtain ⟨c0, b1, b2⟩ := a3 p' cv hcv
        exact ⟨c0, b1, e1 _ _ b2 codeO_ne⟩
    have keep : ∀ b o, upd (upd H P (.tbl (tbl ++ #[rawInt pos.line, rawInt pos.col, .ref c']))) c' (CodeO c' (X.env.qual ++ "<lambda>")) b = some o → upd (upd (upd H P (.tbl (tbl ++ #[rawInt pos.line, rawInt pos.col, .ref c']))) c' (CodeO c' (X.env.qual ++ "<lambda>"))) h'.objs.size (LamO X ⟨params, body, scope⟩ h'.objs.size c') b = some o := fun b o z => by
      rw [upd_ne (ne_of_none z nf)]; exact z
    exact ⟨.ref h'.objs.size, _, I2, rfl, q _ _ (e1.trans (ExtN.of keep)) (T1.ext keep) ⟨c', upd_same, keep _ _ upd_same⟩ nf0⟩
variable {HZ : Hp} {s1 : Shared}
/-- x(), in the def that got a known lambda: entered at s, X as it stood -/
theorem pe_actT {Ng : List Str} {qg : Str} {sg : Scope} {g f : Addr} {cdg : Value} {D : LamD} {CXg : CXT} {Eg : XK} {k i : Nat} {a : Str} {pn : List (Addr × Obj)} {xe : Value → Shared → Prop} {W : WX} {tb : XK → TE} {pp1 pp2 : Pos}
    (I : Inv X pins σ H s) (L : LamS X.env.scope D.scope) (hbind : ∀ (pm cv ctv : Value), bindArgs (PySem.W.kla_fn "<lambda>" (X.env.qual ++ "<lambda>") D.params D.body D.scope (cloFrom X.env.cells D.scope.names []) pm cv ctv) ⟨[], []⟩ = pure [])
    (tk : Takes ((cxOf CXg X.prog X.w X.K X.mg X.base Ng qg sg g cdg X.A X.stack s H Eg).tr pn xe) W) (hr : Room (k + 1) (X.A.deeper (envOfC qg sg s.heap.objs.size g cdg)))
    (hbody : ∀ (A : Around) (outer : List Env) (s : Shared) (H : Hp) (E : XK) (c' : Addr), Room k (A.deeper (lamEnv X D.scope s.heap.objs.size f c')) → PE (lamCx X A outer s H E D.scope f c') D.body (tb E))
    (hNg : Ng[i]? = some a) (hvis : Vis sg a) (dbg : (a == ("__debug__" : Str)) = false := by decide) (cdc : (a == ("__classdict__" : Str)) = false := by decide) :
    PE ((cxOf CXg X.prog X.w X.K X.mg X.base Ng qg sg g cdg X.A X.stack s H Eg).tr pn xe) (.Call (.Name a pp1) [] [] pp2)
      (fun σZ HZ Q => σZ[i]? = some (some (.ref f)) ∧ IsLam X D f HZ ∧ tb (fun cls d H' => W cls d σZ H') σ HZ Q) := by
  refine ⟨fun pinsZ sZ σZ HZ Q IZe ⟨slot, ⟨c', lamf, cod⟩, tbq⟩ => ?_⟩
  refine wpAny_Call_Name_kw (thn ((pe_var (pos := pp1) (i := i) hNg hvis dbg cdc).run pinsZ sZ σZ HZ (fun v H1 => v = .ref f ∧ H1 = HZ) IZe ⟨.ref f, slot, rfl, rfl⟩) fun u s1 ⟨v, H1, IA, rA, ev, eH⟩ => ?_)
  subst ev
  rw [eH] at IA
  obtain rfl : u = Value.ref f := rA
  obtain ⟨⟨pm, ctv, atf⟩, _, _⟩ := IA.hok f _ lamf
  obtain ⟨⟨oco, flds, t, atc, datc, nmc⟩, _, _⟩ := IA.hok c' _ cod
  refine PySem.W.callWith_F0 ⟨_, _, _, _, atf⟩ ?_
  have base_ : Un (frs X.stack) [] H HZ s.heap s1.heap := IA.base
  have run_ : codeAny (model X.prog X.w) (X.A.deeper (envOfC qg sg s.heap.objs.size g cdg)) (.call (.ref f) ⟨[], []⟩) (CR (L2.CX X.prog X.w) (envOfC qg sg s.heap.objs.size g cdg :: X.stack) X.prog X.w HZ s1 Q (fun cls d H' => W cls d σZ H')) s1 := by
    refine PySem.W.kla_callFunE hr.depth atf rfl L.co L.gen rfl ⟨c', oco, flds, t, rfl, atc, datc, nmc⟩ ?_
    rw [hbind]
    refine wpAny_pure (wpAny_newFunctionEnv (fun y hy => (L.own y hy).2) (fun y hy => absurd hy (by simp)) (fun h₁ nsn sbt => ⟨IA.nolimit.fresh _ sbt, ?_⟩) L.kind)
    show codeAny _ _ (.expr D.body (lamEnv X D.scope s1.heap.objs.size f c')) _ _
    have J : Inv (lamCx X (X.A.deeper (envOfC qg sg s.heap.objs.size g cdg)) (envOfC qg sg s.heap.objs.size g cdg :: X.stack) s1 HZ (fun cls d H' => W cls d σZ H') D.scope f c') [] σ HZ { s1 with heap := h₁, toks := s1.toks + ([] : List (Str × Value)).length } :=
      lam_start2 I L IA.env0 hr.hd base_ nsn fun b o e => sbt.extBut b o (Nat.ne_of_lt (Heap.lt_size e)) (Heap.get?_push_of_some _ e)
    refine PySem.W.kla_codeExpr (wpAny_mono ((hbody _ _ s1 HZ _ c' (hr.deeper _)).run [] _ _ HZ Q J tbq) (fun v s' ⟨w', H', J', rv, q⟩ => ⟨w', H', J'.os, J'.bare, J'.base, J'.hok, rv, q⟩) fun e s' hq => hq)
  refine wpAny_call (codeAny_mono run_ fun r s' hq => ?_)
  cases r with
  | error e => exact tk e s' (XE.of_call IA (fun cls d H' h => h) hq)
  | ok fl => cases fl with
    | ret u => exact IA.after hq
    | next => exact False.elim hq
    | brk => exact False.elim hq
    | cont => exact False.elim hq
/-- what the hearing makes of an error of the package, and of none -/
def HErr (K : PySem.W.Frag) (CS : Addr) (Q : VK) : XK := fun cls d H' => PySem.W.exmOne K cls (.ref CS) = some true ∧ ∃ (C dd : Addr), cls = .ref C ∧ d = some dd ∧
  ∀ a p, H' a = none → upd H' a (ErrO C dd a) p = none → Q (.ref p) (upd (upd H' a (ErrO C dd a)) p (.tup [.ref a, .non]))
def HBack (Q : VK) : VK := fun v H' => ∀ p, H' p = none → Q (.ref p) (upd H' p (.tup [.non, v]))
def TH (K : PySem.W.Frag) (CS : Addr) (tb : XK → TE) : TE := fun σ H Q => ∀ (E : XK) (Q' : VK), (∀ cls d H', HErr K CS Q cls d H' → E cls d H') → (∀ v H', HBack Q v H' → Q' v H') → tb E σ H Q'
def tHeard (X : Cx) {ι : Type} (CS : Addr) (D : ι → LamD) (tb : ι → XK → TE) (te : TE) : TE := fun σ H Q => te σ H fun v H1 => ∃ (j : ι) (f : Addr), v = .ref f ∧ IsLam X (D j) f H1 ∧ ∀ H2, Same H1 H2 → TH X.K CS (tb j) σ H2 Q
theorem scHeard : FnScope ["call", "caught", "back", "error"] ["call"] (defScope sHeard) := ⟨rfl, rfl, rfl, by decide +kernel, rfl, by decide +kernel, by decide +kernel⟩
theorem pe_heard {ι : Type} {D : ι → LamD} {tb : ι → XK → TE} {te : TE} {g CS : Addr} {fd : FuncData} {e : Expr} {k : Nat} {p pos : Pos} (F : Fun X.K "_law_heard" "_law_heard" sHeard g fd) (b : L2.Binds X.K fd ["call"] []) (hg : Gl X "_law_heard") (hm : X.mg "_law_heard" = some (.ref g))
    (gS : X.mg "CoreError" = some (.ref CS)) (hr : Room (k + 2) X.A) (he : PE X e te) (L : ∀ j, LamS X.env.scope (D j).scope)
    (hbind : ∀ (j : ι) (pm cv ctv : Value), bindArgs (PySem.W.kla_fn "<lambda>" (X.env.qual ++ "<lambda>") (D j).params (D j).body (D j).scope (cloFrom X.env.cells (D j).scope.names []) pm cv ctv) ⟨[], []⟩ = pure [])
    (hbody : ∀ (j : ι) (A : Around) (outer : List Env) (s : Shared) (H : Hp) (E : XK) (f c' : Addr), Room k (A.deeper (lamEnv X (D j).scope s.heap.objs.size f c')) → PE (lamCx X A outer s H E (D j).scope f c') (D j).body (tb j E))
    (hs : starEach [e] X.env = (false, eval e X.env) :: starEach [] X.env := by rfl) (hpl : (backTo pos (starEach [] X.env)).any (·.1) = false := by rfl) :
    PE X (.Call (.Name "_law_heard" p) [e] [] pos) (tHeard X CS D tb te) := by
  obtain ⟨oc, od, kV, doc, pm, an, cdv, ct, osl, rfl, lk, hcd⟩ := F.ex
  refine ⟨fun pins s σ H Q I h => wpAny_Call_Name_kw (ld_glob I hg hm ?_ (by decide))⟩
  refine PySem.W.callWith_K (h₀ := X.base) I.ok.mod.kin F.kp ?_ hs hpl
  rw [hs] at *
  refine Calls.spliced_cons (thn (he.run pins s σ H _ I h) fun u s1 ⟨v, H1, I1, r1, j, f, ev, hl, th⟩ => Calls.spliced_nil ⟨I1.kIn, ?_⟩)
  subst ev
  obtain rfl : u = Value.ref f := r1
  have rc : codeAny (model X.prog X.w) X.A (.call (.ref g) ⟨[.ref f], []⟩) (CR CX0 X.stack X.prog X.w H1 s1 Q (fun _ _ _ => False)) s1 := by
    refine run_ofS (N := ["call", "caught", "back", "error"]) (ps := ["call"]) (us := [.ref f]) (vs := [.ref f]) lk hcd scHeard hr I1.env0 (b s1 [.ref f] I1.kIn rfl) (.cons rfl .nil) rfl fun hr' => ?_
    have hge : (defScope sHeard).names.lookup (Str.ofString "CoreError") = some NameKind.globalImplicit := by decide +kernel
    refine ⟨_, PSs.nox (pss_cons (ps_asg (pe_tup (pa_cons pe_non (pa_cons pe_non pa_nil))) (pg_tup (by rfl) (pgs_cons (pg_name (i := 1) scHeard.nd rfl (.inl rfl)) (pgs_cons (pg_name (i := 2) scHeard.nd rfl (.inl rfl)) pgs_nil))))
      (pss_cons (ps_heard (c := .ref CS) (i := 3) rfl rfl scHeard.nd rfl rfl ⟨hge, by decide, .inl gS⟩
        (fun W pn xe tk _ => pss_one (ps_set (i := 2) scHeard.nd rfl (.inl rfl) (pe_actT (CXg := CX0) (Eg := fun _ _ _ => False) (i := 0) I1 (L j) (hbind j) tk hr' (fun A outer s H E c' hr2 => hbody j A outer s H E f c' hr2) rfl (.inl rfl))))
        (fun a oe cls d pn _ _ => pss_one (ps_set (i := 1) scHeard.nd rfl (.inl rfl) (pv 3))))
      (pss_one (ps_ret (pe_tup (pa_cons (pv 1) (pa_cons (pv 2) pa_nil))))))), ?_⟩
    refine ⟨by show 2 ≤ sizeLine; decide, fun pn nn => ⟨pn, [.non, .non], rfl, SqT.of upd_same, rfl, .non, [.non], rfl, .non, [], rfl, rfl, rfl, hl.ext (ExtN.of (same_upd nn)), th _ (same_upd nn) _ _ (fun cls d H' hE => ?_) fun v H' hB => ?_⟩⟩
    · obtain ⟨h1, C, dd, h2, h3, h4⟩ := hE
      refine ⟨h1, C, dd, h2, h3, fun a na => ?_⟩
      exact ⟨_, rfl, fun na2 => ⟨_, rfl, _, rfl, by show 2 ≤ sizeLine; decide, fun p hp => h4 a p na hp⟩⟩
    · exact ⟨_, rfl, _, rfl, by show 2 ≤ sizeLine; decide, fun p hp => hB p hp⟩
  refine wpAny_call (codeAny_mono rc fun r s2 hq => ?_)
  cases r with
  | error e => exact (show False from hq).elim
  | ok fl => cases fl with
    | ret u => exact I1.after hq
    | next => exact False.elim hq
    | brk => exact False.elim hq
    | cont => exact False.elim hq
end
end K00

set_option maxRecDepth 100000
set_option maxHeartbeats 4000000
/-! k00: repr; functions that are called with nothing under way. -/
namespace K00
open PySem PySem.Spec PyProof.Rows L2 LamX
def isDict : PyData → Bool
  | .dict _ => true
  | _ => false
/-- data of a kind that can be shown, and compared -/
def okData (d : PyData) : Bool := d.leavesShort 13 && (decide (d.weight ≤ 2 ^ 20) && (d.showable && (decide (d.depth ≤ 8) && (d.canLay0 || isDict d))))
theorem okData.parts {d : PyData} (h : okData d = true) : d.leavesShort 13 = true ∧ d.weight ≤ 2 ^ 20 ∧ d.showable = true ∧ d.depth ≤ 8 ∧ (d.canLay0 = true ∨ isDict d = true) := by
  unfold okData at h
  simp only [Bool.and_eq_true, Bool.or_eq_true, decide_eq_true_eq] at h
  exact h
theorem okData.fits {d : PyData} (h : okData d = true) : d.shown.length ≤ sizeLine := PyData.shown_fits (B := 13) (by decide) (by decide) (okData.parts h).1 (okData.parts h).2.1
theorem okData.shaped {d : PyData} (h : okData d = true) : ∀ ds, d = .tuple ds → SeqAt.shaped d = true := fun ds e => by
  obtain ⟨_, _, _, h4, h5⟩ := okData.parts h
  subst e
  unfold SeqAt.shaped
  rw [Bool.and_eq_true, decide_eq_true_eq]
  exact ⟨h5.elim id (fun z => nomatch z), by omega⟩
mutual
theorem lay_noDict : ∀ d : PyData, d.canLay0 = true → d.hasDict = false
  | .none, _ => rfl
  | .bool _, _ => rfl
  | .int _, _ => rfl
  | .str _, _ => rfl
  | .list xs, h => by
    simp only [PyData.canLay0] at h
    simp only [PyData.hasDict]
    exact lay_noDictAll xs h
  | .tuple xs, h => by
    simp only [PyData.canLay0] at h
    simp only [PyData.hasDict]
    exact lay_noDictAll xs h
  | .dict _, h => by simp [PyData.canLay0] at h
theorem lay_noDictAll : ∀ ds : List PyData, PyData.canLayAll0 ds = true → PyData.hasDictAll ds = false
  | [], _ => rfl
  | d :: ds, h => by
    simp only [PyData.canLayAll0, Bool.and_eq_true] at h
    simp only [PyData.hasDictAll, lay_noDict d h.1, lay_noDictAll ds h.2, Bool.or_false]
end
section
variable {X : Cx} {pins : List (Addr × Obj)} {σ : L2.St} {H : Hp} {s : Shared}
theorem dk_reads (I : Inv X pins σ H s) {d : PyData} {v : V} {u : Value} (h : Dk X.K H v d) (r : RelV v u) : ∃ as, Reads s.heap u d as ∧ (d.hasDict = true → isDict d = true → sysModules ∉ as) := by
  cases h with
  | dp h =>
    obtain ⟨as, hr⟩ := Dp.reads I d v u h r
    refine ⟨as, hr, fun _ z => ?_⟩
    cases h <;> cases z
  | @d0 a h =>
    cases r
    obtain ⟨_, hsys, ws, rel, od, des, dep, ho, hex, hdat, _, hp, _⟩ := dk_of I.hok h
    cases rel
    have e : des = #[] := by
      cases des with | mk l => cases hp; rfl
    subst e
    refine ⟨_, Reads.dict (kvs := []) ho hex.1 hdat .nil .nil, fun _ _ hm => ?_⟩
    rcases List.mem_append.mp hm with hm | hm
    · rcases List.mem_cons.mp hm with rfl | hm
      · rw [beq_self_eq_true] at hsys; cases hsys
      · cases hm
    · cases hm
  | @d1 a h =>
    cases r
    obtain ⟨_, hsys, ws, rel, od, des, dep, ho, hex, hdat, _, hp, _⟩ := dk_of I.hok h
    cases rel with
    | @cons _ q _ _ h1 h2 =>
      cases h2
      obtain ⟨k, u⟩ := q
      obtain ⟨e1, e2⟩ := h1
      cases e1
      obtain ⟨t, rfl⟩ := e2
      cases des with
      | mk l =>
        cases hp with
        | @cons e _ es _ p1 p2 p3 =>
          cases p3
          obtain ⟨tk, ek⟩ := Value.isStrOf_shape (x := Str.ofString "a") (v := e.key) p1
          refine ⟨_, Reads.dict (kvs := [(.str "a", .int 1)]) ho hex.1 hdat (.cons (show Reads s.heap e.key (PyData.str "a") [] from by rw [ek]; exact .str _ _) .nil) (.cons (show Reads s.heap e.val (PyData.int 1) [] from by rw [p2]; exact .int _ _) .nil), fun _ _ hm => ?_⟩
          rcases List.mem_append.mp hm with hm | hm
          · rcases List.mem_cons.mp hm with rfl | hm
            · rw [beq_self_eq_true] at hsys; cases hsys
            · cases hm
          · cases hm
/-- repr(x), x data; nothing under way -/
def rRepr (K : PySem.W.Frag) : List V → Hp → VK → Prop := fun xs H Q => ∃ (v : V) (d : PyData), xs = [v] ∧ Dk K H v d ∧ okData d = true ∧ Q (.str d.shown) H
theorem call_repr (hg : X.A.guards = some []) (hu : X.A.units + 64 < cLine) : CallR X (.builtin "repr") (rRepr X.K) := by
  intro pins s σ H xs us Q I r h
  obtain ⟨v, d, rfl, hd, ho, q⟩ := h
  obtain ⟨u, rfl, rv⟩ := vals1 r
  obtain ⟨h1, h2, h3, h4, h5⟩ := okData.parts ho
  have fits := okData.fits ho
  obtain ⟨as, hr, hsys⟩ := dk_reads I hd rv
  have at_ref : ∀ a : Addr, u = .ref a → wpAny (model X.prog X.w) X.A (call (.builtin "repr") [u]) (EP X pins σ Q) X.xe s := fun a e => by
    subst e
    refine repr_of_reads' hr h3 (fun z => hsys z ?_) hg (by omega) (fun _ _ e => e) (fun h' w tk hk => ⟨.str d.shown, H, I.kept (t' := tk) hk, ⟨w, rfl⟩, q⟩) fits
    rcases h5 with c | c
    · rw [lay_noDict d c] at z; cases z
    · exact c
  cases hd with
  | d0 h => exact at_ref _ rv
  | d1 h => exact at_ref _ rv
  | dp hd =>
    cases hd with
    | lst _ _ => exact at_ref _ rv
    | tup _ _ => exact at_ref _ rv
    | non => cases rv; exact PySem.P.repr_of_none ⟨.str "None", H, I.tok _, ⟨_, rfl⟩, q⟩
    | bl b => cases rv; exact PySem.P.repr_of_bool ⟨.str (if b then "True" else "False"), H, I.tok _, ⟨_, by cases b <;> rfl⟩, by cases b <;> exact q⟩
    | int i =>
      obtain ⟨t, rfl⟩ := rv
      exact PySem.P.repr_of_int (by simpa [PyData.showable] using h3) ⟨.str (toString i), H, I.tok _, ⟨_, rfl⟩, q⟩
    | str x =>
      obtain ⟨t, rfl⟩ := rv
      exact PySem.P.repr_of_str ⟨.str (reprText x), H, I.tok _, ⟨_, rfl⟩, q⟩ fits
end
end K00

set_option maxRecDepth 100000
set_option maxHeartbeats 4000000
/-! k00: functions that are called with no repr under way. -/
namespace K00
open PySem PySem.Spec PyProof.Rows L2 LamX
/-- as FnOk, of the rooms in which nothing guarded is under way -/
structure FnG (P : Program) (w : World) (K : PySem.W.Frag) (mg : Str → Option Value) (base : Heap) (k : Nat) (f : Addr) (fd : FuncData) (ps : List Str) (sp : Sp) : Prop where
  len : ∀ vs H Q E, sp vs H Q E → vs.length = ps.length
  run : ∀ (A : Around) (outer : List Env) (s : Shared) (H : Hp) (args : Args) (us : List Value) (vs : List V) (Q : VK), Room k A → A.guards = some [] → Env0 P w K mg base A outer s H → BindsTo s fd args (ps.zip us) → Vals vs us → sp vs H Q E0 →
    codeAny (model P w) A (.call (.ref f) args) (CR CX0 outer P w H s Q E0) s
section
variable {P : Program} {w : World} {K : PySem.W.Frag} {mg : Str → Option Value} {base : Heap}
theorem fnG_of {x qual : Str} {st : Stmt} {f : Addr} {fd : FuncData} {N ps : List Str} {k : Nat} {sp : Sp} (F : Fun K x qual st f fd) (S : FnScope N ps (defScope st)) (len : ∀ vs H Q E, sp vs H Q E → vs.length = ps.length)
    (hbody : ∀ (cdv : Value) (A : Around) (outer : List Env) (s : Shared) (H : Hp) (vs : List V) (Q : VK), Room k (A.deeper (envOfC qual (defScope st) s.heap.objs.size f cdv)) → (A.deeper (envOfC qual (defScope st) s.heap.objs.size f cdv)).guards = some [] → sp vs H Q E0 →
      ∃ t, PSs (cxOf CX0 P w K mg base N qual (defScope st) f cdv A outer s H E0).nox (defBody st) t ∧ t { nx := fun _ H' => Q .non H', rt := Q } (L2.start N vs) H) : FnG P w K mg base (k + 1) f fd ps sp := by
  obtain ⟨oc, od, kV, doc, pm, an, cdv, ct, osl, rfl, lk, hcd⟩ := F.ex
  refine ⟨len, fun A outer s H args us vs Q hr hg e0 hb r hsp => ?_⟩
  exact run_ofS lk hcd S hr e0 hb r (len _ _ _ _ hsp) fun hr' => by
    obtain ⟨t, h, q⟩ := hbody cdv A outer s H vs Q hr' hg hsp
    exact ⟨t, h.nox, q⟩
theorem FnG.ofOk {k : Nat} {f : Addr} {fd : FuncData} {ps : List Str} {sp : Sp} (F : FnOk P w K mg base CX0 k f fd ps sp) : FnG P w K mg base k f fd ps sp := ⟨F.len, fun A outer s H args us vs Q hr _ e0 hb r h => F.run A outer s H args us vs Q E0 hr e0 hb r h⟩
end
section
variable {X : Cx} {k : Nat} {f : Addr} {fd : FuncData} {ps : List Str} {sp : Sp} {x : Str} {p pos : Pos} {e : Expr} {es : List Expr} {t : TA}
theorem pe_callG (F : FnG X.prog X.w X.K X.mg X.base k f fd ps sp) (hr : Room k X.A) (gd : X.A.guards = some []) (hg : Gl X x) (hm : X.mg x = some (.ref f)) (hk : PySem.W.keepIn X.K (.ref f) = true) (hb : L2.Binds X.K fd ps [])
    (ha : PA X (e :: es) t) (hdb : (x == ("__debug__" : Str)) = false := by decide) (he : starEach (e :: es) X.env = (false, eval e X.env) :: starEach es X.env := by rfl) (hpl : (backTo pos (starEach es X.env)).any (·.1) = false := by rfl) :
    PE X (.Call (.Name x p) (e :: es) [] pos) (tCall sp [] E0 t) := by
  refine ⟨fun pins s σ H Q I h => wpAny_Call_Name_kw (ld_glob I hg hm ?_ hdb)⟩
  refine PySem.W.callWith_K (h₀ := X.base) I.ok.mod.kin hk (thn (ha.run pos pins s σ H _ I h) fun us s1 ⟨vs, H1, I1, r, q⟩ => ⟨I1.kIn, ?_⟩) he hpl
  have q' : sp vs H1 Q E0 := by
    have q0 : sp (vs ++ []) H1 Q E0 := q
    rw [List.append_nil] at q0
    exact q0
  have hl : us.length = ps.length := by rw [← r.length]; exact F.len _ _ _ _ q'
  have bt : BindsTo s1 fd ⟨us, []⟩ (ps.zip us) := by
    have z := hb s1 us I1.kIn (by rw [List.append_nil]; exact hl)
    rw [List.append_nil] at z
    exact z
  refine wpAny_call (codeAny_mono (F.run X.A X.stack s1 H1 ⟨us, []⟩ us vs Q hr gd I1.env0 bt r q') fun r s' hq => ?_)
  cases r with
  | error e => exact (show False from hq).elim
  | ok fl => cases fl with
    | ret u => exact I1.after hq
    | next => exact False.elim hq
    | brk => exact False.elim hq
    | cont => exact False.elim hq
end
end K00

set_option maxRecDepth 100000
set_option maxHeartbeats 4000000
/-! k00: a value of any kind. -/
namespace K00
open PySem PySem.Spec PyProof.Rows L2
/-- what stands in H', without what was a list in H -/
def nl (H H' : Hp) : Hp := fun b => match H b with
  | some (.lst _) => none
  | _ => H' b
theorem nl_not {H H' : Hp} {c : Addr} (h : ∀ xs, H c ≠ some (.lst xs)) : nl H H' c = H' c := by
  unfold nl
  split
  · exact absurd ‹_› (h _)
  · rfl
theorem nl_new {H H' : Hp} {c : Addr} (h : H c = none) : nl H H' c = H' c := nl_not fun xs z => by rw [h] at z; cases z
theorem nl_lst {H H' : Hp} {c : Addr} {xs : List V} (h : H c = some (.lst xs)) : nl H H' c = none := by
  unfold nl
  rw [h]
/-- what is found there was no list -/
theorem nl_out {H H' : Hp} {c : Addr} {o : HO} (h : nl H H' c = some o) : (∀ xs, H c ≠ some (.lst xs)) ∧ H' c = some o := by
  have a : ∀ xs, H c ≠ some (.lst xs) := fun xs z => by rw [nl_lst z] at h; cases h
  exact ⟨a, by rw [nl_not a] at h; exact h⟩
theorem nl_at {H H' : Hp} {p c : Addr} {o : HO} (g : Same (wo H p) (wo H' p)) (h : wo H' p c = some o) (no : ∀ xs, o ≠ .lst xs) : nl H H' c = some o := by
  have ne : c ≠ p := fun z => by rw [z, wo_same] at h; cases h
  rw [nl_not fun xs z => ?_]
  · exact wo_le _ _ h
  · have e := g _ _ (wo_at z ne)
    rw [h] at e
    exact no xs (Option.some.inj e)
theorem nl_wo {H H' : Hp} {p : Addr} (hp : ∃ xs, H p = some (.lst xs)) : Same (nl H H') (wo H' p) := fun b o e => by
  obtain ⟨xs, hp⟩ := hp
  obtain ⟨a, e⟩ := nl_out e
  exact wo_at e fun z => a xs (z ▸ hp)
theorem nl_fresh {H H' : Hp} {p c : Addr} (g : Same (wo H p) (wo H' p)) (h : H' c = none) (ne : c ≠ p) : H c = none := by
  cases e : H c with
  | none => rfl
  | some o =>
    have z := wo_le _ _ (g _ _ (wo_at e ne))
    rw [h] at z
    cases z
theorem nl_mono {H H1 H2 H3 : Hp} {p : Addr} (g : Same (wo H p) (wo H1 p)) (hp : ∃ xs, H1 p = some (.lst xs)) (s : Same H2 H3) : Same (nl H1 H2) (nl H H3) := fun b o e => by
  obtain ⟨ys, hp⟩ := hp
  obtain ⟨a, e⟩ := nl_out e
  have ne : b ≠ p := fun z => a ys (z ▸ hp)
  rw [nl_not fun xs z => a xs (wo_le _ _ (g _ _ (wo_at z ne)))]
  exact s _ _ e
theorem sqT_nl {K : PySem.W.Frag} {H H' : Hp} {p c : Addr} {xs : List V} (g : Same (wo H p) (wo H' p)) (h : SqT K (wo H' p) c xs) : SqT K (nl H H') c xs := by
  rcases h with (h | ⟨o, h⟩) | h
  · exact .inl (.inl (nl_at g h fun _ z => nomatch z))
  · exact .inl (.inr ⟨o, nl_at g h fun _ z => nomatch z⟩)
  · exact .inr h
theorem none_of {H H' : Hp} {c : Addr} (s : Same H H') (h : H' c = none) : H c = none := by
  cases e : H c with
  | none => rfl
  | some o =>
    have z := s _ _ e
    rw [h] at z
    cases z
theorem pot_lst {H : Hp} {p : Addr} {n : Nat} (h : Pot H p n) : ∃ xs, H p = some (.lst xs) := by
  obtain ⟨a, b, c, e, _⟩ := h
  exact ⟨_, e⟩
theorem scOdd : FnScope ["pot", "some"] ["pot"] (defScope sOdd) := ⟨rfl, rfl, rfl, by decide +kernel, rfl, by decide +kernel, by decide +kernel⟩
section
variable {P : Program} {w : World} {K : PySem.W.Frag} {mg : Str → Option Value} {base : Heap}
/-- any value may come: data, apart from the pot -/
def spOdd (K : PySem.W.Frag) : Sp := fun vs H Q _ => ∃ (p : Addr) (n : Nat), vs = [.ref p] ∧ Pot H p n ∧ n < 1000000 ∧ ∀ v d H', Pot H' p (n + 1) → Same (wo H p) (wo H' p) → Dk K (nl H H') v d → okData d = true → Q v H'
theorem ok_odd {f f1 : Addr} {fd fd1 : FuncData} {k : Nat} (F : Fun K "_law_odd" "_law_odd" sOdd f fd) (G1 : FnOk P w K mg base CX0 (k + 2) f1 fd1 ["pot", "some"] (spOf K)) (k1 : PySem.W.keepIn K (.ref f1) = true) (b1 : Binds K fd1 ["pot", "some"] []) (g1 : mg "_law_of" = some (.ref f1)) :
    FnOk P w K mg base CX0 (k + 3) f fd ["pot"] (spOdd K) := by
  refine F.ok scOdd (fun vs H Q E h => ?_) (fun cdv A outer s H vs Q E hr h => ?_)
  · obtain ⟨p, n, rfl, _⟩ := h
    rfl
  · obtain ⟨p, n, rfl, hp, hn, q⟩ := h
    refine ⟨_, pss_cons (ps_set (i := 1) scOdd.nd rfl (.inl rfl) (pe_lst (pa_cons pe_non (pa_cons pe_bl (pa_cons pe_bl (pa_cons pe_int (pa_cons pe_int (pa_cons (pe_un un_neg pe_int) (pa_cons pe_int (pa_cons (pe_op op_pow pe_int pe_int) (pa_cons pe_str (pa_cons pe_str (pa_cons pe_str (pa_cons pe_str (pa_cons pe_str (pa_cons pe_str
        (pa_cons (pe_tup pa_nil) (pa_cons (pe_lst pa_nil) (pa_cons pe_dnewK (pa_cons (pe_tup (pa_cons pe_int pa_nil)) (pa_cons (pe_tup (pa_cons pe_int (pa_cons pe_int pa_nil))) pa_nil)))))))))))))))))))))
      (pss_cons (ps_set (i := 1) scOdd.nd rfl (.inl rfl) (pe_op op_cat (pv 1) (pe_lst (pa_cons (pe_tup (pa_cons pe_int (pa_cons pe_int pa_nil))) (pa_cons (pe_tup (pa_cons (pe_tup pa_nil) pa_nil)) (pa_cons (pe_lst (pa_cons pe_int pa_nil)) (pa_cons (pe_tup (pa_cons pe_non pa_nil))
        (pa_cons (pe_disp (pps_cons pe_str pe_int pps_nil) (by rfl) (by rfl) (fun z => by cases z) (by decide)) (pa_cons (pe_tup (pa_cons pe_bl pa_nil)) (pa_cons pe_str (pa_cons pe_str (pa_cons (pe_tup (pa_cons pe_str pa_nil)) (pa_cons pe_int (pa_cons pe_int (pa_cons pe_int (pa_cons (pe_tup (pa_cons pe_int (pa_cons pe_int pa_nil))) pa_nil))))))))))))))))
      (pss_one (ps_ret (pe_call G1 hr (by rfl) g1 k1 b1 .nil pass0 (pa_cons (pv 0) (pa_cons (pv 1) pa_nil)))))), ?_⟩
    have hpp := hp
    obtain ⟨pa, pb, pc, hpe, _⟩ := hpp
    have p0 : Same H H := Same.refl H
    refine ⟨1, rfl, ?_⟩
    refine ⟨10, 8, rfl, rfl, (by unfold CPow; decide), ?_⟩
    refine ⟨by show 0 ≤ sizeLine; decide, fun c1 nc1 => ?_⟩
    have ec1 : c1 ≠ p := fun z => by have hz := p0 _ _ hpe; rw [← z] at hz; exact absurd (nc1.symm.trans hz) (fun y => nomatch y)
    have sc1 := same_upd (o := .tup []) nc1
    have pc1 := p0.trans sc1
    refine ⟨by show 0 ≤ sizeLine; decide, fun c2 nc2 => ?_⟩
    have ec2 : c2 ≠ p := fun z => by have hz := pc1 _ _ hpe; rw [← z] at hz; exact absurd (nc2.symm.trans hz) (fun y => nomatch y)
    have sc2 := same_upd (o := .lst []) nc2
    have pc2 := pc1.trans sc2
    refine fun c3 nc3 => ?_
    have ec3 : c3 ≠ p := fun z => by have hz := pc2 _ _ hpe; rw [← z] at hz; exact absurd (nc3.symm.trans hz) (fun y => nomatch y)
    have sc3 := same_upd (o := .dK []) nc3
    have pc3 := pc2.trans sc3
    refine ⟨by show 1 ≤ sizeLine; decide, fun c4 nc4 => ?_⟩
    have ec4 : c4 ≠ p := fun z => by have hz := pc3 _ _ hpe; rw [← z] at hz; exact absurd (nc4.symm.trans hz) (fun y => nomatch y)
    have sc4 := same_upd (o := .tup [V.int 0]) nc4
    have pc4 := pc3.trans sc4
    refine ⟨by show 2 ≤ sizeLine; decide, fun c5 nc5 => ?_⟩
    have ec5 : c5 ≠ p := fun z => by have hz := pc4 _ _ hpe; rw [← z] at hz; exact absurd (nc5.symm.trans hz) (fun y => nomatch y)
    have sc5 := same_upd (o := .tup [V.int 0, .int 1]) nc5
    have pc5 := pc4.trans sc5
    refine ⟨by show 19 ≤ sizeLine; decide, fun l1 nl1 => ?_⟩
    have el1 : l1 ≠ p := fun z => by have hz := pc5 _ _ hpe; rw [← z] at hz; exact absurd (nl1.symm.trans hz) (fun y => nomatch y)
    have sl1 := same_upd (o := .lst [V.non, .bl true, .bl false, .int 0, .int 1, .int (-1), .int 7, .int (10 ^ 8), .str "", .str "r", .str "rw", .str "wr", .str "x", .str "set r0 1", .ref c1, .ref c2, .ref c3, .ref c4, .ref c5]) nl1
    have pl1 := pc5.trans sl1
    refine ⟨_, rfl, ?_⟩
    refine ⟨by show 2 ≤ sizeLine; decide, fun d1 nd1 => ?_⟩
    have ed1 : d1 ≠ p := fun z => by have hz := pl1 _ _ hpe; rw [← z] at hz; exact absurd (nd1.symm.trans hz) (fun y => nomatch y)
    have sd1 := same_upd (o := .tup [V.int 1, .int 0]) nd1
    have pd1 := pl1.trans sd1
    refine ⟨by show 0 ≤ sizeLine; decide, fun d2 nd2 => ?_⟩
    have ed2 : d2 ≠ p := fun z => by have hz := pd1 _ _ hpe; rw [← z] at hz; exact absurd (nd2.symm.trans hz) (fun y => nomatch y)
    have sd2 := same_upd (o := .tup []) nd2
    have pd2 := pd1.trans sd2
    refine ⟨by show 1 ≤ sizeLine; decide, fun d3 nd3 => ?_⟩
    have ed3 : d3 ≠ p := fun z => by have hz := pd2 _ _ hpe; rw [← z] at hz; exact absurd (nd3.symm.trans hz) (fun y => nomatch y)
    have sd3 := same_upd (o := .tup [V.ref d2]) nd3
    have pd3 := pd2.trans sd3
    refine ⟨by show 1 ≤ sizeLine; decide, fun d4 nd4 => ?_⟩
    have ed4 : d4 ≠ p := fun z => by have hz := pd3 _ _ hpe; rw [← z] at hz; exact absurd (nd4.symm.trans hz) (fun y => nomatch y)
    have sd4 := same_upd (o := .lst [V.int 0]) nd4
    have pd4 := pd3.trans sd4
    refine ⟨by show 1 ≤ sizeLine; decide, fun d5 nd5 => ?_⟩
    have ed5 : d5 ≠ p := fun z => by have hz := pd4 _ _ hpe; rw [← z] at hz; exact absurd (nd5.symm.trans hz) (fun y => nomatch y)
    have sd5 := same_upd (o := .tup [V.non]) nd5
    have pd5 := pd4.trans sd5
    refine fun d6 nd6 => ⟨upd_same, [(.inr "a", .int 1)], rfl, by decide, ?_⟩
    have ed6 : d6 ≠ p := fun z => by have hz := pd5 _ _ hpe; rw [← z] at hz; exact absurd (nd6.symm.trans hz) (fun y => nomatch y)
    have sd6 := Same.updNew (o := .dK (mergeK [] [((.inr "a" : Key), V.int 1)])) (same_upd (o := .dK []) nd6) nd6
    have pd6 := pd5.trans sd6
    refine ⟨by show 1 ≤ sizeLine; decide, fun d7 nd7 => ?_⟩
    have ed7 : d7 ≠ p := fun z => by have hz := pd6 _ _ hpe; rw [← z] at hz; exact absurd (nd7.symm.trans hz) (fun y => nomatch y)
    have sd7 := same_upd (o := .tup [V.bl true]) nd7
    have pd7 := pd6.trans sd7
    refine ⟨by show 1 ≤ sizeLine; decide, fun d9 nd9 => ?_⟩
    have ed9 : d9 ≠ p := fun z => by have hz := pd7 _ _ hpe; rw [← z] at hz; exact absurd (nd9.symm.trans hz) (fun y => nomatch y)
    have sd9 := same_upd (o := .tup [V.str "r"]) nd9
    have pd9 := pd7.trans sd9
    refine ⟨by show 2 ≤ sizeLine; decide, fun d10 nd10 => ?_⟩
    have ed10 : d10 ≠ p := fun z => by have hz := pd9 _ _ hpe; rw [← z] at hz; exact absurd (nd10.symm.trans hz) (fun y => nomatch y)
    have sd10 := same_upd (o := .tup [V.int 0, .int 16]) nd10
    have pd10 := pd9.trans sd10
    refine ⟨by show 13 ≤ sizeLine; decide, fun l2 nl2 => ?_⟩
    have el2 : l2 ≠ p := fun z => by have hz := pd10 _ _ hpe; rw [← z] at hz; exact absurd (nl2.symm.trans hz) (fun y => nomatch y)
    have sl2 := same_upd (o := .lst [V.ref d1, .ref d3, .ref d4, .ref d5, .ref d6, .ref d7, .str "any", .str "reply", .ref d9, .int 65535, .int 65536, .int 256, .ref d10]) nl2
    have pl2 := pd10.trans sl2
    refine ⟨l1, l2, [V.non, .bl true, .bl false, .int 0, .int 1, .int (-1), .int 7, .int (10 ^ 8), .str "", .str "r", .str "rw", .str "wr", .str "x", .str "set r0 1", .ref c1, .ref c2, .ref c3, .ref c4, .ref c5], [V.ref d1, .ref d3, .ref d4, .ref d5, .ref d6, .ref d7, .str "any", .str "reply", .ref d9, .int 65535, .int 65536, .int 256, .ref d10], rfl, rfl, (((((((((sd1.trans sd2).trans sd3).trans sd4).trans sd5).trans sd6).trans sd7).trans sd9).trans sd10).trans sl2) _ _ upd_same, upd_same, (by show 32 ≤ sizeLine; decide), fun l3 nl3 => ?_⟩
    have el3 : l3 ≠ p := fun z => by have hz := pl2 _ _ hpe; rw [← z] at hz; exact absurd (nl3.symm.trans hz) (fun y => nomatch y)
    have sl3 := same_upd (o := .lst ([V.non, .bl true, .bl false, .int 0, .int 1, .int (-1), .int 7, .int (10 ^ 8), .str "", .str "r", .str "rw", .str "wr", .str "x", .str "set r0 1", .ref c1, .ref c2, .ref c3, .ref c4, .ref c5] ++ [V.ref d1, .ref d3, .ref d4, .ref d5, .ref d6, .ref d7, .str "any", .str "reply", .ref d9, .int 65535, .int 65536, .int 256, .ref d10])) nl3
    have pl3 := pl2.trans sl3
    have fc1 := wo_at ((((((((((((((((sc2.trans sc3).trans sc4).trans sc5).trans sl1).trans sd1).trans sd2).trans sd3).trans sd4).trans sd5).trans sd6).trans sd7).trans sd9).trans sd10).trans sl2).trans sl3) _ _ upd_same) ec1
    have fc2 := wo_at (((((((((((((((sc3.trans sc4).trans sc5).trans sl1).trans sd1).trans sd2).trans sd3).trans sd4).trans sd5).trans sd6).trans sd7).trans sd9).trans sd10).trans sl2).trans sl3) _ _ upd_same) ec2
    have fc3 := wo_at ((((((((((((((sc4.trans sc5).trans sl1).trans sd1).trans sd2).trans sd3).trans sd4).trans sd5).trans sd6).trans sd7).trans sd9).trans sd10).trans sl2).trans sl3) _ _ upd_same) ec3
    have fc4 := wo_at (((((((((((((sc5.trans sl1).trans sd1).trans sd2).trans sd3).trans sd4).trans sd5).trans sd6).trans sd7).trans sd9).trans sd10).trans sl2).trans sl3) _ _ upd_same) ec4
    have fc5 := wo_at ((((((((((((sl1.trans sd1).trans sd2).trans sd3).trans sd4).trans sd5).trans sd6).trans sd7).trans sd9).trans sd10).trans sl2).trans sl3) _ _ upd_same) ec5
    have fl1 := wo_at (((((((((((sd1.trans sd2).trans sd3).trans sd4).trans sd5).trans sd6).trans sd7).trans sd9).trans sd10).trans sl2).trans sl3) _ _ upd_same) el1
    have fd1 := wo_at ((((((((((sd2.trans sd3).trans sd4).trans sd5).trans sd6).trans sd7).trans sd9).trans sd10).trans sl2).trans sl3) _ _ upd_same) ed1
    have fd2 := wo_at (((((((((sd3.trans sd4).trans sd5).trans sd6).trans sd7).trans sd9).trans sd10).trans sl2).trans sl3) _ _ upd_same) ed2
    have fd3 := wo_at ((((((((sd4.trans sd5).trans sd6).trans sd7).trans sd9).trans sd10).trans sl2).trans sl3) _ _ upd_same) ed3
    have fd4 := wo_at (((((((sd5.trans sd6).trans sd7).trans sd9).trans sd10).trans sl2).trans sl3) _ _ upd_same) ed4
    have fd5 := wo_at ((((((sd6.trans sd7).trans sd9).trans sd10).trans sl2).trans sl3) _ _ upd_same) ed5
    have fd6 := wo_at (((((sd7.trans sd9).trans sd10).trans sl2).trans sl3) _ _ upd_same) ed6
    have fd7 := wo_at ((((sd9.trans sd10).trans sl2).trans sl3) _ _ upd_same) ed7
    have fd9 := wo_at (((sd10.trans sl2).trans sl3) _ _ upd_same) ed9
    have fd10 := wo_at ((sl2.trans sl3) _ _ upd_same) ed10
    have fl2 := wo_at (sl3 _ _ upd_same) el2
    have pot := hp.same pl3
    have woS : Same (wo H p) (wo _ p) := wo_same_of pl3
    refine ⟨_, rfl, _, rfl, p, l3, _, n, rfl, SqL.of (wo_at upd_same el3), by simp, by show 32 ≤ 1000; decide, pot, hn, fun x hx H' hp' s' => ?_⟩
    have qq := fun v d => q v d H' hp' (woS.trans s')
    have gg := woS.trans s'
    simp only [List.cons_append, List.nil_append, List.mem_cons, List.not_mem_nil, or_false] at hx
    rcases hx with rfl | rfl | rfl | rfl | rfl | rfl | rfl | rfl | rfl | rfl | rfl | rfl | rfl | rfl | rfl | rfl | rfl | rfl | rfl | rfl | rfl | rfl | rfl | rfl | rfl | rfl | rfl | rfl | rfl | rfl | rfl | rfl
    · exact qq _ (.none) (.dp .non) (by decide +kernel)
    · exact qq _ (.bool true) (.dp (.bl _)) (by decide +kernel)
    · exact qq _ (.bool false) (.dp (.bl _)) (by decide +kernel)
    · exact qq _ (.int 0) (.dp (.int _)) (by decide +kernel)
    · exact qq _ (.int 1) (.dp (.int _)) (by decide +kernel)
    · exact qq _ (.int (-1)) (.dp (.int _)) (by decide +kernel)
    · exact qq _ (.int 7) (.dp (.int _)) (by decide +kernel)
    · exact qq _ (.int (10 ^ 8)) (.dp (.int _)) (by decide +kernel)
    · exact qq _ (.str "") (.dp (.str _)) (by decide +kernel)
    · exact qq _ (.str "r") (.dp (.str _)) (by decide +kernel)
    · exact qq _ (.str "rw") (.dp (.str _)) (by decide +kernel)
    · exact qq _ (.str "wr") (.dp (.str _)) (by decide +kernel)
    · exact qq _ (.str "x") (.dp (.str _)) (by decide +kernel)
    · exact qq _ (.str "set r0 1") (.dp (.str _)) (by decide +kernel)
    · exact qq _ (.tuple []) (.dp (.tup (SqT.of (nl_at gg (s' _ _ fc1) fun _ z => nomatch z)) .nil)) (by decide +kernel)
    · exact qq _ (.list []) (.dp (.lst (SqL.of ((nl_new (none_of pc1 nc2)).trans (wo_le _ _ (s' _ _ fc2)))) .nil)) (by decide +kernel)
    · exact qq _ (.dict []) (.d0 (nl_at gg (s' _ _ fc3) fun _ z => nomatch z)) (by decide +kernel)
    · exact qq _ (.tuple [.int 0]) (.dp (.tup (SqT.of (nl_at gg (s' _ _ fc4) fun _ z => nomatch z)) (.cons (.int 0) .nil))) (by decide +kernel)
    · exact qq _ (.tuple [.int 0, .int 1]) (.dp (.tup (SqT.of (nl_at gg (s' _ _ fc5) fun _ z => nomatch z)) (.cons (.int 0) (.cons (.int 1) .nil)))) (by decide +kernel)
    · exact qq _ (.tuple [.int 1, .int 0]) (.dp (.tup (SqT.of (nl_at gg (s' _ _ fd1) fun _ z => nomatch z)) (.cons (.int 1) (.cons (.int 0) .nil)))) (by decide +kernel)
    · exact qq _ (.tuple [.tuple []]) (.dp (.tup (SqT.of (nl_at gg (s' _ _ fd3) fun _ z => nomatch z)) (.cons (.tup (SqT.of (nl_at gg (s' _ _ fd2) fun _ z => nomatch z)) .nil) .nil))) (by decide +kernel)
    · exact qq _ (.list [.int 0]) (.dp (.lst (SqL.of ((nl_new (none_of pd3 nd4)).trans (wo_le _ _ (s' _ _ fd4)))) (.cons (.int 0) .nil))) (by decide +kernel)
    · exact qq _ (.tuple [.none]) (.dp (.tup (SqT.of (nl_at gg (s' _ _ fd5) fun _ z => nomatch z)) (.cons .non .nil))) (by decide +kernel)
    · exact qq _ (.dict [(.str "a", .int 1)]) (.d1 (nl_at gg (s' _ _ fd6) fun _ z => nomatch z)) (by decide +kernel)
    · exact qq _ (.tuple [.bool true]) (.dp (.tup (SqT.of (nl_at gg (s' _ _ fd7) fun _ z => nomatch z)) (.cons (.bl true) .nil))) (by decide +kernel)
    · exact qq _ (.str "any") (.dp (.str _)) (by decide +kernel)
    · exact qq _ (.str "reply") (.dp (.str _)) (by decide +kernel)
    · exact qq _ (.tuple [.str "r"]) (.dp (.tup (SqT.of (nl_at gg (s' _ _ fd9) fun _ z => nomatch z)) (.cons (.str "r") .nil))) (by decide +kernel)
    · exact qq _ (.int 65535) (.dp (.int _)) (by decide +kernel)
    · exact qq _ (.int 65536) (.dp (.int _)) (by decide +kernel)
    · exact qq _ (.int 256) (.dp (.int _)) (by decide +kernel)
    · exact qq _ (.tuple [.int 0, .int 16]) (.dp (.tup (SqT.of (nl_at gg (s' _ _ fd10) fun _ z => nomatch z)) (.cons (.int 0) (.cons (.int 16) .nil)))) (by decide +kernel)
end
end K00

set_option maxRecDepth 100000
set_option maxHeartbeats 4000000
/-! k00: sorted(set(d)) of a dict with texts as keys. -/
namespace K00
open PySem PySem.Spec PyProof.Rows L2
section
variable {P : Program} {w : World} {A : Around} {E : Value → Shared → Prop} {s : Shared} {h h' : Heap} {a : Addr}
/-- what stands in the set: keys of Ks, at most i of them, one at least once i is above 0 -/
structure SetX (P : Program) (w : World) (Ks : Key → Prop) (i : Nat) (h : Heap) (a : Addr) (o : Obj) (es : Array (Int × Value)) (ep : Nat) (t : SetTable) : Prop where
  at_ : h.get? a = some o
  ex : o.ExactSet
  data : o.data = .set es ep t
  els : ∀ e ∈ es.toList, (∃ k, (mixKind P w).is k e.2 = true ∧ e.1 = (mixKind P w).hash k ∧ Ks k) ∧ e.2.scannable = true
  few : es.size ≤ i
  some_ : 0 < i → 0 < es.size
  fits : t.fits es.size = true
  ris : Ris t.place.toList
  led : w.params.followText "set-order" = true ∨ t.led = true
def SetXs (P : Program) (w : World) (Ks : Key → Prop) (i : Nat) (h : Heap) (a : Addr) : Prop := ∃ o es ep t, SetX P w Ks i h a o es ep t
variable {Ks : Key → Prop} {i : Nat} {o : Obj} {es : Array (Int × Value)} {ep : Nat} {t : SetTable}
theorem SetX.elems (R : SetX P w Ks i h a o es ep t) : ElemsOf (mixKind P w) es.toList := fun e he => by
  obtain ⟨⟨k, k1, k2, _⟩, c⟩ := R.els e he
  exact ⟨⟨k, k1, k2⟩, c⟩
theorem SetX.putAt (R : SetX P w Ks i h a o es ep t) {es2 : Array (Int × Value)} {t2 : SetTable} {j : Nat} (e2 : ∀ e ∈ es2.toList, (∃ k, (mixKind P w).is k e.2 = true ∧ e.1 = (mixKind P w).hash k ∧ Ks k) ∧ e.2.scannable = true)
    (f2 : es2.size ≤ j) (s2 : 0 < j → 0 < es2.size) (fi : t2.fits es2.size = true) (ri : Ris t2.place.toList) (le : w.params.followText "set-order" = true ∨ t2.led = true) : SetX P w Ks j (h.update a (Obj.putSet es2 t2)) a { o with data := .set es2 (ep + 1) t2 } es2 (ep + 1) t2 :=
  ⟨store_at R.at_ R.data, ⟨R.ex.1, R.ex.2.1, R.ex.2.2⟩, rfl, e2, f2, s2, fi, ri, le⟩
/-- a key put in -/
theorem sx_add {k : Key} {x : Value} {Q : Bool → Shared → Prop} (hk : (mixKind P w).is k x = true) (hx : x.scannable = true) (hKs : Ks k) (R : SetX P w Ks i s.heap a o es ep t) (room : i + 1 < scanBound)
    (q : ∀ h' b, Heap.SameBut a s.heap h' → SetXs P w Ks (i + 1) h' a → Q b { s with heap := h' }) : wpAny (model P w) A (setAddHashed a x ((mixKind P w).hash k)) Q E s := by
  have hel := R.elems
  have hbd : es.size < scanBound := Nat.lt_of_le_of_lt R.few (Nat.lt_of_succ_lt room)
  unfold setAddHashed; unfold setAddHashedIn
  refine wpAny_holding (wpAny_bind (wpAny_setState_of R.at_ R.data R.fits ?_)); dsimp only
  rw [byScan_of hx hbd hel]; simp only [↓reduceIte]; unfold setAddByScan
  refine wpAny_bind (wpAny_bind (wpAny_rule (wpAny_bind (wpAny_setScan_of hk R.at_ R.data R.fits hel ?_))))
  cases hfi : es.toList.findIdx? (fun e => (mixKind P w).is k e.2) with
  | some j =>
    have hpos : 0 < es.size := by
      obtain ⟨hj, _⟩ := List.findIdx?_eq_some_iff_getElem.mp hfi
      rw [Array.length_toList] at hj; omega
    dsimp only
    exact wpAny_pure (wpAny_pure (q s.heap _ (Heap.SameBut.refl a s.heap) ⟨o, es, ep, t, R.at_, R.ex, R.data, R.els, Nat.le_succ_of_le R.few, fun _ => hpos, R.fits, R.ris, R.led⟩))
  | none =>
    dsimp only
    have giv : ∀ (b : Bool) {s₁ : Shared} {Q' : Unit → Shared → Prop}, Q' () s₁ → wpAny (model P w) A (match b with | true => rule "set.scan.the-table-gave-way" | false => pure ()) Q' E s₁ := fun b s₁ Q' z => by
      cases b
      · exact wpAny_pure z
      · exact wpAny_rule z
    have pm := layNew_perm t es ((mixKind P w).hash k) x
    have fi := layNew_fits t es ((mixKind P w).hash k) x
    have ri := layNew_ris t es ((mixKind P w).hash k) x R.ris
    have le := layNew_led t es ((mixKind P w).hash k) x
    generalize layNew t es ((mixKind P w).hash k) x = Z at pm fi ri le ⊢
    obtain ⟨es1, t1, wd, gave⟩ := Z; dsimp only at pm fi ri le ⊢
    rw [Array.toList_push] at pm
    have e1 : ∀ e ∈ es1.toList, (∃ k, (mixKind P w).is k e.2 = true ∧ e.1 = (mixKind P w).hash k ∧ Ks k) ∧ e.2.scannable = true := fun e he => by
      rcases List.mem_append.mp (pm.mem_iff.mp he) with z | z
      · exact R.els e z
      · rw [List.mem_singleton.mp z]; exact ⟨⟨k, hk, rfl, hKs⟩, hx⟩
    have sz : es1.size = es.size + 1 := by
      rw [← Array.length_toList, pm.length_eq, List.length_append, Array.length_toList]; rfl
    have few1 : es1.size ≤ i + 1 := by rw [sz]; exact Nat.succ_le_succ R.few
    have pos1 : 0 < es1.size := by omega
    have le1 : w.params.followText "set-order" = true ∨ t1.led = true := R.led.imp id fun z => by rw [le]; exact z
    have line : es1.size ≤ sizeLine := fits_of_scanBound (Nat.lt_of_le_of_lt few1 room)
    -- what is behind the laying
    have tail : ∀ (t2 : SetTable), t2.fits es1.size = true → Ris t2.place.toList → (w.params.followText "set-order" = true ∨ t2.led = true) → ∀ (R' : Option Bool → Shared → Prop), (∀ h' , Heap.SameBut a s.heap h' → SetXs P w Ks (i + 1) h' a → R' (some true) { s with heap := h' }) →
        wpAny (model P w) A (do
          storeSet a es1 t2
          if (!wd && t2.tooFull) = true then do
              (match (relayAll t2 es1 (SetTable.grown es1.size)).2.2 with | true => rule "set.scan.the-table-gave-way" | false => pure ())
              storeSet a (relayAll t2 es1 (SetTable.grown es1.size)).1 (relayAll t2 es1 (SetTable.grown es1.size)).2.1
              pure (some true)
            else pure (some true)) R' E s := fun t2 f2 r2 l2 R' hR' => by
      refine wpAny_bind (wpAny_storeSet_of R.at_ R.data ?_ line)
      have R1 := R.putAt (j := i + 1) e1 few1 (fun _ => pos1) f2 r2 l2
      have sb1 := Heap.SameBut.update s.heap a (Obj.putSet es1 t2)
      split
      · have pm3 := relayAll_perm t2 es1 (SetTable.grown es1.size)
        have fi3 := relayAll_fits t2 es1 (SetTable.grown es1.size)
        have ri3 := relayAll_ris t2 es1 (SetTable.grown es1.size)
        have le3 := relayAll_led t2 es1 (SetTable.grown es1.size)
        generalize relayAll t2 es1 (SetTable.grown es1.size) = Z3 at pm3 fi3 ri3 le3 ⊢
        obtain ⟨es3, t3, g3⟩ := Z3; dsimp only at pm3 fi3 ri3 le3 ⊢
        have sz3 : es3.size = es1.size := by rw [← Array.length_toList, pm3.length_eq]; exact Array.length_toList
        refine wpAny_bind (giv _ (wpAny_bind (wpAny_storeSet_of R1.at_ R1.data ?_ (by rw [sz3]; exact line))))
        have R3 := R1.putAt (j := i + 1) (es2 := es3) (t2 := t3) (fun e he => e1 e (pm3.mem_iff.mp he)) (by rw [sz3]; exact few1) (fun _ => by rw [sz3]; exact pos1) fi3 ri3 (l2.imp id fun z => by rw [le3]; exact z)
        exact wpAny_pure (hR' _ (sb1.trans (Heap.SameBut.update _ a _)) ⟨_, _, _, _, R3⟩)
      · exact wpAny_pure (hR' _ sb1 ⟨_, _, _, _, R1⟩)
    have fin : ∀ h', Heap.SameBut a s.heap h' → SetXs P w Ks (i + 1) h' a → wpAny (model P w) A (pure true) Q E { s with heap := h' } := fun h' sb r => wpAny_pure (q h' true sb r)
    refine wpAny_bind (giv _ ?_)
    split
    · refine wpAny_bind ?_; rw [hashByValue_scannable 8 hx]; refine wpAny_pure ?_
      refine tail _ ?_ ?_ ?_ _ fin
      · first | exact fi | (split <;> first | exact fi | exact SetTable.fits_plain_off fi)
      · first | exact ri | (split <;> exact ri)
      · first | exact le1 | (split <;> exact le1)
    · refine wpAny_bind (wpAny_pure ?_); simp only [↓reduceIte]
      exact tail _ fi ri le1 _ fin
theorem sx_fresh {led : Bool} (ho : h.get? a = some { cls := .type "set", dict := none, data := .set #[] 0 (.fresh 0 0 led) }) (hl : w.params.followText "set-order" = true ∨ led = true) : SetX P w Ks 0 h a { cls := .type "set", dict := none, data := .set #[] 0 (.fresh 0 0 led) } #[] 0 (.fresh 0 0 led) :=
  ⟨ho, ⟨rfl, rfl, rfl⟩, rfl, fun e he => (List.not_mem_nil he).elim, Nat.le_refl 0, fun z => absurd z (Nat.lt_irrefl 0), rfl, List.Pairwise.nil, hl⟩
theorem lay_none : SetTable.layClean 63 #[] = some (Array.replicate 64 none) := by rfl
theorem live_none : liveOf 63 (Array.replicate 64 none) = [] := by decide +kernel
theorem sx_room {led : Bool} {Q : Unit → Shared → Prop} (ho : s.heap.get? a = some { cls := .type "set", dict := none, data := .set #[] 0 (.fresh 0 0 led) }) (hl : w.params.followText "set-order" = true ∨ led = true)
    (q : ∀ h', Heap.SameBut a s.heap h' → SetXs P w Ks 0 h' a → Q () { s with heap := h' }) : wpAny (model P w) A (setRoomFor a 24) Q E s := by
  have R : SetX P w Ks 0 s.heap a { cls := .type "set", dict := none, data := .set #[] 0 (.fresh 0 0 led) } #[] 0 (.fresh 0 0 led) := sx_fresh ho hl
  unfold setRoomFor
  refine wpAny_bind (wpAny_setState_of ho rfl (by rfl) ?_)
  have er : (SetTable.fresh 0 0 led).roomFor 24 = some 48 := by cases led <;> decide
  dsimp only; rw [er]; dsimp only
  rw [setRelay_eq]
  refine wpAny_bind (wpAny_setState_of ho rfl (by rfl) ?_)
  dsimp only
  have e64 : SetTable.sizeAbove 48 = 64 := by decide +kernel
  refine wp_if_neg (by rw [e64, sizeLine_eq]; omega) ?_
  try refine wpAny_bind (wpAny_pure ?_)
  have e2 : (SetTable.fresh 0 0 led).relaid ((#[] : Array (Int × Value)).map (·.1)) 48 = some (tabOf (.fresh 0 0 led) 63 (Array.replicate 64 none), #[]) := by
    have em : (#[] : Array (Int × Value)).map (·.1) = #[] := by simp
    rw [relaid_eq, e64, em, show 64 - 1 = 63 from rfl, lay_none, Option.bind_some, live_none]
    rfl
  rw [e2]
  dsimp only
  refine wpAny_bind ?_
  refine wp_if_neg (by simp) ?_
  try refine wpAny_bind (wpAny_pure ?_)
  refine wpAny_pure ?_
  dsimp only
  refine wpAny_storeSet_of ho rfl ?_ (by show 0 ≤ sizeLine; exact Nat.zero_le _)
  refine q _ (Heap.SameBut.update s.heap a _) ⟨_, _, _, _, R.putAt (j := 0) (fun e he => (List.not_mem_nil he).elim) (Nat.le_refl 0) (fun z => absurd z (Nat.lt_irrefl 0)) ?_ ?_ hl⟩
  · unfold tabOf SetTable.fits SetTable.fill
    rw [live_none]
    rfl
  · unfold tabOf
    rw [live_none]
    exact List.Pairwise.nil
theorem no_set {d : Addr} {od : Obj} {Q : Bool → Shared → Prop} (hd : s.heap.get? d = some od) (hc : od.cls = .type "dict") (q : Q false s) : wpAny (model P w) A (Builtin.Frozenset.isAnySet (.ref d)) Q E s := by
  have T : s.TypeIs (.ref d) "dict" := ⟨od, hd, hc⟩
  unfold Builtin.Frozenset.isAnySet
  refine wpAny_bind (wpAny_isInstance (b := false) T PySem.F.sub_dict_set ?_)
  exact wpAny_isInstance (b := false) T PySem.F.sub_dict_frozenset q
theorem upd_dict {S d : Addr} {led : Bool} {od : Obj} {des : Array DictEntry} {dep : Nat} {Q : Unit → Shared → Prop} (hS : s.heap.get? S = some { cls := .type "set", dict := none, data := .set #[] 0 (.fresh 0 0 led) }) (hl : w.params.followText "set-order" = true ∨ led = true)
    (hd : s.heap.get? d = some od) (hc : od.cls = .type "dict") (hdat : od.data = .dict des dep) (h24 : des.size = 24) (hsys : (d == sysModules) = false) (hne : d ≠ S)
    (keys : ∀ e ∈ des.toList, ∃ k, (mixKind P w).is k e.key = true ∧ e.hash = (mixKind P w).hash k ∧ Ks k ∧ e.key.scannable = true)
    (q : ∀ h', SetXs P w Ks 24 h' S → (∀ b o, b ≠ S → s.heap.get? b = some o → h'.get? b = some o) → Q () { s with heap := h' }) : wpAny (model P w) A (Builtin.Frozenset.updateFrom "set.__init__" S (.ref d)) Q E s := by
  have T : s.TypeIs (.ref d) "dict" := ⟨od, hd, hc⟩
  unfold Builtin.Frozenset.updateFrom
  refine wpAny_bind (no_set hd hc ?_)
  simp only [Bool.false_eq_true, if_false]
  refine wpAny_bind (wpAny_typeOf T ?_)
  refine wp_if_pos (by decide) ?_
  refine wpAny_bind (wpAny_rule ?_)
  unfold Builtin.Frozenset.addrOf
  refine wpAny_bind (wpAny_pure ?_)
  refine wp_if_neg (by rw [hsys]; exact Bool.false_ne_true) ?_
  refine wpAny_bind (wpAny_dictEpoch hd hdat ?_)
  refine wpAny_bind (wpAny_dictEntries hd hdat ?_)
  rw [h24]
  refine wpAny_bind (sx_room (Ks := Ks) hS hl fun h1 sb1 R1 => ?_)
  have hd1 : h1.get? d = some od := (sb1.2 d hne).trans hd
  refine wpAny_bind (wpAny_dictEntries hd1 hdat ?_)
  rw [h24]
  refine wpAny_bind (SeqAt.wpAny_forIn_span 0 24 _ (fun i _ s' => ∃ h2, s' = { s with heap := h2 } ∧ SetXs P w Ks i h2 S ∧ ∀ b o, b ≠ S → s.heap.get? b = some o → h2.get? b = some o) _ (fun i c s' _ hi hI => ?_) (fun c s' hI => ?_) _ ⟨h1, rfl, R1, fun b o hb e => (sb1.2 b hb).trans e⟩)
  · obtain ⟨h2, rfl, ⟨o2, es2, ep2, t2, R2⟩, k2⟩ := hI
    have hd2 := k2 d od hne hd
    refine wpAny_bind (wpAny_dictEntries hd2 hdat ?_)
    have hi' : i < des.size := by rw [h24]; exact hi
    rw [Array.getElem?_eq_getElem hi']
    dsimp only
    obtain ⟨k, kk, kh, ks, kc⟩ := keys des[i] (Array.getElem_mem_toList hi')
    rw [kh]
    refine wpAny_bind (wpAny_holding (sx_add (s := { s with heap := h2 }) kk kc ks R2 (by unfold scanBound; omega) fun h3 b sb3 R3 => ?_))
    have k3 : ∀ b o, b ≠ S → s.heap.get? b = some o → h3.get? b = some o := fun b o hb e => (sb3.2 b hb).trans (k2 b o hb e)
    refine wpAny_bind (wpAny_dictEpoch (k3 d od hne hd) hdat ?_)
    refine wp_if_neg (by simp) ?_
    exact wpAny_pure ⟨h3, rfl, R3, k3⟩
  · obtain ⟨h2, rfl, R2, k2⟩ := hI
    exact wpAny_pure (q h2 R2 k2)
/-- set(d) -/
theorem call_setD {d : Addr} {od : Obj} {des : Array DictEntry} {dep : Nat} {Q : Value → Shared → Prop} (hd : s.heap.get? d = some od) (hc : od.cls = .type "dict") (hdat : od.data = .dict des dep) (h24 : des.size = 24) (hsys : (d == sysModules) = false)
    (keys : ∀ e ∈ des.toList, ∃ k, (mixKind P w).is k e.key = true ∧ e.hash = (mixKind P w).hash k ∧ Ks k ∧ e.key.scannable = true)
    (q : ∀ h' tk, SetXs P w Ks 24 h' s.heap.objs.size → (∀ b o, s.heap.get? b = some o → h'.get? b = some o) → Q (.ref s.heap.objs.size) { s with heap := h', toks := tk }) : wpAny (model P w) A (call (.type "set") [.ref d]) Q E s := by
  obtain ⟨mc, mt, hmro⟩ := PySem.F.called_set.mro
  have hmade := PySem.F.called_set.made; have hsub := PySem.F.called_set.sub
  refine wpAny_call (codeAny_of_tree ?_)
  show wpAny _ _ (callAny (.type "set") _) _ _ _
  refine wpAny_pure ⟨Code.quiet_builtin _ (by decide +kernel), codeAny_builtin PySem.F.entry_type_call ?_⟩
  rw [Around.under_plain (weight_type_call_type "set" [.ref d] []) rfl]
  have h1 := PySem.F.called_set.notType; have h2 := PySem.F.called_set.canCreate
  have hct := PySem.F.typeCall_set_1 (.ref d)
  repeat (any_goals (first | assumption | wp_step))

  refine codeAny_mono (code_set_led1 (.ref d) (E := E) (Q₁ := fun obj s₁ => obj = .ref s.heap.objs.size ∧ s₁ = { s with heap := s.heap.push { cls := .type "set", dict := none, data := .set #[] 0 (.fresh 0 0 (!w.params.followText "set-order")) } }) ⟨rfl, rfl⟩) fun r s₁ hr => ?_
  cases r with
  | error e => exact hr
  | ok fl =>
    cases fl with
    | ret obj =>
      obtain ⟨rfl, rfl⟩ := hr
      have hS : (s.heap.push { cls := .type "set", dict := none, data := .set #[] 0 (.fresh 0 0 (!w.params.followText "set-order")) }).get? s.heap.objs.size = some { cls := .type "set", dict := none, data := .set #[] 0 (.fresh 0 0 (!w.params.followText "set-order")) } := Heap.get?_push_size _ rfl
      have hT : Shared.TypeIs { s with heap := s.heap.push { cls := .type "set", dict := none, data := .set #[] 0 (.fresh 0 0 (!w.params.followText "set-order")) } } (.ref s.heap.objs.size) "set" := ⟨_, hS, rfl⟩
      have hli := PySem.F.called_set.init.lookup; have hbi := PySem.F.called_set.init.bind (.ref s.heap.objs.size)
      repeat (any_goals (first | assumption | wp_step))

      refine codeAny_mono (codeAny_call_builtin (R := wants (fun r s₂ => r = .none ∧ ∃ h' tk, s₂ = { s with heap := h', toks := tk } ∧ SetXs P w Ks 24 h' s.heap.objs.size ∧
          (∀ b o, s.heap.get? b = some o → h'.get? b = some o)) E) PySem.F.called_set.init.plain PySem.F.entry_set_init (check_set_init_1 hT ?_)) fun r₂ s₂ hr₂ => ?_
      · have hd' : (s.heap.push { cls := .type "set", dict := none, data := .set #[] 0 (.fresh 0 0 (!w.params.followText "set-order")) }).get? d = some od := Heap.get?_push_of_some _ hd
        have hne : d ≠ s.heap.objs.size := Nat.ne_of_lt (Heap.lt_size hd)
        have hl : w.params.followText "set-order" = true ∨ (!w.params.followText "set-order") = true := by
          cases w.params.followText "set-order"
          · exact .inr rfl
          · exact .inl rfl
        unfold Builtin.«set.__init__»; unfold noKeywords
        generalize hUF : Builtin.Frozenset.updateFrom = UF
        wp_walk
        subst hUF
        refine upd_dict (s := { s with heap := s.heap.push { cls := .type "set", dict := none, data := .set #[] 0 (.fresh 0 0 (!w.params.followText "set-order")) } }) hS hl hd' hc hdat h24 hsys hne keys fun h' R k => ?_
        exact wpAny_pure ⟨rfl, h', _, rfl, R, fun b o e => k b o (Nat.ne_of_lt (Heap.lt_size e)) (Heap.get?_push_of_some _ e)⟩
      · cases r₂ with
        | error e => exact hr₂
        | ok fl₂ =>
          cases fl₂ with
          | ret r =>
            obtain ⟨rfl, h', tk, rfl, hR, hk⟩ := hr₂
            repeat (any_goals (first | assumption | wp_step))
            exact q _ _ hR hk
          | _ => exact hr₂.elim
    | _ => exact hr.elim
theorem sx_keep {Ks : Key → Prop} {i : Nat} {h h' : Heap} {a : Addr} (R : SetXs P w Ks i h a) (k : ∀ o, h.get? a = some o → h'.get? a = some o) : SetXs P w Ks i h' a := by
  obtain ⟨o, es, ep, t, R⟩ := R
  exact ⟨o, es, ep, t, ⟨k o R.at_, R.ex, R.data, R.els, R.few, R.some_, R.fits, R.ris, R.led⟩⟩
/-- the set of keys at a -/
def SetXO (P : Program) (w : World) (Ks : Key → Prop) (a : Addr) : HO := .ext fun h => SetXs P w Ks 24 h a
theorem setXO_new {Ks : Key → Prop} {H : Hp} {h : Heap} {a : Addr} (R : SetXs P w Ks 24 h a) : ObjOk P w H h a (SetXO P w Ks a) := by
  obtain ⟨o, es, ep, t, R'⟩ := id R
  exact ⟨R, ⟨o, R'.at_⟩, fun h1 h2 p k => sx_keep p k⟩
end
section
variable {X : Cx}
def rSetD (P : Program) (w : World) : List V → Hp → VK → Prop := fun vs H Q => ∃ (d : Addr) (kvs : List (Key × V)), vs = [.ref d] ∧ H d = some (.dK kvs) ∧ kvs.length = 24 ∧ ∀ p, H p = none → Q (.ref p) (upd H p (SetXO P w (fun k => k ∈ kvs.map (·.1)) p))
theorem pairs_key {P : Program} {w : World} : ∀ {es : List DictEntry} {vs : List (Key × Value)}, Pairs (mixKind P w) es vs → ∀ e ∈ es, ∃ k ∈ vs.map (·.1), (mixKind P w).is k e.key = true
  | _, _, h, e, he => by
    induction h with
    | nil => cases he
    | cons hk _ _ ih =>
      rcases List.mem_cons.mp he with rfl | h2
      · exact ⟨_, List.mem_cons_self, hk⟩
      · obtain ⟨k, h3, h4⟩ := ih h2
        exact ⟨k, List.mem_cons_of_mem _ h3, h4⟩
theorem key_scans {P : Program} {w : World} {k : Key} {v : Value} (h : (mixKind P w).is k v = true) : v.scannable = true := by
  rcases keyIs_shape h with ⟨i, t, _, rfl⟩ | ⟨x, t, _, rfl⟩ <;> rfl
theorem cr_setD : CallR X (.type "set") (rSetD X.prog X.w) := by
  intro pins s σ H vs us Q I r h
  obtain ⟨d, kvs, rfl, hd, h24, q⟩ := h
  rw [Vals.ref1 r]
  obtain ⟨hz, hsys, ws, rel, dd⟩ := dk_of I.hok hd
  obtain ⟨od, des, dep, ho, hex, hdat, hkeys, hpairs, _⟩ := dd
  have h24' : des.size = 24 := by rw [← Array.length_toList, hpairs.length, ← rel.length]; exact h24
  refine call_setD (Ks := fun k => k ∈ kvs.map (·.1)) ho hex.1 hdat h24' hsys (fun e he => ?_) fun h' tk R k => ?_
  · obtain ⟨k0, m0, i0⟩ := pairs_key hpairs e he
    obtain ⟨k1, i1, e1⟩ := hkeys e (Array.mem_toList_iff.mp he)
    have : k1 = k0 := (mixKind X.prog X.w).inj _ _ _ i1 i0
    subst this
    exact ⟨k1, i1, e1, by rw [rel.keys]; exact m0, key_scans i1⟩
  · exact ⟨.ref _, _, I.laid (t' := tk) k (Nat.le_refl _) (setXO_new R), rfl, q _ (I.hok.fresh (Nat.le_refl _))⟩
def rSortX (P : Program) (w : World) : List V → Hp → VK → Prop := fun vs H Q => ∃ (a : Addr) (Ks : Key → Prop) (ks : List Str), vs = [.ref a] ∧ H a = some (SetXO P w Ks a) ∧ (∀ k, Ks k → ∃ x ∈ ks, k = .inr x) ∧
  ∀ ys p, ys ≠ [] → ys.length < 64 → (∀ y ∈ ys, y ∈ ks) → H p = none → Q (.ref p) (upd H p (.lst (ys.map V.str)))
theorem strs_some {ks : List Str} : ∀ (l : List Value), (∀ v ∈ l, ∃ x ∈ ks, ∃ t, v = Value.str x t) → ∃ xs : List Str, StrsAre l xs ∧ ∀ x ∈ xs, x ∈ ks
  | [], _ => ⟨[], .nil, fun x hx => (List.not_mem_nil hx).elim⟩
  | v :: l, h => by
    obtain ⟨x, hx, t, rfl⟩ := h v List.mem_cons_self
    obtain ⟨xs, h1, h2⟩ := strs_some l fun u hu => h u (List.mem_cons_of_mem _ hu)
    exact ⟨x :: xs, .cons x t h1, fun y hy => (List.mem_cons.mp hy).elim (fun z => z ▸ hx) (h2 y)⟩
theorem cr_sortX (hcalm : X.calm = true) : CallR X (.builtin "sorted") (rSortX X.prog X.w) := by
  intro pins s σ H vs us Q I r h
  obtain ⟨a, Ks, ks, rfl, ha, hKs, q⟩ := h
  rw [Vals.ref1 r]
  obtain ⟨o, es, ep, t, R⟩ := (I.hok a _ ha).1
  have few : es.size < 64 := Nat.lt_of_le_of_lt R.few (by decide)
  refine Calls.call_function_entry PyProof.Rows.kind_sorted PyProof.Rows.plain_sorted PyProof.Rows.entry_sorted (PyProof.Rows.args_sorted1 _) ?_
  unfold Builtin.«sorted»
  refine wpAny_bind (m := checkCount "sorted" 1 1 _) (wpAny_pure (wpAny_bind (collect_set (A := X.A.in1) (I.ok.hd hcalm) ⟨o, R.at_, R.ex.1, R.data⟩ R.fits (Nat.lt_trans few (by unfold scanBound; decide)) R.ris R.led fun s1 vs k1 hz g1 o1 pm => ?_)))
  have hvl : vs.length = es.size := by rw [pm.length_eq, List.length_map]; exact Array.length_toList
  obtain ⟨xs, hS, hxs⟩ := strs_some (ks := ks) vs fun v hv => by
    obtain ⟨e, he, rfl⟩ := List.mem_map.mp (pm.mem_iff.mp hv)
    obtain ⟨⟨k, i1, _, i3⟩, _⟩ := R.els e he
    obtain ⟨x, hx, rfl⟩ := hKs k i3
    obtain ⟨tk, ev⟩ := Value.isStrOf_shape (x := x) (v := e.2) i1
    exact ⟨x, hx, tk, ev⟩
  have len : vs.length < 64 := by rw [hvl]; exact few
  refine wpAny_bind (wpAny_newList ?_ (Nat.le_trans (Nat.le_of_lt len) (by decide)))
  have hoL : (s1.heap.push (seqObj "list" vs.toArray 0)).get? s1.heap.objs.size = some (seqObj "list" vs.toArray 0) := Heap.get?_push_size _ rfl
  refine wpAny_bind (wpAny_holding (wpAny_call_entry PyProof.Rows.slot_list_sort ⟨_, hoL, rfl⟩ PyProof.Rows.entry_list_sort (list_sort_treeK strKind_oneLt (s := { s1 with heap := s1.heap.push (seqObj "list" vs.toArray 0) }) hoL hS.keysOf (fun v₁ v₂ rest e => keyKind_strs (by rw [← e]; exact hS)) len fun st' hp hs => ⟨_, rfl, ?_⟩) (PyProof.Rows.args_list_sort _)))
  obtain ⟨ys, y1, y2, y3⟩ := sorted_out_str hS hp hs
  obtain ⟨e', he'⟩ := PyProof.Rows.sortedHeap_at (vs := vs) (out := (arrOf st').map (·.2)) hoL
  have ylen : ys.length < 64 := by rw [y2.length_eq, ← hS.length]; exact len
  have fits : (ys.map V.str).length ≤ sizeLine := by rw [List.length_map]; exact Nat.le_trans (Nat.le_of_lt ylen) (by decide)
  have yne : ys ≠ [] := fun z => by
    rw [z] at y2
    have z2 := y2.length_eq
    have z3 := R.some_ (by decide)
    rw [List.length_nil, ← hS.length, hvl] at z2
    omega
  have k2 : ∀ b u, s.heap.get? b = some u → (sortedHeap (s1.heap.push (seqObj "list" vs.toArray 0)) s1.heap.objs.size vs ((arrOf st').map (·.2))).get? b = some u := fun b u e => by
    have e1 := k1 b u e
    have hb := Heap.lt_size e1
    rw [PyProof.Rows.sortedHeap_old (Nat.ne_of_lt hb) (by rw [size_push']; exact Nat.lt_succ_of_lt hb)]; exact Heap.get?_push_of_some _ e1
  have hn : H s1.heap.objs.size = none := I.hok.fresh hz
  have J : Inv X pins σ (upd H s1.heap.objs.size (.lst (ys.map V.str))) { s with heap := sortedHeap (s1.heap.push (seqObj "list" vs.toArray 0)) s1.heap.objs.size vs ((arrOf st').map (·.2)), gens := s1.gens, drawn := s1.drawn, toks := s1.toks } :=
    I.call (ch := []) (Un.laid k2 hz hn) (I.hok.laid k2 hz ⟨fits, ((arrOf st').map (·.2)).toList, e', vals_of_strs y1, by rw [Array.toArray_toList]; exact he'⟩) (by rw [g1]; exact I.bare) (fun _ z => nomatch z)
  have e1 : ({ s1 with heap := sortedHeap (s1.heap.push (seqObj "list" vs.toArray 0)) s1.heap.objs.size vs ((arrOf st').map (·.2)) } : Shared) = { s with heap := sortedHeap (s1.heap.push (seqObj "list" vs.toArray 0)) s1.heap.objs.size vs ((arrOf st').map (·.2)), gens := s1.gens, drawn := s1.drawn, toks := s1.toks } := by cases s1; cases s; cases o1; rfl
  refine wpAny_pure ⟨_, rfl, .ref s1.heap.objs.size, upd H s1.heap.objs.size (.lst (ys.map V.str)), ?_, rfl, q ys _ yne ylen (fun y hy => hxs y (y2.mem_iff.mp hy)) hn⟩
  exact e1 ▸ J
end
end K00

set_option maxRecDepth 100000
set_option maxHeartbeats 4000000
/-! k00: a drawn row. -/
namespace K00
open PySem PySem.Spec PyProof.Rows L2
theorem scAnyRow : FnScope ["pot", "name", "parts", "size"] ["pot"] (defScope sAnyRow) := ⟨rfl, rfl, rfl, by decide +kernel, rfl, by decide +kernel, by decide +kernel⟩
theorem sizes_shape : ∀ nm ∈ sizes.map (·.1), (shapes.lookup nm).isSome = true := by decide
theorem bnds_pos : ∀ p ∈ shapes, ∀ b ∈ bnds p.2, 0 ≤ b := by decide
/-- values below their sizes, one by one -/
def Below : List Int → List Int → Prop
  | [], [] => True
  | x :: xs, z :: zs => 0 ≤ x ∧ x < z ∧ Below xs zs
  | _, _ => False
theorem Below.ok : ∀ {xs bs : List Int}, Below xs (bs.map (· + 1)) → okParts xs bs = true
  | [], [], _ => rfl
  | x :: xs, b :: bs, ⟨h1, h2, h3⟩ => by
    have ih := Below.ok h3
    have h2 : x < b + 1 := h2
    simp only [okParts, ih, Bool.and_true, Bool.and_eq_true, decide_eq_true_eq]
    omega
  | [], _ :: _, h => h.elim
  | _ :: _, [], h => h.elim
theorem Below.snoc : ∀ {xs zs : List Int} {i : Nat} {x z : Int}, Below xs (zs.take i) → zs[i]? = some z → 0 ≤ x → x < z → Below (xs ++ [x]) (zs.take (i + 1))
  | [], z0 :: zs, 0, x, z, _, h, h1, h2 => by
    cases h
    exact ⟨h1, h2, trivial⟩
  | [], [], 0, x, z, _, h, _, _ => by cases h
  | [], [], i + 1, x, z, _, h, _, _ => by cases h
  | [], z0 :: zs, i + 1, x, z, h, _, _, _ => h.elim
  | y :: xs, z0 :: zs, i + 1, x, z, ⟨a, b, c⟩, h, h1, h2 => ⟨a, b, Below.snoc c h h1 h2⟩
  | y :: xs, [], i, x, z, h, _, _, _ => by rw [List.take_nil] at h; exact h.elim
  | y :: xs, z0 :: zs, 0, x, z, h, _, _, _ => h.elim
theorem Below.len : ∀ {xs zs : List Int}, Below xs zs → xs.length = zs.length
  | [], [], _ => rfl
  | _ :: _, _ :: _, ⟨_, _, h⟩ => by rw [List.length_cons, List.length_cons, Below.len h]
  | [], _ :: _, h => h.elim
  | _ :: _, [], h => h.elim
section
variable {P : Program} {w : World} {K : PySem.W.Frag} {mg : Str → Option Value} {base : Heap}
theorem Same.wo {H H' : Hp} {p : Addr} (s : Same H H') : Same (wo H p) (wo H' p) := wo_same_of s
def spAnyRow (K : PySem.W.Frag) : Sp := fun vs H Q _ => ∃ (p : Addr) (n : Nat), vs = [.ref p] ∧ Pot H p n ∧ n + 20 < 1000000 ∧ ∀ a nm ps H', Pot H' p (n + 20) → Same (wo H p) (wo H' p) → SqT K (wo H' p) a (.str nm :: ps.map V.int) → IsRow nm ps → H a = none → Q (.ref a) H'
theorem ok_anyRow {f f1 f2 f3 : Addr} {fd fd1 fd2 fd3 : FuncData} {k : Nat} (F : Fun K "_law_any_row" "_law_any_row" sAnyRow f fd)
    (G1 : FnOk P w K mg base CX0 (k + 2) f1 fd1 ["pot", "some"] (spOf K)) (k1 : PySem.W.keepIn K (.ref f1) = true) (b1 : Binds K fd1 ["pot", "some"] []) (g1 : mg "_law_of" = some (.ref f1))
    (G2 : FnOk P w K mg base CX0 (k + 2) f2 fd2 [] spSizes) (k2 : PySem.W.keepIn K (.ref f2) = true) (b2 : Binds K fd2 [] []) (g2 : mg "_law_row_sizes" = some (.ref f2))
    (G3 : FnOk P w K mg base CX0 (k + 2) f3 fd3 ["pot", "upto"] spTake) (k3 : PySem.W.keepIn K (.ref f3) = true) (b3 : Binds K fd3 ["pot", "upto"] []) (g3 : mg "_law_take" = some (.ref f3))
    (ms : mg "sorted" = none) (mt : mg "set" = none) (mu : mg "tuple" = none) : FnOk P w K mg base CX0 (k + 3) f fd ["pot"] (spAnyRow K) := by
  refine F.ok scAnyRow (fun vs H Q E h => ?_) (fun cdv A outer s H vs Q E hr h => ?_)
  · obtain ⟨p, n, rfl, _⟩ := h
    rfl
  · obtain ⟨p, n, rfl, hp, hn, q⟩ := h
    refine ⟨_, pss_cons (ps_set (i := 1) scAnyRow.nd rfl (.inl rfl) (pe_call G1 hr (by rfl) g1 k1 b1 .nil pass0 (pa_cons (pv 0) (pa_cons (pe_callB (cr_sortX rfl) (by rfl) ms (by decide +kernel) (pa_cons (pe_callTy cr_setD (by rfl) mt (by decide +kernel) (pa_cons (pe_call0 G2 hr (by rfl) g2 k2 b2 .nil pass0) pa_nil)) pa_nil)) pa_nil))))
      (pss_cons (ps_setLc (i := 2) (own := [("size", 3)]) (g := gName 3) (tt := tYes) rfl scAnyRow.nd rfl rfl (by rfl) (pi_tup (pe_dget (hu_of hr) (pe_call0 G2 hr (by rfl) g2 k2 b2 .nil pass0) (pv 1) (fun _ _ => rfl))) (blkOk_by (N := ["pot", "name", "parts", "size"]) (sc := defScope sAnyRow) (by decide +kernel))
        (fun _ _ _ _ _ => pg_name (i := 3) scAnyRow.nd rfl (.inl rfl)) (fun _ _ _ _ _ => pts_nil) (fun _ _ _ _ _ => pe_call G1 hr (by rfl) g1 k1 b1 .nil pass0 (pa_cons (pv 0) (pa_cons (pe_lst (pa_cons pe_int (pa_cons (pe_op op_sub (pv 3) pe_int) (pa_cons (pe_call G3 hr (by rfl) g3 k3 b3 .nil pass0 (pa_cons (pv 0) (pa_cons (pv 3) pa_nil))) (pa_cons (pe_call G3 hr (by rfl) g3 k3 b3 .nil pass0 (pa_cons (pv 0) (pa_cons (pv 3) pa_nil))) pa_nil))))) pa_nil))))
      (pss_one (ps_ret (pe_op op_catT (pe_tup (pa_cons (pv 1) pa_nil)) (pe_callTy call_tuple_of (by rfl) mu (by decide +kernel) (pa_cons (pv 2) pa_nil)))))), ?_⟩
    obtain ⟨pa, pb, pc, hpe, _⟩ := id hp
    refine ⟨.ref p, rfl, rfl, fun qz H1 s1 nq sz => ?_⟩
    obtain ⟨kvs, ek, ks, _⟩ := id sz
    have len24 : kvs.length = 24 := by
      have z := congrArg List.length ks
      rw [List.length_map, List.length_map] at z
      exact z
    have apart : ∀ {H' : Hp} {c : Addr}, Same H H' → H' c = none → c ≠ p := fun {H' c} s nc z => by
      have y := s _ _ hpe
      rw [← z] at y
      exact absurd (nc.symm.trans y) (fun z => nomatch z)
    refine ⟨qz, kvs, rfl, ek, len24, fun a1 na1 => ?_⟩
    have t1 := same_upd (o := SetXO P w (fun k => k ∈ kvs.map (·.1)) a1) na1
    refine ⟨a1, _, sizes.map (·.1), rfl, upd_same, fun k hk => ?_, fun ys l yne y64 yin nl => ?_⟩
    · rw [ks] at hk
      obtain ⟨z, hz, rfl⟩ := List.mem_map.mp hk
      exact ⟨z.1, List.mem_map.mpr ⟨z, hz, rfl⟩, rfl⟩
    have t2 := same_upd (o := .lst (ys.map V.str)) nl
    have m2 := (s1.trans t1).trans t2
    refine ⟨p, l, ys.map V.str, n, rfl, SqL.of (wo_at upd_same (apart (s1.trans t1) nl)), by simpa using yne, by rw [List.length_map]; omega, hp.same m2, by omega, fun x hx H2 hp2 s2 => ?_⟩
    obtain ⟨nm, hnm, rfl⟩ := List.mem_map.mp hx
    obtain ⟨sh, hl⟩ := Option.isSome_iff_exists.mp (sizes_shape nm (yin nm hnm))
    have hmem := mem_of_lookup hl
    have hsz := sizes_all _ hmem
    have hb3 : (bnds sh).length ≤ 3 := by
      have hm := (many2 _ hmem).1
      obtain ⟨b, many, most⟩ := sh
      simp only at hm
      unfold bnds
      cases most <;> simp <;> omega
    have hzl : ((bnds sh).map (· + 1)).length = (bnds sh).length := List.length_map _
    have zpos : ∀ (i : Nat) (z : Int), ((bnds sh).map (· + 1))[i]? = some z → 0 < z ∧ z ≤ 512 := fun i z e => by
      rw [List.getElem?_map] at e
      cases e2 : (bnds sh)[i]? with
      | none => rw [e2] at e; cases e
      | some b =>
        rw [e2] at e
        have e : b + 1 = z := Option.some.inj e
        have h1 := bnds_all _ hmem b (List.mem_of_getElem? e2)
        have h2 := bnds_pos _ hmem b (List.mem_of_getElem? e2)
        omega
    have fin : ∀ ps, Below ps ((bnds sh).map (· + 1)) → IsRow nm ps := fun ps h => ⟨sh, hl, Below.ok h⟩
    generalize (bnds sh).map (· + 1) = zs at hsz hzl zpos fin
    refine ⟨rfl, fun qz2 H3 s3 nq2 sz2 => ?_⟩
    obtain ⟨t, dg, ht⟩ := sz2.get hsz
    have w3 : Same (wo H p) (wo H3 p) := ((Same.wo m2).trans s2).trans (Same.wo s3)
    have hp3 : Pot H3 p (n + 1) := hp2.same s3
    obtain ⟨pa3, pb3, pc3, hpe3, _⟩ := id hp3
    have ntp : t ≠ p := fun z => by rw [z] at ht; exact absurd (ht.symm.trans hpe3) (fun y => by cases y)
    refine ⟨_, rfl, qz2, .ref t, rfl, dg, t, rfl, ⟨_, SqT.of ht⟩, fun D nD => ?_⟩
    have nDp : D ≠ p := fun z => by rw [z] at nD; exact absurd (nD.symm.trans hpe3) (fun y => nomatch y)
    refine lc_tup (xs := zs.map V.int) (fun i H' => Same (wo H3 p) (wo H' p) ∧ Pot H' p (n + 1 + 3 * i) ∧ ∃ ps : List Int, H' D = some (.lst (ps.map V.int)) ∧ Below ps (zs.take i)) ⟨Same.wo (same_upd nD), hp3.same (same_upd nD), [], upd_same, trivial⟩ (fun i H' _ hP => ?_) (fun i x H' hx hP => ?_) fun H4 hP => ?_
    · exact SqT.of (wo_le _ _ (hP.1 _ _ (wo_at ht ntp)))
    · obtain ⟨sm, hpi, ps, hD, hB⟩ := hP
      rw [List.getElem?_map] at hx
      cases ez : zs[i]? with
      | none => rw [ez] at hx; cases hx
      | some z =>
        rw [ez] at hx
        obtain rfl : V.int z = x := Option.some.inj hx
        obtain ⟨z0, z1⟩ := zpos i z ez
        have hi : i < zs.length := (List.getElem?_eq_some_iff.mp ez).1
        refine ⟨rfl, ?_⟩
        unfold tYes
        refine iteT ?_
        refine ⟨.ref p, rfl, .int z, rfl, z, 1, rfl, rfl, ?_⟩
        refine ⟨.ref p, rfl, .int z, rfl, p, z, _, rfl, z0, by omega, hpi, by omega, fun d1 H5 d10 d11 hp5 s5 => ?_⟩
        refine ⟨.ref p, rfl, .int z, rfl, p, z, _, rfl, z0, by omega, hp5, by omega, fun d2 H6 d20 d21 hp6 s6 => ?_⟩
        obtain ⟨pa6, pb6, pc6, hpe6, _⟩ := id hp6
        refine ⟨by show 4 ≤ sizeLine; decide, fun l2 nl2 => ?_⟩
        have ne2 : l2 ≠ p := fun y => by rw [y] at nl2; exact absurd (nl2.symm.trans hpe6) (fun y => nomatch y)
        have s7 := same_upd (o := .lst [V.int 0, .int (z - 1), .int d1, .int d2]) nl2
        refine ⟨p, l2, [V.int 0, .int (z - 1), .int d1, .int d2], _, rfl, SqL.of (wo_at upd_same ne2), by simp, by show 4 ≤ 1000; decide, hp6.same s7, by omega, fun y hy H8 hp8 s8 => ?_⟩
        obtain ⟨v, rfl, v0, v1⟩ : ∃ v : Int, y = .int v ∧ 0 ≤ v ∧ v < z := by
          simp only [List.mem_cons, List.not_mem_nil, or_false] at hy
          rcases hy with rfl | rfl | rfl | rfl
          · exact ⟨0, rfl, by omega, z0⟩
          · exact ⟨z - 1, rfl, by omega, by omega⟩
          · exact ⟨d1, rfl, d10, d11⟩
          · exact ⟨d2, rfl, d20, d21⟩
        have big := ((s5.trans s6).trans (Same.wo s7)).trans s8
        have hD8 := big _ _ (wo_at hD nDp)
        refine ⟨ps.map V.int, wo_le _ _ hD8, ?_, wo_updNew (sm.trans big) nD, ?_, ps ++ [v], ?_, Below.snoc hB ez v0 v1⟩
        · have l1 := hB.len
          rw [List.length_take] at l1
          rw [List.length_map]
          exact small1000 (by omega)
        · obtain ⟨a8, b8, c8, e8, r8⟩ := hp8
          exact (show Pot _ p _ from ⟨a8, b8, c8, by rw [upd_ne nDp.symm]; exact e8, r8⟩).mono (by omega)
        · rw [upd_same, List.map_append]
          rfl
    · obtain ⟨sm, hpi, ps, hD, hB⟩ := hP
      rw [List.length_map] at hpi hB
      rw [List.take_length] at hB
      have hrow := fin ps hB
      have l1 := hB.len
      obtain ⟨pa4, pb4, pc4, hpe4, _⟩ := id hpi
      refine ⟨_, rfl, by show 1 ≤ sizeLine; decide, fun t1 nt1 => ?_⟩
      have s5 := same_upd (o := .tup [V.str nm]) nt1
      refine ⟨_, rfl, D, _, rfl, .inl ⟨SqL.of (s5 _ _ hD), fun l2 nl2 => ?_⟩⟩
      have s6 := same_upd (o := .tup (ps.map V.int)) nl2
      have w4 : Same (wo H p) (wo H4 p) := w3.trans sm
      have old : ∀ {c : Addr}, H4 c = none → c ≠ p → H c = none := fun {c} nc ne => by
        cases e : H c with
        | none => rfl
        | some o => exact absurd (nc.symm.trans (wo_le _ _ (w4 _ _ (wo_at e ne)))) (fun y => nomatch y)
      have ne1 : t1 ≠ p := fun y => by rw [y] at nt1; exact absurd (nt1.symm.trans hpe4) (fun y => nomatch y)
      refine ⟨t1, l2, [.str nm], ps.map V.int, rfl, rfl, SqT.of (s6 _ _ upd_same), SqT.of upd_same, by simp, ?_, fun e => ?_, fun e p2 np2 => ?_⟩
      · rw [List.length_map]
        exact Nat.le_of_lt (small1000 (by show 1 + ps.length ≤ 1000; omega))
      · have e0 : ps = [] := List.map_eq_nil_iff.mp e
        exact q t1 nm ps _ ((hpi.same (s5.trans s6)).mono (by omega)) (w4.trans (Same.wo (s5.trans s6))) (SqT.of (wo_at (s6 _ _ (by rw [upd_same, e]) ) ne1)) hrow (old nt1 ne1)
      · have s7 := same_upd (o := .tup ([V.str nm] ++ ps.map V.int)) np2
        have hpz := (s5.trans s6) _ _ hpe4
        have ne2 : p2 ≠ p := fun y => by rw [y] at np2; exact absurd (np2.symm.trans hpz) (fun y => nomatch y)
        exact q p2 nm ps _ ((hpi.same ((s5.trans s6).trans s7)).mono (by omega)) (w4.trans (Same.wo ((s5.trans s6).trans s7))) (SqT.of (wo_at upd_same ne2)) hrow (old ((s5.trans s6).free np2) ne2)
end
end K00

set_option maxRecDepth 100000
set_option maxHeartbeats 4000000
/-! k00: words of all kinds. -/
namespace K00
open PySem PySem.Spec PyProof.Rows L2
theorem scSomeWords : FnScope ["pot", "found", "kind", "low"] ["pot"] (defScope sSomeWords) := ⟨rfl, rfl, rfl, by decide +kernel, rfl, by decide +kernel, by decide +kernel⟩
section
variable {P : Program} {w : World} {K : PySem.W.Frag} {mg : Str → Option Value} {base : Heap}
theorem Pot.ne {H : Hp} {p c : Addr} {n : Nat} (h : Pot H p n) (nc : H c = none) : c ≠ p := fun z => by
  obtain ⟨a, b, d, e, _⟩ := h
  rw [z, e] at nc
  cases nc
theorem Pot.upd {H : Hp} {p c : Addr} {n : Nat} {o : HO} (h : Pot H p n) (ne : c ≠ p) : Pot (upd H c o) p n := by
  obtain ⟨a, b, d, e, r⟩ := h
  exact ⟨a, b, d, by rw [upd_ne ne.symm]; exact e, r⟩
def spSomeWords : Sp := fun vs H Q _ => ∃ (p : Addr) (n : Nat), vs = [.ref p] ∧ Pot H p n ∧ n + 100 < 1000000 ∧ ∀ l (ws : List Int) H', Pot H' p (n + 100) → Same (wo H p) (wo H' p) → (wo H' p) l = some (.lst (ws.map V.int)) → (∀ x ∈ ws, 0 ≤ x ∧ x ≤ 65535) → ws.length ≤ 40 → H l = none → Q (.ref l) H'
theorem ok_someWords {f f1 f3 : Addr} {fd fd1 fd3 : FuncData} {k : Nat} (F : Fun K "_law_some_words" "_law_some_words" sSomeWords f fd)
    (G1 : FnOk P w K mg base CX0 (k + 2) f1 fd1 ["pot", "some"] (spOf K)) (k1 : PySem.W.keepIn K (.ref f1) = true) (b1 : Binds K fd1 ["pot", "some"] []) (g1 : mg "_law_of" = some (.ref f1))
    (G3 : FnOk P w K mg base CX0 (k + 2) f3 fd3 ["pot", "upto"] spTake) (k3 : PySem.W.keepIn K (.ref f3) = true) (b3 : Binds K fd3 ["pot", "upto"] []) (g3 : mg "_law_take" = some (.ref f3))
    (mr : mg "range" = none) : FnOk P w K mg base CX0 (k + 3) f fd ["pot"] spSomeWords := by
  refine F.ok scSomeWords (fun vs H Q E h => ?_) (fun cdv A outer s H vs Q E hr h => ?_)
  · obtain ⟨p, n, rfl, _⟩ := h
    rfl
  · obtain ⟨p, n, rfl, hp, hn, q⟩ := h
    refine ⟨_, pss_cons (ps_set (i := 1) scSomeWords.nd rfl (.inl rfl) (pe_lst (pa_cons pe_int (pa_cons pe_int (pa_cons pe_int (pa_cons pe_int (pa_cons pe_int (pa_cons pe_int (pa_cons pe_int (pa_cons pe_int pa_nil))))))))))
      (pss_cons (ps_for PassesOwn.never rfl (pi_range1 (by rfl) mr (pa_cons pe_int pa_nil)) (pg_name (i := 2) scSomeWords.nd rfl (.inl rfl))
        (pss_cons (ps_set (i := 3) scSomeWords.nd rfl (.inl rfl) (pe_call G1 hr (by rfl) g1 k1 b1 .nil pass0 (pa_cons (pv 0) (pa_cons (pe_lst (pa_cons pe_int (pa_cons pe_int (pa_cons pe_int (pa_cons pe_int (pa_cons pe_int (pa_cons pe_int (pa_cons pe_int (pa_cons pe_int (pa_cons pe_int (pa_cons pe_int (pa_cons pe_int (pa_cons pe_int (pa_cons (pe_call G3 hr (by rfl) g3 k3 b3 .nil pass0 (pa_cons (pv 0) (pa_cons pe_int pa_nil))) pa_nil)))))))))))))) pa_nil))))
        (pss_cons (ps_expr (pe_bm PySem.F.plainAttrs_list PySem.F.slot_list_append PySem.F.type_list_append mt_append (pv 1) (pa_cons (pe_op op_add (pe_op op_mul pe_int (pv 2)) (pv 3)) pa_nil)))
        (pss_cons (ps_set (i := 3) scSomeWords.nd rfl (.inl rfl) (pe_call G1 hr (by rfl) g1 k1 b1 .nil pass0 (pa_cons (pv 0) (pa_cons (pe_lst (pa_cons pe_int (pa_cons pe_int (pa_cons pe_int (pa_cons pe_int (pa_cons pe_int (pa_cons pe_int (pa_cons (pe_call G3 hr (by rfl) g3 k3 b3 .nil pass0 (pa_cons (pv 0) (pa_cons pe_int pa_nil))) pa_nil)))))))) pa_nil))))
        (pss_one (ps_expr (pe_bm PySem.F.plainAttrs_list PySem.F.slot_list_append PySem.F.type_list_append mt_append (pv 1) (pa_cons (pe_op op_add (pe_op op_add (pe_op op_mul pe_int (pv 2)) (pe_op op_mul pe_int (pe_call G3 hr (by rfl) g3 k3 b3 .nil pass0 (pa_cons (pv 0) (pa_cons pe_int pa_nil))))) (pv 3)) pa_nil))))))))
      (pss_one (ps_ret (pv 1)))), ?_⟩
    refine ⟨by show 8 ≤ sizeLine; decide, fun l nl => ?_⟩
    have s1 := same_upd (o := .lst (([0, 65535, 4095, 4096, 12288, 12298, 12299, 61440] : List Int).map V.int)) nl
    have nep := hp.ne nl
    refine ⟨16, rfl, by omega, by omega, for_range (n := 16) (fun i σ H' => ∃ y2 y3 ws, σ = [some (.ref p), some (.ref l), y2, y3] ∧ Pot H' p (n + 5 * i) ∧ Same (wo H p) (wo H' p) ∧ H' l = some (.lst (ws.map V.int)) ∧ (∀ x ∈ ws, 0 ≤ x ∧ x ≤ 65535) ∧ ws.length = 8 + 2 * i)
      ⟨none, none, [0, 65535, 4095, 4096, 12288, 12298, 12299, 61440], rfl, hp.same s1, wo_same_of s1, upd_same, by decide, rfl⟩ (fun i σ H' hi hP => ?_) fun σ H' hP => ?_⟩
    · obtain ⟨y2, y3, ws, rfl, hpi, sm, hl, hw, lw⟩ := hP
      refine ⟨.ref p, rfl, .ref p, rfl, p, 4096, _, rfl, by decide, by decide, hpi, by omega, fun d1 H2 d10 d11 hp2 s2 => ?_⟩
      have one : (-(2 ^ 64) : Int) < 4096 ∧ (4096 : Int) < 2 ^ 64 := ⟨by decide, by decide⟩
      have two : (-(2 ^ 64) : Int) < 512 ∧ (512 : Int) < 2 ^ 64 := ⟨by decide, by decide⟩
      refine ⟨by show 13 ≤ sizeLine; decide, fun c1 nc1 => ?_⟩
      have nec := hp2.ne nc1
      have t2 := same_upd (o := .lst [V.int 0, .int 255, .int 256, .int 511, .int 512, .int 4095, .int 10, .int 11, .int 15, .int 16, .int 63, .int 64, .int d1]) nc1
      refine ⟨p, c1, [V.int 0, .int 255, .int 256, .int 511, .int 512, .int 4095, .int 10, .int 11, .int 15, .int 16, .int 63, .int 64, .int d1], _, rfl, SqL.of (wo_at upd_same nec), by simp, by show 13 ≤ 1000; decide, hp2.same t2, by omega, fun x hx H3 hp3 s3 => ?_⟩
      obtain ⟨v, rfl, v0, v1⟩ : ∃ v : Int, x = .int v ∧ 0 ≤ v ∧ v < 4096 := by
        simp only [List.mem_cons, List.not_mem_nil, or_false] at hx
        rcases hx with rfl | rfl | rfl | rfl | rfl | rfl | rfl | rfl | rfl | rfl | rfl | rfl | rfl <;> exact ⟨_, rfl, by omega, by omega⟩
      have g3 := (s2.trans (wo_same_of t2)).trans s3
      have hl3 : H3 l = some (.lst (ws.map V.int)) := wo_le _ _ (g3 _ _ (wo_at hl nep))
      refine ⟨.ref l, rfl, .inl ⟨rfl, _, SqL.of hl3⟩, _, rfl, 4096, 0 + (i : Int), rfl, rfl, .inl one, _, rfl, 4096 * (0 + (i : Int)), v, rfl, rfl, ?_⟩
      refine ⟨l, _, _, rfl, rfl, hl3, small1000 (by rw [List.length_map]; omega), ?_⟩
      have hp4 := hp3.upd (o := .lst (ws.map V.int ++ [.int (4096 * (0 + (i : Int)) + v)])) nep
      have g4 := wo_updNew (o := .lst (ws.map V.int ++ [.int (4096 * (0 + (i : Int)) + v)])) (sm.trans g3) nl
      have hl4 : upd H3 l (.lst (ws.map V.int ++ [.int (4096 * (0 + (i : Int)) + v)])) l = some (.lst ((ws ++ [4096 * (0 + (i : Int)) + v]).map V.int)) := by rw [upd_same, List.map_append]; rfl
      generalize upd H3 l (.lst (ws.map V.int ++ [.int (4096 * (0 + (i : Int)) + v)])) = H4 at hp4 g4 hl4 ⊢
      refine ⟨.ref p, rfl, .ref p, rfl, p, 512, _, rfl, by decide, by decide, hp4, by omega, fun d2 H5 d20 d21 hp5 s5 => ?_⟩
      refine ⟨by show 7 ≤ sizeLine; decide, fun c2 nc2 => ?_⟩
      have nec2 := hp5.ne nc2
      have t5 := same_upd (o := .lst [V.int 0, .int 255, .int 256, .int 448, .int 10, .int 11, .int d2]) nc2
      refine ⟨p, c2, [V.int 0, .int 255, .int 256, .int 448, .int 10, .int 11, .int d2], _, rfl, SqL.of (wo_at upd_same nec2), by simp, by show 7 ≤ 1000; decide, hp5.same t5, by omega, fun x hx H6 hp6 s6 => ?_⟩
      obtain ⟨u, rfl, u0, u1⟩ : ∃ v : Int, x = .int v ∧ 0 ≤ v ∧ v < 512 := by
        simp only [List.mem_cons, List.not_mem_nil, or_false] at hx
        rcases hx with rfl | rfl | rfl | rfl | rfl | rfl | rfl <;> exact ⟨_, rfl, by omega, by omega⟩
      have g6 := (s5.trans (wo_same_of t5)).trans s6
      have hl6 : H6 l = some (.lst ((ws ++ [4096 * (0 + (i : Int)) + v]).map V.int)) := wo_le _ _ (g6 _ _ (wo_at hl4 nep))
      refine ⟨.ref l, rfl, .inl ⟨rfl, _, SqL.of hl6⟩, _, rfl, 4096, 0 + (i : Int), rfl, rfl, .inl one, ?_⟩
      refine ⟨.ref p, rfl, p, 8, _, rfl, by decide, by decide, hp6, by omega, fun d3 H7 d30 d31 hp7 s7 => ?_⟩
      have hl7 : H7 l = some (.lst ((ws ++ [4096 * (0 + (i : Int)) + v]).map V.int)) := wo_le _ _ (s7 _ _ (wo_at hl6 nep))
      refine ⟨512, d3, rfl, rfl, .inl two, 4096 * (0 + (i : Int)), 512 * d3, rfl, rfl, _, rfl, _, u, rfl, rfl, ?_⟩
      refine ⟨l, _, _, rfl, rfl, hl7, small1000 (by rw [List.length_map, List.length_append]; show ws.length + 1 ≤ 1000; omega), ?_⟩
      refine ⟨_, _, (ws ++ [4096 * (0 + (i : Int)) + v]) ++ [4096 * (0 + (i : Int)) + 512 * d3 + u], rfl, (hp7.upd nep).mono (by omega), wo_updNew ((g4.trans g6).trans s7) nl, by rw [upd_same, List.map_append (l₁ := ws ++ [_])]; rfl, fun x hx => ?_, ?_⟩
      · rcases List.mem_append.mp hx with hx | hx
        · rcases List.mem_append.mp hx with hx | hx
          · exact hw x hx
          · rw [List.mem_singleton.mp hx]; omega
        · rw [List.mem_singleton.mp hx]; omega
      · rw [List.length_append, List.length_append]
        show ws.length + 1 + 1 = _
        omega
    · obtain ⟨y2, y3, ws, rfl, hpi, sm, hl, hw, lw⟩ := hP
      exact ⟨_, rfl, q l ws H' (hpi.mono (by omega)) sm (wo_at hl nep) hw (by omega) nl⟩
end
end K00

set_option maxRecDepth 100000
set_option maxHeartbeats 4000000
/-! k00: a word is read as its row, and that leads back. -/
namespace K00
open PySem PySem.Spec PyProof.Rows L2
theorem scWordRight : FnScope ["word", "due", "told"] ["word"] (defScope sWordRight) := ⟨rfl, rfl, rfl, by decide +kernel, rfl, by decide +kernel, by decide +kernel⟩
/-- a def that may be called by its name -/
def Cal (P : Program) (w : World) (K : PySem.W.Frag) (mg : Str → Option Value) (base : Heap) (CX : CXT) (k : Nat) (x : Str) (ps : List Str) (sp : Sp) : Prop :=
  ∃ (f : Addr) (fd : FuncData), FnOk P w K mg base CX k f fd ps sp ∧ PySem.W.keepIn K (.ref f) = true ∧ L2.Binds K fd ps [] ∧ mg x = some (.ref f)
/-- what never raises passes -/
theorem passX {X : Cx} : Passes (L2.CX X.prog X.w) X E0 := fun _ _ _ _ _ _ _ ⟨_, _, _, _, _, _, _, _, _, _, _, _, h⟩ => h.elim
theorem names_fine : ∀ p ∈ shapes, ((p.1.cps.toList.all fun c => decide (c < 16 ^ 8)) && PyData.strOk p.1) = true := by decide +kernel
theorem row_ok {nm : Str} {ps : List Int} (h : IsRow nm ps) : okData (dRow nm ps) = true ∧ ps.length ≤ 3 := by
  obtain ⟨sh, hl, hok⟩ := h
  have hmem := mem_of_lookup hl
  have hlen := okParts_len hok
  have hb3 : (bnds sh).length ≤ 3 := by
    have hm := (many2 _ hmem).1
    obtain ⟨b, many, most⟩ := sh
    simp only at hm
    unfold bnds
    cases most <;> simp <;> omega
  have small : ∀ x ∈ ps, 0 ≤ x ∧ x ≤ 511 := fun x hx => by
    obtain ⟨i, hi⟩ := List.getElem?_of_mem hx
    obtain ⟨b, eb, x0, xb⟩ := okParts_get hok i x hi
    have := bnds_all _ hmem b (List.mem_of_getElem? eb)
    omega
  refine ⟨?_, by omega⟩
  have sL : ∀ (ps : List Int), (∀ x ∈ ps, 0 ≤ x ∧ x ≤ 511) → PyData.leavesShortAll 13 (ps.map .int) = true ∧ PyData.weightAll (ps.map .int) ≤ 20 * ps.length ∧ PyData.showableAll (ps.map .int) = true ∧ PyData.depthAll (ps.map .int) = 0 ∧ PyData.canLayAll0 (ps.map .int) = true := by
    intro ps
    induction ps with
    | nil => intro _; exact ⟨rfl, Nat.le_refl _, rfl, rfl, rfl⟩
    | cons x r ih =>
      intro h
      obtain ⟨i1, i2, i3, i4, i5⟩ := ih fun y hy => h y (List.mem_cons_of_mem _ hy)
      obtain ⟨x0, x1⟩ := h x List.mem_cons_self
      have t := txt_small x0 (by omega)
      have lg := log_small x0 (by omega)
      have lg2 : x.natAbs.log2 ≤ 9 := by
        have : x.natAbs ≤ 511 := by omega
        by_cases z : x.natAbs = 0
        · rw [z]; decide
        · exact Nat.le_of_lt_succ ((Nat.log2_lt z).mpr (by omega))
      refine ⟨?_, ?_, ?_, ?_, ?_⟩
      · simp only [List.map_cons, PyData.leavesShortAll, PyData.leavesShort, i1, Bool.and_true, decide_eq_true_eq]
        show (Str.ofString (toString x)).length ≤ 13
        omega
      · simp only [List.map_cons, PyData.weightAll, PyData.weight, List.length_cons]
        split <;> omega
      · simp only [List.map_cons, PyData.showableAll, PyData.showable, i3, Bool.and_true, decide_eq_true_eq]
        exact lg
      · simp only [List.map_cons, PyData.depthAll, PyData.depth, i4]
        rfl
      · simp only [List.map_cons, PyData.canLayAll0, PyData.canLay0, i5]
        rfl
  obtain ⟨i1, i2, i3, i4, i5⟩ := sL ps small
  have nmok := names_fine _ hmem
  simp only [Bool.and_eq_true] at nmok
  obtain ⟨m1, m2⟩ := nmok
  have nl := names_small _ hmem
  unfold okData dRow
  simp only [PyData.leavesShort, PyData.leavesShortAll, PyData.weight, PyData.weightAll, PyData.showable, PyData.showableAll, PyData.depth, PyData.depthAll, PyData.canLay0, PyData.canLayAll0, i1, i3, i4, i5, m1, m2, Bool.and_true, Bool.true_and, Bool.and_eq_true, decide_eq_true_eq, Bool.true_or]
  have nl2 : nm.cps.size ≤ 8 := nl
  exact ⟨decide_eq_true (Nat.le_trans (show _ ≤ 100 by omega) (by decide)), by decide⟩
theorem same_ne {x : V} {Pr : Prop} (e : (!decide (x = x)) = true) : Pr := by simp at e
theorem eq_ne {x y : V} {Pr : Prop} (h : x = y) (e : (!decide (x = y)) = true) : Pr := by
  subst h
  exact same_ne e
theorem dRow_inj {nm nm' : Str} {ps ps' : List Int} (h : dRow nm ps = dRow nm' ps') : nm = nm' ∧ ps = ps' := by
  unfold dRow at h
  injection h with h
  injection h with h1 h2
  injection h1 with h1
  refine ⟨h1, ?_⟩
  have inj : ∀ (a b : List Int), a.map PyData.int = b.map PyData.int → a = b := by
    intro a
    induction a with
    | nil => intro b e; cases b with | nil => rfl | cons _ _ => cases e
    | cons x r ih => intro b e; cases b with
      | nil => cases e
      | cons y s => injection e with e1 e2; injection e1 with e1; rw [e1, ih s e2]
  exact inj _ _ h2
section
variable {P : Program} {w : World} {K : PySem.W.Frag} {mg : Str → Option Value} {base : Heap}
def spWordRight : Sp := fun vs H Q _ => ∃ x : Int, vs = [.int x] ∧ 0 ≤ x ∧ x ≤ 65535 ∧ ∀ H', Same H H' → Q (.bl true) H'
theorem ok_wordRight {f C1 C2 : Addr} {fd : FuncData} {k : Nat} (F : Fun K "_law_is_word_right" "_law_is_word_right" sWordRight f fd)
    (g1 : Cal P w K mg base CX0 (k + 3) "_law_cell_row" ["word"] spCellRow) (g2 : Cal P w K mg base (L2.CX P w) (k + 3) "row_of" ["word"] (spRowOf K C1)) (g3 : Cal P w K mg base (L2.CX P w) (k + 3) "word_of" ["row"] (spRow K C2 fun nm ps => .int (wordOf nm ps)))
    (g4 : Cal P w K mg base CX0 (k + 3) "_law_cell_word" ["row"] (spCellWord K)) (g5 : Cal P w K mg base (L2.CX P w) (k + 3) "row_text" ["row"] (spRow K C2 fun nm ps => .str (rowText nm ps))) (g6 : Cal P w K mg base CX0 (k + 3) "_law_row_text" ["row"] (spLText K))
    (g7 : Cal P w K mg base (L2.CX P w) (k + 3) "is_placed" ["row"] (spRow K C2 fun nm _ => .bl (placed nm))) (mr : mg "repr" = none) : FnG P w K mg base (k + 4) f fd ["word"] spWordRight := by
  obtain ⟨f1, fd1, G1, k1, b1, m1⟩ := g1
  obtain ⟨f2, fd2, G2, k2, b2, m2⟩ := g2
  obtain ⟨f3, fd3, G3, k3, b3, m3⟩ := g3
  obtain ⟨f4, fd4, G4, k4, b4, m4⟩ := g4
  obtain ⟨f5, fd5, G5, k5, b5, m5⟩ := g5
  obtain ⟨f6, fd6, G6, k6, b6, m6⟩ := g6
  obtain ⟨f7, fd7, G7, k7, b7, m7⟩ := g7
  refine fnG_of F scWordRight (fun vs H Q E h => ?_) (fun cdv A outer s H vs Q hr gd h => ?_)
  · obtain ⟨x, rfl, _⟩ := h
    rfl
  · obtain ⟨x, rfl, h0, h1, q⟩ := h
    refine ⟨_, pss_cons (ps_set (i := 1) scWordRight.nd rfl (.inl rfl) (pe_call G1 hr (by rfl) m1 k1 b1 .nil pass0 (pa_cons (pv 0) pa_nil)))
      (pss_cons (ps_set (i := 2) scWordRight.nd rfl (.inl rfl) (pe_call G2 hr (by rfl) m2 k2 b2 .nil passX (pa_cons (pv 0) pa_nil)))
      (pss_cons (ps_if (pt_cmpR op_ne (pe_callB (call_repr gd hr.units) (by rfl) mr (by decide +kernel) (pa_cons (pv 2) pa_nil)) (pe_callB (call_repr gd hr.units) (by rfl) mr (by decide +kernel) (pa_cons (pv 1) pa_nil)) (nomark _)) (pss_one (ps_ret pe_bl)) pss_nil)
      (pss_cons (ps_if (pt_cmpR op_isN (pv 1) pe_non (nomark _)) (pss_one (ps_ret pe_bl)) pss_nil)
      (pss_cons (ps_if (PW.pt (pw_or (pt_cmpR op_ne (pe_call G3 hr (by rfl) m3 k3 b3 .nil passX (pa_cons (pv 2) pa_nil)) (pv 0) (nomark _)) (pw_or (pt_cmpR op_ne (pe_call G4 hr (by rfl) m4 k4 b4 .nil pass0 (pa_cons (pv 1) pa_nil)) (pv 0) (nomark _))
        (pw_or1 (pt_cmpR op_ne (pe_call G5 hr (by rfl) m5 k5 b5 .nil passX (pa_cons (pv 2) pa_nil)) (pe_call G6 hr (by rfl) m6 k6 b6 .nil pass0 (pa_cons (pv 1) pa_nil)) (nomark _)))))) (pss_one (ps_ret pe_bl)) pss_nil)
      (pss_one (ps_ret (pe_cmpR op_eq (pe_callB (call_repr gd hr.units) (by rfl) mr (by decide +kernel) (pa_cons (pe_call G7 hr (by rfl) m7 k7 b7 .nil passX (pa_cons (pv 2) pa_nil)) pa_nil)) (pe_callB (call_repr gd hr.units) (by rfl) mr (by decide +kernel) (pa_cons (pe_cmpR op_in_seq (pe_ix ix_tup (pv 1) pe_int (fun _ _ => rfl)) (pe_tup (pa_cons pe_str (pa_cons pe_str (pa_cons pe_str (pa_cons pe_str pa_nil))))) (by rfl)) pa_nil)) (nomark _)))))))), ?_⟩
    have at0 : ∀ {z : V} {zs : List V}, atI (z :: zs) 0 = some z := at_of (j := 0) rfl rfl
    have el := row_law h0 h1
    refine ⟨_, rfl, x, rfl, h0, h1, fun H1 s1 => ⟨fun en => ?_, fun nm ps a ea ha na => ?_⟩⟩
    · refine ⟨_, rfl, .int x, .int x, rfl, .dp (.int x), fun x' ex _ _ H2 s2 => ⟨fun _ => ?_, fun nm ps a e => ?_⟩, fun z => ?_⟩
      · refine ⟨.non, rfl, .non, .none, rfl, .dp .non, by decide, .non, rfl, .non, .none, rfl, .dp .non, by decide, rfl, _, rfl, ite2 (fun e => same_ne e) fun _ => ?_⟩
        exact ⟨.non, rfl, rfl, _, rfl, iteT (q _ (s1.trans s2))⟩
      · cases ex
        rw [el, en] at e
        cases e
      · simp [isW, h0, h1] at z
    · have ep : pRow x = some (nm, ps) := by rw [el]; exact ea
      obtain ⟨hrow, hword⟩ := row_word h0 h1 ep
      obtain ⟨okd, _⟩ := row_ok hrow
      refine ⟨_, rfl, .int x, .int x, rfl, .dp (.int x), fun x' ex _ _ H2 s2 => ⟨fun e => ?_, fun nm' ps' b e hb nb => ?_⟩, fun z => ?_⟩
      · cases ex
        rw [ep] at e
        cases e
      · cases ex
        rw [ep] at e
        cases e
        have qa := SqT.of (K := K) (s2 _ _ ha)
        have qb := SqT.of (K := K) hb
        refine ⟨.ref b, rfl, .ref b, dRow nm ps, rfl, row_dp qb, okd, .ref a, rfl, .ref a, dRow nm ps, rfl, row_dp qa, okd, rfl, _, rfl, ite2 (fun e => same_ne e) fun _ => ?_⟩
        refine ⟨.ref a, rfl, rfl, _, rfl, iteF ?_⟩
        have no : ∀ {P : Prop}, dIsRow (dRow nm ps) = false → P := fun {P} z => by rw [row_dIsRow hrow] at z; cases z
        refine ⟨.ref b, rfl, .ref b, dRow nm ps, rfl, row_dp qb, fun nm2 ps2 ed hr2 H3 s3 => ?_, no⟩
        obtain ⟨rfl, rfl⟩ := dRow_inj ed
        refine ⟨.int x, rfl, rfl, _, rfl, ?_⟩
        refine ite2 (fun e => eq_ne (congrArg V.int hword) e) fun _ => ?_
        have qa3 := Same.seqT s3 qa
        have qb3 := Same.seqT s3 qb
        refine ⟨.ref a, rfl, a, nm, ps, rfl, qa3, hrow, fun H4 s4 => ?_⟩
        refine ⟨.int x, rfl, rfl, _, rfl, ?_⟩
        refine ite2 (fun e => eq_ne (congrArg V.int hword) e) fun _ => ?_
        have qa4 := Same.seqT s4 qa3
        have qb4 := Same.seqT s4 qb3
        refine ⟨.ref b, rfl, .ref b, dRow nm ps, rfl, row_dp qb4, fun nm2 ps2 ed hr2 H5 s5 => ?_, no⟩
        obtain ⟨rfl, rfl⟩ := dRow_inj ed
        have qa5 := Same.seqT s5 qa4
        refine ⟨.ref a, rfl, a, nm, ps, rfl, qa5, hrow, fun H6 s6 => ?_⟩
        refine ⟨rfl, _, rfl, ?_⟩
        refine ite2 (fun e => same_ne e) fun _ => ?_
        have qa6 := Same.seqT s6 qa5
        have qb6 := Same.seqT s6 (Same.seqT s5 qb4)
        refine ⟨.ref b, rfl, .ref b, dRow nm ps, rfl, row_dp qb6, fun nm2 ps2 ed hr2 H7 s7 => ?_, no⟩
        obtain ⟨rfl, rfl⟩ := dRow_inj ed
        have qa7 := Same.seqT s7 qa6
        refine ⟨.bl (placed nm), .bool (placed nm), rfl, .dp (.bl _), by cases placed nm <;> decide, ?_⟩
        refine ⟨.ref a, rfl, a, _, 0, .str nm, rfl, rfl, qa7, at0, by show 4 ≤ sizeLine; decide, fun c nc => ?_⟩
        refine ⟨c, placedV, rfl, .inr (SqT.of upd_same), rfl, rfl, ?_⟩
        refine ⟨.bl (placed nm), .bool (placed nm), rfl, .dp (.bl _), by cases placed nm <;> decide, rfl, ?_⟩
        rw [decide_eq_true rfl]
        exact q _ ((((((s1.trans s2).trans s3).trans s4).trans s5).trans s6).trans (s7.trans (same_upd nc)))
      · simp [isW, h0, h1] at z
end
end K00

set_option maxRecDepth 100000
set_option maxHeartbeats 4000000
/-! k00: t[::-1] of a tuple, list(text): what stands in them. -/
namespace K00
open PySem PySem.Spec PyProof.Rows L2 HT
theorem vals_pick {xs : List V} {its : List Value} (r : Vals xs its) (f : Nat → Nat) : ∀ ks : List Nat, ∃ ys : List V, Vals ys (ks.filterMap fun k => its.toArray[f k]?) ∧ (∀ y ∈ ys, y ∈ xs) ∧ ys.length ≤ ks.length
  | [] => ⟨[], .nil, fun y hy => (List.not_mem_nil hy).elim, Nat.le_refl 0⟩
  | k :: ks => by
    obtain ⟨ys, h1, h2, h3⟩ := vals_pick r f ks
    cases e : its[f k]? with
    | none => exact ⟨ys, by simpa [e] using h1, h2, Nat.le_succ_of_le h3⟩
    | some u =>
      have hl : f k < xs.length := by rw [r.length]; exact (List.getElem?_eq_some_iff.mp e).1
      obtain ⟨u', hu', ru⟩ := r.get (List.getElem?_eq_getElem hl)
      rw [e] at hu'
      cases hu'
      refine ⟨xs[f k] :: ys, by simpa [e] using Paired.cons ru h1, fun y hy => ?_, Nat.succ_le_succ h3⟩
      rcases List.mem_cons.mp hy with rfl | hy
      · exact List.getElem_mem hl
      · exact h2 y hy
section
variable {P : Program} {w : World} {A : Around} {E : Value → Shared → Prop} {s : Shared}
theorem tup_rev {t sl : Addr} {items : Array Value} {vs : Value} {Q : Value → Shared → Prop} (ht : IsTup s.heap t items) (hs : s.heap.IsSliceOf sl .none .none vs) (ps : IsPart vs (some (-1)))
    (h : Q (.ref s.heap.objs.size) { s with heap := s.heap.push { cls := .type "tuple", data := .seq ((List.range items.size).filterMap fun (k : Nat) => items[(((items.size : Int) - 1) + (k : Int) * (-1)).toNat]?).toArray } })
    (hsz : items.size ≤ sizeLine) : wpAny (model P w) A (getItem (.ref t) (.ref sl)) Q E s := by
  obtain ⟨os, hos, hcs, hds⟩ := id hs
  have T : s.TypeIs (.ref sl) "slice" := ⟨os, hos, hcs⟩
  have hz : sizeOk (.seq ((List.range items.size).filterMap fun (k : Nat) => items[(((items.size : Int) - 1) + (k : Int) * (-1)).toNat]?).toArray) := by
    show _ ≤ sizeLine
    rw [List.size_toArray]
    exact Nat.le_trans (List.length_filterMap_le _ _) (by rw [List.length_range]; exact hsz)
  unfold getItem
  try with_reducible refine wpAny_holding ?_
  first | refine wpAny_bind (wpAny_pure ?_) | skip
  refine wpAny_bind (wpAny_sequenceKey ht.typeIs (by decide) (wpAny_bind (wpAny_callSpecial?_slot (name := Str.ofString "__getitem__") ht.typeIs PyProof.Rows.slot_tuple_getitem (wpAny_call_entry PyProof.Rows.slot_tuple_getitem ht.typeIs PyProof.Rows.entry_tuple_getitem ?_ (PyProof.Rows.args_tuple_getitem _ _)))))
  show wpAny _ _ (Builtin.Tuple.tupleItemsOf (.ref t) >>= _) _ E s
  refine wpAny_bind (tupleItemsOf_ ht (wpAny_bind (wpAny_typeOf T ?_)))
  rw [if_pos (by decide)]
  refine wpAny_bind ?_
  unfold Builtin.Slice.sliceApplied; unfold Builtin.Slice.sliceFields
  refine wpAny_bind (wpAny_bind (wpAny_field hos hds (x := .none) rfl (wpAny_bind (wpAny_field hos hds (x := .none) rfl (wpAny_bind (wpAny_field hos hds (x := vs) rfl (wpAny_pure ?_)))))))
  refine wpAny_bind (slicePart_ ps ?_)
  show wpAny _ _ (if ((-1 : Int) == 0) = true then _ else _) _ E s
  rw [if_neg (by decide)]
  refine wpAny_bind (slicePart_ .none (wpAny_bind (slicePart_ .none (wpAny_bind (wpAny_pure ?_)))))
  show wpAny _ _ (match Builtin.Slice.sliceAdjust none none (-1) (items.size : Int) with | (lo, hi) => pure (lo, (-1 : Int), Builtin.Slice.slicePlaces lo hi (-1))) _ E s
  have ea : Builtin.Slice.sliceAdjust none none (-1) (items.size : Int) = ((items.size : Int) - 1, -1) := by
    unfold Builtin.Slice.sliceAdjust
    simp
  have ep : Builtin.Slice.slicePlaces ((items.size : Int) - 1) (-1) (-1) = items.size := by
    unfold Builtin.Slice.slicePlaces
    simp
    omega
  rw [ea]
  dsimp only
  rw [ep]
  refine wpAny_pure ?_
  dsimp only
  rw [if_neg (by simp)]
  first
    | exact wpAny_bind (m := Builtin.Tuple.tupleExact _) (wpAny_newObj_type (wpAny_pure ⟨_, rfl, wpAny_pure h⟩) hz)
    | exact wpAny_bind (m := Builtin.Tuple.tupleExact _) (wpAny_newObj_type (wpAny_bind (wpAny_pure (wpAny_pure ⟨_, rfl, wpAny_pure h⟩))) hz)
    | exact wpAny_bind (wpAny_bind (m := Builtin.Tuple.tupleExact _) (wpAny_newObj_type (wpAny_pure (wpAny_pure ⟨_, rfl, wpAny_pure h⟩)) hz))
    | exact wpAny_bind (wpAny_bind (m := Builtin.Tuple.tupleExact _) (wpAny_newObj_type (wpAny_pure ⟨_, rfl, wpAny_pure h⟩) hz))
end
theorem vals_at : ∀ {xs : List V} {us : List Value}, xs.length = us.length → (∀ (j : Nat) (v : Value), us[j]? = some v → ∃ x, xs[j]? = some x ∧ RelV x v) → Vals xs us
  | [], [], _, _ => .nil
  | x :: xs, u :: us, hl, h => by
    obtain ⟨y, e, r⟩ := h 0 u rfl
    obtain rfl : x = y := Option.some.inj e
    exact .cons r (vals_at (by simpa using hl) fun j v e => h (j + 1) v (by simpa using e))
  | [], _ :: _, hl, _ => by simp at hl
  | _ :: _, [], hl, _ => by simp at hl
section
variable {X : Cx}
/-- t[::-1]: some of its own items, no more than it has -/
def tRevT (K : PySem.W.Frag) (te : TE) : TE := fun σ H Q => te σ H fun x H1 => ∃ a xs, x = .ref a ∧ SqT K H1 a xs ∧ ∀ ys p, (∀ y ∈ ys, y ∈ xs) → ys.length ≤ xs.length → H1 p = none → Q (.ref p) (upd H1 p (.tup ys))
theorem pe_revT {e : Expr} {te : TE} {k : Nat} {p1 p2 p3 pos : Pos} (he : PE X e te) : PE X (.Subscript e (.Slice none none (some (.UnaryOp .USub (.Constant (.int 1) k p1) p2)) p3) pos) (tRevT X.K te) := by
  refine ⟨fun pins s σ H Q I h => Subscript_ (thn (he.run pins s σ H _ I h) fun v s1 ⟨x, H1, I1, r1, a, xs, ex, hx, q⟩ => ?_)⟩
  subst ex
  cases r1
  have hst : PO X (some (.UnaryOp .USub (.Constant (.int 1) k p1) p2)) (tPart (tUn (rU fun i => .int (-i)) (tC (.int 1)))) := po_some (pe_un un_neg pe_int)
  refine wpAny_Slice (thn (po_none.run pins s1 σ H1 (fun o H2 => o = none ∧ H2 = H1) I1 ⟨rfl, rfl⟩) fun vl s2 ⟨l, H2, I2, pl, el, e2⟩ => ?_)
  subst el e2
  refine thn (po_none.run pins s2 σ H2 (fun o H3 => o = none ∧ H3 = H2) I2 ⟨rfl, rfl⟩) fun vu s3 ⟨u, H3, I3, pu, eu, e3⟩ => ?_
  subst eu e3
  refine thn (hst.run pins s3 σ H3 (fun o H4 => o = some (-1) ∧ H4 = H3) I3 ⟨1, rfl, -1, rfl, rfl, rfl⟩) fun vs s4 ⟨o, H4, I4, ps, eo, e4⟩ => ?_
  subst eo e4
  cases pl; cases pu
  have I5 : Inv X pins σ H4 { s4 with heap := s4.heap.push { cls := .type "slice", data := .fields #[.none, .none, vs] } } := I4.kept (t' := s4.toks) fun b ob q => Heap.get?_push_of_some _ q
  obtain ⟨its, r, ht, hz⟩ := I5.tuple hx
  have hlen := r.length
  obtain ⟨ys, y1, y2, y3⟩ := vals_pick r (fun k => (((its.toArray.size : Int) - 1) + (k : Int) * (-1)).toNat) (List.range its.toArray.size)
  rw [List.length_range, List.size_toArray, ← hlen] at y3
  show wpAny (model X.prog X.w) X.A (subscriptTail e (.Slice none none (some (.UnaryOp .USub (.Constant (.int 1) k p1) p2)) p3) (.ref a) (.ref s4.heap.objs.size)) (EP X pins σ Q) X.xe { s4 with heap := s4.heap.push { cls := .type "slice", data := .fields #[.none, .none, vs] } }
  refine tail_any (ops := [.ref a, .ref s4.heap.objs.size]) (IsTup.typeIs ht) (PyProof.Rows.slot_tuple_getitem.lookup) ?_ (by with_unfolding_all rfl)
  refine tup_rev ht (Heap.IsSliceOf.new _ _ _ vs) ps ?_ (by rw [List.size_toArray, ← hlen]; exact hz)
  refine ⟨.ref _, _, I5.laid (t' := s4.toks) (o := .tup ys) (fun b ob q => Heap.get?_push_of_some _ q) (Nat.le_refl _) ?_, rfl, q ys _ y2 y3 (I5.hok.fresh (Nat.le_refl _))⟩
  exact ⟨Nat.le_trans y3 hz, _, y1, IsTup.new _ _⟩
/-- list(text): its signs, one by one -/
def signs (x : Str) : List Str := x.cps.toList.map fun c => ⟨#[c]⟩
def rListS : List V → Hp → VK → Prop := fun xs H Q => ∃ x : Str, xs = [.str x] ∧ x.length ≤ sizeLine ∧ ∀ p, H p = none → Q (.ref p) (upd H p (.lst ((signs x).map V.str)))
theorem call_listS (hc : X.calm = true) : CallR X (.type "list") rListS := by
  intro pins s σ H xs us Q I r h
  obtain ⟨x, rfl, hz, q⟩ := h
  obtain ⟨u, rfl, rv⟩ := vals1 r
  obtain ⟨t, rfl⟩ := rv
  refine PySem.call_list_str (I.ok.hd hc) x t (fun h' tk acc' c' k ho hi => ?_) hz
  have lenE : acc'.toList.length = x.cps.toList.length := by rw [Array.length_toList, Array.length_toList, hi.1]
  have new : ObjOk X.prog X.w (upd H s.heap.objs.size (.lst ((signs x).map V.str))) h' s.heap.objs.size (.lst ((signs x).map V.str)) := by
    refine ⟨by rw [List.length_map, signs, List.length_map]; exact hz, acc'.toList, c', vals_at ?_ (fun j v e => ?_), by rw [Array.toArray_toList]; exact ho⟩
    · rw [List.length_map, signs, List.length_map, lenE]
    · obtain ⟨c, u, e1, rfl⟩ := hi.2 j v (by rw [← Array.getElem?_toList]; exact e)
      refine ⟨.str ⟨#[c]⟩, ?_, ⟨u, rfl⟩⟩
      rw [signs, List.getElem?_map, List.getElem?_map, Array.getElem?_toList, e1]
      rfl
  exact ⟨.ref _, _, I.laid (t' := tk) k (Nat.le_refl _) new, rfl, q _ (I.hok.fresh (Nat.le_refl _))⟩
end
end K00

set_option maxRecDepth 100000
set_option maxHeartbeats 8000000
/-! k00: a row bent. -/
namespace K00
open PySem PySem.Spec PyProof.Rows L2
/-- data without dicts, of nesting at most k and weight at most m -/
def okN (k m : Nat) (d : PyData) : Prop := d.leavesShort 13 = true ∧ d.weight ≤ m ∧ d.showable = true ∧ d.depth ≤ k ∧ d.canLay0 = true
theorem okN.mono {k m k' m' : Nat} {d : PyData} (h : okN k m d) (hk : k ≤ k') (hm : m ≤ m') : okN k' m' d := ⟨h.1, Nat.le_trans h.2.1 hm, h.2.2.1, Nat.le_trans h.2.2.2.1 hk, h.2.2.2.2⟩
theorem okN.ok {k m : Nat} {d : PyData} (h : okN k m d) (hk : k ≤ 8) (hm : m ≤ 2 ^ 20) : okData d = true := by
  unfold okData
  simp only [Bool.and_eq_true, Bool.or_eq_true, decide_eq_true_eq]
  exact ⟨h.1, Nat.le_trans h.2.1 hm, h.2.2.1, Nat.le_trans h.2.2.2.1 hk, .inl h.2.2.2.2⟩
theorem okN.all {k m : Nat} : ∀ {ds : List PyData}, (∀ d ∈ ds, okN k m d) → PyData.leavesShortAll 13 ds = true ∧ PyData.weightAll ds ≤ (m + 1) * ds.length ∧ PyData.showableAll ds = true ∧ PyData.depthAll ds ≤ k ∧ PyData.canLayAll0 ds = true
  | [], _ => ⟨rfl, Nat.le_refl _, rfl, Nat.zero_le _, rfl⟩
  | d :: ds, h => by
    obtain ⟨i1, i2, i3, i4, i5⟩ := okN.all fun y hy => h y (List.mem_cons_of_mem _ hy)
    obtain ⟨j1, j2, j3, j4, j5⟩ := h d List.mem_cons_self
    refine ⟨?_, ?_, ?_, ?_, ?_⟩
    · simp only [PyData.leavesShortAll, j1, i1, Bool.and_self]
    · simp only [PyData.weightAll, List.length_cons, Nat.mul_add, Nat.mul_one]
      omega
    · simp only [PyData.showableAll, j3, i3, Bool.and_self]
    · simp only [PyData.depthAll]
      omega
    · simp only [PyData.canLayAll0, j5, i5, Bool.and_self]
theorem okN.tup {k m : Nat} {ds : List PyData} (h : ∀ d ∈ ds, okN k m d) (hl : ds.length ≤ 8) : okN (k + 1) (8 * (m + 1)) (.tuple ds) := by
  obtain ⟨i1, i2, i3, i4, i5⟩ := okN.all h
  have : (m + 1) * ds.length ≤ (m + 1) * 8 := Nat.mul_le_mul_left _ hl
  refine ⟨by simpa [PyData.leavesShort] using i1, by simp only [PyData.weight]; omega, by simpa [PyData.showable] using i3, by simp only [PyData.depth]; omega, by simpa [PyData.canLay0] using i5⟩
theorem okN.lst {k m : Nat} {ds : List PyData} (h : ∀ d ∈ ds, okN k m d) (hl : ds.length ≤ 8) : okN (k + 1) (8 * (m + 1)) (.list ds) := by
  obtain ⟨i1, i2, i3, i4, i5⟩ := okN.all h
  have : (m + 1) * ds.length ≤ (m + 1) * 8 := Nat.mul_le_mul_left _ hl
  refine ⟨by simpa [PyData.leavesShort] using i1, by simp only [PyData.weight]; omega, by simpa [PyData.showable] using i3, by simp only [PyData.depth]; omega, by simpa [PyData.canLay0] using i5⟩
theorem okN.int {i : Int} (h0 : -100000 ≤ i) (h1 : i ≤ 1000000) : okN 0 50 (.int i) := by
  have ht : (Str.ofString (toString i)).length ≤ 13 := by
    by_cases c : 0 ≤ i
    · exact Nat.le_trans (toString_length_le (k := 7) c (by decide) (by omega)) (by decide)
    · obtain ⟨n, rfl⟩ : ∃ n : Nat, i = Int.negSucc n := by
        cases i with
        | ofNat n => exact absurd (Int.natCast_nonneg n) c
        | negSucc n => exact ⟨n, rfl⟩
      have hn : (n + 1 : Int) < 10 ^ 6 := by omega
      have e : toString (Int.negSucc n) = "-" ++ toString (n + 1) := rfl
      have t := toString_length_le (v := ((n + 1 : Nat) : Int)) (k := 6) (by omega) (by decide) (by exact_mod_cast hn)
      have len : ∀ a b : String, (Str.ofString (a ++ b)).length = (Str.ofString a).length + (Str.ofString b).length := fun a b => by
        show (Str.ofString (a ++ b)).cps.size = (Str.ofString a).cps.size + (Str.ofString b).cps.size
        rw [Str.ofString_eq_toList, Str.ofString_eq_toList, Str.ofString_eq_toList]
        simp [String.toList_append]
      rw [e, len]
      have h1' : (Str.ofString "-").length = 1 := by decide
      have t' : (Str.ofString (toString (n + 1))).length ≤ 6 := t
      omega
  have hl : i.natAbs.log2 ≤ 20 := by
    by_cases z : i.natAbs = 0
    · rw [z]; decide
    · exact Nat.le_of_lt_succ ((Nat.log2_lt z).mpr (by omega))
  refine ⟨by simp only [PyData.leavesShort, decide_eq_true_eq]; exact ht, ?_, ?_, Nat.le_refl 0, rfl⟩
  · simp only [PyData.weight]
    split <;> omega
  · simp only [PyData.showable, decide_eq_true_eq]
    omega
/-- texts that can be shown -/
def okS (n : Nat) (x : Str) : Prop := x.length ≤ n ∧ ∀ c ∈ x.cps.toList, c < 0x110000
theorem okS.ok {n : Nat} {x : Str} (h : okS n x) (hn : n ≤ 50) : okN 0 50 (.str x) := by
  refine ⟨?_, Nat.le_trans h.1 hn, rfl, Nat.le_refl 0, ?_⟩
  · simp only [PyData.leavesShort, List.all_eq_true, decide_eq_true_eq]
    exact fun c hc => Nat.lt_of_lt_of_le (h.2 c hc) (by decide)
  · simp only [PyData.canLay0, PyData.strOk]
    rw [← Array.all_toList, List.all_eq_true]
    exact fun c hc => decide_eq_true (h.2 c hc)
theorem str_chars (z : String) : ∀ c ∈ (Str.ofString z).cps.toList, c < 0x110000 := fun c hc => by
  rw [Str.ofString_eq_toList] at hc
  simp only [List.toList_toArray, List.mem_map] at hc
  obtain ⟨ch, _, rfl⟩ := hc
  rcases ch.valid with h | ⟨_, h⟩
  · exact Nat.lt_of_lt_of_le h (by decide)
  · exact h
theorem okS.cut {n : Nat} {x : Str} (h : okS n x) (lo hi : Option Int) : okS n (cutS x lo hi) := by
  refine ⟨Nat.le_trans (cutS_length x lo hi) h.1, fun c hc => h.2 c ?_⟩
  have hc : c ∈ ((x.cps.toList.drop (HT.sIx x.length 0 lo)).take (HT.sIx x.length x.length hi - HT.sIx x.length 0 lo)).toArray.toList := hc
  rw [List.toList_toArray] at hc
  exact List.mem_of_mem_drop (List.mem_of_mem_take hc)
theorem names_up : ∀ p ∈ shapes, (decide ((Txt.upper p.1).length ≤ 20) && (Txt.upper p.1).cps.toList.all fun c => decide (c < 0x110000)) = true := by decide +kernel
theorem names_two : ∀ p ∈ shapes, p.1 ≠ "" ∧ 2 ≤ p.1.length := by decide
theorem name_okS {nm : Str} (h : (shapes.lookup nm).isSome = true) : okS 8 nm ∧ okS 20 (Txt.upper nm) ∧ nm ≠ "" ∧ 2 ≤ nm.length := by
  obtain ⟨sh, hl⟩ := Option.isSome_iff_exists.mp h
  have hmem := mem_of_lookup hl
  have h1 := names_fine _ hmem
  have h2 := names_up _ hmem
  simp only [Bool.and_eq_true, decide_eq_true_eq, List.all_eq_true] at h1 h2
  refine ⟨⟨names_small _ hmem, fun c hc => ?_⟩, ⟨h2.1, h2.2⟩, names_two _ hmem⟩
  have h3 := h1.2
  unfold PyData.strOk at h3
  rw [← Array.all_toList, List.all_eq_true] at h3
  exact of_decide_eq_true (h3 c hc)
theorem okS.cat {n m : Nat} {x y : Str} (h : okS n x) (g : okS m y) : okS (n + m) (x ++ y) := by
  have e : (x ++ y).cps = x.cps ++ y.cps := rfl
  refine ⟨?_, fun c hc => ?_⟩
  · show (x ++ y).cps.size ≤ _
    rw [e, Array.size_append]
    exact Nat.add_le_add h.1 g.1
  · rw [e, Array.toList_append] at hc
    exact (List.mem_append.mp hc).elim (h.2 c) (g.2 c)
theorem sqT_wo {K : PySem.W.Frag} {H : Hp} {c p : Addr} {xs ys : List V} (h : SqT K H c xs) (hp : H p = some (.lst ys)) : SqT K (wo H p) c xs := by
  rcases h with (h | ⟨o, h⟩) | h
  · exact .inl (.inl (wo_at h fun z => by rw [z, hp] at h; cases h))
  · exact .inl (.inr ⟨o, wo_at h fun z => by rw [z, hp] at h; cases h⟩)
  · exact .inr h
theorem catA_one {K : PySem.W.Frag} {H : Hp} {a b : Addr} {xs ys : List V} {Q : VK} (ha : SqT K H a xs) (hb : SqT K H b ys) (hl : xs.length + ys.length ≤ sizeLine) (q : ∀ c H', SqT K H' c (xs ++ ys) → Same H H' → Q (.ref c) H') : rCatA K (.ref a) (.ref b) H Q := by
  refine ⟨a, b, xs, ys, rfl, rfl, ha, hb, hl, fun e => ?_, fun _ e => ?_, fun _ _ p np => q p _ (SqT.of upd_same) (same_upd np)⟩
  · subst e
    exact q b H hb (Same.refl H)
  · subst e
    refine q a H ?_ (Same.refl H)
    rw [List.append_nil]
    exact ha
theorem slice_any {K : PySem.W.Frag} {H : Hp} {a : Addr} {xs : List V} {lo hi : Option Int} {Q : VK} (h : SqT K H a xs) (q : ∀ c H' ys, SqT K H' c ys → (∀ y ∈ ys, y ∈ xs) → ys.length ≤ xs.length → Same H H' → Q (.ref c) H') : rSlA K (.ref a) lo hi H Q :=
  ⟨a, xs, rfl, h, fun _ => q a H xs h (fun y hy => hy) (Nat.le_refl _) (Same.refl H), fun _ p np => q p _ _ (SqT.of upd_same) (fun y hy => List.mem_of_mem_drop (List.mem_of_mem_take hy)) (cutV_length xs lo hi) (same_upd np)⟩
theorem dpAll_app {K : PySem.W.Frag} {H : Hp} : ∀ {xs ys : List V} {ds es : List PyData}, DpAll K H xs ds → DpAll K H ys es → DpAll K H (xs ++ ys) (ds ++ es)
  | [], _, [], _, _, g => g
  | _ :: _, _, _ :: _, _, .cons h1 h2, g => .cons h1 (dpAll_app h2 g)
theorem scBent : FnScope ["pot", "value", "at", "some", "sign"] ["pot", "value"] (defScope sBent) := ⟨rfl, rfl, rfl, by decide +kernel, rfl, by decide +kernel, by decide +kernel⟩
section
variable {P : Program} {w : World} {K : PySem.W.Frag} {mg : Str → Option Value} {base : Heap}
/-- an int or a name, bent -/
def spBentA (K : PySem.W.Frag) : Sp := fun vs H Q _ => ∃ (p : Addr) (n : Nat) (v : V), vs = [.ref p, v] ∧ ((∃ i : Int, v = .int i ∧ 0 ≤ i ∧ i ≤ 65535) ∨ ∃ nm : Str, v = .str nm ∧ (shapes.lookup nm).isSome = true) ∧ Pot H p n ∧ n + 20 < 1000000 ∧
  ∀ u d H', Pot H' p (n + 20) → Same (wo H p) (wo H' p) → Dp K (nl H H') u d → okN 1 408 d → Q u H'
def spBentT (K : PySem.W.Frag) : Sp := fun vs H Q _ => ∃ (p : Addr) (n : Nat) (a : Addr) (nm : Str) (ps : List Int), vs = [.ref p, .ref a] ∧ SqT K (wo H p) a (.str nm :: ps.map V.int) ∧ IsRow nm ps ∧ Pot H p n ∧ n + 40 < 1000000 ∧
  ∀ u d H', Pot H' p (n + 40) → Same (wo H p) (wo H' p) → Dp K (nl H H') u d → okN 2 3272 d → Q u H'
theorem ok_bent {f f1 f2 f3 f4 : Addr} {fd fd1 fd2 fd3 fd4 : FuncData} {k : Nat} {b : Bool} {spR : Sp} (F : Fun K "_law_bent" "_law_bent" sBent f fd) (GR : FnOk P w K mg base CX0 (k + 4) f fd ["pot", "value"] spR) (hR : b = true → ∀ vs H Q E, spBentA K vs H Q E → spR vs H Q E)
    (kF : PySem.W.keepIn K (.ref f) = true) (bF : Binds K fd ["pot", "value"] []) (gF : mg "_law_bent" = some (.ref f))
    (G1 : FnOk P w K mg base CX0 (k + 4) f1 fd1 ["pot", "some"] (spOf K)) (k1 : PySem.W.keepIn K (.ref f1) = true) (b1 : Binds K fd1 ["pot", "some"] []) (g1 : mg "_law_of" = some (.ref f1))
    (G2 : FnOk P w K mg base CX0 (k + 4) f2 fd2 ["pot", "upto"] spTake) (k2 : PySem.W.keepIn K (.ref f2) = true) (b2 : Binds K fd2 ["pot", "upto"] []) (g2 : mg "_law_take" = some (.ref f2))
    (G3 : FnOk P w K mg base CX0 (k + 4) f3 fd3 ["pot", "pool", "many"] (spSome K)) (k3 : PySem.W.keepIn K (.ref f3) = true) (b3 : Binds K fd3 ["pot", "pool", "many"] []) (g3 : mg "_law_some" = some (.ref f3))
    (G4 : FnOk P w K mg base CX0 (k + 4) f4 fd4 ["pot"] (spOdd K)) (k4 : PySem.W.keepIn K (.ref f4) = true) (b4 : Binds K fd4 ["pot"] []) (g4 : mg "_law_odd" = some (.ref f4))
    (mi : mg "isinstance" = none) (mt : mg "tuple" = none) (ml : mg "len" = none) (mL : mg "list" = none) (mb : mg "bool" = none) (mn : mg "int" = none) (ms : mg "str" = none) :
    FnOk P w K mg base CX0 (k + 5) f fd ["pot", "value"] (fun vs H Q E => spBentA K vs H Q E ∨ (b = true ∧ spBentT K vs H Q E)) := by
  refine F.ok scBent (fun vs H Q E h => ?_) (fun cdv A outer s H vs Q E hr h => ?_)
  · rcases h with ⟨p, n, v, rfl, _⟩ | ⟨_, p, n, a, nm, ps, rfl, _⟩ <;> rfl
  · refine ⟨_, pss_cons (ps_if (PW.pt (pw_and (pt_val (pe_callB call_isi (by rfl) mi (by decide +kernel) (pa_cons (pv 1) (pa_cons (pe_bltn (v := .ty "tuple") (by rfl) mt (by decide +kernel) rfl) pa_nil))))
        (pw_and (pt_cmpR (op_neD hr.units) (pv 1) (pe_tup pa_nil) (nomark _)) (pw_and1 (pt_cmpR op_gt (pe_call G2 hr (by rfl) g2 k2 b2 .nil pass0 (pa_cons (pv 0) (pa_cons pe_int pa_nil))) pe_int (nomark _))))))
        (pss_cons (ps_set (i := 2) scBent.nd rfl (.inr rfl) (pe_call G2 hr (by rfl) g2 k2 b2 .nil pass0 (pa_cons (pv 0) (pa_cons (pe_callB call_len_seq (by rfl) ml PySem.boot_len (pa_cons (pv 1) pa_nil)) pa_nil))))
        (pss_one (ps_ret (pe_op op_catA (pe_op op_catA (pe_slice sl_tupA (pv 1) po_none (po_some (pv 2))) (pe_tup (pa_cons (pe_call GR hr (by rfl) gF kF bF .nil pass0 (pa_cons (pv 0) (pa_cons (pe_ix ix_tup (pv 1) (pv 2) (fun _ _ => rfl)) pa_nil))) pa_nil))) (pe_slice sl_tupA (pv 1) (po_some (pe_op op_add (pv 2) pe_int)) po_none))))) pss_nil)
      (pss_cons (ps_if (pt_val (pe_callB call_isi (by rfl) mi (by decide +kernel) (pa_cons (pv 1) (pa_cons (pe_bltn (v := .ty "tuple") (by rfl) mt (by decide +kernel) rfl) pa_nil))))
        (pss_cons (ps_set (i := 3) scBent.nd rfl (.inl rfl) (pe_lst (pa_cons (pe_callTy call_list_of (by rfl) mL (by decide +kernel) (pa_cons (pv 1) pa_nil)) (pa_cons (pe_slice sl_tupA (pv 1) (po_some pe_int) po_none) (pa_cons (pe_slice sl_tupA (pv 1) po_none (po_some (pe_un un_neg pe_int)))
          (pa_cons (pe_op op_catA (pv 1) (pe_slice sl_tupA (pv 1) (po_some (pe_un un_neg pe_int)) po_none)) (pa_cons (pe_revT (pv 1)) (pa_cons (pe_tup pa_nil) (pa_cons pe_non (pa_cons (pe_op op_catA (pv 1) (pe_tup (pa_cons pe_int pa_nil))) pa_nil))))))))))
        (pss_one (ps_ret (pe_call G1 hr (by rfl) g1 k1 b1 .nil pass0 (pa_cons (pv 0) (pa_cons (pv 3) pa_nil)))))) pss_nil)
      (pss_cons (ps_if (pt_val (pe_callB call_isi (by rfl) mi (by decide +kernel) (pa_cons (pv 1) (pa_cons (pe_bltn (v := .ty "bool") (by rfl) mb (by decide +kernel) rfl) pa_nil))))
        (pss_one (ps_ret (pe_call G1 hr (by rfl) g1 k1 b1 .nil pass0 (pa_cons (pv 0) (pa_cons (pe_lst (pa_cons (pe_not (pv 1)) (pa_cons (pe_callTy call_int1 (by rfl) mn (by decide +kernel) (pa_cons (pv 1) pa_nil)) (pa_cons pe_non pa_nil)))) pa_nil))))) pss_nil)
      (pss_cons (ps_if (pt_val (pe_callB call_isi (by rfl) mi (by decide +kernel) (pa_cons (pv 1) (pa_cons (pe_bltn (v := .ty "int") (by rfl) mn (by decide +kernel) rfl) pa_nil))))
        (pss_one (ps_ret (pe_call G1 hr (by rfl) g1 k1 b1 .nil pass0 (pa_cons (pv 0) (pa_cons (pe_lst (pa_cons (pe_op op_add (pv 1) pe_int) (pa_cons (pe_op op_sub (pv 1) pe_int) (pa_cons (pe_cmpR op_eq (pv 1) pe_int (nomark _)) (pa_cons (pe_un un_neg (pv 1))
          (pa_cons (pe_callTy call_str_int (by rfl) ms (by decide +kernel) (pa_cons (pe_op op_mod (pe_callTy call_int1 (by rfl) mn (by decide +kernel) (pa_cons (pv 1) pa_nil)) (pe_op op_pow pe_int pe_int)) pa_nil)) (pa_cons pe_non (pa_cons (pe_tup (pa_cons (pv 1) pa_nil)) pa_nil)))))))) pa_nil))))) pss_nil)
      (pss_cons (ps_if (PW.pt (pw_and (pt_val (pe_callB call_isi (by rfl) mi (by decide +kernel) (pa_cons (pv 1) (pa_cons (pe_bltn (v := .ty "str") (by rfl) ms (by decide +kernel) rfl) pa_nil)))) (pw_and1 (pt_cmpR op_ne (pv 1) pe_str (nomark _)))))
        (pss_cons (ps_set (i := 2) scBent.nd rfl (.inr rfl) (pe_call G2 hr (by rfl) g2 k2 b2 .nil pass0 (pa_cons (pv 0) (pa_cons (pe_callB call_len_str (by rfl) ml PySem.boot_len (pa_cons (pv 1) pa_nil)) pa_nil))))
        (pss_cons (ps_setLc (i := 3) (own := [("sign", 4)]) (g := gName 4) (tt := tYes) rfl scBent.nd rfl rfl (by rfl) (pi_list (pe_call G3 hr (by rfl) g3 k3 b3 .nil pass0 (pa_cons (pv 0) (pa_cons (pe_callTy (call_listS rfl) (by rfl) mL (by decide +kernel) (pa_cons pe_str pa_nil)) (pa_cons pe_int pa_nil))))) (blkOk_by (N := ["pot", "value", "at", "some", "sign"]) (sc := defScope sBent) (by decide +kernel))
          (fun _ _ _ _ _ => pg_name (i := 4) scBent.nd rfl (.inl rfl)) (fun _ _ _ _ _ => pts_nil) (fun _ _ _ _ _ => pe_op op_add_str (pe_op op_add_str (pe_slice sl_str (pv 1) po_none (po_some (pv 2))) (pv 4)) (pe_slice sl_str (pv 1) (po_some (pe_op op_add (pv 2) pe_int)) po_none)))
        (pss_one (ps_ret (pe_call G1 hr (by rfl) g1 k1 b1 .nil pass0 (pa_cons (pv 0) (pa_cons (pe_op op_cat (pv 3) (pe_lst (pa_cons (pe_op op_add_str (pv 1) pe_str) (pa_cons (pe_slice sl_str (pv 1) (po_some pe_int) po_none) (pa_cons (pe_upper (pv 1)) (pa_cons (pe_lst (pa_cons (pv 1) pa_nil)) (pa_cons pe_non (pa_cons (pe_op op_add_str pe_str (pv 1)) (pa_cons (pe_tup (pa_cons (pv 1) pa_nil)) pa_nil))))))))) pa_nil))))))) pss_nil)
      (pss_one (ps_ret (pe_call G4 hr (by rfl) g4 k4 b4 .nil pass0 (pa_cons (pv 0) pa_nil)))))))), ?_⟩
    rcases h with ⟨p, n, v, rfl, hv, hp, hn, q⟩ | ⟨hb, p, n, a, nm, ps, rfl, hs, hrow, hp, hn, q⟩
    · rcases hv with ⟨i, rfl, i0, i1⟩ | ⟨nm, rfl, hnm⟩
      · have ty : TyX K H (.int i) (.type "int") := (Dk.dp (.int i)).tyx
        refine ⟨.int i, rfl, .int i, .ty "tuple", .type "int", .type "tuple", false, rfl, .ty "tuple", ty, (kit_ty (show kitB "int" "tuple" = some false by decide +kernel)), _, rfl, iteF (iteF ?_)⟩
        refine ⟨.int i, rfl, .int i, .ty "tuple", .type "int", .type "tuple", false, rfl, .ty "tuple", ty, (kit_ty (show kitB "int" "tuple" = some false by decide +kernel)), _, rfl, iteF ?_⟩
        refine ⟨.int i, rfl, .int i, .ty "bool", .type "int", .type "bool", false, rfl, .ty "bool", ty, (kit_ty (show kitB "int" "bool" = some false by decide +kernel)), _, rfl, iteF ?_⟩
        refine ⟨.int i, rfl, .int i, .ty "int", .type "int", .type "int", true, rfl, .ty "int", ty, (kit_ty (show kitB "int" "int" = some true by decide +kernel)), _, rfl, iteT ?_⟩
        refine ⟨.ref p, rfl, .int i, rfl, i, 1, rfl, rfl, .int i, rfl, i, 1, rfl, rfl, .int i, rfl, rfl, .int i, rfl, i, rfl, .int i, rfl, .inl ⟨i, rfl, 10, 6, rfl, rfl, (by unfold CPow; decide), i, 10 ^ (6 : Int).toNat, rfl, rfl, (by show (0 : Int) < 10 ^ 6; decide), i % (10 ^ (6 : Int).toNat), rfl, ?_, .int i, rfl, by show 1 ≤ sizeLine; decide, fun c nc => ⟨by show 7 ≤ sizeLine; decide, fun l nl => ?_⟩⟩⟩
        · have : 0 ≤ i % (10 ^ (6 : Int).toNat) ∧ i % (10 ^ (6 : Int).toNat) ≤ 65535 := by
            have e : (10 : Int) ^ (6 : Int).toNat = 1000000 := by decide
            rw [e]; omega
          exact log_small this.1 this.2
        have s1 := same_upd (o := .tup [V.int i]) nc
        have s2 := s1.trans (same_upd (o := .lst [V.int (i + 1), .int (i - 1), .bl (decide (V.int i = V.int 1)), .int (-i), .str ((toString (i % (10 ^ (6 : Int).toNat)) : String) : Str), .non, .ref c]) nl)
        have nel := (hp.same s1).ne nl
        have nec := hp.ne nc
        refine ⟨p, l, [V.int (i + 1), .int (i - 1), .bl (decide (V.int i = V.int 1)), .int (-i), .str ((toString (i % (10 ^ (6 : Int).toNat)) : String) : Str), .non, .ref c], n, rfl, SqL.of (wo_at upd_same nel), by simp, by show 7 ≤ 1000; decide, hp.same s2, by omega, fun x hx H' hp' s' => ?_⟩
        have qq := fun u d => q u d H' (hp'.mono (by omega)) ((wo_same_of s2).trans s')
        have ec : H' c = some (.tup [V.int i]) ∧ c ≠ p := ⟨wo_le _ _ (s' _ _ (wo_at ((same_upd (o := .lst [V.int (i + 1), .int (i - 1), .bl (decide (V.int i = V.int 1)), .int (-i), .str ((toString (i % (10 ^ (6 : Int).toNat)) : String) : Str), .non, .ref c]) nl) _ _ upd_same) nec)), nec⟩
        simp only [List.mem_cons, List.not_mem_nil, or_false] at hx
        rcases hx with rfl | rfl | rfl | rfl | rfl | rfl | rfl
        · exact qq _ (.int _) (.int _) ((okN.int (by omega) (by omega)).mono (by omega) (by omega))
        · exact qq _ (.int _) (.int _) ((okN.int (by omega) (by omega)).mono (by omega) (by omega))
        · exact qq _ (.bool _) (.bl _) ⟨rfl, by simp [PyData.weight], rfl, by simp [PyData.depth], rfl⟩
        · exact qq _ (.int _) (.int _) ((okN.int (by omega) (by omega)).mono (by omega) (by omega))
        · refine qq _ (.str _) (.str _) ((okS.ok (n := 10) ⟨?_, ?_⟩ (by omega)).mono (by omega) (by omega))
          · have e : (10 : Int) ^ (6 : Int).toNat = 1000000 := by decide
            rw [e]
            exact Nat.le_trans (toString_length_le (k := 6) (by omega) (by decide) (by omega)) (by decide)
          · exact str_chars _
        · exact qq _ .none .non ⟨rfl, by simp [PyData.weight], rfl, by simp [PyData.depth], rfl⟩
        · exact qq _ (.tuple [.int i]) (.tup (SqT.of (nl_at ((wo_same_of s2).trans s') (wo_at ec.1 ec.2) fun _ z => nomatch z)) (.cons (.int i) .nil)) ((okN.tup (k := 0) (m := 50) (fun d hd => by rw [List.mem_singleton.mp hd]; exact okN.int (by omega) (by omega)) (by show 1 ≤ 8; omega)).mono (by omega) (by omega))
      · have ty : TyX K H (.str nm) (.type "str") := (Dk.dp (.str nm)).tyx
        obtain ⟨nok, uok, nne, n2⟩ := name_okS hnm
        refine ⟨.str nm, rfl, .str nm, .ty "tuple", .type "str", .type "tuple", false, rfl, .ty "tuple", ty, (kit_ty (show kitB "str" "tuple" = some false by decide +kernel)), _, rfl, iteF (iteF ?_)⟩
        refine ⟨.str nm, rfl, .str nm, .ty "tuple", .type "str", .type "tuple", false, rfl, .ty "tuple", ty, (kit_ty (show kitB "str" "tuple" = some false by decide +kernel)), _, rfl, iteF ?_⟩
        refine ⟨.str nm, rfl, .str nm, .ty "bool", .type "str", .type "bool", false, rfl, .ty "bool", ty, (kit_ty (show kitB "str" "bool" = some false by decide +kernel)), _, rfl, iteF ?_⟩
        refine ⟨.str nm, rfl, .str nm, .ty "int", .type "str", .type "int", false, rfl, .ty "int", ty, (kit_ty (show kitB "str" "int" = some false by decide +kernel)), _, rfl, iteF ?_⟩
        refine ⟨.str nm, rfl, .str nm, .ty "str", .type "str", .type "str", true, rfl, .ty "str", ty, (kit_ty (show kitB "str" "str" = some true by decide +kernel)), _, rfl, iteT ⟨.str nm, rfl, rfl, _, rfl, ?_⟩⟩
        have e0 : (!decide (V.str nm = V.str "")) = true := by
          rw [decide_eq_false fun z => nne (V.str.inj z)]
          rfl
        rw [e0]
        refine iteT ?_
        refine ⟨.ref p, rfl, .str nm, rfl, nm, rfl, Nat.le_of_lt (small1000 (by have := nok.1; omega)), ?_⟩
        refine ⟨p, (nm.length : Nat), n, rfl, by omega, by have := nok.1; omega, hp, by omega, fun d1 H1 d10 d11 hp1 s1 => ?_⟩
        refine ⟨.ref p, rfl, "rwx019- ", rfl, by decide, fun c nc => ?_⟩
        have t1 := same_upd (o := .lst ((signs "rwx019- ").map V.str)) nc
        refine ⟨p, c, (signs "rwx019- ").map V.str, 4, n + 1, rfl, SqL.of (wo_at upd_same (hp1.ne nc)), by decide, by decide, hp1.same t1, by omega, fun H2 Fo fs hp2 s2 hF lf af => ?_⟩
        have g2 := (s1.trans (wo_same_of t1)).trans s2
        have nFo : Fo ≠ p := fun z => by rw [z, wo_same] at hF; cases hF
        have hF2 := wo_le _ _ hF
        refine ⟨Fo, rfl, ⟨fs, SqL.of hF2⟩, fun D nD => ?_⟩
        have nDp := hp2.ne nD
        refine lc_list (xs := fs) (fun i H' => Same H2 H' ∧ ∃ zs : List Str, H' D = some (.lst (zs.map V.str)) ∧ zs.length = i ∧ ∀ z ∈ zs, okS 17 z) ⟨same_upd nD, [], upd_same, rfl, fun z hz => (List.not_mem_nil hz).elim⟩ (fun i H' _ hP => SqL.of (hP.1 _ _ hF2)) (fun i x H' hx hP => ?_) fun H3 hP => ?_
        · obtain ⟨sm, zs, hD, lz, az⟩ := hP
          obtain ⟨sg, hsg, rfl⟩ := List.mem_map.mp (af x (List.mem_of_getElem? hx))
          have osg : okS 1 sg := by
            unfold signs at hsg
            obtain ⟨ch, hch, rfl⟩ := List.mem_map.mp hsg
            exact ⟨Nat.le_refl 1, fun c' hc' => by
              have e : c' = ch := by simpa using hc'
              rw [e]
              exact str_chars "rwx019- " ch hch⟩
          have hi : i < 4 := by rw [← lf]; exact (List.getElem?_eq_some_iff.mp hx).1
          have o1 : okS 17 ((cutS nm none (some d1) ++ sg) ++ cutS nm (some (d1 + 1)) none) := ((nok.cut none (some d1)).cat osg).cat (nok.cut (some (d1 + 1)) none)
          have c1 := (nok.cut none (some d1)).1
          have c2 := (nok.cut (some (d1 + 1)) none).1
          have c3 := osg.1
          have c4 := ((nok.cut none (some d1)).cat osg).1
          refine ⟨rfl, ?_⟩
          unfold tYes
          refine iteT ?_
          have sl : ∀ {m : Nat}, m ≤ 1000 → m ≤ sizeLine := fun h => Nat.le_of_lt (small1000 h)
          have no1 := nok.1
          refine ⟨.str nm, rfl, ?_⟩
          unfold tNoPart
          refine ⟨_, rfl, d1, rfl, nm, rfl, sl (by omega), .str sg, rfl, _, _, rfl, rfl, sl (by omega), .str nm, rfl, ?_⟩
          refine ⟨_, rfl, d1, 1, rfl, rfl, d1 + 1, rfl, nm, rfl, sl (by omega), _, _, rfl, rfl, sl (by omega), _, hD, small1000 (by rw [List.length_map]; omega), Same.updNew sm nD, zs ++ [(cutS nm none (some d1) ++ sg) ++ cutS nm (some (d1 + 1)) none], ?_, ?_, ?_⟩
          · rw [upd_same, List.map_append]
            rfl
          · rw [List.length_append, lz]
            rfl
          · intro z hz
            rcases List.mem_append.mp hz with hz | hz
            · exact az z hz
            · rw [List.mem_singleton.mp hz]
              exact o1
        · obtain ⟨sm, zs, hD, lz, az⟩ := hP
          have sl : ∀ {m : Nat}, m ≤ 1000 → m ≤ sizeLine := fun h => Nat.le_of_lt (small1000 h)
          have no1 := nok.1
          have hp3 := hp2.same sm
          have ox : okS 1 "x" := ⟨by decide, str_chars "x"⟩
          have om : okS 1 "-" := ⟨by decide, str_chars "-"⟩
          have ox1 := ox.1
          have om1 := om.1
          refine ⟨.ref p, rfl, .ref D, rfl, .str nm, rfl, _, _, rfl, rfl, sl (by omega), .str nm, rfl, 1, rfl, nm, rfl, sl (by omega), .str nm, rfl, ?_⟩
          refine ⟨⟨nm, rfl⟩, nm, rfl, rfl, by omega, .str nm, rfl, by show 1 ≤ sizeLine; decide, fun c3 nc3 => ⟨.str nm, rfl, _, _, rfl, rfl, sl (by omega), .str nm, rfl, by show 1 ≤ sizeLine; decide, fun c4 nc4 => ⟨by show 7 ≤ sizeLine; decide, fun l nl => ?_⟩⟩⟩
          have u3 := same_upd (o := .lst [V.str nm]) nc3
          have u4 := same_upd (o := .tup [V.str nm]) nc4
          have u5 := same_upd (o := .lst [V.str (nm ++ "x"), .str (cutS nm (some 1) none), .str (Txt.upper nm), .ref c3, .non, .str ("-" ++ nm), .ref c4]) nl
          have e3 := hp3.ne nc3
          have e4 := (hp3.same u3).ne nc4
          refine ⟨D, l, zs.map V.str, [V.str (nm ++ "x"), .str (cutS nm (some 1) none), .str (Txt.upper nm), .ref c3, .non, .str ("-" ++ nm), .ref c4], rfl, rfl, ((u3.trans u4).trans u5) _ _ hD, upd_same, sl (by rw [List.length_map]; show zs.length + 7 ≤ 1000; omega), fun l2 nl2 => ?_⟩
          have u6 := same_upd (o := .lst (zs.map V.str ++ [V.str (nm ++ "x"), .str (cutS nm (some 1) none), .str (Txt.upper nm), .ref c3, .non, .str ("-" ++ nm), .ref c4])) nl2
          have u36 := ((u3.trans u4).trans u5).trans u6
          have e6 := (hp3.same ((u3.trans u4).trans u5)).ne nl2
          refine ⟨p, l2, _, n + 1 + 4, rfl, SqL.of (wo_at upd_same e6), by simp, by rw [List.length_append, List.length_map]; show zs.length + 7 ≤ 1000; omega, hp3.same u36, by omega, fun x hx H' hp' s' => ?_⟩
          have qq := fun u d => q u d H' (hp'.mono (by omega)) ((g2.trans (wo_same_of (sm.trans u36))).trans s')
          have f3 := s' _ _ (wo_at (((u4.trans u5).trans u6) _ _ upd_same) e3)
          have f4 := s' _ _ (wo_at ((u5.trans u6) _ _ upd_same) e4)
          have an : okN 0 50 (.str nm) := nok.ok (by omega)
          rcases List.mem_append.mp hx with hx | hx
          · obtain ⟨z, hz, rfl⟩ := List.mem_map.mp hx
            exact qq _ (.str z) (.str z) (((az z hz).ok (by omega)).mono (by omega) (by omega))
          · simp only [List.mem_cons, List.not_mem_nil, or_false] at hx
            rcases hx with rfl | rfl | rfl | rfl | rfl | rfl | rfl
            · exact qq _ (.str _) (.str _) (((nok.cat ox).ok (by omega)).mono (by omega) (by omega))
            · exact qq _ (.str _) (.str _) (((nok.cut (some 1) none).ok (by omega)).mono (by omega) (by omega))
            · exact qq _ (.str _) (.str _) ((uok.ok (by omega)).mono (by omega) (by omega))
            · exact qq _ (.list [.str nm]) (.lst (SqL.of ((nl_new (nl_fresh (g2.trans (wo_same_of sm)) nc3 e3)).trans (wo_le _ _ f3))) (.cons (.str nm) .nil)) ((okN.lst (k := 0) (m := 50) (fun d hd => by rw [List.mem_singleton.mp hd]; exact an) (by show 1 ≤ 8; omega)).mono (by omega) (by omega))
            · exact qq _ .none .non ⟨rfl, by simp [PyData.weight], rfl, by simp [PyData.depth], rfl⟩
            · exact qq _ (.str _) (.str _) (((om.cat nok).ok (by omega)).mono (by omega) (by omega))
            · exact qq _ (.tuple [.str nm]) (.tup (SqT.of (nl_at ((g2.trans (wo_same_of (sm.trans u36))).trans s') f4 fun _ z => nomatch z)) (.cons (.str nm) .nil)) ((okN.tup (k := 0) (m := 50) (fun d hd => by rw [List.mem_singleton.mp hd]; exact an) (by show 1 ≤ 8; omega)).mono (by omega) (by omega))
    · obtain ⟨sh, hl, hok⟩ := id hrow
      have hmem := mem_of_lookup hl
      obtain ⟨_, hp3⟩ := row_ok hrow
      have hsome : (shapes.lookup nm).isSome = true := by rw [hl]; rfl
      obtain ⟨nok, uok, nne, n2⟩ := name_okS hsome
      have small : ∀ x ∈ ps, 0 ≤ x ∧ x ≤ 511 := fun x hx => by
        obtain ⟨i, hi⟩ := List.getElem?_of_mem hx
        obtain ⟨bb, eb, x0, xb⟩ := okParts_get hok i x hi
        have := bnds_all _ hmem bb (List.mem_of_getElem? eb)
        omega
      have hsH := Same.seqT wo_le hs
      have ty : TyX K H (.ref a) (.type "tuple") := (Dk.dp (dp_same wo_le _ _ (by cases row_dp hs with | dp h => exact h))).tyx
      have tyT : ∀ {H' : Hp}, Same H H' → TyX K H' (.ref a) (.type "tuple") := fun {H'} s => (row_dp (Same.seqT s hsH)).tyx
      -- each part of the row, as a value and as data
      have part : ∀ {H' : Hp} {x : V}, x ∈ (V.str nm :: ps.map V.int) → ∃ d, Dp K H' x d ∧ okN 0 50 d := fun {H' x} hx => by
        rcases List.mem_cons.mp hx with rfl | hx
        · exact ⟨_, .str nm, nok.ok (by omega)⟩
        · obtain ⟨y, hy, rfl⟩ := List.mem_map.mp hx
          have := small y hy
          exact ⟨_, .int y, okN.int (by omega) (by omega)⟩
      have parts_ : ∀ {H' : Hp} (xs : List V), (∀ x ∈ xs, x ∈ (V.str nm :: ps.map V.int) ∨ x = .int 0) → ∃ ds, DpAll K H' xs ds ∧ (∀ d ∈ ds, okN 0 50 d) ∧ ds.length = xs.length := fun {H'} xs => by
        induction xs with
        | nil => exact fun _ => ⟨[], .nil, fun d hd => (List.not_mem_nil hd).elim, rfl⟩
        | cons x r ih =>
          intro h
          obtain ⟨ds, h1, h2, h3⟩ := ih fun y hy => h y (List.mem_cons_of_mem _ hy)
          obtain ⟨d, g1, g2⟩ : ∃ d, Dp K H' x d ∧ okN 0 50 d := by
            rcases h x List.mem_cons_self with hx | rfl
            · exact part hx
            · exact ⟨_, .int 0, okN.int (by omega) (by omega)⟩
          exact ⟨d :: ds, .cons g1 h1, fun e he => (List.mem_cons.mp he).elim (fun z => z ▸ g2) (h2 e), by rw [List.length_cons, List.length_cons, h3]⟩
      -- the second road: one of its like
      have second : ∀ (H1 : Hp) (n1 : Nat), Same (wo H p) (wo H1 p) → Pot H1 p n1 → n1 ≤ n + 2 → True := fun _ _ _ _ _ => trivial
      have shp : SeqAt.shaped (dRow nm ps) = true := okData.shaped (row_ok hrow).1 _ rfl
      refine ⟨.ref a, rfl, .ref a, .ty "tuple", .type "tuple", .type "tuple", true, rfl, .ty "tuple", ty, (kit_ty (show kitB "tuple" "tuple" = some true by decide +kernel)), _, rfl, iteT ?_⟩
      refine ⟨.ref a, rfl, by show 0 ≤ sizeLine; decide, fun c0 nc0 => ?_⟩
      have s0 := same_upd (o := .tup []) nc0
      refine ⟨dRow nm ps, .tuple [], by cases row_dp (Same.seqT s0 hsH) with | dp h => exact h, .tup (SqT.of upd_same) .nil, shp, by decide, _, rfl, ?_⟩
      refine iteT ?_
      refine ⟨.ref p, rfl, p, 6, n, rfl, by decide, by decide, hp.same s0, by omega, fun d0 H1 d00 d01 hp1 s1 => ?_⟩
      have g1 := (wo_same_of (a := p) s0).trans s1
      have hs1 := Same.seqT g1 hs
      have hs1H := Same.seqT wo_le hs1
      refine ⟨d0, 0, rfl, rfl, _, rfl, ?_⟩
      by_cases c : 0 < d0
      · rw [decide_eq_true c]
        refine iteT ?_
        refine ⟨.ref p, rfl, .ref a, rfl, a, _, rfl, .inr hs1H, ?_⟩
        have lenr : (V.str nm :: ps.map V.int).length = ps.length + 1 := by rw [List.length_cons, List.length_map]
        rw [lenr]
        refine ⟨p, ((ps.length + 1 : Nat) : Int), n + 1, rfl, by omega, by omega, hp1, by omega, fun d1 H2 d10 d11 hp2 s2 => ?_⟩
        obtain ⟨j, rfl⟩ : ∃ j : Nat, d1 = (j : Int) := ⟨d1.toNat, by omega⟩
        have hj : j < (V.str nm :: ps.map V.int).length := by rw [lenr]; omega
        have g2 := g1.trans s2
        have hs2 := Same.seqT g2 hs
        refine ⟨.ref a, rfl, ?_⟩
        unfold tNoPart
        refine ⟨_, rfl, (j : Int), rfl, slice_to (j := j) (Same.seqT wo_le hs2) fun c1 H3 hc1 s3 => ?_⟩
        have g3 := g2.trans (wo_same_of (a := p) s3)
        have hs3 := Same.seqT g3 hs
        refine ⟨.ref p, rfl, .ref a, rfl, .int (j : Int), rfl, a, _, (j : Int), _, rfl, rfl, Same.seqT wo_le hs3, at_of rfl (List.getElem?_eq_getElem hj), ?_⟩
        have hp3 := hp2.same s3
        obtain ⟨qa, qb, qc, hpe3, _⟩ := id hp3
        have hc1w := sqT_wo hc1 hpe3
        refine hR hb _ _ _ _ ⟨p, n + 2, _, rfl, ?_, hp3, by omega, fun u d H4 hp4 s4 hd okd => ?_⟩
        · rcases List.mem_cons.mp (List.getElem_mem hj) with e | e
          · exact .inr ⟨nm, e, hsome⟩
          · obtain ⟨y, hy, e2⟩ := List.mem_map.mp e
            have := small y hy
            exact .inl ⟨y, e2.symm, by omega, by omega⟩
        refine ⟨by show 1 ≤ sizeLine; decide, fun t1 nt1 => ?_⟩
        have u5 := same_upd (o := .tup [u]) nt1
        have g4 := g3.trans s4
        have ltk : ((V.str nm :: ps.map V.int).take j).length ≤ 4 := by rw [List.length_take, lenr]; omega
        refine catA_one (Same.seqT u5 (Same.seqT wo_le (Same.seqT s4 hc1w))) (SqT.of upd_same) (Nat.le_of_lt (small1000 (by show _ + 1 ≤ 1000; omega))) fun c2 H5 hc2 s5 => ?_
        have g5 := g4.trans (wo_same_of (a := p) (u5.trans s5))
        have hs5 := Same.seqT g5 hs
        refine ⟨.ref a, rfl, _, rfl, (j : Int), 1, rfl, rfl, ((j + 1 : Nat) : Int), rfl, ?_⟩
        refine slice_from (j := j + 1) (Same.seqT wo_le hs5) fun c3 H6 hc3 s6 _ => ?_
        have ldr : ((V.str nm :: ps.map V.int).drop (j + 1)).length ≤ 4 := by rw [List.length_drop, lenr]; omega
        refine catA_one (Same.seqT s6 hc2) hc3 (Nat.le_of_lt (small1000 (by rw [List.length_append]; show _ + 1 + _ ≤ 1000; omega))) fun c4 H7 hc4 s7 => ?_
        have s47 := ((u5.trans s5).trans s6).trans s7
        have hp7 := hp4.same s47
        obtain ⟨qa7, qb7, qc7, hpe7, _⟩ := id hp7
        have w7 := g4.trans (wo_same_of (a := p) s47)
        obtain ⟨dA, a1, a2, a3⟩ := parts_ (H' := nl H H7) ((V.str nm :: ps.map V.int).take j) fun x hx => .inl (List.mem_of_mem_take hx)
        obtain ⟨dB, b1', b2', b3'⟩ := parts_ (H' := nl H H7) ((V.str nm :: ps.map V.int).drop (j + 1)) fun x hx => .inl (List.mem_of_mem_drop hx)
        have hu := dp_same (nl_mono g3 (pot_lst hp3) s47) _ _ hd
        refine q _ (.tuple ((dA ++ [d]) ++ dB)) H7 (hp7.mono (by omega)) w7 (.tup (sqT_nl w7 (sqT_wo hc4 hpe7)) (dpAll_app (dpAll_app a1 (.cons hu .nil)) b1')) ?_
        refine (okN.tup (k := 1) (m := 408) (fun e he => ?_) ?_).mono (by omega) (by omega)
        · rcases List.mem_append.mp he with he | he
          · rcases List.mem_append.mp he with he | he
            · exact (a2 e he).mono (by omega) (by omega)
            · rw [List.mem_singleton.mp he]; exact okd
          · exact (b2' e he).mono (by omega) (by omega)
        · rw [List.length_append, List.length_append, a3, b3', List.length_take, List.length_drop, lenr]
          show min j _ + 1 + _ ≤ 8
          omega
      · rw [decide_eq_false c]
        refine iteF ?_
        obtain ⟨pa, pb, pc, hpe1, _⟩ := id hp1
        have xin : ∀ x ∈ (V.str nm :: ps.map V.int), x ∈ (V.str nm :: ps.map V.int) ∨ x = .int 0 := fun x hx => .inl hx
        have lenr : (V.str nm :: ps.map V.int).length ≤ 4 := by rw [List.length_cons, List.length_map]; omega
        have sl : ∀ {m : Nat}, m ≤ 1000 → m ≤ sizeLine := fun h => Nat.le_of_lt (small1000 h)
        have ty1 := (row_dp hs1H).tyx
        generalize (V.str nm :: ps.map V.int) = xs at hs1H xin lenr parts_
        refine ⟨.ref a, rfl, .ref a, .ty "tuple", .type "tuple", .type "tuple", true, rfl, .ty "tuple", ty1, (kit_ty (show kitB "tuple" "tuple" = some true by decide +kernel)), _, rfl, iteT ?_⟩
        refine ⟨.ref a, rfl, a, xs, rfl, .inr hs1H, fun e1 ne1 => ?_⟩
        have u1 := same_upd (o := .lst xs) ne1
        refine ⟨.ref a, rfl, 1, rfl, ?_⟩
        unfold tNoPart
        refine slice_any (Same.seqT u1 hs1H) fun e2 H2 y2 hy2 in2 le2 u2 => ?_
        refine ⟨.ref a, rfl, 1, rfl, -1, rfl, slice_any (Same.seqT (u1.trans u2) hs1H) fun e3 H3 y3 hy3 in3 le3 u3 => ?_⟩
        refine ⟨.ref a, rfl, .ref a, rfl, 1, rfl, -1, rfl, slice_any (Same.seqT ((u1.trans u2).trans u3) hs1H) fun e4 H4 y4 hy4 in4 le4 u4 => ?_⟩
        refine catA_one (Same.seqT (((u1.trans u2).trans u3).trans u4) hs1H) hy4 (sl (by omega)) fun e5 H5 hy5 u5 => ?_
        refine ⟨.ref a, rfl, a, xs, rfl, Same.seqT ((((u1.trans u2).trans u3).trans u4).trans u5) hs1H, fun y6 e6 in6 le6 ne6 => ?_⟩
        have u6 := same_upd (o := .tup y6) ne6
        refine ⟨by show 0 ≤ sizeLine; decide, fun e7 ne7 => ?_⟩
        have u7 := same_upd (o := .tup []) ne7
        refine ⟨.ref a, rfl, by show 1 ≤ sizeLine; decide, fun e8 ne8 => ?_⟩
        have u8 := same_upd (o := .tup [V.int 0]) ne8
        have a8 := (((((((u1.trans u2).trans u3).trans u4).trans u5).trans u6).trans u7).trans u8)
        refine catA_one (Same.seqT a8 hs1H) (SqT.of upd_same) (sl (by show _ + 1 ≤ 1000; omega)) fun e9 H9 hy9 u9 => ?_
        refine ⟨by show 8 ≤ sizeLine; decide, fun l nl => ?_⟩
        have ul := same_upd (o := .lst [V.ref e1, .ref e2, .ref e3, .ref e5, .ref e6, .ref e7, .non, .ref e9]) nl
        have a9 := a8.trans u9
        have hp9 := hp1.same a9
        have nel := hp9.ne nl
        have al := a9.trans ul
        refine ⟨.ref p, rfl, .ref l, rfl, p, l, [V.ref e1, .ref e2, .ref e3, .ref e5, .ref e6, .ref e7, .non, .ref e9], n + 1, rfl, SqL.of (wo_at upd_same nel), by simp, by show 8 ≤ 1000; decide, hp1.same al, by omega, fun x hx H' hp' s' => ?_⟩
        have qq := fun u d => q u d H' (hp'.mono (by omega)) ((g1.trans (wo_same_of al)).trans s')
        obtain ⟨ra, rb, rc, hpel, _⟩ := id (hp1.same al)
        have T : ∀ {c : Addr} {ys : List V}, SqT K _ c ys → (∀ y ∈ ys, y ∈ xs ∨ y = .int 0) → ys.length ≤ 8 → Q (.ref c) H' := fun {c ys} h hin hle => by
          obtain ⟨ds, h1, h2, h3⟩ := parts_ (H' := K00.nl H H') ys fun y hy => (hin y hy).elim (fun z => xin y z) .inr
          exact qq _ (.tuple ds) (.tup (sqT_nl ((g1.trans (wo_same_of al)).trans s') (Same.seqT s' (sqT_wo h hpel))) h1) ((okN.tup h2 (by omega)).mono (by omega) (by omega))
        simp only [List.mem_cons, List.not_mem_nil, or_false] at hx
        rcases hx with rfl | rfl | rfl | rfl | rfl | rfl | rfl | rfl
        · obtain ⟨ds, h1, h2, h3⟩ := parts_ (H' := K00.nl H H') xs xin
          have f1 := (((((((u2.trans u3).trans u4).trans u5).trans u6).trans u7).trans u8).trans u9).trans ul
          exact qq _ (.list ds) (.lst (SqL.of ((nl_new (nl_fresh g1 ne1 (hp1.ne ne1))).trans (wo_le _ _ (s' _ _ (wo_at (f1 _ _ upd_same) (hp1.ne ne1)))))) h1) ((okN.lst h2 (by omega)).mono (by omega) (by omega))
        · exact T (Same.seqT (((((((u3.trans u4).trans u5).trans u6).trans u7).trans u8).trans u9).trans ul) hy2) (fun y hy => .inl (in2 y hy)) (by omega)
        · exact T (Same.seqT ((((((u4.trans u5).trans u6).trans u7).trans u8).trans u9).trans ul) hy3) (fun y hy => .inl (in3 y hy)) (by omega)
        · refine T (Same.seqT ((((u6.trans u7).trans u8).trans u9).trans ul) hy5) (fun y hy => ?_) ?_
          · exact (List.mem_append.mp hy).elim .inl fun z => .inl (in4 y z)
          · rw [List.length_append]
            omega
        · exact T (Same.seqT (((u7.trans u8).trans u9).trans ul) (SqT.of upd_same)) (fun y hy => .inl (in6 y hy)) (by omega)
        · exact T (Same.seqT ((u8.trans u9).trans ul) (SqT.of upd_same)) (fun y hy => (List.not_mem_nil hy).elim) (by show 0 ≤ 8; omega)
        · exact qq _ .none .non ⟨rfl, by simp [PyData.weight], rfl, by simp [PyData.depth], rfl⟩
        · exact T (Same.seqT ul hy9) (fun y hy => (List.mem_append.mp hy).elim .inl fun z => .inr (List.mem_singleton.mp z)) (by rw [List.length_append]; show _ + 1 ≤ 8; omega)
end
end K00

set_option maxRecDepth 100000
set_option maxHeartbeats 8000000
/-! k00: one cell's look. -/
namespace K00
open PySem PySem.Spec PyProof.Rows L2 LamX
theorem scRight : FnScope ["pot", "word", "lap", "row"] ["pot"] (defScope sRight) := ⟨rfl, rfl, rfl, by decide +kernel, rfl, by decide +kernel, by decide +kernel⟩
section
variable {P : Program} {w : World} {K : PySem.W.Frag} {mg : Str → Option Value} {base : Heap}
/-- all but the tables and the pot stay -/
def ExtP (p : Addr) (H H' : Hp) : Prop := ∀ b o, H b = some o → b ≠ p → (∀ ps, o ≠ .tbl ps) → H' b = some o
def spRefused (K : PySem.W.Frag) (T : List (Addr × Str)) : Sp := fun vs H Q _ => ∃ (p a : Addr) (n : Nat) (nm : Str) (ps : List Int), vs = [.ref p, .ref a] ∧ SqT K (wo H p) a (.str nm :: ps.map V.int) ∧ IsRow nm ps ∧ Pot H p n ∧ n ≤ 1000 ∧ Tabs T H ∧ ∀ H', ExtP p H H' → Tabs T H' → Q (.bl true) H'
def spRight (K : PySem.W.Frag) (T : List (Addr × Str)) : Sp := fun vs H Q _ => ∃ p : Addr, vs = [.ref p] ∧ Pot H p 0 ∧ Tabs T H ∧ ∀ H', ExtP p H H' → Tabs T H' → Q (.bl true) H'
def CalG (P : Program) (w : World) (K : PySem.W.Frag) (mg : Str → Option Value) (base : Heap) (k : Nat) (x : Str) (ps : List Str) (sp : Sp) : Prop :=
  ∃ (f : Addr) (fd : FuncData), FnG P w K mg base k f fd ps sp ∧ PySem.W.keepIn K (.ref f) = true ∧ L2.Binds K fd ps [] ∧ mg x = some (.ref f)
theorem tabs_wo {T : List (Addr × Str)} {H H' : Hp} {p : Addr} (t : Tabs T H) (hp : ∃ xs, H p = some (.lst xs)) (s : Same (wo H p) (wo H' p)) : Tabs T H' := fun x hx => by
  obtain ⟨ps, h1, h2, h3⟩ := t x hx
  obtain ⟨xs, hl⟩ := hp
  refine ⟨ps, wo_le _ _ (s _ _ (wo_at h1 fun z => by rw [z, hl] at h1; cases h1)), h2, fun pos cv hc => ?_⟩
  obtain ⟨c, e1, e2⟩ := h3 pos cv hc
  exact ⟨c, e1, wo_le _ _ (s _ _ (wo_at e2 fun z => by rw [z, hl] at e2; unfold CodeO at e2; cases e2))⟩
theorem ok_right {f C1 C2 : Addr} {fd : FuncData} {k : Nat} {T : List (Addr × Str)} (F : Fun K "_law_right" "_law_right" sRight f fd)
    (g1 : CalG P w K mg base (k + 6) "_law_is_word_right" ["word"] spWordRight) (g2 : Cal P w K mg base CX0 (k + 6) "_law_some_words" ["pot"] spSomeWords) (g3 : Cal P w K mg base CX0 (k + 6) "_law_any_row" ["pot"] (spAnyRow K))
    (g4 : Cal P w K mg base (L2.CX P w) (k + 6) "row_of" ["word"] (spRowOf K C1)) (g5 : Cal P w K mg base (L2.CX P w) (k + 6) "word_of" ["row"] (spRow K C2 fun nm ps => .int (wordOf nm ps))) (g6 : Cal P w K mg base CX0 (k + 6) "_law_cell_word" ["row"] (spCellWord K))
    (g7 : Cal P w K mg base (L2.CX P w) (k + 6) "row_text" ["row"] (spRow K C2 fun nm ps => .str (rowText nm ps))) (g8 : Cal P w K mg base CX0 (k + 6) "_law_row_text" ["row"] (spLText K)) (g9 : CalG P w K mg base (k + 6) "_law_are_refused" ["pot", "row"] (spRefused K T))
    (ma : mg "all" = none) (mg_ : mg "range" = none) (mr : mg "repr" = none) : FnG P w K mg base (k + 7) f fd ["pot"] (spRight K T) := by
  obtain ⟨f1, fd1, G1, k1, b1, m1⟩ := g1
  obtain ⟨f2, fd2, G2, k2, b2, m2⟩ := g2
  obtain ⟨f3, fd3, G3, k3, b3, m3⟩ := g3
  obtain ⟨f4, fd4, G4, k4, b4, m4⟩ := g4
  obtain ⟨f5, fd5, G5, k5, b5, m5⟩ := g5
  obtain ⟨f6, fd6, G6, k6, b6, m6⟩ := g6
  obtain ⟨f7, fd7, G7, k7, b7, m7⟩ := g7
  obtain ⟨f8, fd8, G8, k8, b8, m8⟩ := g8
  obtain ⟨f9, fd9, G9, k9, b9, m9⟩ := g9
  refine fnG_of F scRight (fun vs H Q E h => ?_) (fun cdv A outer s H vs Q hr gd h => ?_)
  · obtain ⟨p, rfl, _⟩ := h
    rfl
  · obtain ⟨p, rfl, hp, hT, q⟩ := h
    refine ⟨_, pss_cons (ps_if (pt_not (pt_val (pe_callB (cr_all rfl) (by rfl) ma (by decide +kernel) (pa_cons (pe_lc (own := [("word", 1)]) (g := gName 1) (tt := tYes) rfl scRight.nd (pi_list (pe_call G2 hr (by rfl) m2 k2 b2 .nil pass0 (pa_cons (pv 0) pa_nil))) (blkOk_by (N := ["pot", "word", "lap", "row"]) (sc := defScope sRight) (by decide +kernel))
        (fun _ _ _ _ _ => pg_name (i := 1) scRight.nd rfl (.inl rfl)) (fun _ _ _ _ _ => pts_nil) (fun _ _ _ _ _ => pe_callG G1 hr gd (by rfl) m1 k1 b1 (pa_cons (pv 1) pa_nil))) pa_nil)))) (pss_one (ps_ret pe_bl)) pss_nil)
      (pss_cons (ps_for PassesOwn.never rfl (pi_range1 (by rfl) mg_ (pa_cons pe_int pa_nil)) (pg_name (i := 2) scRight.nd rfl (.inl rfl))
        (pss_cons (ps_set (i := 3) scRight.nd rfl (.inl rfl) (pe_call G3 hr (by rfl) m3 k3 b3 .nil pass0 (pa_cons (pv 0) pa_nil)))
        (pss_cons (ps_if (PW.pt (pw_or (pt_cmpR op_ne (pe_callB (call_repr gd hr.units) (by rfl) mr (by decide +kernel) (pa_cons (pe_call G4 hr (by rfl) m4 k4 b4 .nil passX (pa_cons (pe_call G5 hr (by rfl) m5 k5 b5 .nil passX (pa_cons (pv 3) pa_nil)) pa_nil)) pa_nil)) (pe_callB (call_repr gd hr.units) (by rfl) mr (by decide +kernel) (pa_cons (pv 3) pa_nil)) (nomark _))
          (pw_or1 (pt_cmpR op_ne (pe_call G5 hr (by rfl) m5 k5 b5 .nil passX (pa_cons (pv 3) pa_nil)) (pe_call G6 hr (by rfl) m6 k6 b6 .nil pass0 (pa_cons (pv 3) pa_nil)) (nomark _))))) (pss_one (ps_ret pe_bl)) pss_nil)
        (pss_one (ps_if (pt_cmpR op_ne (pe_call G7 hr (by rfl) m7 k7 b7 .nil passX (pa_cons (pv 3) pa_nil)) (pe_call G8 hr (by rfl) m8 k8 b8 .nil pass0 (pa_cons (pv 3) pa_nil)) (nomark _)) (pss_one (ps_ret pe_bl)) pss_nil)))))
      (pss_one (ps_ret (pe_callG G9 hr gd (by rfl) m9 k9 b9 (pa_cons (pv 0) (pa_cons (pe_call G3 hr (by rfl) m3 k3 b3 .nil pass0 (pa_cons (pv 0) pa_nil)) pa_nil)))))), ?_⟩
    have hpl : ∃ xs, H p = some (.lst xs) := by
      obtain ⟨a, b, c, e, _⟩ := hp
      exact ⟨_, e⟩
    have toP : ∀ {H' : Hp}, Same (wo H p) (wo H' p) → ExtP p H H' := fun {H'} s b o e ne _ => wo_le _ _ (s _ _ (wo_at e ne))
    refine ⟨.ref p, rfl, p, 0, rfl, hp, by decide, fun l ws H1 hp1 s1 hl hw lw nl => ?_⟩
    have hl1 := wo_le _ _ hl
    refine ⟨l, rfl, ⟨_, SqL.of hl1⟩, fun D nD => ?_⟩
    refine lc_list (xs := ws.map V.int) (fun i H' => Same H1 H' ∧ H' D = some (.lst ((List.replicate i true).map V.bl))) ⟨same_upd nD, upd_same⟩ (fun i H' _ hP => SqL.of (hP.1 _ _ hl1)) (fun i x H' hx hP => ?_) fun H2 hP => ?_
    · obtain ⟨sm, hD⟩ := hP
      obtain ⟨z, hz, rfl⟩ := List.mem_map.mp (List.mem_of_getElem? hx)
      obtain ⟨z0, z1⟩ := hw z hz
      have hi : i < ws.length := by have := (List.getElem?_eq_some_iff.mp hx).1; rw [List.length_map] at this; exact this
      refine ⟨rfl, ?_⟩
      unfold tYes
      refine iteT ⟨.int z, rfl, z, rfl, z0, z1, fun H3 s3 => ⟨_, s3 _ _ hD, small1000 (by rw [List.length_map, List.length_replicate]; omega), Same.updNew (sm.trans s3) nD, ?_⟩⟩
      rw [upd_same, List.replicate_succ', List.map_append]
      rfl
    · obtain ⟨sm, hD⟩ := hP
      have w2 : Same (wo H p) (wo H2 p) := s1.trans (wo_same_of sm)
      have ea : (List.replicate (ws.map V.int).length true).all id = true := List.all_eq_true.mpr fun x hx => by
        rw [List.eq_of_mem_replicate hx]
        rfl
      refine ⟨D, List.replicate (ws.map V.int).length true, rfl, SqL.of hD, ?_⟩
      rw [ea]
      refine ⟨_, rfl, iteF ?_⟩
      refine ⟨12, rfl, by omega, by omega, for_range (n := 12) (fun i σ H' => ∃ y1 y2 y3, σ = [some (.ref p), y1, y2, y3] ∧ Pot H' p (100 + 20 * i) ∧ Same (wo H p) (wo H' p)) ⟨none, none, none, rfl, hp1.same sm, w2⟩ (fun i σ H' hi hP => ?_) fun σ H' hP => ?_⟩
      · obtain ⟨y1, y2, y3, rfl, hpi, sw⟩ := hP
        refine ⟨.ref p, rfl, p, 100 + 20 * i, rfl, hpi, by omega, fun a nm ps H3 hp3 s3 ha hrow na => ?_⟩
        obtain ⟨w0, w1, ep⟩ := word_row hrow
        obtain ⟨okd, _⟩ := row_ok hrow
        have qa := Same.seqT wo_le ha
        have no : ∀ {P : Prop}, dIsRow (dRow nm ps) = false → P := fun {P} z => by rw [row_dIsRow hrow] at z; cases z
        refine ⟨.ref a, rfl, .ref a, dRow nm ps, rfl, row_dp qa, fun nm2 ps2 ed hr2 H4 s4 => ?_, no⟩
        obtain ⟨rfl, rfl⟩ := dRow_inj ed
        have qa4 := Same.seqT s4 qa
        refine ⟨.int (wordOf nm ps), .int (wordOf nm ps), rfl, .dp (.int _), fun x ex _ _ H5 s5 => ⟨fun e => ?_, fun nm' ps' c e hc nc => ?_⟩, fun z => ?_⟩
        · cases ex
          rw [ep] at e
          cases e
        · cases ex
          rw [ep] at e
          cases e
          have qc := SqT.of (K := K) hc
          have qa5 := Same.seqT s5 qa4
          refine ⟨.ref c, dRow nm ps, rfl, row_dp qc, okd, .ref a, rfl, .ref a, dRow nm ps, rfl, row_dp qa5, okd, rfl, _, rfl, ite2 (fun e => same_ne e) fun _ => ?_⟩
          refine ⟨.ref a, rfl, .ref a, dRow nm ps, rfl, row_dp qa5, fun nm2 ps2 ed hr2 H6 s6 => ?_, no⟩
          obtain ⟨rfl, rfl⟩ := dRow_inj ed
          have qa6 := Same.seqT s6 qa5
          refine ⟨.ref a, rfl, a, nm, ps, rfl, qa6, hrow, fun H7 s7 => ⟨rfl, _, rfl, ite2 (fun e => same_ne e) fun _ => ?_⟩⟩
          have qa7 := Same.seqT s7 qa6
          refine ⟨.ref a, rfl, .ref a, dRow nm ps, rfl, row_dp qa7, fun nm2 ps2 ed hr2 H8 s8 => ?_, no⟩
          obtain ⟨rfl, rfl⟩ := dRow_inj ed
          have qa8 := Same.seqT s8 qa7
          refine ⟨.ref a, rfl, a, nm, ps, rfl, qa8, hrow, fun H9 s9 => ⟨rfl, _, rfl, ite2 (fun e => same_ne e) fun _ => ?_⟩⟩
          have s49 := ((((s4.trans s5).trans s6).trans s7).trans s8).trans s9
          exact ⟨_, _, _, rfl, (hp3.same s49).mono (by omega), (sw.trans s3).trans (wo_same_of s49)⟩
        · simp [isW, w0, w1] at z
      · obtain ⟨y1, y2, y3, rfl, hpi, sw⟩ := hP
        refine ⟨.ref p, rfl, .ref p, rfl, p, 100 + 20 * 12, rfl, hpi, by omega, fun a nm ps H3 hp3 s3 ha hrow na => ?_⟩
        have w3 := sw.trans s3
        refine ⟨p, a, _, nm, ps, rfl, ha, hrow, hp3, by omega, tabs_wo hT hpl w3, fun H4 e4 t4 => q H4 (fun b o e ne nt => e4 b o (toP w3 b o e ne nt) ne nt) t4⟩
end
end K00

set_option maxRecDepth 100000
set_option maxHeartbeats 8000000
/-! k00: the whole of it. -/
namespace K00
open PySem PySem.Spec PyProof.Rows L2 LamX
theorem scLaw : FnScope ["script", "place"] ["script"] (defScope sLaw) := ⟨rfl, rfl, rfl, by decide +kernel, rfl, by decide +kernel, by decide +kernel⟩
section
variable {P : Program} {w : World} {K : PySem.W.Frag} {mg : Str → Option Value} {base : Heap}
theorem sqL_extN {H H' : Hp} {c : Addr} {xs : List V} (h : SqL K H c xs) (e : ExtN H H') : SqL K H' c xs := by
  rcases h with (h | ⟨o, h⟩) | h
  · exact .inl (.inl (e _ _ h (fun ps z => by cases z)))
  · exact .inl (.inr ⟨o, e _ _ h (fun ps z => by cases z)⟩)
  · exact .inr h
theorem tabs_upd {T : List (Addr × Str)} {H : Hp} {D : Addr} {xs : List V} {o : HO} (t : Tabs T H) (hD : H D = some (.lst xs)) : Tabs T (upd H D o) := fun x hx => by
  obtain ⟨ps, h1, h2, h3⟩ := t x hx
  refine ⟨ps, by rw [upd_ne (fun z => by rw [z, hD] at h1; cases h1)]; exact h1, h2, fun pos cv hc => ?_⟩
  obtain ⟨c, e1, e2⟩ := h3 pos cv hc
  exact ⟨c, e1, by rw [upd_ne (fun z => by rw [z, hD] at e2; unfold CodeO at e2; cases e2)]; exact e2⟩
def spLaw (K : PySem.W.Frag) (T : List (Addr × Str)) : Sp := fun vs H Q _ => ∃ (a : Addr) (ns : List Int), vs = [.ref a] ∧ SqL K H a (ns.map V.int) ∧ ns.length ≤ 63 ∧ Tabs T H ∧ ∀ H', Q (.bl true) H'
theorem ok_law {f : Addr} {fd : FuncData} {k : Nat} {T : List (Addr × Str)} (F : Fun K "law" "law" sLaw f fd)
    (g1 : CalG P w K mg base (k + 7) "_law_right" ["pot"] (spRight K T)) (g2 : Cal P w K mg base CX0 (k + 7) "_law_pot" ["script", "place"] (spPot K)) (g3 : Cal P w K mg base CX0 (k + 7) "_law_cells" ["script", "most"] (spCells K)) (ma : mg "all" = none) : FnG P w K mg base (k + 8) f fd ["script"] (spLaw K T) := by
  obtain ⟨f1, fd1, G1, k1, b1, m1⟩ := g1
  obtain ⟨f2, fd2, G2, k2, b2, m2⟩ := g2
  obtain ⟨f3, fd3, G3, k3, b3, m3⟩ := g3
  refine fnG_of F scLaw (fun vs H Q E h => ?_) (fun cdv A outer s H vs Q hr gd h => ?_)
  · obtain ⟨a, ns, rfl, _⟩ := h
    rfl
  · obtain ⟨a, ns, rfl, hs, hn, hT, q⟩ := h
    refine ⟨_, pss_one (ps_ret (pe_callB (cr_all rfl) (by rfl) ma (by decide +kernel) (pa_cons (pe_lc (own := [("place", 1)]) (g := gName 1) (tt := tYes) rfl scLaw.nd (pi_list (pe_call G3 hr (by rfl) m3 k3 b3 .nil pass0 (pa_cons (pv 0) (pa_cons pe_int pa_nil)))) (blkOk_by (N := ["script", "place"]) (sc := defScope sLaw) (by decide +kernel))
        (fun _ _ _ _ _ => pg_name (i := 1) scLaw.nd rfl (.inl rfl)) (fun _ _ _ _ _ => pts_nil) (fun _ _ _ _ _ => pe_callG G1 hr gd (by rfl) m1 k1 b1 (pa_cons (pe_call G2 hr (by rfl) m2 k2 b2 .nil pass0 (pa_cons (pv 0) (pa_cons (pv 1) pa_nil))) pa_nil))) pa_nil))), ?_⟩
    refine ⟨.ref a, rfl, a, ns, rfl, hs, hn, fun l m hm nl => ?_⟩
    have s1 := same_upd (o := .lst ((List.range m).map fun i => V.int (i : Nat))) nl
    refine ⟨l, rfl, ⟨_, SqL.of upd_same⟩, fun D nD => ?_⟩
    have s2 := same_upd (o := .lst []) nD
    have hs1 := s1.seq hs
    have hl1 : SqL K (upd H l (.lst ((List.range m).map fun i => V.int (i : Nat)))) l ((List.range m).map fun i => V.int (i : Nat)) := SqL.of upd_same
    have hT1 := hT.ext s1
    generalize upd H l (.lst ((List.range m).map fun i => V.int (i : Nat))) = H0 at nD s2 hs1 hl1 hT1 ⊢
    refine lc_list (xs := (List.range m).map fun i => V.int (i : Nat)) (fun i H' => ExtN H0 H' ∧ Tabs T H' ∧ H' D = some (.lst ((List.replicate i true).map V.bl)))
      ⟨ExtN.of s2, hT1.ext s2, upd_same⟩ (fun i H' _ hP => sqL_extN hl1 hP.1) (fun i x H' hx hP => ?_) fun H2 hP => ?_
    · obtain ⟨en, ht, hD⟩ := hP
      obtain ⟨j, hj, rfl⟩ := List.mem_map.mp (List.mem_of_getElem? hx)
      have hjm := List.mem_range.mp hj
      have hi : i < m := by have := (List.getElem?_eq_some_iff.mp hx).1; rw [List.length_map, List.length_range] at this; exact this
      refine ⟨rfl, ?_⟩
      unfold tYes
      refine iteT ⟨.ref a, rfl, .int (j : Nat), rfl, a, ns, j, rfl, sqL_extN hs1 en, hn, by omega, fun p H3 np s3 hp => ⟨p, rfl, hp, ht.ext s3, fun H4 e4 t4 => ?_⟩⟩
      have nDp : D ≠ p := fun z => by rw [z, np] at hD; cases hD
      have hD4 := e4 _ _ (s3 _ _ hD) nDp (fun ps z => by cases z)
      refine ⟨_, hD4, small1000 (by rw [List.length_map, List.length_replicate]; omega), fun b o e nt => ?_, tabs_upd t4 hD4, ?_⟩
      · rw [upd_ne (ne_of_none e nD)]
        have eb := en b o e nt
        exact e4 b o (s3 b o eb) (fun z => by rw [z, np] at eb; cases eb) nt
      · rw [upd_same, List.replicate_succ', List.map_append]
        rfl
    · obtain ⟨en, ht, hD⟩ := hP
      have ea : (List.replicate ((List.range m).map fun i => V.int (i : Nat)).length true).all id = true := List.all_eq_true.mpr fun x hx => by
        rw [List.eq_of_mem_replicate hx]
        rfl
      refine ⟨D, List.replicate ((List.range m).map fun i => V.int (i : Nat)).length true, rfl, SqL.of hD, ?_⟩
      rw [ea]
      exact q _
end
end K00

set_option maxRecDepth 100000
set_option maxHeartbeats 16000000
/-! k00: what is no word, no row, is refused. -/
namespace K00
open PySem PySem.Spec PyProof.Rows L2 LamX
def lamsE : Expr → List LamD
  | .Lambda p b s _ => [⟨p, b, s⟩]
  | .Subscript o _ _ => lamsE o
  | .Call _ [e] _ _ => lamsE e
  | .List [e] _ => lamsE e
  | _ => []
def lamsS : Stmt → List LamD
  | .Assign _ v _ => lamsE v
  | .Expr v _ => lamsE v
  | _ => []
def bodyOf : Stmt → List Stmt
  | .For _ _ b _ _ => b
  | _ => []
/-- the lambdas of the def, as they stand -/
def lamAll : List LamD := ((defBody sRefused).map fun s => ((bodyOf s).map lamsS).flatten).flatten
def lamAt (i : Nat) : LamD := lamAll.getD i ⟨⟨[], [], none, [], [], none, []⟩, .Constant .none 0 ⟨0, 0, 0, 0⟩, defScope sRefused⟩
theorem scRefused : FnScope ["pot", "row", "caught", "name", "parts", "some", "looks", "look", "value", "part", "lap"] ["pot", "row"] (defScope sRefused) := ⟨rfl, rfl, rfl, by decide +kernel, rfl, by decide +kernel, by decide +kernel⟩
theorem lam_scope (i : Nat) (h : i < 4) : LamS (defScope sRefused) (lamAt i).scope := by
  match i, h with
  | 0, _ => exact lamS_by (by decide +kernel)
  | 1, _ => exact lamS_by (by decide +kernel)
  | 2, _ => exact lamS_by (by decide +kernel)
  | 3, _ => exact lamS_by (by decide +kernel)
/-- a callee's exception leaves the lambda -/
theorem passL {X : Cx} {A : Around} {outer : List Env} {s : Shared} {H : Hp} {E : XK} {scope : Scope} {f c' : Addr} : Passes (L2.CX X.prog X.w) (lamCx X A outer s H E scope f c') E :=
  passes_call (takes_of rfl rfl rfl rfl) fun _ _ _ _ h => h
section
variable {P : Program} {w : World} {K : PySem.W.Frag} {mg : Str → Option Value} {base : Heap}
theorem sqT_extN {H H' : Hp} {c : Addr} {xs : List V} (h : SqT K H c xs) (e : ExtN H H') : SqT K H' c xs := by
  rcases h with (h | ⟨o, h⟩) | h
  · exact .inl (.inl (e _ _ h (fun ps z => by cases z)))
  · exact .inl (.inr ⟨o, e _ _ h (fun ps z => by cases z)⟩)
  · exact .inr h
mutual
theorem dp_extN {H H' : Hp} (e : ExtN H H') : ∀ (d : PyData) (v : V), Dp K H v d → Dp K H' v d
  | .none, _, h => by cases h; exact .non
  | .bool _, _, h => by cases h; exact .bl _
  | .int _, _, h => by cases h; exact .int _
  | .str _, _, h => by cases h; exact .str _
  | .list ds, _, h => by
    cases h with
    | lst hs ha => exact .lst (sqL_extN hs e) (dpAll_extN e ds _ ha)
  | .tuple ds, _, h => by
    cases h with
    | tup hs ha => exact .tup (sqT_extN hs e) (dpAll_extN e ds _ ha)
  | .dict _, _, h => by cases h
theorem dpAll_extN {H H' : Hp} (e : ExtN H H') : ∀ (ds : List PyData) (vs : List V), DpAll K H vs ds → DpAll K H' vs ds
  | [], _, h => by cases h; exact .nil
  | d :: ds, _, h => by
    cases h with
    | cons h1 h2 => exact .cons (dp_extN e d _ h1) (dpAll_extN e ds _ h2)
end
theorem dk_extN {H H' : Hp} {v : V} {d : PyData} (h : Dk K H v d) (e : ExtN H H') : Dk K H' v d := by
  cases h with
  | dp h => exact .dp (dp_extN e _ _ h)
  | d0 h => exact .d0 (e _ _ h (fun ps z => by cases z))
  | d1 h => exact .d1 (e _ _ h (fun ps z => by cases z))
theorem nl_le {H H' : Hp} : Same (nl H H') H' := fun b o e => (nl_out e).2
theorem none_ext {H H' : Hp} {c : Addr} (e : ExtN H H') (h : H' c = none) : ∀ o, H c = some o → ∃ ps, o = .tbl ps := fun o z => by
  cases o with
  | tbl ps => exact ⟨ps, rfl⟩
  | _ => exact absurd ((e _ _ z (fun ps y => by cases y)).symm.trans h) (fun y => nomatch y)
/-- what stood stays over a new list -/
theorem extN_upd {H H' : Hp} {c : Addr} {o : HO} (e : ExtN H H') (h : ∀ o, H c = some o → ∃ ps, o = .tbl ps) : ExtN H (upd H' c o) := fun b x z nt => by
  rw [upd_ne fun y => ?_]
  · exact e b x z nt
  · obtain ⟨ps, q⟩ := h x (y ▸ z)
    exact nt ps q
theorem extN_comp {H1 H2 H3 : Hp} (e : ExtN H1 H2) (g : ExtN H2 H3) : ExtN H1 H3 := e.trans g
theorem IsLam.updL {X : Cx} {D : LamD} {f c : Addr} {H : Hp} {o : HO} {xs : List V} (h : IsLam X D f H) (hc : H c = some (.lst xs)) : IsLam X D f (upd H c o) := by
  obtain ⟨c', h1, h2⟩ := h
  refine ⟨c', ?_, ?_⟩
  · rw [upd_ne fun z => by rw [z, hc] at h1; unfold LamO at h1; cases h1]
    exact h1
  · rw [upd_ne fun z => by rw [z, hc] at h2; unfold CodeO at h2; cases h2]
    exact h2
theorem bent_old {HM HX H' : Hp} {D p : Addr} {o : HO} (hp : ∃ ys, HM p = some (.lst ys)) (nD : D ≠ p) (s : Same (wo HX p) (wo H' p)) : Same (nl (upd HM D (.lst [])) HX) (nl (upd HM D (.lst [])) (upd H' D o)) := fun b x e => by
  obtain ⟨x1, e⟩ := nl_out e
  have n1 : b ≠ D := fun z => x1 [] (by rw [z, upd_same])
  have n2 : b ≠ p := fun z => by
    obtain ⟨ys, hy⟩ := hp
    exact x1 ys (by rw [z, upd_ne (Ne.symm nD)]; exact hy)
  rw [nl_not x1, upd_ne n1]
  exact wo_le _ _ (s _ _ (wo_at e n2))
theorem bent_new {HM HX H' : Hp} {D p : Addr} {o : HO} {bs : List V} (hD : HX D = some (.lst bs)) (hp : ∃ ys, HX p = some (.lst ys)) (s : Same (wo HM p) (wo HX p)) : Same (nl HX H') (nl (upd HM D (.lst [])) (upd H' D o)) := fun b x e => by
  obtain ⟨x1, e⟩ := nl_out e
  have n1 : b ≠ D := fun z => x1 bs (by rw [z]; exact hD)
  have n2 : b ≠ p := fun z => by
    obtain ⟨ys, hy⟩ := hp
    exact x1 ys (by rw [z]; exact hy)
  rw [nl_not fun ys z => ?_, upd_ne n1]
  · exact e
  · rw [upd_ne n1] at z
    exact x1 ys (wo_le _ _ (s _ _ (wo_at z n2)))
/-- a small value -/
def Atom (x : V) : Prop := (∃ i : Int, x = .int i ∧ -100000 ≤ i ∧ i ≤ 1000000) ∨ (∃ z : Str, x = .str z ∧ okS 20 z) ∨ ∃ b, x = .bl b
theorem Atom.data {H : Hp} {x : V} (h : Atom x) : ∃ d, Dp K H x d ∧ okN 0 50 d := by
  rcases h with ⟨i, rfl, h0, h1⟩ | ⟨z, rfl, hz⟩ | ⟨b, rfl⟩
  · exact ⟨_, .int i, okN.int h0 h1⟩
  · exact ⟨_, .str z, hz.ok (by omega)⟩
  · exact ⟨_, .bl b, rfl, by simp [PyData.weight], rfl, Nat.le_refl 0, rfl⟩
theorem atoms_data {H : Hp} : ∀ {xs : List V}, (∀ x ∈ xs, Atom x) → ∃ ds, DpAll K H xs ds ∧ (∀ d ∈ ds, okN 0 50 d) ∧ ds.length = xs.length
  | [], _ => ⟨[], .nil, fun d hd => (List.not_mem_nil hd).elim, rfl⟩
  | x :: xs, h => by
    obtain ⟨ds, h1, h2, h3⟩ := atoms_data (H := H) fun y hy => h y (List.mem_cons_of_mem _ hy)
    obtain ⟨d, g1, g2⟩ := (h x List.mem_cons_self).data (K := K) (H := H)
    exact ⟨d :: ds, .cons g1 h1, fun e he => (List.mem_cons.mp he).elim (fun z => z ▸ g2) (h2 e), by rw [List.length_cons, List.length_cons, h3]⟩
/-- data that may be shown -/
def Fit (K : PySem.W.Frag) (H : Hp) (x : V) : Prop := ∃ d, Dk K H x d ∧ okData d = true
theorem Fit.same {H H' : Hp} {x : V} (h : Fit K H x) (s : Same H H') : Fit K H' x := by
  obtain ⟨d, h1, h2⟩ := h
  exact ⟨d, Dk.same s h1, h2⟩
theorem Fit.tup {H : Hp} {c : Addr} {xs : List V} (h : SqT K H c xs) (ha : ∀ x ∈ xs, Atom x) (hl : xs.length ≤ 8) : Fit K H (.ref c) := by
  obtain ⟨ds, h1, h2, h3⟩ := atoms_data (K := K) (H := H) ha
  exact ⟨.tuple ds, .dp (.tup h h1), (okN.tup h2 (by omega)).ok (by omega) (by decide)⟩
theorem Fit.lst {H : Hp} {c : Addr} {xs : List V} (h : SqL K H c xs) (ha : ∀ x ∈ xs, Atom x) (hl : xs.length ≤ 8) : Fit K H (.ref c) := by
  obtain ⟨ds, h1, h2, h3⟩ := atoms_data (K := K) (H := H) ha
  exact ⟨.list ds, .dp (.lst h h1), (okN.lst h2 (by omega)).ok (by omega) (by decide)⟩
theorem same_wo_new {H : Hp} {c : Addr} {o : HO} (h : H c = none) : Same H (wo (upd H c o) c) := fun b x e => by
  have ne : b ≠ c := ne_of_none e h
  rw [wo_ne ne, upd_ne ne]
  exact e
/-- a def whose code object is known -/
theorem fnG_code {x qual : Str} {st : Stmt} {f cc : Addr} {fd : FuncData} {N ps : List Str} {k : Nat} {sp : Sp} (F : Fun K x qual st f fd) (hcc : fd.code = .ref cc) (S : FnScope N ps (defScope st)) (len : ∀ vs H Q E, sp vs H Q E → vs.length = ps.length)
    (hbody : ∀ (A : Around) (outer : List Env) (s : Shared) (H : Hp) (vs : List V) (Q : VK), Room k (A.deeper (envOfC qual (defScope st) s.heap.objs.size f (.ref cc))) → (A.deeper (envOfC qual (defScope st) s.heap.objs.size f (.ref cc))).guards = some [] → sp vs H Q E0 →
      ∃ t, PSs (cxOf CX0 P w K mg base N qual (defScope st) f (.ref cc) A outer s H E0).nox (defBody st) t ∧ t { nx := fun _ H' => Q .non H', rt := Q } (L2.start N vs) H) : FnG P w K mg base (k + 1) f fd ps sp := by
  obtain ⟨oc, od, kV, doc, pm, an, cdv, ct, osl, rfl, lk, hcd⟩ := F.ex
  have e : cdv = .ref cc := hcc
  subst e
  refine ⟨len, fun A outer s H args us vs Q hr hg e0 hb r hsp => ?_⟩
  exact run_ofS lk hcd S hr e0 hb r (len _ _ _ _ hsp) fun hr' => by
    obtain ⟨t, h, q⟩ := hbody A outer s H vs Q hr' hg hsp
    exact ⟨t, h.nox, q⟩
theorem ok_refused {f g CS C1 C2 cc Pt : Addr} {fd gd : FuncData} {k : Nat} {T : List (Addr × Str)} (F : Fun K "_law_are_refused" "_law_are_refused" sRefused f fd) (hcc : fd.code = .ref cc) (TB : TabB base mg cc Pt) (Tm : (Pt, Str.ofString "_law_are_refused.<locals>." ++ "<lambda>") ∈ T) (T1 : ∀ p ∈ T, p.1 = Pt → p.2 = Str.ofString "_law_are_refused.<locals>." ++ "<lambda>")
    (FH : Fun K "_law_heard" "_law_heard" sHeard g gd) (bH : L2.Binds K gd ["call"] []) (gH : mg "_law_heard" = some (.ref g)) (gS : mg "CoreError" = some (.ref CS)) (gC1 : mg "BadWord" = some (.ref C1)) (gC2 : mg "BadRow" = some (.ref C2))
    (X1 : XfC K C1) (X2 : XfC K C2) (n1 : PySem.W.findIn K (.ref C1) "value" = some none) (n2 : PySem.W.findIn K (.ref C2) "value" = some none) (e1 : PySem.W.exmOne K (.ref C1) (.ref CS) = some true) (e2 : PySem.W.exmOne K (.ref C2) (.ref CS) = some true)
    (g1 : Cal P w K mg base CX0 (k + 6) "_law_odd" ["pot"] (spOdd K)) (g2 : Cal P w K mg base CX0 (k + 6) "_law_of" ["pot", "some"] (spOf K)) (g3 : Cal P w K mg base CX0 (k + 6) "_law_is_int" ["value", "low", "high"] (spWithin K)) (g4 : Cal P w K mg base CX0 (k + 6) "_law_bent" ["pot", "value"] (spBentT K)) (g5 : Cal P w K mg base CX0 (k + 6) "_law_is_row" ["value"] (spLIsRow K))
    (h0 : Cal P w K mg base (L2.CX P w) (k + 4) "row_of" ["word"] (spRowOf K C1)) (h1 : Cal P w K mg base (L2.CX P w) (k + 4) "word_of" ["row"] (spRow K C2 fun nm ps => .int (wordOf nm ps))) (h2 : Cal P w K mg base (L2.CX P w) (k + 4) "row_text" ["row"] (spRow K C2 fun nm ps => .str (rowText nm ps))) (h3 : Cal P w K mg base (L2.CX P w) (k + 4) "is_placed" ["row"] (spRow K C2 fun nm _ => .bl (placed nm)))
    (mi : mg "isinstance" = none) (mr : mg "repr" = none) (mL : mg "list" = none) (mt : mg "tuple" = none) (mg_ : mg "range" = none) : FnG P w K mg base (k + 7) f fd ["pot", "row"] (spRefused K T) := by
  obtain ⟨f1, fd1, G1, k1, b1, m1⟩ := g1
  obtain ⟨f2, fd2, G2, k2, b2, m2⟩ := g2
  obtain ⟨f3, fd3, G3, k3, b3, m3⟩ := g3
  obtain ⟨f4, fd4, G4, k4, b4, m4⟩ := g4
  obtain ⟨f5, fd5, G5, k5, b5, m5⟩ := g5
  obtain ⟨r0, rd0, R0, rk0, rb0, rm0⟩ := h0
  obtain ⟨r1, rd1, R1, rk1, rb1, rm1⟩ := h1
  obtain ⟨r2, rd2, R2, rk2, rb2, rm2⟩ := h2
  obtain ⟨r3, rd3, R3, rk3, rb3, rm3⟩ := h3
  refine fnG_code F hcc scRefused (fun vs H Q E h => ?_) (fun A outer s H vs Q hr gd h => ?_)
  · obtain ⟨p, a, n, nm, ps, rfl, _⟩ := h
    rfl
  · have M : LamM (cxOf CX0 P w K mg base ["pot", "row", "caught", "name", "parts", "some", "looks", "look", "value", "part", "lap"] "_law_are_refused" (defScope sRefused) f (.ref cc) A outer s H E0).nox T cc Pt := ⟨TB, rfl, Tm, T1⟩
    obtain ⟨p, a, n, nm, ps, rfl, hs, hrow, hp, hn, hT, q⟩ := h
    refine ⟨_, pss_cons (ps_for PassesOwn.never rfl (pi_list (pe_lst (pa_cons pe_int (pa_cons (pe_un un_neg pe_int) (pa_cons pe_bl (pa_cons pe_non (pa_cons pe_str (pa_cons (pe_tup (pa_cons pe_int pa_nil)) (pa_cons (pe_call G1 hr (by rfl) m1 k1 b1 .nil pass0 (pa_cons (pv 0) pa_nil))
          (pa_cons (pe_call G2 hr (by rfl) m2 k2 b2 .nil pass0 (pa_cons (pv 0) (pa_cons (pe_lst (pa_cons (pv 1) (pa_cons pe_str pa_nil))) pa_nil))) pa_nil)))))))))) (pg_name (i := 8) scRefused.nd rfl (.inr rfl))
        (pss_cons (ps_set (i := 2) scRefused.nd rfl (.inl rfl) (pe_ix ix_tup (pe_heard (ι := Unit) (D := fun _ => lamAt 0) (k := k + 4) FH bH (by rfl) gH gS hr (pe_lam M (lam_scope 0 (by omega)) (by rfl)) (fun _ => lam_scope 0 (by omega)) (fun _ _ _ _ => by rfl)
            (fun _ A' outer' s' H' E' f' c' hr' => pe_call (X := lamCx _ A' outer' s' H' E' (lamAt 0).scope f' c') R0 hr' (by rfl) rm0 rk0 rb0 .nil passL (pa_cons (pv 8) pa_nil))) pe_int (fun _ _ => rfl)))
        (pss_one (ps_if (pt_val (pe_call G3 hr (by rfl) m3 k3 b3 .nil pass0 (pa_cons (pv 8) (pa_cons pe_int (pa_cons pe_int pa_nil)))))
          (pss_one (ps_if (pt_cmpR op_notN (pv 2) pe_non (nomark _)) (pss_one (ps_ret pe_bl)) pss_nil))
          (pss_one (ps_if (PW.pt (pw_or (pt_not (pt_val (pe_callB call_isErr (by rfl) mi (by decide +kernel) (pa_cons (pv 2) (pa_cons (pgr (by rfl) gC1) pa_nil))))) (pw_or1 (pt_cmpR op_ne (pe_callB (call_repr gd hr.units) (by rfl) mr (by decide +kernel) (pa_cons (pe_errF (pv 2)) pa_nil)) (pe_callB (call_repr gd hr.units) (by rfl) mr (by decide +kernel) (pa_cons (pv 8) pa_nil)) (nomark _))))) (pss_one (ps_ret pe_bl)) pss_nil))))))
      (pss_cons (ps_par (i := 3) (j := 4) (by rfl) scRefused.nd rfl rfl (by decide) rfl rfl (pa_cons (pe_ix ix_tup (pv 1) pe_int (fun _ _ => rfl)) (pa_cons (pe_slice sl_tupA (pv 1) (po_some pe_int) po_none) pa_nil)) (by rfl))
      (pss_cons (ps_set (i := 5) scRefused.nd rfl (.inl rfl) (pe_lst (pa_cons (pv 1) (pa_cons (pe_callTy call_list_of (by rfl) mL (by decide +kernel) (pa_cons (pv 1) pa_nil)) (pa_cons (pe_tup (pa_cons (pv 3) pa_nil)) (pa_cons (pe_op op_catA (pv 1) (pe_tup (pa_cons pe_int pa_nil)))
          (pa_cons (pe_op op_catA (pe_tup (pa_cons (pe_upper (pv 3)) pa_nil)) (pv 4)) (pa_cons (pv 4) (pa_cons (pe_op op_catA (pe_tup (pa_cons (pv 3) (pa_cons pe_bl pa_nil))) (pe_slice sl_tupA (pv 4) (po_some pe_int) po_none)) (pa_cons (pe_tup (pa_cons pe_str (pa_cons pe_int pa_nil))) pa_nil))))))))))
      (pss_cons (ps_expr (pe_bm PySem.F.plainAttrs_list PySem.F.slot_list_extend PySem.F.type_list_extend mt_extend (pv 5) (pa_cons (pe_lst (pa_cons (pe_op op_catA (pe_tup (pa_cons (pv 3) pa_nil)) (pe_callTy call_tuple_of (by rfl) mt (by decide +kernel) (pa_cons (pe_lc (own := [("part", 9)]) (g := gName 9) (tt := tYes) rfl scRefused.nd (pi_tup (pv 4)) (blkOk_by (N := ["pot", "row", "caught", "name", "parts", "some", "looks", "look", "value", "part", "lap"]) (sc := defScope sRefused) (by decide +kernel)) (fun _ _ _ _ _ => pg_name (i := 9) scRefused.nd rfl (.inl rfl)) (fun _ _ _ _ _ => pts_nil) (fun _ _ _ _ _ => pe_un un_neg pe_int)) pa_nil)))
          (pa_cons (pe_op op_catA (pe_tup (pa_cons (pv 3) pa_nil)) (pe_callTy call_tuple_of (by rfl) mt (by decide +kernel) (pa_cons (pe_lc (own := [("part", 9)]) (g := gName 9) (tt := tYes) rfl scRefused.nd (pi_tup (pv 4)) (blkOk_by (N := ["pot", "row", "caught", "name", "parts", "some", "looks", "look", "value", "part", "lap"]) (sc := defScope sRefused) (by decide +kernel)) (fun _ _ _ _ _ => pg_name (i := 9) scRefused.nd rfl (.inl rfl)) (fun _ _ _ _ _ => pts_nil) (fun _ _ _ _ _ => pe_int)) pa_nil)))
          (pa_cons (pe_op op_catA (pe_tup (pa_cons pe_str pa_nil)) (pv 4)) pa_nil)))) pa_nil)))
      (pss_cons (ps_expr (pe_bm PySem.F.plainAttrs_list PySem.F.slot_list_extend PySem.F.type_list_extend mt_extend (pv 5) (pa_cons (pe_lst (pa_cons (pe_op op_catA (pe_op op_catA (pe_tup (pa_cons (pv 3) pa_nil)) (pe_slice sl_tupA (pv 4) po_none (po_some (pe_un un_neg pe_int)))) (pe_tup (pa_cons pe_int pa_nil)))
          (pa_cons (pe_op op_catA (pe_op op_catA (pe_tup (pa_cons (pv 3) pa_nil)) (pe_slice sl_tupA (pv 4) po_none (po_some (pe_un un_neg pe_int)))) (pe_tup (pa_cons pe_int pa_nil))) (pa_cons (pe_op op_catA (pe_op op_catA (pe_tup (pa_cons (pv 3) pa_nil)) (pe_slice sl_tupA (pv 4) po_none (po_some (pe_un un_neg pe_int)))) (pe_tup (pa_cons pe_int pa_nil))) pa_nil)))) pa_nil)))
      (pss_cons (ps_for PassesOwn.never rfl (pi_list (pe_op op_cat (pe_op op_cat (pv 5) (pe_lc (own := [("lap", 10)]) (g := gName 10) (tt := tYes) rfl scRefused.nd (pi_range1 (by rfl) mg_ (pa_cons pe_int pa_nil)) (blkOk_by (N := ["pot", "row", "caught", "name", "parts", "some", "looks", "look", "value", "part", "lap"]) (sc := defScope sRefused) (by decide +kernel)) (fun _ _ _ _ _ => pg_name (i := 10) scRefused.nd rfl (.inl rfl)) (fun _ _ _ _ _ => pts_nil) (fun _ _ _ _ _ => pe_call G4 hr (by rfl) m4 k4 b4 .nil pass0 (pa_cons (pv 0) (pa_cons (pv 1) pa_nil)))))
            (pe_lst (pa_cons (pe_call G1 hr (by rfl) m1 k1 b1 .nil pass0 (pa_cons (pv 0) pa_nil)) pa_nil)))) (pg_name (i := 8) scRefused.nd rfl (.inr rfl))
        (pss_cons (ps_set (i := 6) scRefused.nd rfl (.inl rfl) (pe_lst (pa_cons (pe_lam M (lam_scope 1 (by omega)) (by rfl)) pa_nil)))
        (pss_cons (ps_expr (pe_bm PySem.F.plainAttrs_list PySem.F.slot_list_append PySem.F.type_list_append mt_append (pv 6) (pa_cons (pe_lam M (lam_scope 2 (by omega)) (by rfl)) pa_nil)))
        (pss_cons (ps_expr (pe_bm PySem.F.plainAttrs_list PySem.F.slot_list_append PySem.F.type_list_append mt_append (pv 6) (pa_cons (pe_lam M (lam_scope 3 (by omega)) (by rfl)) pa_nil)))
        (pss_one (ps_for PassesOwn.never rfl (pi_list (pv 6)) (pg_name (i := 7) scRefused.nd rfl (.inl rfl))
          (pss_cons (ps_set (i := 2) scRefused.nd rfl (.inl rfl) (pe_ix ix_tup (pe_heard (ι := Fin 3) (D := fun j => lamAt (j.val + 1)) (tb := fun j E => match j with
              | 0 => tCall (spRow K C2 fun nm ps => .int (wordOf nm ps)) [] E (tCons (tVar 8) tNil)
              | 1 => tCall (spRow K C2 fun nm ps => .str (rowText nm ps)) [] E (tCons (tVar 8) tNil)
              | 2 => tCall (spRow K C2 fun nm _ => .bl (placed nm)) [] E (tCons (tVar 8) tNil)) (k := k + 4) FH bH (by rfl) gH gS hr (pv 7) (fun j => lam_scope (j.val + 1) (by omega)) (fun j _ _ _ => match j with | 0 => by rfl | 1 => by rfl | 2 => by rfl)
              (fun j A' outer' s' H' E' f' c' hr' => match j with
                | 0 => pe_call (X := lamCx _ A' outer' s' H' E' (lamAt 1).scope f' c') R1 hr' (by rfl) rm1 rk1 rb1 .nil passL (pa_cons (pv 8) pa_nil)
                | 1 => pe_call (X := lamCx _ A' outer' s' H' E' (lamAt 2).scope f' c') R2 hr' (by rfl) rm2 rk2 rb2 .nil passL (pa_cons (pv 8) pa_nil)
                | 2 => pe_call (X := lamCx _ A' outer' s' H' E' (lamAt 3).scope f' c') R3 hr' (by rfl) rm3 rk3 rb3 .nil passL (pa_cons (pv 8) pa_nil))) pe_int (fun _ _ => rfl)))
          (pss_one (ps_if (pt_val (pe_call G5 hr (by rfl) m5 k5 b5 .nil pass0 (pa_cons (pv 8) pa_nil)))
            (pss_one (ps_if (pt_cmpR op_notN (pv 2) pe_non (nomark _)) (pss_one (ps_ret pe_bl)) pss_nil))
            (pss_one (ps_if (PW.pt (pw_or (pt_not (pt_val (pe_callB call_isErr (by rfl) mi (by decide +kernel) (pa_cons (pv 2) (pa_cons (pgr (by rfl) gC2) pa_nil))))) (pw_or1 (pt_cmpR op_ne (pe_callB (call_repr gd hr.units) (by rfl) mr (by decide +kernel) (pa_cons (pe_errF (pv 2)) pa_nil)) (pe_callB (call_repr gd hr.units) (by rfl) mr (by decide +kernel) (pa_cons (pv 8) pa_nil)) (nomark _))))) (pss_one (ps_ret pe_bl)) pss_nil)))))))))))
      (pss_one (ps_ret pe_bl))))))), ?_⟩
    have at0 : ∀ {z : V} {zs : List V}, atI (z :: zs) 0 = some z := at_of (j := 0) rfl rfl
    have hsH := Same.seqT wo_le hs
    refine ⟨1, rfl, by show 1 ≤ sizeLine; decide, fun c1 nc1 => ?_⟩
    have u1 := same_upd (o := .tup [V.int 4096]) nc1
    refine ⟨.ref p, rfl, p, n, rfl, hp.same u1, by omega, fun v1 d1 H1 hp1 s1 hd1 ok1 => ?_⟩
    have hd1 := Dk.same (nl_wo (pot_lst (hp.same u1))) hd1
    have w1 := (wo_same_of (a := p) u1).trans s1
    have hs1 := Same.seqT w1 hs
    refine ⟨.ref p, rfl, .ref a, rfl, by show 2 ≤ sizeLine; decide, fun c2 nc2 => ?_⟩
    have u2 := same_upd (o := .lst [V.ref a, .str "set r0 1"]) nc2
    refine ⟨p, c2, [V.ref a, .str "set r0 1"], n + 1, rfl, SqL.of (wo_at upd_same (hp1.ne nc2)), by simp, by show 2 ≤ 1000; decide, hp1.same u2, by omega, fun v2 hv2 H2 hp2 s2 => ?_⟩
    have w12 := (wo_same_of (a := p) u2).trans s2
    refine ⟨by show 8 ≤ sizeLine; decide, fun l nl => ?_⟩
    have u3 := same_upd (o := .lst [V.int 65536, .int (-1), .bl true, .non, .str "0", .ref c1, v1, v2]) nl
    have w13 := w12.trans (wo_same_of (a := p) u3)
    have w3 := w1.trans w13
    have vals : ∀ x ∈ [V.int 65536, .int (-1), .bl true, .non, .str "0", .ref c1, v1, v2], ∃ d, Dk K (upd H2 l (.lst [V.int 65536, .int (-1), .bl true, .non, .str "0", .ref c1, v1, v2])) x d ∧ okData d = true := fun x hx => by
      simp only [List.mem_cons, List.not_mem_nil, or_false] at hx
      rcases hx with rfl | rfl | rfl | rfl | rfl | rfl | rfl | rfl
      · exact ⟨_, .dp (.int _), by decide +kernel⟩
      · exact ⟨_, .dp (.int _), by decide +kernel⟩
      · exact ⟨_, .dp (.bl _), by decide +kernel⟩
      · exact ⟨_, .dp .non, by decide +kernel⟩
      · exact ⟨_, .dp (.str _), by decide +kernel⟩
      · exact ⟨.tuple [.int 4096], .dp (.tup (SqT.of (wo_le _ _ (w13 _ _ (s1 _ _ (wo_at upd_same (hp.ne nc1)))))) (.cons (.int _) .nil)), by decide +kernel⟩
      · exact ⟨d1, Dk.same (fun b o e => wo_le b o (w13 b o e)) hd1, ok1⟩
      · simp only [List.mem_cons, List.not_mem_nil, or_false] at hv2
        rcases hv2 with rfl | rfl
        · exact ⟨dRow nm ps, row_dp (Same.seqT wo_le (Same.seqT w3 hs)), (row_ok hrow).1⟩
        · exact ⟨_, .dp (.str _), by decide +kernel⟩
    have hpl : ∃ xs, H p = some (.lst xs) := by
      obtain ⟨x1, x2, x3, e, _⟩ := hp
      exact ⟨_, e⟩
    have hT3 := tabs_wo hT hpl w3
    have hp3 := hp2.same u3
    have hs3 := Same.seqT wo_le (Same.seqT w3 hs)
    have toP : ∀ {H' : Hp}, ExtN (upd H2 l (.lst [V.int 65536, .int (-1), .bl true, .non, .str "0", .ref c1, v1, v2])) H' → ExtP p H H' := fun {H'} en b o e ne nt => en b o (wo_le _ _ (w3 _ _ (wo_at e ne))) nt
    have hl3 : SqL K (upd H2 l (.lst [V.int 65536, .int (-1), .bl true, .non, .str "0", .ref c1, v1, v2])) l [V.int 65536, .int (-1), .bl true, .non, .str "0", .ref c1, v1, v2] := SqL.of upd_same
    refine ⟨l, rfl, ⟨_, hl3⟩, ?_⟩
    generalize upd H2 l (.lst [V.int 65536, .int (-1), .bl true, .non, .str "0", .ref c1, v1, v2]) = H3 at vals hT3 hp3 hs3 toP hl3 ⊢
    generalize [V.int 65536, .int (-1), .bl true, .non, .str "0", .ref c1, v1, v2] = xs at vals hl3
    refine for_list (xs := xs) (fun i σ H' => ∃ y2 y3 y4 y5 y6 y7 y8 y9 y10, σ = [some (.ref p), some (.ref a), y2, y3, y4, y5, y6, y7, y8, y9, y10] ∧ ExtN H3 H' ∧ Tabs T H') ⟨none, none, none, none, none, none, none, none, none, rfl, ExtN.refl H3, hT3⟩ (fun i σ H' _ hP => ?_) (fun i v σ H' hv hP => ?_) fun σ H' hP => ?_
    · obtain ⟨_, _, _, _, _, _, _, _, _, _, en, _⟩ := hP
      exact sqL_extN hl3 en
    · obtain ⟨y2, y3, y4, y5, y6, y7, y8, y9, y10, rfl, en, ht⟩ := hP
      obtain ⟨d, hd3, okd⟩ := vals v (List.mem_of_getElem? hv)
      have hd := dk_extN hd3 en
      refine ⟨ht, fun f' H4 en4 t4 hl4 nf => ⟨(), f', rfl, hl4, fun H5 s5 E' Q' hE hB => ?_⟩⟩
      have e5 : ExtN H' H5 := en4.trans (ExtN.of s5)
      refine ⟨v, rfl, v, d, rfl, dk_extN hd e5, fun x ex x0 x1 H6 s6 => ⟨fun en0 => hB _ _ fun pt npt => ?_, fun nm2 ps2 c e2 hc nc => hB _ _ fun pt npt => ?_⟩, fun hw dd nd => hE _ _ _ ⟨e1, C1, dd, rfl, rfl, fun ea pt nea npt => ?_⟩⟩
      · clear hE hB
        have ew : isW d 0 65535 = true := by rw [ex]; simp [isW, x0, x1]
        have s7 := s6.trans (same_upd (o := .tup [.non, .non]) npt)
        refine ⟨pt, [.non, .non], 0, .non, rfl, rfl, SqT.of upd_same, at0, ?_⟩
        refine ⟨v, rfl, v, d, 0, 65535, rfl, dk_extN hd (e5.trans (ExtN.of s7)), _, rfl, ?_⟩
        rw [ew]
        refine iteT ⟨.non, rfl, rfl, _, rfl, iteF ?_⟩
        exact ⟨_, _, _, _, _, _, _, _, _, rfl, en.trans (e5.trans (ExtN.of s7)), (t4.ext s5).ext s7⟩
      · clear hE hB
        have ew : isW d 0 65535 = true := by rw [ex]; simp [isW, x0, x1]
        have s7 := s6.trans (same_upd (o := .tup [.non, .ref c]) npt)
        refine ⟨pt, [.non, .ref c], 0, .non, rfl, rfl, SqT.of upd_same, at0, ?_⟩
        refine ⟨v, rfl, v, d, 0, 65535, rfl, dk_extN hd (e5.trans (ExtN.of s7)), _, rfl, ?_⟩
        rw [ew]
        refine iteT ⟨.non, rfl, rfl, _, rfl, iteF ?_⟩
        exact ⟨_, _, _, _, _, _, _, _, _, rfl, en.trans (e5.trans (ExtN.of s7)), (t4.ext s5).ext s7⟩
      · clear hE hB
        have sd := same_upd (o := .xd [("value", v)]) nd
        have se := same_upd (o := ErrO C1 dd ea) nea
        have sp := same_upd (o := .tup [V.ref ea, .non]) npt
        have s7 := (sd.trans se).trans sp
        refine ⟨pt, [.ref ea, .non], 0, .ref ea, rfl, rfl, SqT.of upd_same, at0, ?_⟩
        refine ⟨v, rfl, v, d, 0, 65535, rfl, dk_extN hd (e5.trans (ExtN.of s7)), _, rfl, ?_⟩
        rw [hw]
        refine iteF ?_
        have herr := sp _ _ (upd_same (H := upd H5 dd (.xd [("value", v)])) (a := ea) (o := ErrO C1 dd ea))
        have hdd := (se.trans sp) _ _ (upd_same (H := H5) (a := dd) (o := .xd [("value", v)]))
        have hdk := dk_extN hd (e5.trans (ExtN.of s7))
        refine ⟨.ref ea, rfl, ea, C1, dd, rfl, herr, _, rfl, iteF ?_⟩
        refine ⟨.ref ea, rfl, ea, C1, dd, [("value", v)], v, rfl, herr, X1, n1, hdd, rfl, v, d, rfl, hdk, okd, v, rfl, v, d, rfl, hdk, okd, rfl, _, rfl, ite2 (fun e => same_ne e) fun _ => ?_⟩
        exact ⟨_, _, _, _, _, _, _, _, _, rfl, en.trans (e5.trans (ExtN.of s7)), (t4.ext s5).ext s7⟩
    · obtain ⟨y2, y3, y4, y5, y6, y7, y8, y9, y10, rfl, en, ht⟩ := hP
      clear vals
      have sl : ∀ {m : Nat}, m ≤ 1000 → m ≤ sizeLine := fun h => Nat.le_of_lt (small1000 h)
      have hp4 : Pot H' p (n + 2) := by
        obtain ⟨x1, x2, x3, e, r⟩ := hp3
        exact ⟨x1, x2, x3, en _ _ e (fun ps z => by cases z), r⟩
      have ha := sqT_extN hs3 en
      have toP4 := toP en
      obtain ⟨sh, hl, hok⟩ := id hrow
      have hmem := mem_of_lookup hl
      obtain ⟨_, hps⟩ := row_ok hrow
      have hsome : (shapes.lookup nm).isSome = true := by rw [hl]; rfl
      obtain ⟨nok, uok, nne, n2'⟩ := name_okS hsome
      have anm : Atom (.str nm) := .inr (.inl ⟨nm, rfl, Nat.le_trans nok.1 (by omega), nok.2⟩)
      have aps : ∀ x ∈ ps.map V.int, Atom x := fun x hx => by
        obtain ⟨y, hy, rfl⟩ := List.mem_map.mp hx
        obtain ⟨i, hi⟩ := List.getElem?_of_mem hy
        obtain ⟨bb, eb, x0, xb⟩ := okParts_get hok i y hi
        have := bnds_all _ hmem bb (List.mem_of_getElem? eb)
        exact .inl ⟨y, rfl, by omega, by omega⟩
      have lps : (ps.map V.int).length ≤ 3 := by rw [List.length_map]; exact hps
      refine ⟨.ref a, rfl, a, _, 0, .str nm, rfl, rfl, ha, at0, .ref a, rfl, ((1 : Nat) : Int), rfl, ?_⟩
      unfold tNoPart
      refine slice_from (j := 1) ha fun c H4 hc u0 _ => ?_
      have hc : SqT K H4 c (ps.map V.int) := hc
      have ha4 := Same.seqT u0 ha
      refine ⟨_, _, rfl, ?_⟩
      -- the first eight
      refine ⟨.ref a, rfl, .ref a, rfl, a, _, rfl, .inr ha4, fun o1 no1 => ?_⟩
      have v1 := same_upd (o := .lst (V.str nm :: ps.map V.int)) no1
      refine ⟨_, rfl, by show 1 ≤ sizeLine; decide, fun o2 no2 => ?_⟩
      have v2 := same_upd (o := .tup [V.str nm]) no2
      refine ⟨.ref a, rfl, by show 1 ≤ sizeLine; decide, fun o3 no3 => ?_⟩
      have v3 := same_upd (o := .tup [V.int 0]) no3
      refine catA_one (Same.seqT ((v1.trans v2).trans v3) ha4) (SqT.of upd_same) (sl (by rw [List.length_cons]; show _ + 1 + 1 ≤ 1000; omega)) fun o4 H5 ho4 v4 => ?_
      have v14 := ((v1.trans v2).trans v3).trans v4
      refine ⟨.str nm, rfl, ⟨nm, rfl⟩, nm, rfl, rfl, by have := nok.1; omega, by show 1 ≤ sizeLine; decide, fun o5 no5 => ?_⟩
      have v5 := same_upd (o := .tup [V.str (Txt.upper nm)]) no5
      refine ⟨_, rfl, catA_one (SqT.of upd_same) (Same.seqT (v14.trans v5) hc) (sl (by show 1 + _ ≤ 1000; omega)) fun o6 H6 ho6 v6 => ?_⟩
      have v16 := (v14.trans v5).trans v6
      refine ⟨_, rfl, _, rfl, by show 2 ≤ sizeLine; decide, fun o7 no7 => ?_⟩
      have v7 := same_upd (o := .tup [V.str nm, .bl true]) no7
      refine ⟨_, rfl, 1, rfl, ?_⟩
      refine slice_any (Same.seqT (v16.trans v7) hc) fun o8 H8 y8 hy8 in8 le8 v8 => ?_
      refine catA_one (Same.seqT v8 (SqT.of upd_same)) hy8 (sl (by show 2 + _ ≤ 1000; omega)) fun o9 H9 ho9 v9 => ?_
      refine ⟨by show 2 ≤ sizeLine; decide, fun o10 no10 => ?_⟩
      have v10 := same_upd (o := .tup [V.str "word", .int 3]) no10
      refine ⟨by show 8 ≤ sizeLine; decide, fun l2 nl2 => ?_⟩
      have v11 := same_upd (o := .lst [V.ref a, .ref o1, .ref o2, .ref o4, .ref o6, .ref c, .ref o9, .ref o10]) nl2
      have va := ((((v16.trans v7).trans v8).trans v9).trans v10).trans v11
      have aup : Atom (.str (Txt.upper nm)) := .inr (.inl ⟨_, rfl, uok.1, uok.2⟩)
      have arow : ∀ x ∈ (V.str nm :: ps.map V.int), Atom x := fun x hx => (List.mem_cons.mp hx).elim (fun z => z ▸ anm) (aps x)
      have lrow : (V.str nm :: ps.map V.int).length ≤ 4 := by rw [List.length_cons]; omega
      have vb := (((v16.trans v7).trans v8).trans v9).trans v10
      obtain ⟨pl1, pl2, pl3, hpb, _⟩ := id (hp4.same (u0.trans vb))
      have nO1 : o1 ≠ p := (hp4.same u0).ne no1
      have fits8 : ∀ x ∈ [V.ref a, .ref o1, .ref o2, .ref o4, .ref o6, .ref c, .ref o9, .ref o10], Fit K (wo (upd H9 o10 (.tup [V.str "word", .int 3])) p) x := fun x hx => by
        simp only [List.mem_cons, List.not_mem_nil, or_false] at hx
        rcases hx with rfl | rfl | rfl | rfl | rfl | rfl | rfl | rfl
        · exact Fit.tup (sqT_wo (Same.seqT vb ha4) hpb) arow (by omega)
        · exact Fit.lst (SqL.of (wo_at (((((((((v2.trans v3).trans v4).trans v5).trans v6).trans v7).trans v8).trans v9).trans v10) _ _ upd_same) nO1)) arow (by omega)
        · exact Fit.tup (sqT_wo (Same.seqT (((((((v3.trans v4).trans v5).trans v6).trans v7).trans v8).trans v9).trans v10) (SqT.of upd_same)) hpb) (fun y hy => by rw [List.mem_singleton.mp hy]; exact anm) (by show 1 ≤ 8; omega)
        · exact Fit.tup (sqT_wo (Same.seqT (((((v5.trans v6).trans v7).trans v8).trans v9).trans v10) ho4) hpb) (fun y hy => (List.mem_append.mp hy).elim (arow y) fun z => by rw [List.mem_singleton.mp z]; exact .inl ⟨0, rfl, by omega, by omega⟩) (by rw [List.length_append]; show _ + 1 ≤ 8; omega)
        · exact Fit.tup (sqT_wo (Same.seqT (((v7.trans v8).trans v9).trans v10) ho6) hpb) (fun y hy => (List.mem_append.mp hy).elim (fun z => by rw [List.mem_singleton.mp z]; exact aup) (aps y)) (by rw [List.length_append]; show 1 + _ ≤ 8; omega)
        · exact Fit.tup (sqT_wo (Same.seqT vb hc) hpb) aps (by omega)
        · exact Fit.tup (sqT_wo (Same.seqT v10 ho9) hpb) (fun y hy => (List.mem_append.mp hy).elim (fun z => by
            simp only [List.mem_cons, List.not_mem_nil, or_false] at z
            rcases z with rfl | rfl
            · exact anm
            · exact .inr (.inr ⟨true, rfl⟩)) fun z => aps y (in8 y z)) (by rw [List.length_append]; show 2 + _ ≤ 8; omega)
        · exact Fit.tup (sqT_wo (SqT.of upd_same) hpb) (fun y hy => by
            simp only [List.mem_cons, List.not_mem_nil, or_false] at hy
            rcases hy with rfl | rfl
            · exact .inr (.inl ⟨_, rfl, by decide, str_chars _⟩)
            · exact .inl ⟨3, rfl, by omega, by omega⟩) (by show 2 ≤ 8; omega)
      have fits8 : ∀ x ∈ [V.ref a, .ref o1, .ref o2, .ref o4, .ref o6, .ref c, .ref o9, .ref o10], Fit K (wo (wo (upd (upd H9 o10 (.tup [V.str "word", .int 3])) l2 (.lst [V.ref a, .ref o1, .ref o2, .ref o4, .ref o6, .ref c, .ref o9, .ref o10])) l2) p) x := fun x hx => (fits8 x hx).same (wo_same_of (same_wo_new nl2))
      have hcL := Same.seqT va hc
      have haL := Same.seqT va ha4
      have hl2 : upd (upd H9 o10 (.tup [V.str "word", .int 3])) l2 (.lst [V.ref a, .ref o1, .ref o2, .ref o4, .ref o6, .ref c, .ref o9, .ref o10]) l2 = some (.lst [V.ref a, .ref o1, .ref o2, .ref o4, .ref o6, .ref c, .ref o9, .ref o10]) := upd_same
      have hpA := hp4.same (u0.trans va)
      have tA := ht.ext (u0.trans va)
      have pA : ExtP p H (upd (upd H9 o10 (.tup [V.str "word", .int 3])) l2 (.lst [V.ref a, .ref o1, .ref o2, .ref o4, .ref o6, .ref c, .ref o9, .ref o10])) := fun b o e ne nt => (u0.trans va) _ _ (toP4 b o e ne nt)
      generalize upd (upd H9 o10 (.tup [V.str "word", .int 3])) l2 (.lst [V.ref a, .ref o1, .ref o2, .ref o4, .ref o6, .ref c, .ref o9, .ref o10]) = HA at fits8 hcL haL hl2 hpA tA pA ⊢
      have nB : ∀ b o, H b = some o → b ≠ p → (∀ ps, o ≠ .tbl ps) → b ≠ l2 := fun b o e ne nt => by
        have z := (u0.trans vb) _ _ (toP4 b o e ne nt)
        exact fun y => by rw [y, nl2] at z; cases z
      have nep2 : l2 ≠ p := (hp4.same (u0.trans vb)).ne nl2
      have len8 : ([V.ref a, .ref o1, .ref o2, .ref o4, .ref o6, .ref c, .ref o9, .ref o10] : List V).length = 8 := rfl
      generalize [V.ref a, .ref o1, .ref o2, .ref o4, .ref o6, .ref c, .ref o9, .ref o10] = xA at fits8 hl2 len8
      clear va vb v11 v10 v9 v8 v7 v16 v6 v5 v14 v4 v3 v2 v1 ho9 ho6 ho4 hy8 in8 le8 hc ha4 u0
      -- three more
      refine ⟨.ref l2, rfl, .inl ⟨rfl, _, SqL.of hl2⟩, ?_⟩
      refine ⟨_, rfl, by show 1 ≤ sizeLine; decide, fun q1 nq1 => ?_⟩
      have b1 := same_upd (o := .tup [V.str nm]) nq1
      refine ⟨_, rfl, c, rfl, ⟨_, Same.seqT b1 hcL⟩, fun D1 nD1 => ?_⟩
      refine lc_tup (xs := ps.map V.int) (fun i HX => Same (upd HA q1 (.tup [V.str nm])) HX ∧ HX D1 = some (.lst (List.replicate i (.int (-1))))) ⟨same_upd nD1, upd_same⟩ (fun i HX _ hP => Same.seqT (b1.trans hP.1) hcL) (fun i x HX hx hP => ?_) fun HB hP => ?_
      · obtain ⟨sm, hD⟩ := hP
        have hi := (List.getElem?_eq_some_iff.mp hx).1
        refine ⟨rfl, ?_⟩
        unfold tYes
        refine iteT ⟨1, rfl, _, hD, small1000 (by rw [List.length_replicate]; omega), Same.updNew sm nD1, ?_⟩
        rw [upd_same, List.replicate_succ']
      obtain ⟨smB, hDB⟩ := hP
      have bB := b1.trans smB
      refine ⟨D1, _, rfl, .inl ⟨SqL.of hDB, fun t1 nt1 => ?_⟩⟩
      have b2 := same_upd (o := .tup (List.replicate (ps.map V.int).length (V.int (-1)))) nt1
      refine catA_one (Same.seqT (smB.trans b2) (SqT.of upd_same)) (SqT.of upd_same) (sl (by rw [List.length_replicate]; show 1 + _ ≤ 1000; omega)) fun r1 HC hr1 b3 => ?_
      have bC := (bB.trans b2).trans b3
      refine ⟨_, rfl, by show 1 ≤ sizeLine; decide, fun q2 nq2 => ?_⟩
      have b4 := same_upd (o := .tup [V.str nm]) nq2
      refine ⟨_, rfl, c, rfl, ⟨_, Same.seqT (bC.trans b4) hcL⟩, fun D2 nD2 => ?_⟩
      refine lc_tup (xs := ps.map V.int) (fun i HX => Same (upd HC q2 (.tup [V.str nm])) HX ∧ HX D2 = some (.lst (List.replicate i (.int 8)))) ⟨same_upd nD2, upd_same⟩ (fun i HX _ hP => Same.seqT ((bC.trans b4).trans hP.1) hcL) (fun i x HX hx hP => ?_) fun HD hP => ?_
      · obtain ⟨sm, hD⟩ := hP
        have hi := (List.getElem?_eq_some_iff.mp hx).1
        refine ⟨rfl, ?_⟩
        unfold tYes
        refine iteT ⟨_, hD, small1000 (by rw [List.length_replicate]; omega), Same.updNew sm nD2, ?_⟩
        rw [upd_same, List.replicate_succ']
      obtain ⟨smD, hDD⟩ := hP
      refine ⟨D2, _, rfl, .inl ⟨SqL.of hDD, fun t2 nt2 => ?_⟩⟩
      have b5 := same_upd (o := .tup (List.replicate (ps.map V.int).length (V.int 8))) nt2
      refine catA_one (Same.seqT (smD.trans b5) (SqT.of upd_same)) (SqT.of upd_same) (sl (by rw [List.length_replicate]; show 1 + _ ≤ 1000; omega)) fun r2 HE hr2 b6 => ?_
      have bE := (((bC.trans b4).trans smD).trans b5).trans b6
      refine ⟨by show 1 ≤ sizeLine; decide, fun q3 nq3 => ?_⟩
      have b7 := same_upd (o := .tup [V.str ""]) nq3
      refine ⟨_, rfl, catA_one (SqT.of upd_same) (Same.seqT (bE.trans b7) hcL) (sl (by show 1 + _ ≤ 1000; omega)) fun r3 HF hr3 b8 => ?_⟩
      have bF := (bE.trans b7).trans b8
      refine ⟨by show 3 ≤ sizeLine; decide, fun l3 nl3 => ?_⟩
      have b9 := same_upd (o := .lst [V.ref r1, .ref r2, .ref r3]) nl3
      have bG := bF.trans b9
      refine ⟨l2, l3, xA, [.ref r1, .ref r2, .ref r3], rfl, rfl, bG _ _ hl2, upd_same, sl (by rw [len8]; show 8 + 3 ≤ 1000; omega), ?_⟩
      have am1 : Atom (.int (-1)) := .inl ⟨-1, rfl, by omega, by omega⟩
      have a8 : Atom (.int 8) := .inl ⟨8, rfl, by omega, by omega⟩
      have ae : Atom (.str "") := .inr (.inl ⟨_, rfl, by decide, str_chars _⟩)
      have one : ∀ {z : V} {zs : List V}, Atom z → (∀ y ∈ zs, Atom y) → ∀ y ∈ [z] ++ zs, Atom y := fun {z zs} h1 h2 y hy => (List.mem_append.mp hy).elim (fun e => by rw [List.mem_singleton.mp e]; exact h1) (h2 y)
      have hl2G : upd HF l3 (.lst [V.ref r1, .ref r2, .ref r3]) l2 = some (.lst xA) := bG _ _ hl2
      obtain ⟨pg1, pg2, pg3, hpG1, _⟩ := id (hpA.same bG)
      have hpG2 := wo_at (a := l2) hpG1 nep2.symm
      have fitsB : ∀ x ∈ xA ++ [V.ref r1, .ref r2, .ref r3], Fit K (wo (wo (upd HF l3 (.lst [V.ref r1, .ref r2, .ref r3])) l2) p) x := fun x hx => by
        rcases List.mem_append.mp hx with hx | hx
        · exact (fits8 x hx).same (wo_same_of (wo_same_of bG))
        · simp only [List.mem_cons, List.not_mem_nil, or_false] at hx
          rcases hx with rfl | rfl | rfl
          · exact Fit.tup (sqT_wo (sqT_wo (Same.seqT ((((((b4.trans smD).trans b5).trans b6).trans b7).trans b8).trans b9) hr1) hl2G) hpG2) (one anm fun y hy => by rw [List.eq_of_mem_replicate hy]; exact am1) (by rw [List.length_append, List.length_replicate]; show 1 + _ ≤ 8; omega)
          · exact Fit.tup (sqT_wo (sqT_wo (Same.seqT ((b7.trans b8).trans b9) hr2) hl2G) hpG2) (one anm fun y hy => by rw [List.eq_of_mem_replicate hy]; exact a8) (by rw [List.length_append, List.length_replicate]; show 1 + _ ≤ 8; omega)
          · exact Fit.tup (sqT_wo (sqT_wo (Same.seqT b9 hr3) hl2G) hpG2) (one ae aps) (by rw [List.length_append]; show 1 + _ ≤ 8; omega)
      have hG := hl2G
      have len3 : ([V.ref r1, .ref r2, .ref r3] : List V).length = 3 := rfl
      generalize [V.ref r1, .ref r2, .ref r3] = x3 at *
      have hlG : upd (upd HF l3 (.lst x3)) l2 (.lst (xA ++ x3)) l2 = some (.lst (xA ++ x3)) := upd_same
      have cG : SqT K (upd (upd HF l3 (.lst x3)) l2 (.lst (xA ++ x3))) c (ps.map V.int) := sqT_upd (Same.seqT bG hcL) hG
      have aG : SqT K (upd (upd HF l3 (.lst x3)) l2 (.lst (xA ++ x3))) a (.str nm :: ps.map V.int) := sqT_upd (Same.seqT bG haL) hG
      have pG : Pot (upd (upd HF l3 (.lst x3)) l2 (.lst (xA ++ x3))) p (n + 2) := (hpA.same bG).upd nep2
      have tG : Tabs T (upd (upd HF l3 (.lst x3)) l2 (.lst (xA ++ x3))) := tabs_upd (tA.ext bG) hG
      have eG : ExtP p H (upd (upd HF l3 (.lst x3)) l2 (.lst (xA ++ x3))) := fun b o e ne nt => by
        rw [upd_ne (nB b o e ne nt)]
        exact bG _ _ (pA b o e ne nt)
      have fG : ∀ x ∈ xA ++ x3, Fit K (wo (wo (upd (upd HF l3 (.lst x3)) l2 (.lst (xA ++ x3))) l2) p) x := by rw [wo_upd]; exact fitsB
      have lenX : (xA ++ x3).length ≤ 11 := by rw [List.length_append, len8, len3]; omega
      generalize upd (upd HF l3 (.lst x3)) l2 (.lst (xA ++ x3)) = HG at hlG cG aG pG tG eG fG ⊢
      generalize xA ++ x3 = xB at hlG fG lenX
      clear fitsB hl2G hG bG b9 bF b8 b7 bE b6 b5 smD b4 bC b3 b2 bB smB b1 fits8 hcL haL hl2 hpA tA pA hr1 hr2 hr3 hDB hDD
      refine ⟨.ref l2, rfl, .inl ⟨rfl, _, SqL.of hlG⟩, ?_⟩
      refine ⟨_, rfl, by show 1 ≤ sizeLine; decide, fun k1q nk1q => ?_⟩
      have k1u := same_upd (o := .tup [V.str nm]) nk1q
      refine ⟨_, rfl, 1, rfl, -1, rfl, slice_any (Same.seqT k1u cG) fun k1s Hk1 k1y hk1y k1in k1le k1v => ?_⟩
      refine catA_one (Same.seqT k1v (SqT.of upd_same)) hk1y (sl (by show 1 + _ ≤ 1000; omega)) fun k1o Jk1 hk1o k1w => ?_
      refine ⟨by show 1 ≤ sizeLine; decide, fun k1r nk1r => ?_⟩
      have k1x := same_upd (o := .tup [V.int 512]) nk1r
      refine catA_one (Same.seqT k1x hk1o) (SqT.of upd_same) (sl (by rw [List.length_append]; show 1 + _ + 1 ≤ 1000; omega)) fun k1t Lk1 hk1t k1z => ?_
      refine ⟨_, rfl, by show 1 ≤ sizeLine; decide, fun k2q nk2q => ?_⟩
      have k2u := same_upd (o := .tup [V.str nm]) nk2q
      refine ⟨_, rfl, 1, rfl, -1, rfl, slice_any (Same.seqT (((((k1u.trans k1v).trans k1w).trans k1x).trans k1z).trans k2u) cG) fun k2s Hk2 k2y hk2y k2in k2le k2v => ?_⟩
      refine catA_one (Same.seqT k2v (SqT.of upd_same)) hk2y (sl (by show 1 + _ ≤ 1000; omega)) fun k2o Jk2 hk2o k2w => ?_
      refine ⟨by show 1 ≤ sizeLine; decide, fun k2r nk2r => ?_⟩
      have k2x := same_upd (o := .tup [V.int 64]) nk2r
      refine catA_one (Same.seqT k2x hk2o) (SqT.of upd_same) (sl (by rw [List.length_append]; show 1 + _ + 1 ≤ 1000; omega)) fun k2t Lk2 hk2t k2z => ?_
      refine ⟨_, rfl, by show 1 ≤ sizeLine; decide, fun k3q nk3q => ?_⟩
      have k3u := same_upd (o := .tup [V.str nm]) nk3q
      refine ⟨_, rfl, 1, rfl, -1, rfl, slice_any (Same.seqT ((((((((((k1u.trans k1v).trans k1w).trans k1x).trans k1z).trans k2u).trans k2v).trans k2w).trans k2x).trans k2z).trans k3u) cG) fun k3s Hk3 k3y hk3y k3in k3le k3v => ?_⟩
      refine catA_one (Same.seqT k3v (SqT.of upd_same)) hk3y (sl (by show 1 + _ ≤ 1000; omega)) fun k3o Jk3 hk3o k3w => ?_
      refine ⟨by show 1 ≤ sizeLine; decide, fun k3r nk3r => ?_⟩
      have k3x := same_upd (o := .tup [V.int 256]) nk3r
      refine catA_one (Same.seqT k3x hk3o) (SqT.of upd_same) (sl (by rw [List.length_append]; show 1 + _ + 1 ≤ 1000; omega)) fun k3t Lk3 hk3t k3z => ?_
      refine ⟨by show 3 ≤ sizeLine; decide, fun l4 nl4 => ?_⟩
      have z4 := same_upd (o := .lst [V.ref k1t, .ref k2t, .ref k3t]) nl4
      have zG := ((((((((((((((k1u.trans k1v).trans k1w).trans k1x).trans k1z).trans k2u).trans k2v).trans k2w).trans k2x).trans k2z).trans k3u).trans k3v).trans k3w).trans k3x).trans k3z).trans z4
      refine ⟨l2, l4, xB, [.ref k1t, .ref k2t, .ref k3t], rfl, rfl, zG _ _ hlG, upd_same, sl (by show _ + 3 ≤ 1000; omega), ?_⟩
      have hlG2 := zG _ _ hlG
      have mid : ∀ {y : List V} {i : Int}, (∀ x ∈ y, x ∈ ps.map V.int) → -100000 ≤ i → i ≤ 1000000 → ∀ x ∈ ([V.str nm] ++ y) ++ [.int i], Atom x := fun {y i} h h0 h1 x hx => by
        rcases List.mem_append.mp hx with hx | hx
        · exact one anm (fun z hz => aps z (h z hz)) x hx
        · rw [List.mem_singleton.mp hx]
          exact .inl ⟨i, rfl, h0, h1⟩
      obtain ⟨pz1, pz2, pz3, hpG3, _⟩ := id (pG.same zG)
      have hpG4 := wo_at (a := l2) hpG3 nep2.symm
      have fitsC : ∀ x ∈ xB ++ [V.ref k1t, .ref k2t, .ref k3t], Fit K (wo (wo (upd Lk3 l4 (.lst [V.ref k1t, .ref k2t, .ref k3t])) l2) p) x := fun x hx => by
        rcases List.mem_append.mp hx with hx | hx
        · exact (fG x hx).same (wo_same_of (wo_same_of zG))
        · simp only [List.mem_cons, List.not_mem_nil, or_false] at hx
          rcases hx with rfl | rfl | rfl
          · exact Fit.tup (sqT_wo (sqT_wo (Same.seqT ((((((((((k2u.trans k2v).trans k2w).trans k2x).trans k2z).trans k3u).trans k3v).trans k3w).trans k3x).trans k3z).trans z4) hk1t) hlG2) hpG4) (mid k1in (by omega) (by omega)) (by rw [List.length_append, List.length_append]; show 1 + _ + 1 ≤ 8; omega)
          · exact Fit.tup (sqT_wo (sqT_wo (Same.seqT (((((k3u.trans k3v).trans k3w).trans k3x).trans k3z).trans z4) hk2t) hlG2) hpG4) (mid k2in (by omega) (by omega)) (by rw [List.length_append, List.length_append]; show 1 + _ + 1 ≤ 8; omega)
          · exact Fit.tup (sqT_wo (sqT_wo (Same.seqT z4 hk3t) hlG2) hpG4) (mid k3in (by omega) (by omega)) (by rw [List.length_append, List.length_append]; show 1 + _ + 1 ≤ 8; omega)
      have len4 : ([V.ref k1t, .ref k2t, .ref k3t] : List V).length = 3 := rfl
      generalize [V.ref k1t, .ref k2t, .ref k3t] = x4 at fitsC hlG2 z4 zG len4 ⊢
      have hlM : upd (upd Lk3 l4 (.lst x4)) l2 (.lst (xB ++ x4)) l2 = some (.lst (xB ++ x4)) := upd_same
      have aM : SqT K (upd (upd Lk3 l4 (.lst x4)) l2 (.lst (xB ++ x4))) a (.str nm :: ps.map V.int) := sqT_upd (Same.seqT zG aG) hlG2
      have pM : Pot (upd (upd Lk3 l4 (.lst x4)) l2 (.lst (xB ++ x4))) p (n + 2) := (pG.same zG).upd nep2
      have tM : Tabs T (upd (upd Lk3 l4 (.lst x4)) l2 (.lst (xB ++ x4))) := tabs_upd (tG.ext zG) hlG2
      have eM : ExtP p H (upd (upd Lk3 l4 (.lst x4)) l2 (.lst (xB ++ x4))) := fun b o e ne nt => by
        rw [upd_ne (nB b o e ne nt)]
        exact zG _ _ (eG b o e ne nt)
      have fM : ∀ x ∈ xB ++ x4, Fit K (wo (wo (upd (upd Lk3 l4 (.lst x4)) l2 (.lst (xB ++ x4))) l2) p) x := by rw [wo_upd]; exact fitsC
      have lenY : (xB ++ x4).length ≤ 14 := by rw [List.length_append, len4]; omega
      generalize upd (upd Lk3 l4 (.lst x4)) l2 (.lst (xB ++ x4)) = HM at hlM aM pM tM eM fM ⊢
      generalize xB ++ x4 = xC at hlM fM lenY
      -- the bent ones, and an odd one
      refine ⟨_, rfl, 4, rfl, by omega, by omega, fun D nD => ?_⟩
      have nDp := pM.ne nD
      refine lc_range (n := 4) (fun i HX => ∃ bs : List V, HX D = some (.lst bs) ∧ bs.length = i ∧ Pot HX p (n + 2 + 40 * i) ∧ Same (wo HM p) (wo HX p) ∧ ∀ x ∈ bs, Fit K (K00.nl (upd HM D (.lst [])) HX) x)
        ⟨[], upd_same, rfl, pM.same (same_upd nD), wo_same_of (same_upd nD), fun x hx => (List.not_mem_nil hx).elim⟩ (fun i HX hi hP => ?_) fun HB hP => ?_
      · obtain ⟨bs, hD, lb, hpX, sX, fX⟩ := hP
        refine ⟨rfl, ?_⟩
        unfold tYes
        obtain ⟨ym, hym⟩ := pot_lst pM
        refine iteT ⟨.ref p, rfl, .ref a, rfl, p, n + 2 + 40 * i, a, nm, ps, rfl, Same.seqT sX (sqT_wo aM hym), hrow, hpX, by omega, fun u d H' hp' s' hd okd => ?_⟩
        have hDX := wo_le _ _ (s' _ _ (wo_at hD nDp))
        refine ⟨bs, hDX, small1000 (by omega), bs ++ [u], upd_same, by rw [List.length_append, lb]; rfl, (hp'.mono (by omega)).upd nDp, wo_updNew (sX.trans s') nD, fun x hx => ?_⟩
        rcases List.mem_append.mp hx with hx | hx
        · exact (fX x hx).same (bent_old (pot_lst pM) nDp s')
        · rw [List.mem_singleton.mp hx]
          exact ⟨d, .dp (dp_same (bent_new hD (pot_lst hpX) sX) _ _ hd), okd.ok (by omega) (by decide)⟩
      · obtain ⟨bs, hDB, lb, hpB, sB, fB⟩ := hP
        have hlB : HB l2 = some (.lst xC) := wo_le _ _ (sB _ _ (wo_at hlM nep2))
        refine ⟨l2, D, xC, bs, rfl, rfl, hlB, hDB, sl (by omega), fun l5 nl5 => ?_⟩
        have j1 := same_upd (o := .lst (xC ++ bs)) nl5
        refine ⟨.ref p, rfl, p, n + 2 + 40 * 4, rfl, hpB.same j1, by omega, fun v d H6 hp6 s6 hd6 ok6 => ?_⟩
        have hd6 := Dk.same nl_le hd6
        refine ⟨by show 1 ≤ sizeLine; decide, fun l6 nl6 => ?_⟩
        have j2 := same_upd (o := .lst [v]) nl6
        have nel5 : l5 ≠ p := hpB.ne nl5
        have h65 : H6 l5 = some (.lst (xC ++ bs)) := wo_le _ _ (s6 _ _ (wo_at upd_same nel5))
        refine ⟨l5, l6, xC ++ bs, [v], rfl, rfl, j2 _ _ h65, upd_same, sl (by rw [List.length_append]; show _ + _ + 1 ≤ 1000; omega), fun l7 nl7 => ?_⟩
        have j3 := same_upd (o := .lst ((xC ++ bs) ++ [v])) nl7
        have w67 : Same (wo HB p) (wo (upd (upd H6 l6 (.lst [v])) l7 (.lst ((xC ++ bs) ++ [v]))) p) := ((wo_same_of j1).trans s6).trans (wo_same_of (j2.trans j3))
        have w7 := sB.trans w67
        have vals : ∀ x ∈ (xC ++ bs) ++ [v], Fit K (upd (upd H6 l6 (.lst [v])) l7 (.lst ((xC ++ bs) ++ [v]))) x := fun x hx => by
          rcases List.mem_append.mp hx with hx | hx
          · rcases List.mem_append.mp hx with hx | hx
            · exact (fM x hx).same fun b o e => wo_le _ _ (w7 _ _ (wo_same_of wo_le _ _ e))
            · refine (fB x hx).same fun b o e => ?_
              obtain ⟨x1, e⟩ := nl_out e
              obtain ⟨ym, hym⟩ := pot_lst pM
              exact wo_le _ _ (w67 _ _ (wo_at e fun z => x1 ym (by rw [z]; exact (upd_ne (Ne.symm nDp)).trans hym)))
          · rw [List.mem_singleton.mp hx]
            exact ⟨d, Dk.same (j2.trans j3) hd6, ok6⟩
        have hT7 := tabs_wo tM (pot_lst pM) w7
        have toP7 : ExtP p H (upd (upd H6 l6 (.lst [v])) l7 (.lst ((xC ++ bs) ++ [v]))) := fun b o e ne nt => wo_le _ _ (w7 _ _ (wo_at (eM b o e ne nt) ne))
        have hl7 : SqL K (upd (upd H6 l6 (.lst [v])) l7 (.lst ((xC ++ bs) ++ [v]))) l7 ((xC ++ bs) ++ [v]) := SqL.of upd_same
        refine ⟨l7, rfl, ⟨_, hl7⟩, ?_⟩
        generalize upd (upd H6 l6 (.lst [v])) l7 (.lst ((xC ++ bs) ++ [v])) = H7 at vals hT7 toP7 hl7 ⊢
        generalize (xC ++ bs) ++ [v] = xs7 at vals hl7
        clear w7 w67 j3 j2 j1 h65 hd6 fM fB hlB sB hpB hp6 s6 hDB eM tM pM aM hlM
        refine for_list (xs := xs7) (fun i σ H' => ∃ y2 y3 y4 y5 y6 y7 y8 y9 y10, σ = [some (.ref p), some (.ref a), y2, y3, y4, y5, y6, y7, y8, y9, y10] ∧ ExtN H7 H' ∧ Tabs T H') ⟨_, _, _, _, _, _, _, _, _, rfl, ExtN.refl H7, hT7⟩ (fun i σ H' _ hP => ?_) (fun i v σ H' hv hP => ?_) fun σ H' hP => ?_
        · obtain ⟨_, _, _, _, _, _, _, _, _, _, en, _⟩ := hP
          exact sqL_extN hl7 en
        · obtain ⟨y2, y3, y4, y5, y6, y7, y8, y9, y10, rfl, en, ht⟩ := hP
          obtain ⟨d, hd3, okd⟩ := vals v (List.mem_of_getElem? hv)
          have hd := dk_extN hd3 en
          refine ⟨ht, fun f1 G1 g1 t1 i1 nf1 => ⟨by show 1 ≤ sizeLine; decide, fun lk nlk => ?_⟩⟩
          have a1 := same_upd (o := .lst [V.ref f1]) nlk
          have nlk0 := none_ext g1 nlk
          refine ⟨.ref lk, rfl, .inl ⟨rfl, _, SqL.of upd_same⟩, t1.ext a1, fun f2 G2 g2 t2 i2 nf2 => ?_⟩
          have k2 := g2 _ _ (upd_same (H := G1) (a := lk) (o := .lst [V.ref f1])) (fun ps z => by cases z)
          refine ⟨lk, _, _, rfl, rfl, k2, by show 1 < sizeLine; decide, ?_⟩
          refine ⟨.ref lk, rfl, .inl ⟨rfl, _, SqL.of upd_same⟩, tabs_upd t2 k2, fun f3 G3 g3 t3 i3 nf3 => ?_⟩
          have k3 := g3 _ _ (upd_same (H := G2) (a := lk) (o := .lst ([V.ref f1] ++ [.ref f2]))) (fun ps z => by cases z)
          refine ⟨lk, _, _, rfl, rfl, k3, by show 2 < sizeLine; decide, ?_⟩
          have m1 := (((i1.ext (ExtN.of a1)).ext g2).updL (o := .lst ([V.ref f1] ++ [.ref f2])) k2).ext g3
          have m1 := m1.updL (o := .lst (([V.ref f1] ++ [.ref f2]) ++ [.ref f3])) k3
          have m2 := ((i2.updL (o := .lst ([V.ref f1] ++ [.ref f2])) k2).ext g3).updL (o := .lst (([V.ref f1] ++ [.ref f2]) ++ [.ref f3])) k3
          have m3 := i3.updL (o := .lst (([V.ref f1] ++ [.ref f2]) ++ [.ref f3])) k3
          have t4 : Tabs T (upd G3 lk (.lst (([V.ref f1] ++ [.ref f2]) ++ [.ref f3]))) := tabs_upd t3 k3
          have eG : ExtN H' (upd G3 lk (.lst (([V.ref f1] ++ [.ref f2]) ++ [.ref f3]))) := extN_upd (extN_comp (extN_upd (extN_comp (g1.trans (ExtN.of a1)) g2) nlk0) g3) nlk0
          have k4 : upd G3 lk (.lst (([V.ref f1] ++ [.ref f2]) ++ [.ref f3])) lk = some (.lst (([V.ref f1] ++ [.ref f2]) ++ [.ref f3])) := upd_same
          generalize upd G3 lk (.lst (([V.ref f1] ++ [.ref f2]) ++ [.ref f3])) = GL at m1 m2 m3 t4 eG k4 ⊢
          refine ⟨.ref lk, rfl, lk, rfl, ⟨_, SqL.of k4⟩, ?_⟩
          have hdL := dk_extN hd eG
          refine for_list (xs := ([V.ref f1] ++ [.ref f2]) ++ [.ref f3]) (fun j σ H8 => ∃ y2 y7, σ = [some (.ref p), some (.ref a), y2, y3, y4, y5, some (.ref lk), y7, some v, y9, y10] ∧ ExtN GL H8 ∧ Tabs T H8) ⟨_, _, rfl, ExtN.refl GL, t4⟩ (fun j σ H8 _ hP => ?_) (fun j x σ H8 hx hP => ?_) fun σ H8 hP => ?_
          · obtain ⟨_, _, _, e8, _⟩ := hP
            exact sqL_extN (SqL.of k4) e8
          · obtain ⟨y2, y7, rfl, e8, t8⟩ := hP
            obtain ⟨jj, ff, rfl, isl⟩ : ∃ (jj : Fin 3) (ff : Addr), x = .ref ff ∧ IsLam _ (lamAt (jj.val + 1)) ff GL := by
              match j, hx with
              | 0, hx => exact ⟨0, f1, (Option.some.inj hx).symm, m1⟩
              | 1, hx => exact ⟨1, f2, (Option.some.inj hx).symm, m2⟩
              | 2, hx => exact ⟨2, f3, (Option.some.inj hx).symm, m3⟩
              | j + 3, hx => cases hx
            refine ⟨.ref ff, rfl, jj, ff, rfl, isl.ext e8, fun H9 s9 E' Q' hE hB => ?_⟩
            have e9 : ExtN GL H9 := e8.trans (ExtN.of s9)
            have t9 := t8.ext s9
            have look : ∀ r : Str → List Int → V, tCall (spRow K C2 r) [] E' (tCons (tVar 8) tNil) [some (.ref p), some (.ref a), y2, y3, y4, y5, some (.ref lk), some (.ref ff), some v, y9, y10] H9 Q' := by
              intro r
              refine ⟨v, rfl, v, d, rfl, dk_extN hdL e9, fun nm2 ps2 ed hr2 H10 s10 => hB _ _ fun pt npt => ?_, fun hw H10 dd s10 nd => hE _ _ _ ⟨e2, C2, dd, rfl, rfl, fun ea pt nea npt => ?_⟩⟩
              · clear hE hB
                have ew : dIsRow d = true := by rw [ed]; exact row_dIsRow hr2
                have s11 := s10.trans (same_upd (o := .tup [.non, r nm2 ps2]) npt)
                refine ⟨pt, [.non, r nm2 ps2], 0, .non, rfl, rfl, SqT.of upd_same, at0, ?_⟩
                refine ⟨v, rfl, v, d, rfl, dk_extN hdL (e9.trans (ExtN.of s11)), okData.shaped okd, fun H12 s12 => ⟨_, rfl, ?_⟩⟩
                rw [ew]
                refine iteT ⟨.non, rfl, rfl, _, rfl, iteF ?_⟩
                exact ⟨_, _, rfl, e9.trans (ExtN.of (s11.trans s12)), (t9.ext s11).ext s12⟩
              · clear hE hB
                have sd := same_upd (o := .xd [("value", v)]) nd
                have se := same_upd (o := ErrO C2 dd ea) nea
                have sp := same_upd (o := .tup [V.ref ea, .non]) npt
                have s11 := s10.trans ((sd.trans se).trans sp)
                have herr := sp _ _ (upd_same (H := upd H10 dd (.xd [("value", v)])) (a := ea) (o := ErrO C2 dd ea))
                have hdd := (se.trans sp) _ _ (upd_same (H := H10) (a := dd) (o := .xd [("value", v)]))
                refine ⟨pt, [.ref ea, .non], 0, .ref ea, rfl, rfl, SqT.of upd_same, at0, ?_⟩
                refine ⟨v, rfl, v, d, rfl, dk_extN hdL (e9.trans (ExtN.of s11)), okData.shaped okd, fun H12 s12 => ⟨_, rfl, ?_⟩⟩
                rw [hw]
                refine iteF ?_
                have hdk := dk_extN hdL (e9.trans (ExtN.of (s11.trans s12)))
                have herr := s12 _ _ herr
                have hdd := s12 _ _ hdd
                refine ⟨.ref ea, rfl, ea, C2, dd, rfl, herr, _, rfl, iteF ?_⟩
                refine ⟨.ref ea, rfl, ea, C2, dd, [("value", v)], v, rfl, herr, X2, n2, hdd, rfl, v, d, rfl, hdk, okd, v, rfl, v, d, rfl, hdk, okd, rfl, _, rfl, ite2 (fun e => same_ne e) fun _ => ?_⟩
                exact ⟨_, _, rfl, e9.trans (ExtN.of (s11.trans s12)), (t9.ext s11).ext s12⟩
            exact match jj with
              | 0 => look _
              | 1 => look _
              | 2 => look _
          · obtain ⟨y2, y7, rfl, e8, t8⟩ := hP
            exact ⟨_, _, _, _, _, _, _, _, _, rfl, en.trans (eG.trans e8), t8⟩
        · obtain ⟨_, _, _, _, _, _, _, _, _, rfl, en, ht⟩ := hP
          exact q _ (fun b o e ne nt => en b o (toP7 b o e ne nt) nt) ht
end
end K00

set_option maxRecDepth 100000
set_option maxHeartbeats 2000000
/-! k00: what the written part tells, as tests. -/
namespace K00
open PySem PySem.Spec PyProof.Rows L2 LamX
theorem defFun {K : PySem.W.Frag} {x qual : Str} {st : Stmt} {f : Addr} {fd : FuncData} (F : FunD K x qual (defArgs st) (defBody st) (defScope st) [] [] f fd) : Fun K x qual st f fd := by
  obtain ⟨oc, od, dV, kV, doc, pm, an, cdv, ct, osl, h1, h2, h3, h4, _⟩ := F.ex
  rcases h4 with ⟨_, rfl⟩ | ⟨z, _⟩
  · exact ⟨⟨oc, od, kV, doc, pm, an, cdv, ct, osl, h1, h2, h3⟩, F.kp⟩
  · exact absurd rfl z
/-- a tuple that the top has laid -/
def ktB (K : PySem.W.Frag) (a : Addr) (vs : List V) : Bool := match K.lookup a with
  | some ⟨.type c, _, .seq its _, _⟩ => decide (c = "tuple") && (decide (its.size ≤ 1000) && He.relAll vs its.toList)
  | _ => false
theorem ktB_ok {K : PySem.W.Frag} {a : Addr} {vs : List V} (h : ktB K a vs = true) : KT K a vs := by
  unfold ktB at h
  split at h
  · rename_i c od its n sl ho
    simp only [Bool.and_eq_true, decide_eq_true_eq] at h
    obtain ⟨rfl, h2, h3⟩ := h
    exact ⟨_, its, n, ho, rfl, rfl, Nat.le_trans h2 (by decide), He.relAll_ok h3⟩
  · cases h
/-- an error's class -/
def oexB (K : PySem.W.Frag) (C : Addr) : Bool := match K.lookup C with
  | some ⟨.type c, _, .cls cd, sl⟩ => decide (c = "type") && (match cd.mro, sl.toList with
    | .ref D :: bm, [_, _, _, _, some (.builtin n), _] => decide (D = C) && (decide (n = "ValueError.__new__") && (!cd.hasDel && (cd.hasDict && PySem.HandSPX.refsVE bm)))
    | _, _ => false)
  | _ => false
theorem oexB_ok {K : PySem.W.Frag} {C : Addr} (h : oexB K C = true) : ∃ nm q N bs bm sn sub ab col dd k0 k1 k2 k3 k5, K.lookup C = some (excClassObj nm q C N bs bm true sn sub ab col dd k0 k1 k2 k3 k5 "ValueError.__new__") ∧ PySem.HandSPX.refsVE bm = true := by
  unfold oexB at h
  split at h
  · rename_i c dd cd sl ho
    simp only [Bool.and_eq_true, decide_eq_true_eq] at h
    obtain ⟨rfl, h⟩ := h
    split at h
    · rename_i D bm k0 k1 k2 k3 n k5 hm hs
      simp only [Bool.and_eq_true, decide_eq_true_eq, Bool.not_eq_true'] at h
      obtain ⟨rfl, rfl, h3, h4, h5⟩ := h
      obtain ⟨nm, bs, mro, ns, qn, hd, sn, sub, ab, col, del⟩ := cd
      dsimp only at hm h3 h4
      subst hm h3 h4
      obtain ⟨l⟩ := sl
      dsimp only at hs
      subst hs
      exact ⟨nm, qn, ns, bs, bm, sn, sub, ab, col, dd, k0, k1, k2, k3, k5, ho, h5⟩
    · cases h
  · cases h
/-- all that is asked of an error's class -/
def errB (K : PySem.W.Frag) (C fI CS : Addr) : Bool := oexB K C && (decide (PySem.W.findIn K (.ref C) "__setattr__" = some (some (.builtin "object.__setattr__"))) && (decide (PySem.W.typeIn K (.ref C) = some (.type "type")) && (PySem.W.keepIn K (.ref C) &&
  (decide (PySem.W.findIn K (.ref C) "__init__" = some (some (.ref fI))) && (decide (PySem.W.typeIn K (.ref fI) = some (.type "function")) && (decide (PySem.W.findIn K (.ref C) "value" = some none) && (xfB K C && decide (PySem.W.exmOne K (.ref C) (.ref CS) = some true))))))))
theorem errB_ok {K : PySem.W.Frag} {C fI CS : Addr} (h : errB K C fI CS = true) : ErrC K C fI ∧ XfC K C ∧ PySem.W.exmOne K (.ref C) (.ref CS) = some true := by
  unfold errB at h
  simp only [Bool.and_eq_true, decide_eq_true_eq] at h
  obtain ⟨h1, h2, h3, h4, h5, h6, h7, h8, h9⟩ := h
  have X := xfB_ok h8
  exact ⟨⟨⟨oexB_ok h1, h2, X.exC, h3, h4⟩, h5, h6, h7⟩, X, h9⟩
/-- the table of rows -/
def shB (K : PySem.W.Frag) (d : Addr) : Bool := shapes.all fun q => match PySem.W.nsIn K d q.1 with
  | some (some (.ref t)) => ktB K t [.int q.2.1, .int (q.2.2.1 : Nat), match q.2.2.2 with | none => .non | some m => .int m]
  | _ => false
theorem keys_none {P : Params} {z : Str} : ∀ {l : List DictEntry} {ks : List Str}, l.map He.keyOf = He.keysIn P ks → z ∉ ks → (l.find? (·.key.isStr z) = none) ∧ l.any (·.refKey) = false
  | [], _, _, _ => ⟨rfl, rfl⟩
  | e :: r, [], h, _ => by cases h
  | e :: r, k :: ks, h, nz => by
    have h1 : He.keyOf e :: r.map He.keyOf = some (k, PyData.keyHash P k) :: He.keysIn P ks := h
    injection h1 with h2 h3
    obtain ⟨i1, i2⟩ := keys_none h3 fun y => nz (List.mem_cons_of_mem _ y)
    unfold He.keyOf at h2
    split at h2
    · rename_i x t hk
      obtain ⟨rfl, _⟩ := Prod.mk.inj (Option.some.inj h2)
      have ne : x ≠ z := fun y => nz (y ▸ List.mem_cons_self)
      have e1 : e.key.isStr z = false := by rw [hk]; simpa [Value.isStr] using ne
      have e2 : e.refKey = false := by unfold DictEntry.refKey; rw [hk]
      exact ⟨by rw [List.find?_cons, e1]; exact i1, by rw [List.any_cons, e2, i2]; rfl⟩
    · cases h2
theorem dicW_none {K : PySem.W.Frag} {P : Params} {a : Addr} {ks : List Str} {z : Str} (h : He.dicW K a = some (He.keysIn P ks)) (nz : z ∉ ks) : PySem.W.nsIn K a z = some none := by
  unfold He.dicW at h
  split at h
  · rename_i c es n sl ho
    split at h
    · obtain ⟨e1, e2⟩ := keys_none (Option.some.inj h) nz
      unfold PySem.W.nsIn
      rw [ho]
      show (match es.toList.find? (·.key.isStr z) with | some e => some (some e.val) | none => if es.toList.any (·.refKey) then none else some none) = some none
      rw [e1]
      show (if es.toList.any (·.refKey) = true then none else some none) = some none
      rw [e2]
      rfl
    · cases h
  · cases h
theorem not_mem_of_lookup {z : Str} : ∀ {l : List (Str × Int × Nat × Option Int)}, l.lookup z = none → z ∉ l.map (·.1)
  | [], _ => fun y => nomatch y
  | (k, s) :: r, h => fun y => by
    rw [List.lookup_cons] at h
    cases c : (z == k) with
    | true =>
      rw [c] at h
      cases h
    | false =>
      rw [c] at h
      rcases List.mem_cons.mp y with e | e
      · have e' : z = k := e
        rw [e', beq_self_eq_true] at c
        cases c
      · exact not_mem_of_lookup h e
theorem shT_of {K : PySem.W.Frag} {w : World} {d : Addr} (h1 : He.dicW K d = some (He.keysIn w.params (shapes.map (·.1)))) (h2 : shB K d = true) : ShT K w d := by
  refine ⟨He.dicW_ok h1, fun z hz => dicW_none h1 (not_mem_of_lookup hz), fun z s hs => ?_⟩
  have hq := List.all_eq_true.mp h2 _ (mem_of_lookup hs)
  split at hq
  · rename_i t e
    exact ⟨t, e, ktB_ok hq⟩
  · cases hq
end K00

set_option maxRecDepth 100000
set_option maxHeartbeats 2000000
/-! k00: the law's call from outside, nothing being shown then. -/
namespace K00
open PySem PySem.Spec PyProof.Rows L2 LamX
/-- the one table, and the script where the written part has it not -/
def start0 (K : PySem.W.Frag) (Pt a : Addr) (o : Obj) (xs : List V) : Hp := fun b =>
  if b = Pt then some (.tbl #[]) else if b = a then (match K.lookup a with
    | none => some (.frz o (.lst xs))
    | some _ => none) else none
theorem start0_cases {K : PySem.W.Frag} {Pt a b : Addr} {o : Obj} {xs : List V} {u : HO} (h : start0 K Pt a o xs b = some u) : (b = Pt ∧ u = .tbl #[]) ∨ (b = a ∧ K.lookup a = none ∧ u = .frz o (.lst xs)) := by
  unfold start0 at h
  by_cases c : b = Pt
  · rw [if_pos c] at h
    exact .inl ⟨c, (Option.some.inj h).symm⟩
  · rw [if_neg c] at h
    by_cases c2 : b = a
    · rw [if_pos c2] at h
      cases hk : K.lookup a with
      | some x =>
        rw [hk] at h
        cases h
      | none =>
        rw [hk] at h
        exact .inr ⟨c2, rfl, (Option.some.inj h).symm⟩
    · rw [if_neg c2] at h
      cases h
theorem call_top {P : Program} {w : World} {K : PySem.W.Frag} {mg mb : Str → Option Value} {k : Nat} {fa a c Pt : Addr} {fd : FuncData} {x : Str} {sp : Sp} {s : Shared} {us : List Value} {ns : List Int}
    (kin : K.In s.heap) (gl : s.heap.Ns mainGlobals mg) (bl : s.heap.Ns builtinsNs mb) (blb : ∀ y : Str, y ≠ "__name__" → mb y = bootBuiltins y) (nol : s.heap.NoLimit) (gens : s.gens = #[])
    (tab : s.heap.get? Pt = some { cls := .none, data := .fields #[] }) (tabK : K.lookup Pt = none) (cod : PySem.W.CodeHd s.heap c Pt)
    (bmain : ∃ (bm : Addr) (ob : Obj), mg "__builtins__" = some (.ref bm) ∧ bm ≠ builtinsNs ∧ s.heap.get? bm = some ob ∧ ob.cls = .type "module" ∧ ob.dict = some builtinsNs ∧ ob.data = .plain)
    (scr : s.heap.get? a = some { cls := .type "list", data := .seq us.toArray }) (areI : IntsAre us ns) (short : ns.length ≤ sizeLine) (room : Room k callerA)
    (F : ∀ base : Heap, K.In base → base.Ns mainGlobals mg → TabB base mg c Pt → FnG P w K mg base k fa fd [x] sp) (bind : ∀ (s : Shared) (u : Value), BindsTo s fd ⟨[u], []⟩ [(x, u)])
    (keep : ∀ H : Hp, H Pt = some (.tbl #[]) → SqL K H a (ns.map V.int) → sp [.ref a] H (fun v _ => v = .bl true) E0) :
    codeAny (model P w) callerA (.call (.ref fa) ⟨[.ref a], []⟩) (fun r s' => r = .ok (.ret (.bool true)) ∧ OldK s.heap s'.heap ∧ s'.os = s.os ∧ AllBare s'.gens) s := by
  have vals := vals_ints areI
  have same_len := areI.length
  generalize hH : start0 K Pt a { cls := .type "list", data := .seq us.toArray } (ns.map V.int) = H
  have look : ∀ {b : Addr} {u : HO}, H b = some u → (b = Pt ∧ u = .tbl #[]) ∨ (b = a ∧ K.lookup a = none ∧ u = .frz { cls := .type "list", data := .seq us.toArray } (.lst (ns.map V.int))) := fun {b u} e => start0_cases (hH ▸ e)
  have apart : a ≠ Pt := fun z => by
    rw [z, tab] at scr
    exact absurd (congrArg Obj.data (Option.some.inj scr)) (fun y => nomatch y)
  have hPt : H Pt = some (.tbl #[]) := by rw [← hH]; exact if_pos rfl
  have hseq : SqL K H a (ns.map V.int) := by
    cases hk : K.lookup a with
    | some o =>
      have e := (kin a o hk).symm.trans scr
      exact .inr ⟨_, us.toArray, _, by rw [hk, Option.some.inj e], rfl, rfl, rfl, by rw [List.size_toArray, same_len]; exact short, by simpa using vals⟩
    | none =>
      refine .inl (.inr ⟨{ cls := .type "list", data := .seq us.toArray }, ?_⟩)
      rw [← hH]
      unfold start0
      rw [if_neg apart, if_pos rfl, hk]
  have sound : HOk P w H s.heap := fun b u e => by
    rcases look e with ⟨rfl, rfl⟩ | ⟨rfl, _, rfl⟩
    · exact tab
    · exact ⟨scr, by rw [List.length_map]; exact short, us, _, vals, scr⟩
  -- what is no list and no empty record is not tracked
  have out : ∀ {b : Addr} {o : Obj}, s.heap.get? b = some o → (∀ is n, o.data ≠ .seq is n) → o.data ≠ .fields #[] → H b = none := fun {b o} e n1 n2 => by
    cases q : H b with
    | none => rfl
    | some u =>
      rcases look q with ⟨rfl, _⟩ | ⟨rfl, _⟩
      · exact absurd (congrArg Obj.data (Option.some.inj (tab.symm.trans e))).symm n2
      · exact absurd (congrArg Obj.data (Option.some.inj (scr.symm.trans e))).symm (n1 _ _)
  have outD : ∀ {b : Addr} {o : Obj} {es : Array DictEntry} {n : Nat}, s.heap.get? b = some o → o.data = .dict es n → H b = none := fun {b o es n} e d => out e (fun _ _ z => by rw [d] at z; cases z) fun z => by rw [d] at z; cases z
  have dictK : ∀ {b : Addr} {m : Str → Option Value}, s.heap.Ns b m → (hidT s.heap H).Ns b m := fun {b m} hn => by
    obtain ⟨o, es, n, e, d, r⟩ := hn
    exact ⟨o, es, n, hidT_get e (outD e d), d, r⟩
  have kinB : K.In (hidT s.heap H) := fun b o e => hidT_get (kin b o e) (by
    cases q : H b with
    | none => rfl
    | some u =>
      rcases look q with ⟨rfl, _⟩ | ⟨rfl, z, _⟩
      · exact absurd (tabK.symm.trans e) fun y => nomatch y
      · exact absurd (z.symm.trans e) fun y => nomatch y)
  have module : L2.Mod K mg (hidT s.heap H) := by
    obtain ⟨ml, e1, e2⟩ := nol
    exact ⟨kinB, dictK gl, ⟨mb, dictK bl, blb⟩, ml, dictK e1, e2⟩
  have table : TabB (hidT s.heap H) mg c Pt := by
    refine ⟨?_, ?_, fun z => ?_⟩
    · obtain ⟨o, vs, file, tf, flags, tg, inF, text, tt, e1, e2, e3, e4, rest⟩ := cod
      refine ⟨o, vs, file, tf, flags, tg, inF, text, tt, hidT_get e1 (out e1 (fun _ _ y => by rw [e3] at y; cases y) fun y => ?_), e2, e3, e4, rest⟩
      rw [e3] at y
      have y' : vs = #[] := Data.fields.inj y
      rw [y'] at e4
      cases e4
    · obtain ⟨bm, ob, m1, m2, m3, m4, m5, m6⟩ := bmain
      refine ⟨bm, ob, m1, m2, fun y => ?_, fun y => ?_, hidT_get m3 (out m3 (fun _ _ y => by rw [m6] at y; cases y) fun y => by rw [m6] at y; cases y), m4, m5, m6⟩
      · obtain ⟨o, es, n, e, d, _⟩ := gl
        rw [← y, m3] at e
        rw [← Option.some.inj e, m6] at d
        cases d
      · have e := m3.symm.trans (y ▸ tab)
        have d := m6
        rw [Option.some.inj e] at d
        cases d
    · obtain ⟨o, es, n, e, d, _⟩ := gl
      have e' := e.symm.trans (z ▸ tab)
      rw [Option.some.inj e'] at d
      cases d
  have env : Env0 P w K mg (hidT s.heap H) callerA [] s H := ⟨rfl, module, fun b o e => of_hidT e, Nat.le_of_eq (hidT_size _ _), trivial, fun b hb => (List.not_mem_nil hb).elim, sound, .of_eq gens⟩
  refine codeAny_mono ((F _ kinB (dictK gl) table).run callerA [] s H ⟨[.ref a], []⟩ [.ref a] [.ref a] _ room rfl env (bind s (.ref a)) (.cons rfl .nil) (keep H hPt hseq)) fun r s' res => ?_
  match r, res with
  | .ok (.ret u), res =>
    obtain ⟨v, H', same_os, bare, un, sound', rv, ev⟩ := res
    have ev' : v = .bl true := ev
    subst ev'
    obtain rfl : u = Value.bool true := rv
    obtain ⟨more, hm⟩ := un.tbls Pt #[] hPt
    have after : s'.heap.get? Pt = some { cls := .none, data := .fields (#[] ++ more) } := sound' Pt _ hm
    have stays : ∀ b o, b ≠ Pt → s.heap.get? b = some o → s'.heap.get? b = some o := fun b o nb e => by
      cases q : H b with
      | none => exact un.keep b o e q (fun z => (List.not_mem_nil z).elim) (by simp)
      | some u =>
        rcases look q with ⟨z, _⟩ | ⟨rfl, _, rfl⟩
        · exact absurd z nb
        · have g := (sound' b _ (un.frzs b _ _ q)).1
          rw [← Option.some.inj (scr.symm.trans e)]
          exact g
    refine ⟨rfl, ⟨fun b o e => ?_, fun b o e => ?_⟩, same_os, bare⟩
    · by_cases hb : b = Pt
      · subst hb
        obtain rfl := Option.some.inj (tab.symm.trans e)
        refine .inr (.inl ⟨(cod.tab tab).isCodeTable, rfl, #[], more, rfl, ?_⟩)
        rw [after]
      · exact .inl (stays b o hb e)
    · by_cases hb : b = Pt
      · exact ⟨_, by rw [hb]; exact after⟩
      · exact ⟨o, stays b o hb e⟩
  | .ok .next, res => exact False.elim res
  | .ok .brk, res => exact False.elim res
  | .ok .cont, res => exact False.elim res
  | .error e, res => exact False.elim res
end K00

set_option maxRecDepth 100000
set_option maxHeartbeats 16000000
/-! k00: the end. -/
namespace K00
open PySem PySem.Spec PyProof.Rows L2 LamX
def dd (x : Str) (st : Stmt) : He.DefD := ⟨(x, none), x, x, defArgs st, defBody st, defScope st, [], []⟩
def dI (C : Str) : He.DefD := ⟨(C, some "__init__"), "__init__", "CoreError.__init__", defArgs sInit, defBody sInit, defScope sInit, [], []⟩
def fns : List He.DefD := [dd "is_within" sWithin, dd "is_word" sIsWord, dd "row_of" sRowOf, dd "word_of" sWordOf, dd "row_text" sRowText, dd "is_placed" sIsPlaced, dd "is_row" sIsRow, dd "_name_of" sNameOf, dd "_law_pot" sPot, dd "_law_take" sTake, dd "_law_of" sOf, dd "_law_some" sSome, dd "_law_cells" sCells, dd "_law_heard" sHeard, dd "_law_odd" sOdd, dd "_law_bent" sBent, dd "_law_is_int" sIsInt, dd "_law_cell_word" sCellWord, dd "_law_cell_row" sCellRow, dd "_law_row_sizes" sSizes, dd "_law_row_text" sLRowText, dd "_law_is_row" sLIsRow, dd "_law_any_row" sAnyRow, dd "_law_is_word_right" sWordRight, dd "_law_some_words" sSomeWords, dd "_law_are_refused" sRefused, dd "_law_right" sRight, dd "law" sLaw, dI "BadWord", dI "BadRow"]
def fas : List He.Fa := [.glo "is_within", .glo "is_word", .glo "row_of", .glo "word_of", .glo "row_text", .glo "is_placed", .glo "is_row", .glo "_name_of", .glo "_law_pot", .glo "_law_take", .glo "_law_of", .glo "_law_some", .glo "_law_cells", .glo "_law_heard", .glo "_law_odd", .glo "_law_bent", .glo "_law_is_int", .glo "_law_cell_word", .glo "_law_cell_row", .glo "_law_row_sizes", .glo "_law_row_text", .glo "_law_is_row", .glo "_law_any_row", .glo "_law_is_word_right", .glo "_law_some_words", .glo "_law_are_refused", .glo "_law_right", .glo "law", .glo "SHAPES", .glo "NAMES", .glo "RECKONED", .glo "WEIGHTS", .glo "CoreError", .glo "BadWord", .glo "BadRow", .free "type", .free "int", .free "len", .free "tuple", .free "str", .free "all", .free "zip", .free "sum", .free "abs", .free "list", .free "range", .free "max", .free "min", .free "isinstance", .free "bool", .free "sorted", .free "set", .free "repr"]
def tbs : List He.Tab := [((fun K => He.ga K "SHAPES"), shapes.map (·.1))]
def rfd : He.Defn := ("_law_are_refused", none)
def cds : List He.Defn := [rfd]
def exs (K : PySem.W.Frag) : Bool := errB K (He.ga K "BadWord") (He.ma K (He.ga K "BadWord") "__init__") (He.ga K "CoreError") && (errB K (He.ga K "BadRow") (He.ma K (He.ga K "BadRow") "__init__") (He.ga K "CoreError") &&
  (shB K (He.ga K "SHAPES") && (ktB K (He.ga K "NAMES") (names.map optS) && (ktB K (He.ga K "RECKONED") (reck.map V.str) && ktB K (He.ga K "WEIGHTS") weights))))
theorem FnG.lift {P : Program} {w : World} {K : PySem.W.Frag} {mg : Str → Option Value} {base : Heap} {j k : Nat} {f : Addr} {fd : FuncData} {ps : List Str} {sp : Sp} (F : FnG P w K mg base j f fd ps sp) (h : j ≤ k) : FnG P w K mg base k f fd ps sp :=
  ⟨F.len, fun A outer s H args us vs Q hr => F.run A outer s H args us vs Q (hr.mono h)⟩
def tabL (Pt : Addr) : List (Addr × Str) := [(Pt, Str.ofString "_law_are_refused.<locals>." ++ "<lambda>")]
theorem all_in {P : Program} {w : World} {K : PySem.W.Frag} {h : Heap} {mg : Str → Option Value} (X : K.In h) (G : h.Ns mainGlobals mg) (c : He.SaysX fas fns tbs cds exs w h K) :
    ∃ fd : FuncData, (∀ (s : Shared) (u : Value), BindsTo s fd ⟨[u], []⟩ [("script", u)]) ∧ mg "law" = some (.ref (He.ga K "law")) ∧
      ∀ base : Heap, K.In base → base.Ns mainGlobals mg → TabB base mg (He.cT K rfd).1 (He.cT K rfd).2 → FnG P w K mg base 9 (He.ga K "law") fd ["script"] (spLaw K (tabL (He.cT K rfd).2)) := by
  have sd := c.t.d
  obtain ⟨fd0, D0⟩ := sd.def_ 0 (d := dd "is_within" sWithin) rfl
  have F0 : Fun K "is_within" "is_within" sWithin (He.ga K "is_within") fd0 := defFun D0
  have b0 : L2.Binds K fd0 ["value", "low", "high"] [] := F0.binds (ps := ["value", "low", "high"]) fun _ _ _ _ _ _ us hl => match us, hl with | [_, _, _], _ => rfl
  have g0 := He.glo_ok X G (sd.fact 0 (f := .glo "is_within") rfl)
  obtain ⟨fd1, D1⟩ := sd.def_ 1 (d := dd "is_word" sIsWord) rfl
  have F1 : Fun K "is_word" "is_word" sIsWord (He.ga K "is_word") fd1 := defFun D1
  have b1 : L2.Binds K fd1 ["value"] [] := F1.binds (ps := ["value"]) fun _ _ _ _ _ _ us hl => match us, hl with | [_], _ => rfl
  have g1 := He.glo_ok X G (sd.fact 1 (f := .glo "is_word") rfl)
  obtain ⟨fd2, D2⟩ := sd.def_ 2 (d := dd "row_of" sRowOf) rfl
  have F2 : Fun K "row_of" "row_of" sRowOf (He.ga K "row_of") fd2 := defFun D2
  have b2 : L2.Binds K fd2 ["word"] [] := F2.binds (ps := ["word"]) fun _ _ _ _ _ _ us hl => match us, hl with | [_], _ => rfl
  have g2 := He.glo_ok X G (sd.fact 2 (f := .glo "row_of") rfl)
  obtain ⟨fd3, D3⟩ := sd.def_ 3 (d := dd "word_of" sWordOf) rfl
  have F3 : Fun K "word_of" "word_of" sWordOf (He.ga K "word_of") fd3 := defFun D3
  have b3 : L2.Binds K fd3 ["row"] [] := F3.binds (ps := ["row"]) fun _ _ _ _ _ _ us hl => match us, hl with | [_], _ => rfl
  have g3 := He.glo_ok X G (sd.fact 3 (f := .glo "word_of") rfl)
  obtain ⟨fd4, D4⟩ := sd.def_ 4 (d := dd "row_text" sRowText) rfl
  have F4 : Fun K "row_text" "row_text" sRowText (He.ga K "row_text") fd4 := defFun D4
  have b4 : L2.Binds K fd4 ["row"] [] := F4.binds (ps := ["row"]) fun _ _ _ _ _ _ us hl => match us, hl with | [_], _ => rfl
  have g4 := He.glo_ok X G (sd.fact 4 (f := .glo "row_text") rfl)
  obtain ⟨fd5, D5⟩ := sd.def_ 5 (d := dd "is_placed" sIsPlaced) rfl
  have F5 : Fun K "is_placed" "is_placed" sIsPlaced (He.ga K "is_placed") fd5 := defFun D5
  have b5 : L2.Binds K fd5 ["row"] [] := F5.binds (ps := ["row"]) fun _ _ _ _ _ _ us hl => match us, hl with | [_], _ => rfl
  have g5 := He.glo_ok X G (sd.fact 5 (f := .glo "is_placed") rfl)
  obtain ⟨fd6, D6⟩ := sd.def_ 6 (d := dd "is_row" sIsRow) rfl
  have F6 : Fun K "is_row" "is_row" sIsRow (He.ga K "is_row") fd6 := defFun D6
  have b6 : L2.Binds K fd6 ["value"] [] := F6.binds (ps := ["value"]) fun _ _ _ _ _ _ us hl => match us, hl with | [_], _ => rfl
  have g6 := He.glo_ok X G (sd.fact 6 (f := .glo "is_row") rfl)
  obtain ⟨fd7, D7⟩ := sd.def_ 7 (d := dd "_name_of" sNameOf) rfl
  have F7 : Fun K "_name_of" "_name_of" sNameOf (He.ga K "_name_of") fd7 := defFun D7
  have b7 : L2.Binds K fd7 ["word"] [] := F7.binds (ps := ["word"]) fun _ _ _ _ _ _ us hl => match us, hl with | [_], _ => rfl
  have g7 := He.glo_ok X G (sd.fact 7 (f := .glo "_name_of") rfl)
  obtain ⟨fd8, D8⟩ := sd.def_ 8 (d := dd "_law_pot" sPot) rfl
  have F8 : Fun K "_law_pot" "_law_pot" sPot (He.ga K "_law_pot") fd8 := defFun D8
  have b8 : L2.Binds K fd8 ["script", "place"] [] := F8.binds (ps := ["script", "place"]) fun _ _ _ _ _ _ us hl => match us, hl with | [_, _], _ => rfl
  have g8 := He.glo_ok X G (sd.fact 8 (f := .glo "_law_pot") rfl)
  obtain ⟨fd9, D9⟩ := sd.def_ 9 (d := dd "_law_take" sTake) rfl
  have F9 : Fun K "_law_take" "_law_take" sTake (He.ga K "_law_take") fd9 := defFun D9
  have b9 : L2.Binds K fd9 ["pot", "upto"] [] := F9.binds (ps := ["pot", "upto"]) fun _ _ _ _ _ _ us hl => match us, hl with | [_, _], _ => rfl
  have g9 := He.glo_ok X G (sd.fact 9 (f := .glo "_law_take") rfl)
  obtain ⟨fd10, D10⟩ := sd.def_ 10 (d := dd "_law_of" sOf) rfl
  have F10 : Fun K "_law_of" "_law_of" sOf (He.ga K "_law_of") fd10 := defFun D10
  have b10 : L2.Binds K fd10 ["pot", "some"] [] := F10.binds (ps := ["pot", "some"]) fun _ _ _ _ _ _ us hl => match us, hl with | [_, _], _ => rfl
  have g10 := He.glo_ok X G (sd.fact 10 (f := .glo "_law_of") rfl)
  obtain ⟨fd11, D11⟩ := sd.def_ 11 (d := dd "_law_some" sSome) rfl
  have F11 : Fun K "_law_some" "_law_some" sSome (He.ga K "_law_some") fd11 := defFun D11
  have b11 : L2.Binds K fd11 ["pot", "pool", "many"] [] := F11.binds (ps := ["pot", "pool", "many"]) fun _ _ _ _ _ _ us hl => match us, hl with | [_, _, _], _ => rfl
  have g11 := He.glo_ok X G (sd.fact 11 (f := .glo "_law_some") rfl)
  obtain ⟨fd12, D12⟩ := sd.def_ 12 (d := dd "_law_cells" sCells) rfl
  have F12 : Fun K "_law_cells" "_law_cells" sCells (He.ga K "_law_cells") fd12 := defFun D12
  have b12 : L2.Binds K fd12 ["script", "most"] [] := F12.binds (ps := ["script", "most"]) fun _ _ _ _ _ _ us hl => match us, hl with | [_, _], _ => rfl
  have g12 := He.glo_ok X G (sd.fact 12 (f := .glo "_law_cells") rfl)
  obtain ⟨fd13, D13⟩ := sd.def_ 13 (d := dd "_law_heard" sHeard) rfl
  have F13 : Fun K "_law_heard" "_law_heard" sHeard (He.ga K "_law_heard") fd13 := defFun D13
  have b13 : L2.Binds K fd13 ["call"] [] := F13.binds (ps := ["call"]) fun _ _ _ _ _ _ us hl => match us, hl with | [_], _ => rfl
  have g13 := He.glo_ok X G (sd.fact 13 (f := .glo "_law_heard") rfl)
  obtain ⟨fd14, D14⟩ := sd.def_ 14 (d := dd "_law_odd" sOdd) rfl
  have F14 : Fun K "_law_odd" "_law_odd" sOdd (He.ga K "_law_odd") fd14 := defFun D14
  have b14 : L2.Binds K fd14 ["pot"] [] := F14.binds (ps := ["pot"]) fun _ _ _ _ _ _ us hl => match us, hl with | [_], _ => rfl
  have g14 := He.glo_ok X G (sd.fact 14 (f := .glo "_law_odd") rfl)
  obtain ⟨fd15, D15⟩ := sd.def_ 15 (d := dd "_law_bent" sBent) rfl
  have F15 : Fun K "_law_bent" "_law_bent" sBent (He.ga K "_law_bent") fd15 := defFun D15
  have b15 : L2.Binds K fd15 ["pot", "value"] [] := F15.binds (ps := ["pot", "value"]) fun _ _ _ _ _ _ us hl => match us, hl with | [_, _], _ => rfl
  have g15 := He.glo_ok X G (sd.fact 15 (f := .glo "_law_bent") rfl)
  obtain ⟨fd16, D16⟩ := sd.def_ 16 (d := dd "_law_is_int" sIsInt) rfl
  have F16 : Fun K "_law_is_int" "_law_is_int" sIsInt (He.ga K "_law_is_int") fd16 := defFun D16
  have b16 : L2.Binds K fd16 ["value", "low", "high"] [] := F16.binds (ps := ["value", "low", "high"]) fun _ _ _ _ _ _ us hl => match us, hl with | [_, _, _], _ => rfl
  have g16 := He.glo_ok X G (sd.fact 16 (f := .glo "_law_is_int") rfl)
  obtain ⟨fd17, D17⟩ := sd.def_ 17 (d := dd "_law_cell_word" sCellWord) rfl
  have F17 : Fun K "_law_cell_word" "_law_cell_word" sCellWord (He.ga K "_law_cell_word") fd17 := defFun D17
  have b17 : L2.Binds K fd17 ["row"] [] := F17.binds (ps := ["row"]) fun _ _ _ _ _ _ us hl => match us, hl with | [_], _ => rfl
  have g17 := He.glo_ok X G (sd.fact 17 (f := .glo "_law_cell_word") rfl)
  obtain ⟨fd18, D18⟩ := sd.def_ 18 (d := dd "_law_cell_row" sCellRow) rfl
  have F18 : Fun K "_law_cell_row" "_law_cell_row" sCellRow (He.ga K "_law_cell_row") fd18 := defFun D18
  have b18 : L2.Binds K fd18 ["word"] [] := F18.binds (ps := ["word"]) fun _ _ _ _ _ _ us hl => match us, hl with | [_], _ => rfl
  have g18 := He.glo_ok X G (sd.fact 18 (f := .glo "_law_cell_row") rfl)
  obtain ⟨fd19, D19⟩ := sd.def_ 19 (d := dd "_law_row_sizes" sSizes) rfl
  have F19 : Fun K "_law_row_sizes" "_law_row_sizes" sSizes (He.ga K "_law_row_sizes") fd19 := defFun D19
  have b19 : L2.Binds K fd19 [] [] := F19.binds (ps := []) fun _ _ _ _ _ _ us hl => match us, hl with | [], _ => rfl
  have g19 := He.glo_ok X G (sd.fact 19 (f := .glo "_law_row_sizes") rfl)
  obtain ⟨fd20, D20⟩ := sd.def_ 20 (d := dd "_law_row_text" sLRowText) rfl
  have F20 : Fun K "_law_row_text" "_law_row_text" sLRowText (He.ga K "_law_row_text") fd20 := defFun D20
  have b20 : L2.Binds K fd20 ["row"] [] := F20.binds (ps := ["row"]) fun _ _ _ _ _ _ us hl => match us, hl with | [_], _ => rfl
  have g20 := He.glo_ok X G (sd.fact 20 (f := .glo "_law_row_text") rfl)
  obtain ⟨fd21, D21⟩ := sd.def_ 21 (d := dd "_law_is_row" sLIsRow) rfl
  have F21 : Fun K "_law_is_row" "_law_is_row" sLIsRow (He.ga K "_law_is_row") fd21 := defFun D21
  have b21 : L2.Binds K fd21 ["value"] [] := F21.binds (ps := ["value"]) fun _ _ _ _ _ _ us hl => match us, hl with | [_], _ => rfl
  have g21 := He.glo_ok X G (sd.fact 21 (f := .glo "_law_is_row") rfl)
  obtain ⟨fd22, D22⟩ := sd.def_ 22 (d := dd "_law_any_row" sAnyRow) rfl
  have F22 : Fun K "_law_any_row" "_law_any_row" sAnyRow (He.ga K "_law_any_row") fd22 := defFun D22
  have b22 : L2.Binds K fd22 ["pot"] [] := F22.binds (ps := ["pot"]) fun _ _ _ _ _ _ us hl => match us, hl with | [_], _ => rfl
  have g22 := He.glo_ok X G (sd.fact 22 (f := .glo "_law_any_row") rfl)
  obtain ⟨fd23, D23⟩ := sd.def_ 23 (d := dd "_law_is_word_right" sWordRight) rfl
  have F23 : Fun K "_law_is_word_right" "_law_is_word_right" sWordRight (He.ga K "_law_is_word_right") fd23 := defFun D23
  have b23 : L2.Binds K fd23 ["word"] [] := F23.binds (ps := ["word"]) fun _ _ _ _ _ _ us hl => match us, hl with | [_], _ => rfl
  have g23 := He.glo_ok X G (sd.fact 23 (f := .glo "_law_is_word_right") rfl)
  obtain ⟨fd24, D24⟩ := sd.def_ 24 (d := dd "_law_some_words" sSomeWords) rfl
  have F24 : Fun K "_law_some_words" "_law_some_words" sSomeWords (He.ga K "_law_some_words") fd24 := defFun D24
  have b24 : L2.Binds K fd24 ["pot"] [] := F24.binds (ps := ["pot"]) fun _ _ _ _ _ _ us hl => match us, hl with | [_], _ => rfl
  have g24 := He.glo_ok X G (sd.fact 24 (f := .glo "_law_some_words") rfl)
  obtain ⟨fd25, D25⟩ := sd.def_ 25 (d := dd "_law_are_refused" sRefused) rfl
  have F25 : Fun K "_law_are_refused" "_law_are_refused" sRefused (He.ga K "_law_are_refused") fd25 := defFun D25
  have b25 : L2.Binds K fd25 ["pot", "row"] [] := F25.binds (ps := ["pot", "row"]) fun _ _ _ _ _ _ us hl => match us, hl with | [_, _], _ => rfl
  have g25 := He.glo_ok X G (sd.fact 25 (f := .glo "_law_are_refused") rfl)
  obtain ⟨fd26, D26⟩ := sd.def_ 26 (d := dd "_law_right" sRight) rfl
  have F26 : Fun K "_law_right" "_law_right" sRight (He.ga K "_law_right") fd26 := defFun D26
  have b26 : L2.Binds K fd26 ["pot"] [] := F26.binds (ps := ["pot"]) fun _ _ _ _ _ _ us hl => match us, hl with | [_], _ => rfl
  have g26 := He.glo_ok X G (sd.fact 26 (f := .glo "_law_right") rfl)
  obtain ⟨fd27, D27⟩ := sd.def_ 27 (d := dd "law" sLaw) rfl
  have F27 : Fun K "law" "law" sLaw (He.ga K "law") fd27 := defFun D27
  have b27 : L2.Binds K fd27 ["script"] [] := F27.binds (ps := ["script"]) fun _ _ _ _ _ _ us hl => match us, hl with | [_], _ => rfl
  have g27 := He.glo_ok X G (sd.fact 27 (f := .glo "law") rfl)
  obtain ⟨fd28, D28⟩ := sd.def_ 28 (d := dI "BadWord") rfl
  have F28 : Fun K "__init__" "CoreError.__init__" sInit (He.ma K (He.ga K "BadWord") "__init__") fd28 := defFun D28
  have b28 : L2.Binds K fd28 ["self", "value"] [] := F28.binds (ps := ["self", "value"]) fun _ _ _ _ _ _ us hl => match us, hl with | [_, _], _ => rfl
  obtain ⟨fd29, D29⟩ := sd.def_ 29 (d := dI "BadRow") rfl
  have F29 : Fun K "__init__" "CoreError.__init__" sInit (He.ma K (He.ga K "BadRow") "__init__") fd29 := defFun D29
  have b29 : L2.Binds K fd29 ["self", "value"] [] := F29.binds (ps := ["self", "value"]) fun _ _ _ _ _ _ us hl => match us, hl with | [_, _], _ => rfl
  have gSHAPES := He.glo_ok X G (sd.fact 28 (f := .glo "SHAPES") rfl)
  have gNAMES := He.glo_ok X G (sd.fact 29 (f := .glo "NAMES") rfl)
  have gRECKONED := He.glo_ok X G (sd.fact 30 (f := .glo "RECKONED") rfl)
  have gWEIGHTS := He.glo_ok X G (sd.fact 31 (f := .glo "WEIGHTS") rfl)
  have gCoreError := He.glo_ok X G (sd.fact 32 (f := .glo "CoreError") rfl)
  have gBadWord := He.glo_ok X G (sd.fact 33 (f := .glo "BadWord") rfl)
  have gBadRow := He.glo_ok X G (sd.fact 34 (f := .glo "BadRow") rfl)
  have ftype := He.free_ok X G (sd.fact 35 (f := .free "type") rfl)
  have fint := He.free_ok X G (sd.fact 36 (f := .free "int") rfl)
  have flen := He.free_ok X G (sd.fact 37 (f := .free "len") rfl)
  have ftuple := He.free_ok X G (sd.fact 38 (f := .free "tuple") rfl)
  have fstr := He.free_ok X G (sd.fact 39 (f := .free "str") rfl)
  have fall := He.free_ok X G (sd.fact 40 (f := .free "all") rfl)
  have fzip := He.free_ok X G (sd.fact 41 (f := .free "zip") rfl)
  have fsum := He.free_ok X G (sd.fact 42 (f := .free "sum") rfl)
  have fabs := He.free_ok X G (sd.fact 43 (f := .free "abs") rfl)
  have flist := He.free_ok X G (sd.fact 44 (f := .free "list") rfl)
  have frange := He.free_ok X G (sd.fact 45 (f := .free "range") rfl)
  have fmax := He.free_ok X G (sd.fact 46 (f := .free "max") rfl)
  have fmin := He.free_ok X G (sd.fact 47 (f := .free "min") rfl)
  have fisinstance := He.free_ok X G (sd.fact 48 (f := .free "isinstance") rfl)
  have fbool := He.free_ok X G (sd.fact 49 (f := .free "bool") rfl)
  have fsorted := He.free_ok X G (sd.fact 50 (f := .free "sorted") rfl)
  have fset := He.free_ok X G (sd.fact 51 (f := .free "set") rfl)
  have frepr := He.free_ok X G (sd.fact 52 (f := .free "repr") rfl)
  obtain ⟨x1, x2⟩ := Bool.and_eq_true_iff.mp c.more
  obtain ⟨x2, x3⟩ := Bool.and_eq_true_iff.mp x2
  obtain ⟨x3, x4⟩ := Bool.and_eq_true_iff.mp x3
  obtain ⟨x4, x5⟩ := Bool.and_eq_true_iff.mp x4
  obtain ⟨x5, x6⟩ := Bool.and_eq_true_iff.mp x5
  obtain ⟨E1, X1, m1⟩ := errB_ok x1
  obtain ⟨E2, X2, m2⟩ := errB_ok x2
  have kN := ktB_ok x4
  have kR := ktB_ok x5
  have kW := ktB_ok x6
  have sh : ShT K w (He.ga K "SHAPES") := shT_of (congrArg (fun z : He.AlT => z.2.getD 0 none) c.t) x3
  have hcc : fd25.code = .ref (He.cT K rfd).1 := by
    obtain ⟨oc, od, kV, doc, pm, an, cdv, ct, osl, e0, lk, hcd⟩ := F25.ex
    obtain ⟨cc, rfl⟩ := He.codeIn_ref hcd
    have e1 : fd25.code = .ref cc := by rw [e0]
    have e2 : He.codeOf K rfd = cc := He.codeOf_eq (p := rfd) lk e1
    rw [e1, ← e2]
    rfl
  refine ⟨fd27, fun s u => .of_eq (by obtain ⟨oc, od, kV, doc, pm, an, cdv, ct, osl, e0, lk, hcd⟩ := F27.ex; rw [e0]; rfl), g27, fun base KB GB TB => ?_⟩
  have W1 : FnOk P w K mg base CX0 1 _ fd0 _ (spWithin K) := ok_within (k := 0) F0 ftype fint
  have IW : FnOk P w K mg base CX0 2 _ fd1 _ (spIsWord K) := ok_isWord (k := 0) F1 F0 b0 g0 ftype fint
  have NO : FnOk P w K mg base CX0 1 _ fd7 _ spNameOf := ok_nameOf (k := 0) F7 gNAMES gRECKONED kN kR flen
  have IR : FnOk P w K mg base CX0 2 _ fd6 _ (spIsRow K) := ok_isRow (k := 0) F6 W1 F0.kp b0 g0 gSHAPES sh ftype ftuple flen fstr fall fzip
  have RO : FnOk P w K mg base (L2.CX P w) 3 _ fd2 _ (spRowOf K (He.ga K "BadWord")) := ok_rowOf (k := 0) F2 IW F1.kp b1 g1 NO F7.kp b7 g7 E1 F28 b28 gBadWord gSHAPES sh gWEIGHTS kW
  have WO : FnOk P w K mg base (L2.CX P w) 3 _ fd3 _ (spRow K (He.ga K "BadRow") fun nm ps => .int (wordOf nm ps)) := ok_wordOf (k := 0) F3 IR F6.kp b6 g6 E2 F29 b29 gBadRow gSHAPES sh gWEIGHTS kW fzip
  have RX : FnOk P w K mg base (L2.CX P w) 3 _ fd4 _ (spRow K (He.ga K "BadRow") fun nm ps => .str (rowText nm ps)) := ok_rowText (k := 0) F4 IR F6.kp b6 g6 E2 F29 b29 gBadRow gSHAPES sh fstr
  have IP : FnOk P w K mg base (L2.CX P w) 3 _ fd5 _ (spRow K (He.ga K "BadRow") fun nm _ => .bl (placed nm)) := ok_isPlaced (k := 0) F5 IR F6.kp b6 g6 E2 F29 b29 gBadRow
  have PT : FnOk P w K mg base CX0 1 _ fd8 _ (spPot K) := ok_pot (k := 0) F8 flen fsum fint fabs
  have TK : FnOk P w K mg base CX0 1 _ fd9 _ spTake := ok_take (k := 0) F9 fint
  have OF : FnOk P w K mg base CX0 2 _ fd10 _ (spOf K) := ok_of (k := 0) F10 TK F9.kp b9 g9 flen
  have SM : FnOk P w K mg base CX0 2 _ fd11 _ (spSome K) := ok_some (k := 0) F11 TK F9.kp b9 g9 flist frange flen
  have CE : FnOk P w K mg base CX0 1 _ fd12 _ (spCells K) := ok_cells (k := 0) F12 flist frange fmax fmin flen
  have OD : FnOk P w K mg base CX0 3 _ fd14 _ (spOdd K) := ok_odd (k := 0) F14 OF F10.kp b10 g10
  have II : FnOk P w K mg base CX0 1 _ fd16 _ (spWithin K) := ok_isInt (k := 0) F16 fisinstance fint fbool
  have CW : FnOk P w K mg base CX0 1 _ fd17 _ (spCellWord K) := ok_cellWord (k := 0) F17
  have CO : FnOk P w K mg base CX0 1 _ fd18 _ spCellRow := ok_cellRow (k := 0) F18
  have SZ : FnOk P w K mg base CX0 1 _ fd19 _ spSizes := ok_sizes (k := 0) F19
  have LT : FnOk P w K mg base CX0 2 _ fd20 _ (spLText K) := ok_lText (k := 0) F20 SZ F19.kp b19 g19 fzip fstr fint
  have LI : FnOk P w K mg base CX0 2 _ fd21 _ (spLIsRow K) := ok_lIsRow (k := 0) F21 SZ F19.kp b19 g19 II F16.kp b16 g16 fzip fstr ftuple fisinstance flen fall
  have AR : FnOk P w K mg base CX0 3 _ fd22 _ (spAnyRow K) := ok_anyRow (k := 0) F22 OF F10.kp b10 g10 (SZ.mono (by omega)) F19.kp b19 g19 (TK.mono (by omega)) F9.kp b9 g9 fsorted fset ftuple
  have SW : FnOk P w K mg base CX0 3 _ fd24 _ spSomeWords := ok_someWords (k := 0) F24 OF F10.kp b10 g10 (TK.mono (by omega)) F9.kp b9 g9 frange
  have WR : FnG P w K mg base 4 _ fd23 _ spWordRight := ok_wordRight (k := 0) F23 ⟨_, _, CO.mono (by omega), F18.kp, b18, g18⟩ ⟨_, _, RO, F2.kp, b2, g2⟩ ⟨_, _, WO, F3.kp, b3, g3⟩ ⟨_, _, CW.mono (by omega), F17.kp, b17, g17⟩ ⟨_, _, RX, F4.kp, b4, g4⟩ ⟨_, _, LT.mono (by omega), F20.kp, b20, g20⟩ ⟨_, _, IP, F5.kp, b5, g5⟩ frepr
  have B0 := ok_bent (P := P) (w := w) (base := base) (k := 0) (b := false) (spR := fun _ _ _ _ => False) F15 ⟨fun _ _ _ _ z => z.elim, fun _ _ _ _ _ _ _ _ _ _ _ _ _ z => z.elim⟩ (fun z => by cases z) F15.kp b15 g15 (OF.mono (by omega)) F10.kp b10 g10 (TK.mono (by omega)) F9.kp b9 g9 (SM.mono (by omega)) F11.kp b11 g11 (OD.mono (by omega)) F14.kp b14 g14 fisinstance ftuple flen flist fbool fint fstr
  have B1 := ok_bent (P := P) (w := w) (base := base) (k := 1) (b := true) F15 B0 (fun _ vs H Q E z => .inl z) F15.kp b15 g15 (OF.mono (by omega)) F10.kp b10 g10 (TK.mono (by omega)) F9.kp b9 g9 (SM.mono (by omega)) F11.kp b11 g11 (OD.mono (by omega)) F14.kp b14 g14 fisinstance ftuple flen flist fbool fint fstr
  have BT : FnOk P w K mg base CX0 6 _ fd15 _ (spBentT K) := B1.imp fun vs H Q E z => .inr ⟨rfl, z⟩
  have RF : FnG P w K mg base 7 _ fd25 _ (spRefused K (tabL (He.cT K rfd).2)) := ok_refused (k := 0) F25 hcc TB List.mem_cons_self (fun p hp _ => by rw [List.mem_singleton.mp hp]) F13 b13 g13 gCoreError gBadWord gBadRow X1 X2 E1.noV E2.noV m1 m2 ⟨_, _, OD.mono (by omega), F14.kp, b14, g14⟩ ⟨_, _, OF.mono (by omega), F10.kp, b10, g10⟩ ⟨_, _, II.mono (by omega), F16.kp, b16, g16⟩ ⟨_, _, BT, F15.kp, b15, g15⟩ ⟨_, _, LI.mono (by omega), F21.kp, b21, g21⟩
    ⟨_, _, RO.mono (by omega), F2.kp, b2, g2⟩ ⟨_, _, WO.mono (by omega), F3.kp, b3, g3⟩ ⟨_, _, RX.mono (by omega), F4.kp, b4, g4⟩ ⟨_, _, IP.mono (by omega), F5.kp, b5, g5⟩ fisinstance frepr flist ftuple frange
  have RT : FnG P w K mg base 8 _ fd26 _ (spRight K (tabL (He.cT K rfd).2)) := ok_right (k := 1) F26 ⟨_, _, WR.lift (by omega), F23.kp, b23, g23⟩ ⟨_, _, SW.mono (by omega), F24.kp, b24, g24⟩ ⟨_, _, AR.mono (by omega), F22.kp, b22, g22⟩ ⟨_, _, RO.mono (by omega), F2.kp, b2, g2⟩ ⟨_, _, WO.mono (by omega), F3.kp, b3, g3⟩ ⟨_, _, CW.mono (by omega), F17.kp, b17, g17⟩ ⟨_, _, RX.mono (by omega), F4.kp, b4, g4⟩ ⟨_, _, LT.mono (by omega), F20.kp, b20, g20⟩ ⟨_, _, RF, F25.kp, b25, g25⟩ fall frange frepr
  exact ok_law (k := 1) F27 ⟨_, _, RT, F26.kp, b26, g26⟩ ⟨_, _, PT.mono (by omega), F8.kp, b8, g8⟩ ⟨_, _, CE.mono (by omega), F12.kp, b12, g12⟩ fall
end K00

set_option maxRecDepth 100000
set_option maxHeartbeats 0
/-! k00: the top's run, and the law. -/
namespace K00
open PySem PySem.Spec PyProof.Rows L2 LamX
abbrev hook5 : PySem.W.Hook := He.hookX 5 fas fns tbs cds exs
def seen5 (s : PySem.W.SharedT) : He.AlX := He.obsX 5 fas fns tbs cds exs (HandSHeadRun.getT s)
theorem seen5_eq (s : PySem.W.SharedT) : seen5 s = hook5.obs s.abs := He.obsX_eq (HandSHeadRun.getT_eq s)
def bound1 : List Str := ["is_within", "is_word", "row_of", "word_of", "row_text", "is_placed", "is_row", "_name_of", "_law_pot", "_law_take", "_law_of", "_law_some"]
def bound2 : List Str := ["_law_cells", "_law_heard", "_law_odd", "_law_bent", "_law_is_int", "_law_cell_word", "_law_cell_row", "_law_row_sizes", "_law_row_text", "_law_is_row", "_law_any_row", "_law_is_word_right"]
def bound3 : List Str := ["_law_some_words", "_law_are_refused", "_law_right", "SHAPES", "NAMES", "RECKONED", "WEIGHTS", "CoreError", "BadWord", "BadRow"]
def bound : List Str := bound1 ++ (bound2 ++ bound3)
abbrev RunAt (w : World) : Prop := HandSHeadRun.RunEq (PySem.W.OpenLaw.row PySem.Challenge.rw_clankernel_k00_whole_rows_and_words) (PySem.W.view (PySem.W.OpenLaw.row PySem.Challenge.rw_clankernel_k00_whole_rows_and_words).prog [38]) hook5 seen5 3000 bound w
theorem run_f (w : World) : RunAt (w.withFollow "special-get-raises" false) := by
  intro os
  kernel_rfl
theorem run_t (w : World) : RunAt (w.withFollow "special-get-raises" true) := by
  intro os
  kernel_rfl
theorem top_run (w : World) : RunAt w := PySem.W.byRow2 "special-get-raises" run_f run_t w
end K00

set_option maxRecDepth 100000
set_option maxHeartbeats 8000000
namespace K00
open PySem PySem.Spec PyProof.Rows L2 LamX
theorem walk_top : PySem.W.WalkO (PySem.W.view (PySem.W.OpenLaw.row PySem.Challenge.rw_clankernel_k00_whole_rows_and_words).prog [38]) bound (PySem.W.XL (PySem.W.view (PySem.W.OpenLaw.row PySem.Challenge.rw_clankernel_k00_whole_rows_and_words).prog [38]) []) hook5.says
    PySem.Challenge.rw_clankernel_k00_whole_rows_and_words.row.toRowW (HandSHeadRun.topDef (PySem.W.OpenLaw.row PySem.Challenge.rw_clankernel_k00_whole_rows_and_words).prog 38) [] (fun f vs => PySem.call f vs) := by
  refine Att.attach_callB (l := PySem.Challenge.rw_clankernel_k00_whole_rows_and_words) (n := 63) rfl (by kernel_rfl) fun w s₀ s₁ mg mb fa o pm cd doc a vs ns G Y ho hd hcd hmg hobj hints hlen _ hg => ?_
  obtain ⟨K, KX, c⟩ := Y
  obtain ⟨fd, hb, g, F⟩ := all_in (P := PySem.Challenge.rw_clankernel_k00_whole_rows_and_words.prog) KX G.T.g c
  have e : (HandSHeadRun.topDef (PySem.W.OpenLaw.row PySem.Challenge.rw_clankernel_k00_whole_rows_and_words).prog 38).name = ("law" : Str) := by kernel_rfl
  rw [e, g] at hmg
  obtain rfl := Value.ref.inj (Option.some.inj hmg)
  have mem : rfd ∈ cds := List.mem_cons_self
  have neq : (He.cT K rfd).2 = (He.cT K rfd).2 := rfl
  refine call_top KX G.T.g G.T.b G.T.builtins G.T.nolimit hg (c.empty _ mem) (c.out _ mem) (PySem.W.codeHd_of_K KX (c.hd _ mem)) G.T.bmain hobj hints (Nat.le_trans hlen (by decide)) ⟨rfl, by decide, by decide⟩ F hb fun H hT hS => ?_
  refine ⟨a, ns, rfl, hS, hlen, fun p hp => ?_, fun _ => rfl⟩
  rw [List.mem_singleton.mp hp]
  exact ⟨#[], hT, trivial, fun pos cv hc => by cases hc⟩
end K00
open PySem PySem.W PySem.Calls PyProof.Rows
set_option maxRecDepth 100000 in
set_option maxHeartbeats 0 in
theorem PySem.Challenge.cw_clankernel_k00_whole_rows_and_words_holds : PySem.Challenge.rw_clankernel_k00_whole_rows_and_words.Holds := by
  w_on; o_law
  refine HandSHeadRun.head_any (r := OpenLaw.row PySem.Challenge.rw_clankernel_k00_whole_rows_and_words) (q := view (OpenLaw.row PySem.Challenge.rw_clankernel_k00_whole_rows_and_words).prog [38]) (H := K00.hook5) (ob := K00.seen5) (M := 3000) (loose := K00.bound) (d := HandSHeadRun.topDef (OpenLaw.row PySem.Challenge.rw_clankernel_k00_whole_rows_and_words).prog 38) (kwd := []) K00.seen5_eq
    (by kernel_rfl) (fun s => by kernel_rfl) K00.top_run (by kernel_rfl) (by kernel_rfl) (by kernel_rfl) (by rfl) (by first | assumption | decide +kernel) (by decide +kernel) ⟨rfl, rfl, rfl, rfl, rfl, by decide +kernel⟩ ?hw ?hc
  case hw => w_witness2
  case hc => exact K00.walk_top
