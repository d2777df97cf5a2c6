import PyProof.Rows.All
import VaslcaSpec
import Wide.All
import OpenK.AllK
import Wide.FinOn
import Open.SpecLaws
import KE.OsGo
import HandS.ForSpec
import HandS.TryMany
import HandS.Comp
import HandS.Dict
import HandS.Iter
import HandS.Text
import HandS.StrMore
import HandS.Evl
import HandS.Small
import PyProof.Rows.StrCut
import KE.KxAffix
import HandS.SortKw
import PyProof.MinMaxWalk
import PyProof.WalkInts
import PyProof.SeqI3
import HandS.Walk
import HandS.Steps
import HandS.Conv
import PyProof.StrBlock2
import PyProof.Rows.StrMul
import PySem.Challenge.RW_valueoriginsdesk_s01_answers
import PyVaslca
import KE.OsHead
set_option Elab.async false
namespace VO
open Vaslca

theorem cutAt_ne (c : UInt8) : ∀ t : Text, cutAt c t ≠ []
  | [] => by simp [cutAt]
  | b :: r => by
    unfold cutAt
    split
    · simp
    · cases h : cutAt c r with
      | nil => simp
      | cons w ws => simp

theorem cutAt_cons_ne {c b : UInt8} {r : Text} (h : b ≠ c) : ∃ w ws, cutAt c r = w :: ws ∧ cutAt c (b :: r) = (b :: w) :: ws := by
  cases e : cutAt c r with
  | nil => exact absurd e (cutAt_ne c r)
  | cons w ws => exact ⟨w, ws, rfl, by unfold cutAt; rw [if_neg h, e]⟩

theorem cutAt_cons_eq {c : UInt8} {r : Text} : cutAt c (c :: r) = [] :: cutAt c r := by
  rw [cutAt, if_pos rfl]

theorem cutAt_none {c : UInt8} : ∀ {w : Text}, c ∉ w → cutAt c w = [w]
  | [], _ => rfl
  | b :: r, h => by
    have hb : b ≠ c := fun e => h (by simp [e])
    have hr : c ∉ r := fun e => h (by simp [e])
    have ih := cutAt_none hr
    unfold cutAt
    rw [if_neg hb, ih]

theorem cutAt_some {c : UInt8} {r : Text} : ∀ {w : Text}, c ∉ w → cutAt c (w ++ c :: r) = w :: cutAt c r
  | [], _ => cutAt_cons_eq
  | b :: w, h => by
    have hb : b ≠ c := fun e => h (by simp [e])
    have hr : c ∉ w := fun e => h (by simp [e])
    have ih := cutAt_some (r := r) hr
    show cutAt c (b :: (w ++ c :: r)) = _
    obtain ⟨u, us, e1, e2⟩ := cutAt_cons_ne (r := w ++ c :: r) hb
    rw [e2]
    rw [e1] at ih
    injection ih with e3 e4
    rw [e3, e4]

theorem glued_cons {s t u : Text} {r : List Text} : gluedBy s (t :: u :: r) = t ++ (s ++ gluedBy s (u :: r)) := rfl

theorem cut_glued {c : UInt8} : ∀ {ws : List Text}, ws ≠ [] → (∀ w ∈ ws, c ∉ w) → cutAt c (gluedBy [c] ws) = ws
  | [], h, _ => absurd rfl h
  | [w], _, h => cutAt_none (h w (by simp))
  | w :: u :: r, _, h => by
    rw [glued_cons]
    show cutAt c (w ++ c :: gluedBy [c] (u :: r)) = _
    rw [cutAt_some (h w (by simp)), cut_glued (by simp) (fun x hx => h x (by simp [List.mem_cons.mp hx]))]

theorem glued_head {s : Text} {b : UInt8} {w : Text} : ∀ {ws : List Text}, gluedBy s ((b :: w) :: ws) = b :: gluedBy s (w :: ws)
  | [] => rfl
  | _ :: _ => rfl

theorem glued_cut {c : UInt8} : ∀ t : Text, gluedBy [c] (cutAt c t) = t
  | [] => rfl
  | b :: r => by
    have ih := glued_cut (c := c) r
    by_cases h : b = c
    · subst h
      rw [cutAt_cons_eq]
      cases e : cutAt b r with
      | nil => exact absurd e (cutAt_ne b r)
      | cons w ws =>
        rw [glued_cons, ← e, ih]
        rfl
    · obtain ⟨w, ws, e1, e2⟩ := cutAt_cons_ne (r := r) h
      rw [e2, glued_head, ← e1, ih]

theorem cut_mem {c : UInt8} : ∀ {t : Text}, ∀ w ∈ cutAt c t, c ∉ w
  | [], w, h => by
    simp [cutAt] at h
    simp [h]
  | b :: r, w, h => by
    by_cases hb : b = c
    · subst hb
      rw [cutAt_cons_eq] at h
      rcases List.mem_cons.mp h with e | e
      · simp [e]
      · exact cut_mem w e
    · obtain ⟨u, us, e1, e2⟩ := cutAt_cons_ne (r := r) hb
      rw [e2] at h
      have ih := cut_mem (c := c) (t := r)
      rw [e1] at ih
      rcases List.mem_cons.mp h with e | e
      · subst e
        intro hc
        rcases List.mem_cons.mp hc with z | z
        · exact hb z.symm
        · exact ih u (by simp) z
      · exact ih w (by simp [e])

theorem cut_mem_of {c : UInt8} {t : Text} {b : UInt8} {w : Text} (hw : w ∈ cutAt c t) (hb : b ∈ w) : b ∈ t := by
  induction t generalizing w with
  | nil =>
    simp [cutAt] at hw
    simp [hw] at hb
  | cons x r ih =>
    by_cases hx : x = c
    · subst hx
      rw [cutAt_cons_eq] at hw
      rcases List.mem_cons.mp hw with e | e
      · simp [e] at hb
      · exact List.mem_cons_of_mem _ (ih e hb)
    · obtain ⟨u, us, e1, e2⟩ := cutAt_cons_ne (r := r) hx
      rw [e2] at hw
      rw [e1] at ih
      rcases List.mem_cons.mp hw with e | e
      · subst e
        rcases List.mem_cons.mp hb with z | z
        · simp [z]
        · exact List.mem_cons_of_mem _ (ih (by simp) z)
      · exact List.mem_cons_of_mem _ (ih (by simp [e]) hb)

/-! lines -/
theorem cut_lines : ∀ {ls : List Text}, (∀ w ∈ ls, (10 : UInt8) ∉ w) → cutAt 10 (ls.flatMap line) = ls ++ [[]]
  | [], _ => rfl
  | w :: r, h => by
    rw [List.flatMap_cons]
    show cutAt 10 ((w ++ [10]) ++ r.flatMap line) = _
    rw [List.append_assoc]
    show cutAt 10 (w ++ (10 : UInt8) :: r.flatMap line) = _
    rw [cutAt_some (h w (by simp)), cut_lines (fun x hx => h x (by simp [hx]))]
    rfl

theorem linesIn_of {ls : List Text} (h : ∀ w ∈ ls, (10 : UInt8) ∉ w) : linesIn (ls.flatMap line) = some ls := by
  unfold linesIn
  rw [cut_lines h]
  simp

theorem glued_lines : ∀ (ls : List Text), gluedBy [10] (ls ++ [[]]) = ls.flatMap line
  | [] => rfl
  | [w] => by simp [gluedBy, line]
  | w :: u :: r => by
    show w ++ ([10] ++ gluedBy [10] ((u :: r) ++ [[]])) = _
    rw [glued_lines (u :: r), List.flatMap_cons]
    simp [line]

theorem linesIn_some {t : Text} {ls : List Text} (h : linesIn t = some ls) : t = ls.flatMap line ∧ ∀ w ∈ ls, (10 : UInt8) ∉ w := by
  unfold linesIn at h
  dsimp only at h
  split at h
  · rename_i hl
    have e : (cutAt 10 t).dropLast = ls := Option.some.inj h
    have ne := cutAt_ne 10 t
    have e2 : cutAt 10 t = ls ++ [[]] := by
      rw [← e]
      have q := List.dropLast_concat_getLast ne
      rw [List.getLastD_eq_getLast?, List.getLast?_eq_some_getLast ne] at hl
      simp at hl
      rw [hl] at q
      exact q.symm
    refine ⟨?_, fun w hw => cut_mem (t := t) w (by rw [e2]; simp [hw])⟩
    rw [← glued_lines, ← e2, glued_cut]
  · cases h

theorem linesIn_iff {t : Text} {ls : List Text} : linesIn t = some ls ↔ t = ls.flatMap line ∧ ∀ w ∈ ls, (10 : UInt8) ∉ w :=
  ⟨linesIn_some, fun ⟨e, h⟩ => by rw [e]; exact linesIn_of h⟩

/-! numbers, names, atoms -/
theorem decimal_fact : ∀ n : Fin 100, (decimal n.val).length ≤ 2 ∧ (decimal n.val).all isDigit = true ∧ valueOf (decimal n.val) = n.val ∧ isName (decimal n.val) = false := by decide +kernel

theorem numberOf_decimal {n : Nat} (h : n ≤ 99) : numberOf (decimal n) = some n := by
  obtain ⟨a, b, c, _⟩ := decimal_fact ⟨n, by omega⟩
  dsimp only at a b c
  unfold numberOf
  rw [c, if_pos ⟨a, b, rfl⟩]

theorem digit_val {b : UInt8} (h : isDigit b = true) : b.toNat - 48 ≤ 9 := by
  simp only [isDigit, Bool.and_eq_true, decide_eq_true_eq, UInt8.le_iff_toNat_le] at h
  have h2 : b.toNat ≤ 57 := h.2
  omega

theorem numberOf_some {t : Text} {n : Nat} (h : numberOf t = some n) : n ≤ 99 ∧ decimal n = t := by
  unfold numberOf at h
  split at h
  · rename_i q
    obtain ⟨q1, q2, q3⟩ := q
    have e : valueOf t = n := Option.some.inj h
    refine ⟨?_, by rw [← e]; exact q3.symm⟩
    have q1' : t.length ≤ 2 := q1
    match t, q1', q2, e with
    | [], _, _, e => simp [valueOf] at e; omega
    | [a], _, q2, e =>
      simp [valueOf] at e
      have := digit_val (b := a) (by simpa using q2)
      omega
    | [a, b], _, q2, e =>
      simp [valueOf] at e
      simp at q2
      have := digit_val q2.1
      have := digit_val q2.2
      omega
  · cases h

theorem atomOf_some {t : Text} {a : Atom} (h : atomOf t = some a) : isAtom a = true ∧ atomText a = t := by
  unfold atomOf at h
  split at h
  · rename_i q
    cases Option.some.inj h
    exact ⟨q, rfl⟩
  · cases e : numberOf t with
    | none => rw [e] at h; cases h
    | some n =>
      rw [e] at h
      cases Option.some.inj h
      obtain ⟨x, y⟩ := numberOf_some e
      exact ⟨decide_eq_true x, y⟩

theorem atomOf_text {a : Atom} (h : isAtom a = true) : atomOf (atomText a) = some a := by
  cases a with
  | num n =>
    have h' : n ≤ 99 := of_decide_eq_true h
    obtain ⟨_, _, _, d⟩ := decimal_fact ⟨n, by omega⟩
    dsimp only at d
    show (if isName (decimal n) = true then some (Atom.var (decimal n)) else (numberOf (decimal n)).map .num) = _
    rw [if_neg (by simp [d]), numberOf_decimal h']
    rfl
  | var v =>
    have h' : isName v = true := h
    show (if isName v = true then some (Atom.var v) else (numberOf v).map .num) = _
    rw [if_pos h']

end VO
set_option Elab.async false
namespace VO
open Vaslca

inductive Head where
  | set (v : Name) (e : Expr)
  | read (v : Name)
  | write (a : Atom)
  | halt
  | ite (c : Cond)
  | loop (c : Cond)
deriving DecidableEq

def Head.words : Head → List Text
  | .set v e => [v, ascii "="] ++ exprWords e
  | .read v => [ascii "read", v]
  | .write a => [ascii "write", atomText a]
  | .halt => [ascii "stop"]
  | .ite c => ascii "if" :: condWords c
  | .loop c => ascii "while" :: condWords c
def Head.ok : Head → Bool
  | .set v e => isName v && isExpr e
  | .read v => isName v
  | .write a => isAtom a
  | .halt => true
  | .ite c => isCond c
  | .loop c => isCond c
def Head.text (h : Head) : Text := spaced h.words

def headOf (t : Text) : Option Head := match cutAt 32 t with
  | [w] => if w = ascii "stop" then some .halt else none
  | [w, v] => if w = ascii "read" then (if isName v = true then some (.read v) else none) else if w = ascii "write" then (atomOf v).map .write else none
  | v :: w :: e =>
    if v = ascii "if" then (condOf (w :: e)).map .ite else if v = ascii "while" then (condOf (w :: e)).map .loop
    else if w = ascii "=" ∧ isName v = true then (exprOf e).map (.set v) else none
  | [] => none

/-! which bytes stand in words -/
theorem isSmall_ne {b : UInt8} (h : isSmall b = true) : b ≠ 32 ∧ b ≠ 10 ∧ b ≠ 58 := by
  refine ⟨?_, ?_, ?_⟩ <;> (rintro rfl; revert h; decide)
theorem isDigit_ne {b : UInt8} (h : isDigit b = true) : b ≠ 32 ∧ b ≠ 10 ∧ b ≠ 58 := by
  refine ⟨?_, ?_, ?_⟩ <;> (rintro rfl; revert h; decide)
/-- a word: neither a blank nor a line's end in it, and not empty -/
def Plain (w : Text) : Prop := w ≠ [] ∧ (32 : UInt8) ∉ w ∧ (10 : UInt8) ∉ w
theorem name_plain {v : Name} (h : isName v = true) : Plain v ∧ (58 : UInt8) ∉ v := by
  simp only [isName, Bool.and_eq_true, Bool.not_eq_true'] at h
  obtain ⟨h1, _, h2, _⟩ := h
  rw [List.all_eq_true] at h2
  refine ⟨⟨?_, fun z => (isSmall_ne (h2 _ z)).1 rfl, fun z => (isSmall_ne (h2 _ z)).2.1 rfl⟩, fun z => (isSmall_ne (h2 _ z)).2.2 rfl⟩
  rintro rfl
  simp at h1
theorem decimal_ne : ∀ n : Fin 100, decimal n.val ≠ [] := by decide +kernel
theorem atom_plain {a : Atom} (h : isAtom a = true) : Plain (atomText a) ∧ (58 : UInt8) ∉ atomText a := by
  cases a with
  | var v => exact name_plain h
  | num n =>
    have h' : n ≤ 99 := of_decide_eq_true h
    obtain ⟨_, d, _, _⟩ := decimal_fact ⟨n, by omega⟩
    rw [List.all_eq_true] at d
    exact ⟨⟨decimal_ne ⟨n, by omega⟩, fun z => (isDigit_ne (d _ z)).1 rfl, fun z => (isDigit_ne (d _ z)).2.1 rfl⟩, fun z => (isDigit_ne (d _ z)).2.2 rfl⟩

theorem plain_of (w : Text) (h : (!w.isEmpty && (!w.contains 32 && !w.contains 10)) = true) : Plain w := by
  simp only [Bool.and_eq_true, Bool.not_eq_true', List.contains_eq_mem, decide_eq_false_iff_not] at h
  exact ⟨by rintro rfl; simp at h, h.2.1, h.2.2⟩
theorem plain_colon {w : Text} (h : Plain w) : Plain (w ++ [58]) := by
  obtain ⟨_, b, c⟩ := h
  refine ⟨by simp, ?_, ?_⟩
  · simp [b]
  · simp [c]
theorem op_plain {o : Op} (h : o ≠ .alone) : Plain (opText o) := by
  cases o with
  | alone => exact absurd rfl h
  | _ => exact plain_of _ (by decide)
theorem rel_plain (r : Rel) : Plain (relText r) := by
  cases r <;> exact plain_of _ (by decide)

theorem expr_plain {e : Expr} (h : isExpr e = true) : ∀ w ∈ exprWords e, Plain w := by
  simp only [isExpr, Bool.and_eq_true] at h
  obtain ⟨h1, h2, _⟩ := h
  unfold exprWords
  intro w hw
  split at hw
  · simp at hw
    rw [hw]
    exact (atom_plain h1).1
  · rename_i ho
    simp at hw
    rcases hw with e | e | e
    · rw [e]; exact (atom_plain h1).1
    · rw [e]; exact op_plain ho
    · rw [e]; exact (atom_plain h2).1
theorem cond_plain {c : Cond} (h : isCond c = true) : ∀ w ∈ condWords c, Plain w := by
  simp only [isCond, Bool.and_eq_true] at h
  intro w hw
  simp [condWords] at hw
  rcases hw with e | e | e
  · rw [e]; exact (atom_plain h.1).1
  · rw [e]; exact rel_plain _
  · rw [e]; exact plain_colon (atom_plain h.2).1
theorem words_ne (h : Head) : h.words ≠ [] := by
  cases h <;> simp [Head.words]
theorem words_plain {h : Head} (k : h.ok = true) : ∀ w ∈ h.words, Plain w := by
  intro w hw
  cases h with
  | set v e =>
    simp only [Head.ok, Bool.and_eq_true] at k
    simp only [Head.words, List.cons_append, List.nil_append, List.mem_cons] at hw
    rcases hw with e | e | e
    · rw [e]; exact (name_plain k.1).1
    · rw [e]; exact plain_of _ (by decide)
    · exact expr_plain k.2 w e
  | read v =>
    simp only [Head.words, List.mem_cons, List.not_mem_nil, or_false] at hw
    rcases hw with e | e
    · rw [e]; exact plain_of _ (by decide)
    · rw [e]; exact (name_plain k).1
  | write a =>
    simp only [Head.words, List.mem_cons, List.not_mem_nil, or_false] at hw
    rcases hw with e | e
    · rw [e]; exact plain_of _ (by decide)
    · rw [e]; exact (atom_plain k).1
  | halt =>
    simp only [Head.words, List.mem_cons, List.not_mem_nil, or_false] at hw
    rw [hw]; exact plain_of _ (by decide)
  | ite c =>
    simp only [Head.words, List.mem_cons] at hw
    rcases hw with e | e
    · rw [e]; exact plain_of _ (by decide)
    · exact cond_plain k w e
  | loop c =>
    simp only [Head.words, List.mem_cons] at hw
    rcases hw with e | e
    · rw [e]; exact plain_of _ (by decide)
    · exact cond_plain k w e

theorem cut_words {h : Head} (k : h.ok = true) : cutAt 32 h.text = h.words :=
  cut_glued (words_ne h) fun w hw => (words_plain k w hw).2.1

/-! expressions and conditions -/
theorem opOf_text {o : Op} (h : o ≠ .alone) : opOf (opText o) = some o := by
  cases o with
  | alone => exact absurd rfl h
  | _ => decide
theorem opOf_some {t : Text} {o : Op} (h : opOf t = some o) : o ≠ .alone ∧ opText o = t := by
  unfold opOf at h
  have h1 := List.mem_of_find?_eq_some h
  have h2 := List.find?_some h
  refine ⟨by rintro rfl; simp at h1, by simpa using h2⟩
theorem relOf_text (r : Rel) : relOf (relText r) = some r := by
  cases r <;> decide
theorem relOf_some {t : Text} {r : Rel} (h : relOf t = some r) : relText r = t := by
  unfold relOf at h
  have h2 := List.find?_some h
  simpa using h2

theorem exprOf_words {e : Expr} (h : isExpr e = true) : exprOf (exprWords e) = some e := by
  obtain ⟨a, o, b⟩ := e
  simp only [isExpr, Bool.and_eq_true, Bool.or_eq_true, bne_iff_ne, ne_eq, beq_iff_eq] at h
  obtain ⟨h1, h2, h3⟩ := h
  unfold exprWords
  dsimp only at h1 h2 h3 ⊢
  by_cases ho : o = .alone
  · rw [if_pos ho]
    rcases h3 with z | z
    · exact absurd ho z
    · subst ho z
      show (atomOf (atomText a)).map (fun x => (⟨x, .alone, .num 0⟩ : Expr)) = _
      rw [atomOf_text h1]
      rfl
  · rw [if_neg ho]
    show ((atomOf (atomText a)).bind fun x => (opOf (opText o)).bind fun p => (atomOf (atomText b)).map fun y => (⟨x, p, y⟩ : Expr)) = _
    rw [atomOf_text h1, atomOf_text h2, opOf_text ho]
    rfl
theorem exprOf_some {l : List Text} {e : Expr} (h : exprOf l = some e) : isExpr e = true ∧ exprWords e = l := by
  unfold exprOf at h
  split at h
  · rename_i a
    cases h1 : atomOf a with
    | none => rw [h1] at h; cases h
    | some x =>
      rw [h1] at h
      cases Option.some.inj h
      obtain ⟨p, q⟩ := atomOf_some h1
      refine ⟨?_, ?_⟩
      · simp [isExpr, p]
        rfl
      · simp [exprWords, q]
  · rename_i a o b
    cases h1 : atomOf a with
    | none => rw [h1] at h; cases h
    | some x =>
      cases h2 : opOf o with
      | none => rw [h1, h2] at h; cases h
      | some p =>
        cases h3 : atomOf b with
        | none => rw [h1, h2, h3] at h; cases h
        | some y =>
          rw [h1, h2, h3] at h
          cases Option.some.inj h
          obtain ⟨p1, q1⟩ := atomOf_some h1
          obtain ⟨p2, q2⟩ := opOf_some h2
          obtain ⟨p3, q3⟩ := atomOf_some h3
          refine ⟨?_, ?_⟩
          · simp [isExpr, p1, p3, p2]
          · simp [exprWords, q1, q2, q3, p2]
  · cases h
theorem condOf_words {c : Cond} (h : isCond c = true) : condOf (condWords c) = some c := by
  obtain ⟨a, r, b⟩ := c
  simp only [isCond, Bool.and_eq_true] at h
  show (if (atomText b ++ [58]).getLast? = some 58 then (atomOf (atomText a)).bind fun x => (relOf (relText r)).bind fun q => (atomOf (atomText b ++ [58]).dropLast).map fun y => (⟨x, q, y⟩ : Cond) else none) = _
  rw [if_pos (by simp), List.dropLast_concat, atomOf_text h.1, relOf_text, atomOf_text h.2]
  rfl
theorem condOf_some {l : List Text} {c : Cond} (h : condOf l = some c) : isCond c = true ∧ condWords c = l := by
  unfold condOf at h
  split at h
  · rename_i a r b
    split at h
    · rename_i hb
      cases h1 : atomOf a with
      | none => rw [h1] at h; cases h
      | some x =>
        cases h2 : relOf r with
        | none => rw [h1, h2] at h; cases h
        | some p =>
          cases h3 : atomOf b.dropLast with
          | none => rw [h1, h2, h3] at h; cases h
          | some y =>
            rw [h1, h2, h3] at h
            cases Option.some.inj h
            obtain ⟨p1, q1⟩ := atomOf_some h1
            have q2 := relOf_some h2
            obtain ⟨p3, q3⟩ := atomOf_some h3
            refine ⟨by simp [isCond, p1, p3], ?_⟩
            have e : b = b.dropLast ++ [58] := by
              obtain ⟨ys, rfl⟩ := List.getLast?_eq_some_iff.mp hb
              rw [List.dropLast_concat]
            simp [condWords, q1, q2, q3, ← e]
    · cases h
  · cases h

/-! heads -/
theorem names_kept {v : Name} (h : isName v = true) : v ≠ ascii "if" ∧ v ≠ ascii "while" ∧ v ≠ ascii "read" ∧ v ≠ ascii "stop" ∧ v ≠ ascii "else:" ∧ v ≠ ascii "=" := by
  refine ⟨?_, ?_, ?_, ?_, ?_, ?_⟩ <;> (rintro rfl; revert h; decide)

theorem headOf_text {h : Head} (k : h.ok = true) : headOf h.text = some h := by
  unfold headOf
  rw [cut_words k]
  cases h with
  | set v e =>
    simp only [Head.ok, Bool.and_eq_true] at k
    obtain ⟨n1, n2, n3, n4, _⟩ := names_kept k.1
    have q := exprOf_words k.2
    cases e1 : exprWords e with
    | nil => rw [e1] at q; cases q
    | cons x xs =>
      rw [e1] at q
      simp only [Head.words, e1]
      show (if v = ascii "if" then _ else if v = ascii "while" then _ else if ascii "=" = ascii "=" ∧ isName v = true then (exprOf (x :: xs)).map (Head.set v) else none) = _
      rw [if_neg n1, if_neg n2, if_pos ⟨rfl, k.1⟩, q]
      rfl
  | read v =>
    show (if ascii "read" = ascii "read" then (if isName v = true then some (Head.read v) else none) else _) = _
    rw [if_pos rfl, if_pos (show isName v = true from k)]
  | write a =>
    show (if ascii "write" = ascii "read" then _ else if ascii "write" = ascii "write" then (atomOf (atomText a)).map Head.write else none) = _
    rw [if_neg (by decide), if_pos rfl, atomOf_text k]
    rfl
  | halt => rfl
  | ite c =>
    show (if ascii "if" = ascii "if" then (condOf (condWords c)).map Head.ite else _) = _
    rw [if_pos rfl, condOf_words k]
    rfl
  | loop c =>
    show (if ascii "while" = ascii "if" then _ else if ascii "while" = ascii "while" then (condOf (condWords c)).map Head.loop else _) = _
    rw [if_neg (by decide), if_pos rfl, condOf_words k]
    rfl

theorem headOf_some {t : Text} {h : Head} (k : headOf t = some h) : h.ok = true ∧ h.text = t := by
  suffices q : h.ok = true ∧ h.words = cutAt 32 t by
    refine ⟨q.1, ?_⟩
    show gluedBy [32] h.words = t
    rw [q.2, glued_cut]
  unfold headOf at k
  split at k
  · rename_i w e
    split at k
    · rename_i hw
      cases Option.some.inj k
      exact ⟨rfl, by rw [e, hw]; rfl⟩
    · cases k
  · rename_i w v e
    split at k
    · rename_i hw
      split at k
      · rename_i hv
        cases Option.some.inj k
        exact ⟨hv, by rw [e, hw]; rfl⟩
      · cases k
    · split at k
      · rename_i hw
        cases h1 : atomOf v with
        | none => rw [h1] at k; cases k
        | some x =>
          rw [h1] at k
          cases Option.some.inj k
          obtain ⟨p, q⟩ := atomOf_some h1
          exact ⟨p, by rw [e, hw, ← q]; rfl⟩
      · cases k
  · rename_i v w e _ e0
    split at k
    · rename_i hv
      cases h1 : condOf (w :: e) with
      | none => rw [h1] at k; cases k
      | some c =>
        rw [h1] at k
        cases Option.some.inj k
        obtain ⟨p, q⟩ := condOf_some h1
        exact ⟨p, by rw [e0, hv, ← q]; rfl⟩
    · split at k
      · rename_i hv
        cases h1 : condOf (w :: e) with
        | none => rw [h1] at k; cases k
        | some c =>
          rw [h1] at k
          cases Option.some.inj k
          obtain ⟨p, q⟩ := condOf_some h1
          exact ⟨p, by rw [e0, hv, ← q]; rfl⟩
      · split at k
        · rename_i hv
          cases h1 : exprOf e with
          | none => rw [h1] at k; cases k
          | some x =>
            rw [h1] at k
            cases Option.some.inj k
            obtain ⟨p, q⟩ := exprOf_some h1
            refine ⟨by simp [Head.ok, p, hv.2], by rw [e0, hv.1, ← q]; rfl⟩
        · cases k
  · cases k

/-! rows: how deep, and what; none: an else -/
abbrev Item := Nat × Option Head
def itemText (x : Item) : Text := indent x.1 ++ (match x.2 with
  | none => ascii "else:"
  | some h => h.text)
def itemOk (x : Item) : Bool := match x.2 with
  | none => true
  | some h => h.ok
def blanks (t : Text) : Nat := (t.takeWhile fun b => b == 32).length
def itemOf (t : Text) : Option Item :=
  if blanks t % 2 = 1 then none else if t.drop (blanks t) = ascii "else:" then some (blanks t / 2, none) else (headOf (t.drop (blanks t))).map fun h => (blanks t / 2, some h)

theorem takeWhile_blank : ∀ (t : Text), t.takeWhile (fun b => b == 32) = List.replicate (blanks t) 32
  | [] => rfl
  | b :: r => by
    unfold blanks
    by_cases h : b = 32
    · subst h
      have ih := takeWhile_blank r
      rw [List.takeWhile_cons_of_pos (by simp), ih]
      simp [List.replicate_succ]
    · rw [List.takeWhile_cons_of_neg (by simpa using h)]
      rfl
theorem takeWhile_drop (t : Text) : List.replicate (blanks t) 32 ++ t.drop (blanks t) = t := by
  rw [← takeWhile_blank]
  have e : t.drop (blanks t) = t.dropWhile (fun b => b == 32) := by
    have q : t.takeWhile (fun b => b == 32) ++ t.dropWhile (fun b => b == 32) = t := List.takeWhile_append_dropWhile
    have z : ∀ (a b : Text), a ++ b = t → t.drop a.length = b := by
      rintro a b rfl
      simp
    exact z _ _ q
  rw [e]
  exact List.takeWhile_append_dropWhile

theorem blanks_indent {n : Nat} {b : UInt8} {r : Text} (h : b ≠ 32) : blanks (List.replicate n 32 ++ b :: r) = n := by
  induction n with
  | zero =>
    show blanks (b :: r) = 0
    unfold blanks
    rw [List.takeWhile_cons_of_neg (by simpa using h)]
    rfl
  | succ n ih =>
    rw [List.replicate_succ, List.cons_append]
    unfold blanks at ih ⊢
    rw [List.takeWhile_cons_of_pos (by simp), List.length_cons, ih]

theorem bare_head {x : Item} (h : itemOk x = true) : ∃ b r, b ≠ 32 ∧ (match x.2 with
  | none => ascii "else:"
  | some h => h.text) = b :: r := by
  obtain ⟨d, o⟩ := x
  cases o with
  | none => exact ⟨101, [108, 115, 101, 58], by decide, (by decide : ascii "else:" = [101, 108, 115, 101, 58])⟩
  | some h' =>
    have k : h'.ok = true := h
    show ∃ b r, b ≠ 32 ∧ h'.text = b :: r
    have p := words_plain k
    unfold Head.text spaced
    cases e : h'.words with
    | nil => exact absurd e (words_ne h')
    | cons w ws =>
      rw [e] at p
      obtain ⟨p1, p2, _⟩ := p w (by simp)
      cases w with
      | nil => exact absurd rfl p1
      | cons b w =>
        rw [glued_head]
        exact ⟨b, _, fun z => p2 (by simp [z]), rfl⟩

theorem itemText_blanks {x : Item} (h : itemOk x = true) : blanks (itemText x) = 2 * x.1 ∧ (itemText x).drop (blanks (itemText x)) = (match x.2 with
  | none => ascii "else:"
  | some h => h.text) := by
  obtain ⟨b, r, hb, e⟩ := bare_head h
  have q : blanks (itemText x) = 2 * x.1 := by
    unfold itemText
    rw [e]
    exact blanks_indent hb
  refine ⟨q, ?_⟩
  rw [q]
  unfold itemText indent
  rw [List.drop_left' (by simp)]

theorem else_no_head : headOf (ascii "else:") = none := by decide

theorem itemOf_text {x : Item} (h : itemOk x = true) : itemOf (itemText x) = some x := by
  obtain ⟨q1, q2⟩ := itemText_blanks h
  unfold itemOf
  rw [q2, q1, if_neg (by omega)]
  obtain ⟨d, o⟩ := x
  cases o with
  | none =>
    rw [if_pos rfl]
    simp
  | some k =>
    have hk : k.ok = true := h
    show (if k.text = ascii "else:" then _ else (headOf k.text).map _) = _
    rw [if_neg, headOf_text hk]
    · simp
    · intro e
      have := headOf_text hk
      rw [e, else_no_head] at this
      cases this

theorem itemOf_some {t : Text} {x : Item} (h : itemOf t = some x) : itemOk x = true ∧ itemText x = t := by
  unfold itemOf at h
  split at h
  · cases h
  · rename_i h2
    have q := takeWhile_drop t
    have e : indent (blanks t / 2) = List.replicate (blanks t) 32 := by
      unfold indent
      rw [show 2 * (blanks t / 2) = blanks t by omega]
    split at h
    · rename_i h3
      cases Option.some.inj h
      refine ⟨rfl, ?_⟩
      show indent (blanks t / 2) ++ ascii "else:" = t
      rw [e, ← h3, q]
    · cases h4 : headOf (t.drop (blanks t)) with
      | none => rw [h4] at h; cases h
      | some k =>
        rw [h4] at h
        cases Option.some.inj h
        obtain ⟨a, b⟩ := headOf_some h4
        refine ⟨a, ?_⟩
        show indent (blanks t / 2) ++ k.text = t
        rw [e, b, q]

/-- the specification's row of an item -/
def itemRow (x : Item) : Row := ⟨x.1, match x.2 with
  | none => [ascii "else:"]
  | some h => h.words⟩
theorem rowOf_text {x : Item} (h : itemOk x = true) : rowOf (itemText x) = itemRow x := by
  obtain ⟨q1, q2⟩ := itemText_blanks h
  have e : rowOf (itemText x) = ⟨blanks (itemText x) / 2, cutAt 32 ((itemText x).drop (blanks (itemText x)))⟩ := rfl
  rw [e, q2, q1]
  unfold itemRow
  obtain ⟨d, o⟩ := x
  cases o with
  | none =>
    have : (2 * d) / 2 = d := by omega
    show Row.mk ((2 * d) / 2) (cutAt 32 (ascii "else:")) = Row.mk d [ascii "else:"]
    rw [this]
    rfl
  | some k =>
    have hk : k.ok = true := h
    have : (2 * d) / 2 = d := by omega
    show Row.mk ((2 * d) / 2) (cutAt 32 k.text) = Row.mk d k.words
    rw [this, cut_words hk]

theorem text_no_end {x : Item} (h : itemOk x = true) : (10 : UInt8) ∉ itemText x := by
  unfold itemText
  intro z
  rcases List.mem_append.mp z with z | z
  · unfold indent at z
    rw [List.mem_replicate] at z
    exact absurd z.2 (by decide)
  · obtain ⟨d, o⟩ := x
    cases o with
    | none =>
      have z' : (10 : UInt8) ∈ ascii "else:" := z
      revert z'
      decide
    | some k =>
      have hk : k.ok = true := h
      have z' : (10 : UInt8) ∈ k.text := z
      have p := words_plain hk
      revert z'
      unfold Head.text spaced
      clear z h hk
      generalize k.words = ws at p
      induction ws with
      | nil => intro z; simp [gluedBy] at z
      | cons w ws ih =>
        intro z
        cases ws with
        | nil => exact (p w (by simp)).2.2 z
        | cons u us =>
          rw [glued_cons] at z
          rcases List.mem_append.mp z with z | z
          · exact (p w (by simp)).2.2 z
          · rcases List.mem_append.mp z with z | z
            · simp at z
            · exact ih (fun y hy => p y (List.mem_cons_of_mem _ hy)) z

end VO
set_option Elab.async false
namespace VO
open Vaslca

def itemsOf : Nat → Code → List Item
  | _, .done => []
  | d, .set _ v e r => (d, some (.set v e)) :: itemsOf d r
  | d, .read _ v r => (d, some (.read v)) :: itemsOf d r
  | d, .write _ a r => (d, some (.write a)) :: itemsOf d r
  | d, .halt_ _ r => (d, some .halt) :: itemsOf d r
  | d, .ite _ c a b r => (d, some (.ite c)) :: (itemsOf (d + 1) a ++ ((if isDone b = true then [] else (d, none) :: itemsOf (d + 1) b) ++ itemsOf d r))
  | d, .loop _ c b r => (d, some (.loop c)) :: (itemsOf (d + 1) b ++ itemsOf d r)

theorem textAt_items : ∀ (c : Code) (d : Nat), textAt d c = (itemsOf d c).flatMap fun x => line (itemText x)
  | .done, _ => rfl
  | .set n v e r, d => by
    simp only [textAt, itemsOf, List.flatMap_cons, textAt_items r d]
    rfl
  | .read n v r, d => by
    simp only [textAt, itemsOf, List.flatMap_cons, textAt_items r d]
    rfl
  | .write n a r, d => by
    simp only [textAt, itemsOf, List.flatMap_cons, textAt_items r d]
    rfl
  | .halt_ n r, d => by
    simp only [textAt, itemsOf, List.flatMap_cons, textAt_items r d]
    rfl
  | .ite n c a b r, d => by
    simp only [textAt, itemsOf, List.flatMap_cons, List.flatMap_append, textAt_items r d, textAt_items a (d + 1), textAt_items b (d + 1)]
    by_cases h : isDone b = true
    · simp only [if_pos h]
      rfl
    · simp only [if_neg h, List.flatMap_cons]
      rfl
  | .loop n c b r, d => by
    simp only [textAt, itemsOf, List.flatMap_cons, List.flatMap_append, textAt_items r d, textAt_items b (d + 1)]
    rfl

theorem items_ok : ∀ (c : Code) (d : Nat), areStatements c = true → ∀ x ∈ itemsOf d c, itemOk x = true
  | .done, _, _, x, hx => by simp [itemsOf] at hx
  | .set n v e r, d, h, x, hx => by
    simp only [areStatements, Bool.and_eq_true] at h
    rcases List.mem_cons.mp hx with z | z
    · rw [z]; simp [itemOk, Head.ok, h.1, h.2.1]
    · exact items_ok r d h.2.2 x z
  | .read n v r, d, h, x, hx => by
    simp only [areStatements, Bool.and_eq_true] at h
    rcases List.mem_cons.mp hx with z | z
    · rw [z]; exact h.1
    · exact items_ok r d h.2 x z
  | .write n a r, d, h, x, hx => by
    simp only [areStatements, Bool.and_eq_true] at h
    rcases List.mem_cons.mp hx with z | z
    · rw [z]; exact h.1
    · exact items_ok r d h.2 x z
  | .halt_ n r, d, h, x, hx => by
    rcases List.mem_cons.mp hx with z | z
    · rw [z]; rfl
    · exact items_ok r d h x z
  | .ite n c a b r, d, h, x, hx => by
    simp only [areStatements, Bool.and_eq_true] at h
    obtain ⟨h1, h2, h3, h4, h5⟩ := h
    rcases List.mem_cons.mp hx with z | z
    · rw [z]; exact h1
    · rcases List.mem_append.mp z with z | z
      · exact items_ok a _ h3 x z
      · rcases List.mem_append.mp z with z | z
        · split at z
          · simp at z
          · rcases List.mem_cons.mp z with z | z
            · rw [z]; rfl
            · exact items_ok b _ h4 x z
        · exact items_ok r d h5 x z
  | .loop n c b r, d, h, x, hx => by
    simp only [areStatements, Bool.and_eq_true] at h
    obtain ⟨h1, h2, h3, h4⟩ := h
    rcases List.mem_cons.mp hx with z | z
    · rw [z]; exact h1
    · rcases List.mem_append.mp z with z | z
      · exact items_ok b _ h3 x z
      · exact items_ok r d h4 x z

theorem programText_items (c : Code) : programText c = (itemsOf 0 c).flatMap fun x => line (itemText x) := textAt_items c 0

/-! lines in a row -/
def Numbered (n : Nat) (c : Code) : Prop := linesOf c = List.range' n (linesOf c).length
theorem range_cut {l1 l2 : List Nat} {n : Nat} (h : l1 ++ l2 = List.range' n (l1.length + l2.length)) : l1 = List.range' n l1.length ∧ l2 = List.range' (n + l1.length) l2.length := by
  rw [← List.range'_append_1] at h
  exact List.append_inj h (by simp)
theorem range_join {l1 l2 : List Nat} {n : Nat} (h1 : l1 = List.range' n l1.length) (h2 : l2 = List.range' (n + l1.length) l2.length) : l1 ++ l2 = List.range' n (l1.length + l2.length) := by
  rw [← List.range'_append_1, ← h1, ← h2]
theorem range_head {l : List Nat} {n m : Nat} (h : m :: l = List.range' n (l.length + 1)) : m = n ∧ l = List.range' (n + 1) l.length := by
  rw [List.range'_succ] at h
  exact List.cons.inj h

theorem numbered_simple {n m : Nat} {r : Code} {c : Code} (e : linesOf c = m :: linesOf r) (h : Numbered n c) : m = n ∧ Numbered (n + 1) r ∧ n + (linesOf c).length = n + 1 + (linesOf r).length := by
  unfold Numbered at h
  rw [e, List.length_cons] at h
  obtain ⟨a, b⟩ := range_head h
  refine ⟨a, b, ?_⟩
  rw [e, List.length_cons]
  omega
theorem numbered_two {n m : Nat} {b r c : Code} (e : linesOf c = m :: (linesOf b ++ linesOf r)) (h : Numbered n c) :
    m = n ∧ Numbered (n + 1) b ∧ Numbered (n + 1 + (linesOf b).length) r ∧ n + (linesOf c).length = n + 1 + (linesOf b).length + (linesOf r).length := by
  unfold Numbered at h
  rw [e, List.length_cons] at h
  obtain ⟨x, y⟩ := range_head h
  rw [List.length_append] at y
  obtain ⟨y1, y2⟩ := range_cut y
  refine ⟨x, y1, y2, ?_⟩
  rw [e, List.length_cons, List.length_append]
  omega
theorem numbered_three {n m : Nat} {a b r c : Code} (e : linesOf c = m :: (linesOf a ++ (linesOf b ++ linesOf r))) (h : Numbered n c) :
    m = n ∧ Numbered (n + 1) a ∧ Numbered (n + 1 + (linesOf a).length) b ∧ Numbered (n + 1 + (linesOf a).length + (linesOf b).length) r ∧
      n + (linesOf c).length = n + 1 + (linesOf a).length + (linesOf b).length + (linesOf r).length := by
  unfold Numbered at h
  rw [e, List.length_cons] at h
  obtain ⟨x, y⟩ := range_head h
  rw [List.length_append] at y
  obtain ⟨y1, y2⟩ := range_cut y
  rw [List.length_append] at y2
  obtain ⟨y3, y4⟩ := range_cut y2
  refine ⟨x, y1, y3, y4, ?_⟩
  rw [e, List.length_cons, List.length_append, List.length_append]
  omega

/-- the rows behind a block at depth d do not belong to it -/
def Stops (d : Nat) : List Row → Prop
  | [] => True
  | x :: _ => x.deep < d

theorem block_stop {f d n : Nat} {rest : List Row} (h : Stops d rest) : blockOf (f + 1) d n rest = some ⟨.done, n, rest⟩ := by
  unfold blockOf
  cases rest with
  | nil => rfl
  | cons x r =>
    have h' : x.deep < d := h
    show (if x.deep ≠ d ∨ x.words = [ascii "else:"] then some (Got.mk .done n (x :: r)) else _) = _
    rw [if_pos (Or.inl (by omega))]

theorem words_no_else {h : Head} (k : h.ok = true) : h.words ≠ [ascii "else:"] := by
  intro e
  have q := headOf_text k
  unfold Head.text at q
  rw [e] at q
  have z : headOf (spaced [ascii "else:"]) = none := by decide
  rw [z] at q
  cases q

/-- what blockOf makes of a row that is a head, at its depth -/
theorem block_row {f d n : Nat} {h : Head} {r : List Row} (k : h.ok = true) : blockOf (f + 1) d n (itemRow (d, some h) :: r) = (match h with
  | .set v e => (blockOf f d (n + 1) r).map (withCode (.set n v e))
  | .read v => (blockOf f d (n + 1) r).map (withCode (.read n v))
  | .write a => (blockOf f d (n + 1) r).map (withCode (.write n a))
  | .halt => (blockOf f d (n + 1) r).map (withCode (.halt_ n))
  | .ite c => (blockOf f (d + 1) (n + 1) r).bind fun a => (match elseOf d a.rest with
          | some q => blockOf f (d + 1) a.next q
          | none => some ⟨.done, a.next, a.rest⟩).bind fun b => (blockOf f d b.next b.rest).map (withCode (.ite n c a.code b.code))
  | .loop c => (blockOf f (d + 1) (n + 1) r).bind fun b => (blockOf f d b.next b.rest).map (withCode (.loop n c b.code))) := by
  have q : ¬ ((itemRow (d, some h)).deep ≠ d ∨ (itemRow (d, some h)).words = [ascii "else:"]) := by
    rintro (z | z)
    · exact z rfl
    · exact words_no_else k z
  rw [blockOf]
  rw [if_neg q]
  show (match h.words with
      | [w] => _
      | [w, v] => _
      | v :: w :: e => _
      | [] => _) = _
  cases h with
  | set v e =>
    simp only [Head.ok, Bool.and_eq_true] at k
    have z := exprOf_words k.2
    cases e1 : exprWords e with
    | nil => rw [e1] at z; cases z
    | cons x xs =>
      rw [e1] at z
      simp only [Head.words, e1]
      show (if ascii "=" = ascii "=" then (exprOf (x :: xs)).bind _ else _) = _
      rw [if_pos rfl, z]
      rfl
  | read v =>
    show (if ascii "read" = ascii "read" then _ else _) = _
    rw [if_pos rfl]
  | write a =>
    show (if ascii "write" = ascii "read" then _ else if ascii "write" = ascii "write" then (atomOf (atomText a)).bind _ else _) = _
    rw [if_neg (by decide), if_pos rfl, atomOf_text k]
    rfl
  | halt => rfl
  | ite c =>
    have k' : isCond c = true := k
    have q2 : atomText c.one ≠ ascii "=" := by
      simp only [isCond, Bool.and_eq_true] at k'
      intro e
      have := atomOf_text k'.1
      rw [e] at this
      revert this
      have : atomOf (ascii "=") = none := by decide
      rw [this]
      intro z; cases z
    show (if atomText c.one = ascii "=" then _ else if ascii "if" = ascii "if" then (condOf (condWords c)).bind _ else _) = _
    rw [if_neg q2, if_pos rfl, condOf_words k']
    rfl
  | loop c =>
    have k' : isCond c = true := k
    have q2 : atomText c.one ≠ ascii "=" := by
      simp only [isCond, Bool.and_eq_true] at k'
      intro e
      have := atomOf_text k'.1
      rw [e] at this
      revert this
      have : atomOf (ascii "=") = none := by decide
      rw [this]
      intro z; cases z
    show (if atomText c.one = ascii "=" then _ else if ascii "while" = ascii "if" then _ else if ascii "while" = ascii "while" then (condOf (condWords c)).bind _ else _) = _
    rw [if_neg q2, if_neg (by decide), if_pos rfl, condOf_words k']
    rfl

def rowsAt (d : Nat) (c : Code) : List Row := (itemsOf d c).map itemRow
theorem rowsAt_length (d : Nat) (c : Code) : (rowsAt d c).length = (itemsOf d c).length := List.length_map ..

/-- the head of a block's rows, with what follows -/
theorem stops_up {d : Nat} {rest : List Row} (h : Stops d rest) : Stops (d + 1) rest := by
  cases rest with
  | nil => trivial
  | cons x r => exact Nat.lt_succ_of_lt h
theorem stops_rows {d : Nat} {c : Code} {rest : List Row} (h : Stops d rest) : Stops (d + 1) (rowsAt d c ++ rest) := by
  cases c with
  | done => exact stops_up h
  | _ => exact Nat.lt_succ_self d
theorem no_else {d : Nat} {c : Code} {rest : List Row} (k : areStatements c = true) (h : Stops d rest) : elseOf d (rowsAt d c ++ rest) = none := by
  have e : ∀ (h : Head) (r : List Row), h.ok = true → elseOf d (itemRow (d, some h) :: r) = none := fun h r q => if_neg fun z => words_no_else q z.2
  cases c with
  | done =>
    cases rest with
    | nil => rfl
    | cons x r =>
      have h' : x.deep < d := h
      exact if_neg fun z => absurd z.1 (by omega)
  | set n v e r =>
    simp only [areStatements, Bool.and_eq_true] at k
    exact if_neg fun z => words_no_else (h := .set v e) (by simp [Head.ok, k.1, k.2.1]) z.2
  | read n v r =>
    simp only [areStatements, Bool.and_eq_true] at k
    exact e (.read v) _ k.1
  | write n a r =>
    simp only [areStatements, Bool.and_eq_true] at k
    exact e (.write a) _ k.1
  | halt_ n r => exact e .halt _ rfl
  | ite n c a b r =>
    simp only [areStatements, Bool.and_eq_true] at k
    exact e (.ite c) _ k.1
  | loop n c b r =>
    simp only [areStatements, Bool.and_eq_true] at k
    exact e (.loop c) _ k.1

theorem block_items : ∀ (c : Code) (d n f : Nat) (rest : List Row), areStatements c = true → Numbered n c → (itemsOf d c).length < f → Stops d rest →
    blockOf f d n (rowsAt d c ++ rest) = some ⟨c, n + (linesOf c).length, rest⟩
  | .done, d, n, f + 1, rest, _, _, _, hs => block_stop hs
  | _, _, _, 0, _, _, _, hf, _ => absurd hf (Nat.not_lt_zero _)
  | .set m v e r, d, n, f + 1, rest, k, hn, hf, hs => by
    simp only [areStatements, Bool.and_eq_true] at k
    obtain ⟨rfl, h2, h3⟩ := numbered_simple (r := r) (m := m) rfl hn
    have q : (itemsOf d r).length < f := by simpa [itemsOf] using hf
    show blockOf (f + 1) d m (itemRow (d, some (.set v e)) :: (rowsAt d r ++ rest)) = _
    rw [block_row (h := .set v e) (by simp [Head.ok, k.1, k.2.1])]
    dsimp only
    rw [block_items r d (m + 1) f rest k.2.2 h2 q hs, h3]
    rfl
  | .read m v r, d, n, f + 1, rest, k, hn, hf, hs => by
    simp only [areStatements, Bool.and_eq_true] at k
    obtain ⟨rfl, h2, h3⟩ := numbered_simple (r := r) (m := m) rfl hn
    have q : (itemsOf d r).length < f := by simpa [itemsOf] using hf
    show blockOf (f + 1) d m (itemRow (d, some (.read v)) :: (rowsAt d r ++ rest)) = _
    rw [block_row (h := .read v) k.1]
    dsimp only
    rw [block_items r d (m + 1) f rest k.2 h2 q hs, h3]
    rfl
  | .write m a r, d, n, f + 1, rest, k, hn, hf, hs => by
    simp only [areStatements, Bool.and_eq_true] at k
    obtain ⟨rfl, h2, h3⟩ := numbered_simple (r := r) (m := m) rfl hn
    have q : (itemsOf d r).length < f := by simpa [itemsOf] using hf
    show blockOf (f + 1) d m (itemRow (d, some (.write a)) :: (rowsAt d r ++ rest)) = _
    rw [block_row (h := .write a) k.1]
    dsimp only
    rw [block_items r d (m + 1) f rest k.2 h2 q hs, h3]
    rfl
  | .halt_ m r, d, n, f + 1, rest, k, hn, hf, hs => by
    obtain ⟨rfl, h2, h3⟩ := numbered_simple (r := r) (m := m) rfl hn
    have q : (itemsOf d r).length < f := by simpa [itemsOf] using hf
    show blockOf (f + 1) d m (itemRow (d, some .halt) :: (rowsAt d r ++ rest)) = _
    rw [block_row (h := .halt) rfl]
    dsimp only
    rw [block_items r d (m + 1) f rest k h2 q hs, h3]
    rfl
  | .loop m c b r, d, n, f + 1, rest, k, hn, hf, hs => by
    simp only [areStatements, Bool.and_eq_true] at k
    obtain ⟨k1, k2, k3, k4⟩ := k
    obtain ⟨rfl, h2, h3, h4⟩ := numbered_two (b := b) (r := r) (m := m) rfl hn
    have q : (itemsOf (d + 1) b).length < f ∧ (itemsOf d r).length < f := by
      simp only [itemsOf, List.length_cons, List.length_append] at hf
      omega
    have e : rowsAt d (.loop m c b r) ++ rest = itemRow (d, some (.loop c)) :: (rowsAt (d + 1) b ++ (rowsAt d r ++ rest)) := by
      simp [rowsAt, itemsOf]
    rw [e, block_row (h := .loop c) k1]
    dsimp only
    rw [block_items b (d + 1) (m + 1) f _ k3 h2 q.1 (stops_rows hs)]
    dsimp only [Option.bind_some]
    rw [block_items r d _ f rest k4 h3 q.2 hs, h4]
    rfl
  | .ite m c a b r, d, n, f + 1, rest, k, hn, hf, hs => by
    simp only [areStatements, Bool.and_eq_true] at k
    obtain ⟨k1, k2, k3, k4, k5⟩ := k
    obtain ⟨rfl, h2, h3, h4, h5⟩ := numbered_three (a := a) (b := b) (r := r) (m := m) rfl hn
    by_cases hb : isDone b = true
    · have eb : b = .done := by
        cases b with
        | done => rfl
        | _ => cases hb
      subst eb
      have q : (itemsOf (d + 1) a).length < f ∧ (itemsOf d r).length < f := by
        simp only [itemsOf, List.length_cons, List.length_append] at hf
        omega
      have e : rowsAt d (.ite m c a .done r) ++ rest = itemRow (d, some (.ite c)) :: (rowsAt (d + 1) a ++ (rowsAt d r ++ rest)) := by
        simp [rowsAt, itemsOf, isDone]
      rw [e, block_row (h := .ite c) k1]
      dsimp only
      rw [block_items a (d + 1) (m + 1) f _ k3 h2 q.1 (stops_rows hs)]
      dsimp only [Option.bind_some]
      rw [no_else k5 hs]
      dsimp only [Option.bind_some]
      have h4' : Numbered (m + 1 + (linesOf a).length) r := h4
      have h5' : m + (linesOf (Code.ite m c a .done r)).length = m + 1 + (linesOf a).length + (linesOf r).length := h5
      rw [block_items r d _ f rest k5 h4' q.2 hs, h5']
      rfl
    · have q : (itemsOf (d + 1) a).length < f ∧ (itemsOf (d + 1) b).length < f ∧ (itemsOf d r).length < f := by
        simp only [itemsOf, if_neg hb, List.length_cons, List.length_append] at hf
        omega
      have e : rowsAt d (.ite m c a b r) ++ rest = itemRow (d, some (.ite c)) :: (rowsAt (d + 1) a ++ (itemRow (d, none) :: (rowsAt (d + 1) b ++ (rowsAt d r ++ rest)))) := by
        simp [rowsAt, itemsOf, if_neg hb]
      rw [e, block_row (h := .ite c) k1]
      dsimp only
      rw [block_items a (d + 1) (m + 1) f _ k3 h2 q.1 (show Stops (d + 1) (itemRow (d, none) :: _) from Nat.lt_succ_self d)]
      dsimp only [Option.bind_some]
      have z : elseOf d (itemRow (d, none) :: (rowsAt (d + 1) b ++ (rowsAt d r ++ rest))) = some (rowsAt (d + 1) b ++ (rowsAt d r ++ rest)) := if_pos ⟨rfl, rfl⟩
      rw [z]
      dsimp only
      rw [block_items b (d + 1) _ f _ k4 h3 q.2.1 (stops_rows hs)]
      dsimp only [Option.bind_some]
      rw [block_items r d _ f rest k5 h4 q.2.2 hs, h5]
      rfl

theorem isDone_iff {c : Code} : isDone c = true ↔ c = .done := by
  cases c <;> simp [isDone]

theorem isProgram_iff {c : Code} : isProgram c = true ↔ areStatements c = true ∧ Numbered 0 c ∧ (linesOf c).length ≤ 14 ∧ deepOf c ≤ 3 := by
  unfold isProgram Numbered
  simp only [Bool.and_eq_true, beq_iff_eq, List.range_eq_range']
  exact ⟨fun ⟨a, b, c, d⟩ => ⟨a, b, of_decide_eq_true c, of_decide_eq_true d⟩, fun ⟨a, b, c, d⟩ => ⟨a, b, decide_eq_true c, decide_eq_true d⟩⟩

theorem programOf_some {t : Text} {c : Code} (h : programOf t = some c) : isProgram c = true ∧ programText c = t := by
  unfold programOf at h
  cases h1 : linesIn t with
  | none => rw [h1] at h; cases h
  | some ls =>
    rw [h1, Option.bind_some] at h
    cases h2 : blockOf (ls.length + 1) 0 0 (ls.map rowOf) with
    | none => rw [h2] at h; cases h
    | some g =>
      rw [h2, Option.bind_some] at h
      split at h
      · rename_i q
        cases Option.some.inj h
        simp only [Bool.and_eq_true, beq_iff_eq] at q
        exact ⟨q.2.1, q.2.2⟩
      · cases h

theorem programOf_of {c : Code} (h : isProgram c = true) : programOf (programText c) = some c := by
  obtain ⟨h1, h2, h3, h4⟩ := isProgram_iff.mp h
  have ok := items_ok c 0 h1
  have e : linesIn (programText c) = some ((itemsOf 0 c).map itemText) := by
    rw [programText_items]
    have z : (itemsOf 0 c).flatMap (fun x => line (itemText x)) = ((itemsOf 0 c).map itemText).flatMap line := by
      rw [List.flatMap_map]
    rw [z]
    refine linesIn_of fun w hw => ?_
    obtain ⟨x, hx, rfl⟩ := List.mem_map.mp hw
    exact text_no_end (ok x hx)
  unfold programOf
  rw [e, Option.bind_some]
  have e2 : ((itemsOf 0 c).map itemText).map rowOf = rowsAt 0 c ++ [] := by
    rw [List.append_nil]
    unfold rowsAt
    rw [List.map_map]
    exact List.map_congr_left fun x hx => rowOf_text (ok x hx)
  rw [e2, block_items c 0 0 _ [] h1 h2 (by simp) trivial, Option.bind_some]
  rw [if_pos (by simp [h])]

/-- a text is a program's just where it is what would be written -/
theorem programOf_iff {t : Text} {c : Code} : programOf t = some c ↔ isProgram c = true ∧ programText c = t :=
  ⟨programOf_some, fun ⟨a, b⟩ => by rw [← b]; exact programOf_of a⟩

end VO
set_option Elab.async false
namespace VO
open Vaslca

def app : Code → Code → Code
  | .done, y => y
  | .set n v e r, y => .set n v e (app r y)
  | .read n v r, y => .read n v (app r y)
  | .write n a r, y => .write n a (app r y)
  | .halt_ n r, y => .halt_ n (app r y)
  | .ite n c a b r, y => .ite n c a b (app r y)
  | .loop n c b r, y => .loop n c b (app r y)
theorem app_done : ∀ x : Code, app x .done = x
  | .done => rfl
  | .set n v e r => by rw [app, app_done r]
  | .read n v r => by rw [app, app_done r]
  | .write n a r => by rw [app, app_done r]
  | .halt_ n r => by rw [app, app_done r]
  | .ite n c a b r => by rw [app, app_done r]
  | .loop n c b r => by rw [app, app_done r]
theorem app_assoc : ∀ x y z : Code, app (app x y) z = app x (app y z)
  | .done, _, _ => rfl
  | .set n v e r, y, z => by simp only [app, app_assoc r y z]
  | .read n v r, y, z => by simp only [app, app_assoc r y z]
  | .write n a r, y, z => by simp only [app, app_assoc r y z]
  | .halt_ n r, y, z => by simp only [app, app_assoc r y z]
  | .ite n c a b r, y, z => by simp only [app, app_assoc r y z]
  | .loop n c b r, y, z => by simp only [app, app_assoc r y z]
theorem items_app (d : Nat) : ∀ x y : Code, itemsOf d (app x y) = itemsOf d x ++ itemsOf d y
  | .done, _ => rfl
  | .set n v e r, y => by simp only [app, itemsOf, items_app d r y, List.cons_append]
  | .read n v r, y => by simp only [app, itemsOf, items_app d r y, List.cons_append]
  | .write n a r, y => by simp only [app, itemsOf, items_app d r y, List.cons_append]
  | .halt_ n r, y => by simp only [app, itemsOf, items_app d r y, List.cons_append]
  | .ite n c a b r, y => by simp only [app, itemsOf, items_app d r y, List.cons_append, List.append_assoc]
  | .loop n c b r, y => by simp only [app, itemsOf, items_app d r y, List.cons_append, List.append_assoc]
theorem lines_app : ∀ x y : Code, linesOf (app x y) = linesOf x ++ linesOf y
  | .done, _ => rfl
  | .set n v e r, y => by simp only [app, linesOf, lines_app r y, List.cons_append]
  | .read n v r, y => by simp only [app, linesOf, lines_app r y, List.cons_append]
  | .write n a r, y => by simp only [app, linesOf, lines_app r y, List.cons_append]
  | .halt_ n r, y => by simp only [app, linesOf, lines_app r y, List.cons_append]
  | .ite n c a b r, y => by simp only [app, linesOf, lines_app r y, List.cons_append, List.append_assoc]
  | .loop n c b r, y => by simp only [app, linesOf, lines_app r y, List.cons_append, List.append_assoc]
theorem are_app : ∀ x y : Code, areStatements (app x y) = (areStatements x && areStatements y)
  | .done, _ => rfl
  | .set n v e r, y => by simp only [app, areStatements, are_app r y, Bool.and_assoc]
  | .read n v r, y => by simp only [app, areStatements, are_app r y, Bool.and_assoc]
  | .write n a r, y => by simp only [app, areStatements, are_app r y, Bool.and_assoc]
  | .halt_ n r, y => by simp only [app, areStatements, are_app r y]
  | .ite n c a b r, y => by simp only [app, areStatements, are_app r y, Bool.and_assoc]
  | .loop n c b r, y => by simp only [app, areStatements, are_app r y, Bool.and_assoc]
theorem deep_app : ∀ x y : Code, deepOf (app x y) = max (deepOf x) (deepOf y)
  | .done, y => by simp [app, deepOf]
  | .set n v e r, y => by simp only [app, deepOf, deep_app r y]
  | .read n v r, y => by simp only [app, deepOf, deep_app r y]
  | .write n a r, y => by simp only [app, deepOf, deep_app r y]
  | .halt_ n r, y => by simp only [app, deepOf, deep_app r y]
  | .ite n c a b r, y => by simp only [app, deepOf, deep_app r y, Nat.max_assoc]
  | .loop n c b r, y => by simp only [app, deepOf, deep_app r y, Nat.max_assoc]
theorem isDone_app : ∀ x y : Code, isDone (app x y) = (isDone x && isDone y)
  | .done, _ => rfl
  | .set .., _ => rfl
  | .read .., _ => rfl
  | .write .., _ => rfl
  | .halt_ .., _ => rfl
  | .ite .., _ => rfl
  | .loop .., _ => rfl

inductive Frame where
  | thn (p : Code) (n : Nat) (c : Cond)
  | els (p : Code) (n : Nat) (c : Cond) (a : Code)
  | whl (p : Code) (n : Nat) (c : Cond)
def Frame.wrap : Frame → Code → Code
  | .thn p n c, x => app p (.ite n c x .done .done)
  | .els p n c a, x => app p (.ite n c a x .done)
  | .whl p n c, x => app p (.loop n c x .done)
def close : List Frame → Code → Code
  | [], x => x
  | f :: fs, x => close fs (f.wrap x)
def unwind : Nat → List Frame → Code → List Frame × Code
  | 0, fs, x => (fs, x)
  | _ + 1, [], x => ([], x)
  | k + 1, f :: fs, x => unwind k fs (f.wrap x)
structure Z where
  frames : List Frame
  cur : Code
  num : Nat
def Z.awaits (z : Z) : Bool := !z.frames.isEmpty && isDone z.cur
def opened (fs : List Frame) (x : Code) (n : Nat) : Head → Z
  | .set v e => ⟨fs, app x (.set n v e .done), n + 1⟩
  | .read v => ⟨fs, app x (.read n v .done), n + 1⟩
  | .write a => ⟨fs, app x (.write n a .done), n + 1⟩
  | .halt => ⟨fs, app x (.halt_ n .done), n + 1⟩
  | .ite c => ⟨.thn x n c :: fs, .done, n + 1⟩
  | .loop c => ⟨.whl x n c :: fs, .done, n + 1⟩
def zadd (z : Z) (d : Nat) (h : Head) : Option Z :=
  if z.frames.length < d ∨ (z.awaits = true ∧ d < z.frames.length) then none
  else if 3 < d ∨ z.num = 14 then none
  else some (opened (unwind (z.frames.length - d) z.frames z.cur).1 (unwind (z.frames.length - d) z.frames z.cur).2 z.num h)
def zels (z : Z) (d : Nat) : Option Z :=
  if z.awaits = true ∨ z.frames.length ≤ d then none
  else match unwind (z.frames.length - (d + 1)) z.frames z.cur with
    | (.thn p n c :: fs, x) => some ⟨.els p n c x :: fs, .done, z.num⟩
    | _ => none
def zstep (z : Z) (x : Item) : Option Z := match x.2 with
  | some h => zadd z x.1 h
  | none => zels z x.1
def zrun : Z → List Item → Option Z
  | z, [] => some z
  | z, x :: r => (zstep z x).bind fun y => zrun y r
def z0 : Z := ⟨[], .done, 0⟩
def zend (z : Z) : Option Code := if z.awaits = true then none else some (close z.frames z.cur)
def zparse (l : List Item) : Option Code := (zrun z0 l).bind zend

theorem unwind_length : ∀ (k : Nat) (fs : List Frame) (x : Code), (unwind k fs x).1.length = fs.length - k
  | 0, _, _ => rfl
  | k + 1, [], _ => by simp [unwind]
  | k + 1, f :: fs, x => by
    show (unwind k fs (f.wrap x)).1.length = _
    rw [unwind_length k fs, List.length_cons]
    omega
theorem unwind_succ : ∀ (k : Nat) (fs : List Frame) (x : Code) {f : Frame} {gs : List Frame} {y : Code}, unwind k fs x = (f :: gs, y) → unwind (k + 1) fs x = (gs, f.wrap y)
  | 0, fs, x, f, gs, y, h => by
    have e : (fs, x) = (f :: gs, y) := h
    cases e
    rfl
  | k + 1, [], x, f, gs, y, h => by
    have e : (([] : List Frame), x) = (f :: gs, y) := h
    cases e
  | k + 1, g :: fs, x, f, gs, y, h => unwind_succ k fs (g.wrap x) h
theorem close_unwind : ∀ (k : Nat) (fs : List Frame) (x : Code), close (unwind k fs x).1 (unwind k fs x).2 = close fs x
  | 0, _, _ => rfl
  | _ + 1, [], _ => rfl
  | k + 1, f :: fs, x => close_unwind k fs (f.wrap x)

/-! soundness -/
def frameItems : List Frame → List Item
  | [] => []
  | .thn p _ c :: fs => frameItems fs ++ (itemsOf fs.length p ++ [(fs.length, some (.ite c))])
  | .els p _ c a :: fs => frameItems fs ++ (itemsOf fs.length p ++ ((fs.length, some (.ite c)) :: (itemsOf (fs.length + 1) a ++ [(fs.length, none)])))
  | .whl p _ c :: fs => frameItems fs ++ (itemsOf fs.length p ++ [(fs.length, some (.loop c))])
def frameLines : List Frame → List Nat
  | [] => []
  | .thn p n _ :: fs => frameLines fs ++ (linesOf p ++ [n])
  | .els p n _ a :: fs => frameLines fs ++ (linesOf p ++ (n :: linesOf a))
  | .whl p n _ :: fs => frameLines fs ++ (linesOf p ++ [n])
def Block (lvl : Nat) (x : Code) : Prop := areStatements x = true ∧ deepOf x + lvl ≤ 3
def FrameOk (lvl : Nat) : Frame → Prop
  | .thn p _ c => areStatements p = true ∧ (deepOf p + lvl ≤ 3 ∧ lvl ≤ 3) ∧ isCond c = true
  | .els p _ c a => areStatements p = true ∧ (deepOf p + lvl ≤ 3 ∧ lvl ≤ 3) ∧ isCond c = true ∧ areStatements a = true ∧ deepOf a + (lvl + 1) ≤ 3 ∧ isDone a = false
  | .whl p _ c => areStatements p = true ∧ (deepOf p + lvl ≤ 3 ∧ lvl ≤ 3) ∧ isCond c = true
def framesOk : List Frame → Prop
  | [] => True
  | f :: fs => FrameOk fs.length f ∧ framesOk fs
structure Inv (fs : List Frame) (x : Code) (items : List Item) (lines : List Nat) : Prop where
  items : frameItems fs ++ itemsOf fs.length x = items
  lines : frameLines fs ++ linesOf x = lines
  frames : framesOk fs
  are : areStatements x = true
  deep : isDone x = true ∨ deepOf x + fs.length ≤ 3

theorem inv_wrap {f : Frame} {fs : List Frame} {x : Code} {it : List Item} {ln : List Nat} (h : Inv (f :: fs) x it ln) (hx : isDone x = false) :
    Inv fs (f.wrap x) it ln ∧ isDone (f.wrap x) = false := by
  obtain ⟨h1, h2, ⟨h3, h3'⟩, h4, h5⟩ := h
  have h5' : deepOf x + (fs.length + 1) ≤ 3 := by
    rcases h5 with z | z
    · rw [hx] at z; cases z
    · exact z
  cases f with
  | thn p n c =>
    obtain ⟨a1, ⟨a2, a2'⟩, a3⟩ := h3
    refine ⟨⟨?_, ?_, h3', ?_, Or.inr ?_⟩, ?_⟩
    · rw [← h1]
      simp only [Frame.wrap, items_app, itemsOf, frameItems, List.length_cons, isDone, if_true, List.append_assoc, List.nil_append, List.append_nil, List.cons_append]
    · rw [← h2]
      simp only [Frame.wrap, lines_app, linesOf, frameLines, List.append_assoc, List.append_nil, List.cons_append, List.nil_append]
    · simp only [Frame.wrap, are_app, areStatements, a1, a3, h4, hx, Bool.not_false, Bool.and_true]
    · simp only [Frame.wrap, deep_app, deepOf]
      omega
    · show isDone (app p _) = false
      rw [isDone_app]
      exact Bool.and_false _
  | els p n c a =>
    obtain ⟨a1, ⟨a2, a2'⟩, a3, a4, a5, a6⟩ := h3
    refine ⟨⟨?_, ?_, h3', ?_, Or.inr ?_⟩, ?_⟩
    · rw [← h1]
      simp [Frame.wrap, items_app, itemsOf, frameItems, hx]
    · rw [← h2]
      simp only [Frame.wrap, lines_app, linesOf, frameLines, List.append_assoc, List.append_nil, List.cons_append]
    · simp only [Frame.wrap, are_app, areStatements, a1, a3, a4, a6, h4, Bool.not_false, Bool.and_true]
    · simp only [Frame.wrap, deep_app, deepOf]
      omega
    · show isDone (app p _) = false
      rw [isDone_app]
      exact Bool.and_false _
  | whl p n c =>
    obtain ⟨a1, ⟨a2, a2'⟩, a3⟩ := h3
    refine ⟨⟨?_, ?_, h3', ?_, Or.inr ?_⟩, ?_⟩
    · rw [← h1]
      simp only [Frame.wrap, items_app, itemsOf, frameItems, List.length_cons, List.append_assoc, List.append_nil, List.cons_append, List.nil_append]
    · rw [← h2]
      simp only [Frame.wrap, lines_app, linesOf, frameLines, List.append_assoc, List.append_nil, List.cons_append, List.nil_append]
    · simp only [Frame.wrap, are_app, areStatements, a1, a3, h4, hx, Bool.not_false, Bool.and_true]
    · simp only [Frame.wrap, deep_app, deepOf]
      omega
    · show isDone (app p _) = false
      rw [isDone_app]
      exact Bool.and_false _

theorem inv_unwind {it : List Item} {ln : List Nat} : ∀ (k : Nat) (fs : List Frame) (x : Code), Inv fs x it ln → (k = 0 ∨ fs = [] ∨ isDone x = false) →
    Inv (unwind k fs x).1 (unwind k fs x).2 it ln ∧ (isDone x = false → isDone (unwind k fs x).2 = false)
  | 0, _, _, h, _ => ⟨h, id⟩
  | _ + 1, [], _, h, _ => ⟨h, id⟩
  | k + 1, f :: fs, x, h, hx => by
    have hx' : isDone x = false := by
      rcases hx with z | z | z
      · cases z
      · cases z
      · exact z
    obtain ⟨a, b⟩ := inv_wrap h hx'
    obtain ⟨p, q⟩ := inv_unwind k fs (f.wrap x) a (Or.inr (Or.inr b))
    exact ⟨p, fun _ => q b⟩

structure ZInv (z : Z) (items : List Item) : Prop where
  inv : Inv z.frames z.cur items (List.range' 0 z.num)
  num : z.num ≤ 14

theorem range_more (n : Nat) : List.range' 0 (n + 1) = List.range' 0 n ++ [n] := by
  rw [← List.range'_append_1]
  simp

theorem zstep_inv {z z' : Z} {items : List Item} {x : Item} (h : ZInv z items) (hx : itemOk x = true) (e : zstep z x = some z') : ZInv z' (items ++ [x]) := by
  obtain ⟨d, o⟩ := x
  obtain ⟨hi, hn⟩ := h
  cases o with
  | none =>
    have e' : zels z d = some z' := e
    unfold zels at e'
    split at e'
    · cases e'
    · rename_i q
      have q1 : z.awaits = false := by
        cases w : z.awaits with
        | false => rfl
        | true => exact absurd (Or.inl w) q
      have q2 : d < z.frames.length := by
        rcases Nat.lt_or_ge d z.frames.length with w | w
        · exact w
        · exact absurd (Or.inr w) q
      have q3 : z.frames = [] ∨ isDone z.cur = false := by
        unfold Z.awaits at q1
        cases e1 : z.frames with
        | nil => exact Or.inl rfl
        | cons a b =>
          rw [e1] at q1
          right
          simpa using q1
      obtain ⟨v1, v2⟩ := inv_unwind (z.frames.length - (d + 1)) _ _ hi (Or.inr q3)
      have v3 := unwind_length (z.frames.length - (d + 1)) z.frames z.cur
      have q4 : isDone z.cur = false := by
        rcases q3 with w | w
        · rw [w] at q2; exact absurd q2 (Nat.not_lt_zero _)
        · exact w
      split at e'
      · rename_i p n c fs y ev
        rw [ev] at v1 v2 v3
        have v3' : fs.length = d := by
          have v4 : fs.length + 1 = z.frames.length - (z.frames.length - (d + 1)) := v3
          omega
        have e2 : (⟨.els p n c y :: fs, .done, z.num⟩ : Z) = z' := Option.some.inj e'
        subst e2
        have w := v2 q4
        obtain ⟨i1, i2, ⟨i3, i3'⟩, i4, i5⟩ := v1
        obtain ⟨a1, ⟨a2, a2'⟩, a3⟩ := i3
        refine ⟨⟨?_, ?_, ⟨⟨a1, ⟨a2, a2'⟩, a3, i4, ?_, w⟩, i3'⟩, rfl, Or.inl rfl⟩, hn⟩
        · rw [← i1]
          subst v3'
          simp [frameItems, itemsOf]
        · rw [← i2]
          simp [frameLines, linesOf]
        · rcases i5 with u | u
          · rw [w] at u; cases u
          · exact u
      · cases e'
  | some hd =>
    have e' : zadd z d hd = some z' := e
    have hk : hd.ok = true := hx
    unfold zadd at e'
    split at e'
    · cases e'
    · rename_i q
      split at e'
      · cases e'
      · rename_i q'
        have g1 : d ≤ z.frames.length := by
          rcases Nat.lt_or_ge z.frames.length d with w | w
          · exact absurd (Or.inl w) q
          · exact w
        have g2 : d ≤ 3 := by
          rcases Nat.lt_or_ge 3 d with w | w
          · exact absurd (Or.inl w) q'
          · exact w
        have g3 : z.num + 1 ≤ 14 := by
          have : z.num ≠ 14 := fun w => q' (Or.inr w)
          omega
        have g4 : z.frames.length - d = 0 ∨ z.frames = [] ∨ isDone z.cur = false := by
          rcases Nat.lt_or_ge d z.frames.length with w | w
          · right
            unfold Z.awaits at q
            cases e1 : z.frames with
            | nil => exact Or.inl rfl
            | cons a b =>
              right
              cases e2 : isDone z.cur with
              | false => rfl
              | true =>
                rw [e1] at q
                exact absurd (Or.inr ⟨by simp [e2], by rw [← e1]; exact w⟩) q
          · left; omega
        obtain ⟨v1, v2⟩ := inv_unwind (z.frames.length - d) _ _ hi g4
        have v3 := unwind_length (z.frames.length - d) z.frames z.cur
        have e2 := Option.some.inj e'
        subst e2
        generalize unwind (z.frames.length - d) z.frames z.cur = uu at v1 v2 v3
        obtain ⟨fs, y⟩ := uu
        have v3' : fs.length = d := by
          have v4 : fs.length = z.frames.length - (z.frames.length - d) := v3
          omega
        subst v3'
        obtain ⟨i1, i2, i3, i4, i5⟩ := v1
        dsimp only at i1 i2 i3 i4 i5
        have i5' : deepOf y + fs.length ≤ 3 := by
          rcases i5 with u | u
          · rw [isDone_iff.mp u]
            simpa [deepOf] using g2
          · exact u
        cases hd with
        | set v e =>
          simp only [Head.ok, Bool.and_eq_true] at hk
          refine ⟨⟨?_, ?_, i3, ?_, Or.inr ?_⟩, g3⟩
          · rw [← i1]; simp [opened, items_app, itemsOf]
          · show _ = List.range' 0 (z.num + 1)
            rw [range_more, ← i2]; simp [opened, lines_app, linesOf]
          · simp [opened, are_app, areStatements, i4, hk.1, hk.2]
          · simpa [opened, deep_app, deepOf] using i5'
        | read v =>
          have hk' : isName v = true := hk
          refine ⟨⟨?_, ?_, i3, ?_, Or.inr ?_⟩, g3⟩
          · rw [← i1]; simp [opened, items_app, itemsOf]
          · show _ = List.range' 0 (z.num + 1)
            rw [range_more, ← i2]; simp [opened, lines_app, linesOf]
          · simp [opened, are_app, areStatements, i4, hk']
          · simpa [opened, deep_app, deepOf] using i5'
        | write a =>
          have hk' : isAtom a = true := hk
          refine ⟨⟨?_, ?_, i3, ?_, Or.inr ?_⟩, g3⟩
          · rw [← i1]; simp [opened, items_app, itemsOf]
          · show _ = List.range' 0 (z.num + 1)
            rw [range_more, ← i2]; simp [opened, lines_app, linesOf]
          · simp [opened, are_app, areStatements, i4, hk']
          · simpa [opened, deep_app, deepOf] using i5'
        | halt =>
          refine ⟨⟨?_, ?_, i3, ?_, Or.inr ?_⟩, g3⟩
          · rw [← i1]; simp [opened, items_app, itemsOf]
          · show _ = List.range' 0 (z.num + 1)
            rw [range_more, ← i2]; simp [opened, lines_app, linesOf]
          · simp [opened, are_app, areStatements, i4]
          · simpa [opened, deep_app, deepOf] using i5'
        | ite c =>
          refine ⟨⟨?_, ?_, ⟨⟨i4, ⟨i5', g2⟩, hk⟩, i3⟩, rfl, Or.inl rfl⟩, g3⟩
          · rw [← i1]; simp [opened, frameItems, itemsOf]
          · show _ = List.range' 0 (z.num + 1)
            rw [range_more, ← i2]; simp [opened, frameLines, linesOf]
        | loop c =>
          refine ⟨⟨?_, ?_, ⟨⟨i4, ⟨i5', g2⟩, hk⟩, i3⟩, rfl, Or.inl rfl⟩, g3⟩
          · rw [← i1]; simp [opened, frameItems, itemsOf]
          · show _ = List.range' 0 (z.num + 1)
            rw [range_more, ← i2]; simp [opened, frameLines, linesOf]

theorem zrun_inv : ∀ {l : List Item} {z z' : Z} {items : List Item}, ZInv z items → (∀ x ∈ l, itemOk x = true) → zrun z l = some z' → ZInv z' (items ++ l)
  | [], z, z', items, h, _, e => by
    cases Option.some.inj e
    rw [List.append_nil]
    exact h
  | x :: r, z, z', items, h, hx, e => by
    have e' : (zstep z x).bind (fun y => zrun y r) = some z' := e
    cases e1 : zstep z x with
    | none => rw [e1] at e'; cases e'
    | some y =>
      rw [e1] at e'
      have q := zrun_inv (zstep_inv h (hx x (by simp)) e1) (fun u hu => hx u (by simp [hu])) e'
      rw [List.append_assoc] at q
      exact q

theorem zinv0 : ZInv z0 [] := ⟨⟨rfl, rfl, trivial, rfl, Or.inl rfl⟩, by decide⟩

theorem unwind_all : ∀ (fs : List Frame) (x : Code), unwind fs.length fs x = ([], close fs x)
  | [], _ => rfl
  | f :: fs, x => unwind_all fs (f.wrap x)

theorem zparse_sound {l : List Item} {c : Code} (hx : ∀ x ∈ l, itemOk x = true) (h : zparse l = some c) : isProgram c = true ∧ itemsOf 0 c = l := by
  unfold zparse at h
  cases e1 : zrun z0 l with
  | none => rw [e1] at h; cases h
  | some z =>
    rw [e1] at h
    have q := zrun_inv zinv0 hx e1
    have h' : zend z = some c := h
    unfold zend at h'
    split at h'
    · cases h'
    · rename_i w
      have e2 := Option.some.inj h'
      have w2 : z.frames = [] ∨ isDone z.cur = false := by
        unfold Z.awaits at w
        cases e3 : z.frames with
        | nil => exact Or.inl rfl
        | cons a b =>
          right
          rw [e3] at w
          simpa using w
      obtain ⟨v1, _⟩ := inv_unwind z.frames.length z.frames z.cur q.inv (Or.inr w2)
      rw [unwind_all, e2] at v1
      obtain ⟨i1, i2, _, i4, i5⟩ := v1
      have i2' : linesOf c = List.range' 0 z.num := i2
      refine ⟨isProgram_iff.mpr ⟨i4, ?_, ?_, ?_⟩, i1⟩
      · unfold Numbered
        rw [i2']
        simp
      · rw [i2']
        simpa using q.num
      · rcases i5 with u | u
        · have u' : isDone c = true := u
          rw [isDone_iff.mp u']; decide
        · exact u

/-! completeness -/
def U (z : Z) (fs : List Frame) (x : Code) : Prop := ∃ k, z.frames.length = fs.length + k ∧ unwind k z.frames z.cur = (fs, x) ∧ (k = 0 ∨ z.awaits = false)

theorem u_now (fs : List Frame) (x : Code) (n : Nat) : U ⟨fs, x, n⟩ fs x := ⟨0, rfl, rfl, Or.inl rfl⟩
theorem u_up {z : Z} {f : Frame} {fs : List Frame} {x : Code} (h : U z (f :: fs) x) (w : z.awaits = false) : U z fs (f.wrap x) := by
  obtain ⟨k, a, b, _⟩ := h
  refine ⟨k + 1, ?_, unwind_succ k _ _ b, Or.inr w⟩
  rw [a, List.length_cons]
  omega
theorem awaits_app {fs : List Frame} {x y : Code} {n : Nat} (h : isDone y = false) : (Z.mk fs (app x y) n).awaits = false := by
  simp [Z.awaits, isDone_app, h]

theorem zadd_u {z : Z} {fs : List Frame} {x : Code} (h : U z fs x) (hd : fs.length ≤ 3) (hn : z.num < 14) (k : Head) : zadd z fs.length k = some (opened fs x z.num k) := by
  obtain ⟨j, a, b, c⟩ := h
  unfold zadd
  rw [if_neg, if_neg, show z.frames.length - fs.length = j by omega, b]
  · omega
  · rintro (w | ⟨w, w2⟩)
    · omega
    · rcases c with u | u
      · omega
      · rw [u] at w; cases w

theorem run_items : ∀ (c : Code) (z : Z) (fs : List Frame) (x : Code), U z fs x → areStatements c = true → Numbered z.num c → z.num + (linesOf c).length ≤ 14 → (isDone c = false → deepOf c + fs.length ≤ 3) → ∀ rest : List Item,
    ∃ z', zrun z (itemsOf fs.length c ++ rest) = zrun z' rest ∧ U z' fs (app x c) ∧ z'.num = z.num + (linesOf c).length ∧ (isDone c = true → z' = z) ∧ (isDone c = false → z'.awaits = false)
  | .done, z, fs, x, hu, _, _, _, _, rest => ⟨z, rfl, by rw [app_done]; exact hu, rfl, fun _ => rfl, fun h => by cases h⟩
  | .set m v e r, z, fs, x, hu, k, hn, hl, hd, rest => by
    simp only [areStatements, Bool.and_eq_true] at k
    obtain ⟨rfl, h2, h3⟩ := numbered_simple (r := r) (m := m) rfl hn
    have hd' := hd rfl
    simp only [deepOf] at hd'
    have s := zadd_u hu (by omega) (by omega) (.set v e)
    obtain ⟨z', q1, q2, q3, q4, q5⟩ := run_items r (opened fs x z.num (.set v e)) fs _ (u_now _ _ _) k.2.2 h2 (by show z.num + 1 + _ ≤ 14; omega) (fun _ => hd') rest
    refine ⟨z', ?_, ?_, by rw [q3, h3]; rfl, fun h => (by cases h), fun _ => ?_⟩
    · show (zadd z fs.length (.set v e)).bind _ = _
      rw [s]
      exact q1
    · rw [app_assoc] at q2
      exact q2
    · cases hr : isDone r with
      | true => rw [q4 hr]; exact awaits_app rfl
      | false => exact q5 hr
  | .read m v r, z, fs, x, hu, k, hn, hl, hd, rest => by
    simp only [areStatements, Bool.and_eq_true] at k
    obtain ⟨rfl, h2, h3⟩ := numbered_simple (r := r) (m := m) rfl hn
    have hd' := hd rfl
    simp only [deepOf] at hd'
    have s := zadd_u hu (by omega) (by omega) (.read v)
    obtain ⟨z', q1, q2, q3, q4, q5⟩ := run_items r (opened fs x z.num (.read v)) fs _ (u_now _ _ _) k.2 h2 (by show z.num + 1 + _ ≤ 14; omega) (fun _ => hd') rest
    refine ⟨z', ?_, ?_, by rw [q3, h3]; rfl, fun h => (by cases h), fun _ => ?_⟩
    · show (zadd z fs.length (.read v)).bind _ = _
      rw [s]
      exact q1
    · rw [app_assoc] at q2
      exact q2
    · cases hr : isDone r with
      | true => rw [q4 hr]; exact awaits_app rfl
      | false => exact q5 hr
  | .write m a r, z, fs, x, hu, k, hn, hl, hd, rest => by
    simp only [areStatements, Bool.and_eq_true] at k
    obtain ⟨rfl, h2, h3⟩ := numbered_simple (r := r) (m := m) rfl hn
    have hd' := hd rfl
    simp only [deepOf] at hd'
    have s := zadd_u hu (by omega) (by omega) (.write a)
    obtain ⟨z', q1, q2, q3, q4, q5⟩ := run_items r (opened fs x z.num (.write a)) fs _ (u_now _ _ _) k.2 h2 (by show z.num + 1 + _ ≤ 14; omega) (fun _ => hd') rest
    refine ⟨z', ?_, ?_, by rw [q3, h3]; rfl, fun h => (by cases h), fun _ => ?_⟩
    · show (zadd z fs.length (.write a)).bind _ = _
      rw [s]
      exact q1
    · rw [app_assoc] at q2
      exact q2
    · cases hr : isDone r with
      | true => rw [q4 hr]; exact awaits_app rfl
      | false => exact q5 hr
  | .halt_ m r, z, fs, x, hu, k, hn, hl, hd, rest => by
    obtain ⟨rfl, h2, h3⟩ := numbered_simple (r := r) (m := m) rfl hn
    have hd' := hd rfl
    simp only [deepOf] at hd'
    have s := zadd_u hu (by omega) (by omega) .halt
    obtain ⟨z', q1, q2, q3, q4, q5⟩ := run_items r (opened fs x z.num .halt) fs _ (u_now _ _ _) k h2 (by show z.num + 1 + _ ≤ 14; omega) (fun _ => hd') rest
    refine ⟨z', ?_, ?_, by rw [q3, h3]; rfl, fun h => (by cases h), fun _ => ?_⟩
    · show (zadd z fs.length .halt).bind _ = _
      rw [s]
      exact q1
    · rw [app_assoc] at q2
      exact q2
    · cases hr : isDone r with
      | true => rw [q4 hr]; exact awaits_app rfl
      | false => exact q5 hr
  | .loop m c b r, z, fs, x, hu, k, hn, hl, hd, rest => by
    simp only [areStatements, Bool.and_eq_true, Bool.not_eq_true'] at k
    obtain ⟨k1, k2, k3, k4⟩ := k
    obtain ⟨rfl, h2, h3, h4⟩ := numbered_two (b := b) (r := r) (m := m) rfl hn
    have hd' := hd rfl
    simp only [deepOf] at hd'
    have s := zadd_u hu (by omega) (by omega) (.loop c)
    obtain ⟨z2, p1, p2, p3, p4, p5⟩ := run_items b (opened fs x z.num (.loop c)) (.whl x z.num c :: fs) .done (u_now _ _ _) k3 h2 (by show z.num + 1 + _ ≤ 14; omega) (fun _ => by rw [List.length_cons]; omega) (itemsOf fs.length r ++ rest)
    have p2' := u_up p2 (p5 k2)
    have p3' : z2.num = z.num + 1 + (linesOf b).length := p3
    obtain ⟨z', q1, q2, q3, q4, q5⟩ := run_items r z2 fs _ p2' k4 (by rw [p3']; exact h3) (by rw [p3']; omega) (fun _ => by omega) rest
    refine ⟨z', ?_, ?_, by rw [q3, p3', h4], fun h => (by cases h), fun _ => ?_⟩
    · have e : itemsOf fs.length (.loop z.num c b r) ++ rest = (fs.length, some (.loop c)) :: (itemsOf (fs.length + 1) b ++ (itemsOf fs.length r ++ rest)) := by
        simp [itemsOf]
      rw [e]
      show (zadd z fs.length (.loop c)).bind _ = _
      rw [s]
      exact p1.trans q1
    · simp only [Frame.wrap, app_assoc] at q2
      exact q2
    · cases hr : isDone r with
      | true => rw [q4 hr]; exact p5 k2
      | false => exact q5 hr
  | .ite m c a b r, z, fs, x, hu, k, hn, hl, hd, rest => by
    simp only [areStatements, Bool.and_eq_true, Bool.not_eq_true'] at k
    obtain ⟨k1, k2, k3, k4, k5⟩ := k
    obtain ⟨rfl, h2, h3, h4, h5⟩ := numbered_three (a := a) (b := b) (r := r) (m := m) rfl hn
    have hd' := hd rfl
    simp only [deepOf] at hd'
    have s := zadd_u hu (by omega) (by omega) (.ite c)
    have na : z.num + 1 + (linesOf a).length ≤ 14 := by omega
    have da : deepOf a + (fs.length + 1) ≤ 3 := by omega
    have db : deepOf b + (fs.length + 1) ≤ 3 := by omega
    have dr : deepOf r + fs.length ≤ 3 := by omega
    by_cases hb : isDone b = true
    · have eb := isDone_iff.mp hb
      subst eb
      obtain ⟨z2, p1, p2, p3, p4, p5⟩ := run_items a (opened fs x z.num (.ite c)) (.thn x z.num c :: fs) .done (u_now _ _ _) k3 h2 na (fun _ => da) (itemsOf fs.length r ++ rest)
      have p2' := u_up p2 (p5 k2)
      have p3' : z2.num = z.num + 1 + (linesOf a).length := p3
      have h4' : Numbered (z.num + 1 + (linesOf a).length) r := h4
      have h5' : z.num + (linesOf (Code.ite z.num c a .done r)).length = z.num + 1 + (linesOf a).length + (linesOf r).length := h5
      obtain ⟨z', q1, q2, q3, q4, q5⟩ := run_items r z2 fs _ p2' k5 (by rw [p3']; exact h4') (by rw [p3']; omega) (fun _ => dr) rest
      refine ⟨z', ?_, ?_, by rw [q3, p3', h5'], fun h => (by cases h), fun _ => ?_⟩
      · have e : itemsOf fs.length (.ite z.num c a .done r) ++ rest = (fs.length, some (.ite c)) :: (itemsOf (fs.length + 1) a ++ (itemsOf fs.length r ++ rest)) := by
          simp [itemsOf, isDone]
        rw [e]
        show (zadd z fs.length (.ite c)).bind _ = _
        rw [s]
        exact p1.trans q1
      · simp only [Frame.wrap, app_assoc] at q2
        exact q2
      · cases hr : isDone r with
        | true => rw [q4 hr]; exact p5 k2
        | false => exact q5 hr
    · have hb' : isDone b = false := by simpa using hb
      obtain ⟨z2, p1, p2, p3, p4, p5⟩ := run_items a (opened fs x z.num (.ite c)) (.thn x z.num c :: fs) .done (u_now _ _ _) k3 h2 na (fun _ => da) ((fs.length, none) :: (itemsOf (fs.length + 1) b ++ (itemsOf fs.length r ++ rest)))
      have p3' : z2.num = z.num + 1 + (linesOf a).length := p3
      have w2 := p5 k2
      obtain ⟨j, u1, u2, _⟩ := p2
      have s2 : zels z2 fs.length = some ⟨.els x z.num c a :: fs, .done, z2.num⟩ := by
        unfold zels
        have u1' : z2.frames.length = fs.length + 1 + j := u1
        rw [if_neg, show z2.frames.length - (fs.length + 1) = j by omega, u2]
        · rfl
        · rintro (w | w)
          · rw [w2] at w; cases w
          · omega
      obtain ⟨z4, t1, t2, t3, t4, t5⟩ := run_items b ⟨.els x z.num c a :: fs, .done, z2.num⟩ (.els x z.num c a :: fs) .done (u_now _ _ _) k4 (by show Numbered z2.num b; rw [p3']; exact h3) (by show z2.num + _ ≤ 14; rw [p3']; omega) (fun _ => db) (itemsOf fs.length r ++ rest)
      have t2' := u_up t2 (t5 hb')
      have t3' : z4.num = z.num + 1 + (linesOf a).length + (linesOf b).length := by rw [t3]; show z2.num + _ = _; rw [p3']
      obtain ⟨z', q1, q2, q3, q4, q5⟩ := run_items r z4 fs _ t2' k5 (by rw [t3']; exact h4) (by rw [t3']; omega) (fun _ => dr) rest
      refine ⟨z', ?_, ?_, by rw [q3, t3', h5], fun h => (by cases h), fun _ => ?_⟩
      · have e : itemsOf fs.length (.ite z.num c a b r) ++ rest = (fs.length, some (.ite c)) :: (itemsOf (fs.length + 1) a ++ ((fs.length, none) :: (itemsOf (fs.length + 1) b ++ (itemsOf fs.length r ++ rest)))) := by
          simp [itemsOf, hb']
        rw [e]
        show (zadd z fs.length (.ite c)).bind _ = _
        rw [s]
        refine p1.trans ?_
        show (zels z2 fs.length).bind _ = _
        rw [s2]
        exact t1.trans q1
      · simp only [Frame.wrap, app_assoc] at q2
        exact q2
      · cases hr : isDone r with
        | true => rw [q4 hr]; exact t5 hb'
        | false => exact q5 hr

theorem zparse_complete {c : Code} (h : isProgram c = true) : zparse (itemsOf 0 c) = some c := by
  obtain ⟨h1, h2, h3, h4⟩ := isProgram_iff.mp h
  obtain ⟨z', q1, q2, q3, q4, q5⟩ := run_items c z0 [] .done (u_now _ _ _) h1 h2 (by show 0 + _ ≤ 14; omega) (fun _ => h4) []
  unfold zparse
  have e : zrun z0 (itemsOf 0 c) = some z' := by
    have : itemsOf 0 c = itemsOf ([] : List Frame).length c ++ [] := by simp
    rw [this]
    exact q1
  rw [e]
  obtain ⟨k, a, b, _⟩ := q2
  have a' : z'.frames.length = k := by simpa using a
  subst a'
  rw [unwind_all] at b
  have b' : close z'.frames z'.cur = c := (Prod.mk.inj b).2
  show zend z' = some c
  unfold zend
  rw [b', if_neg]
  cases hc : isDone c with
  | true => rw [q4 hc]; decide
  | false => rw [q5 hc]; decide

theorem zparse_iff {l : List Item} {c : Code} (hx : ∀ x ∈ l, itemOk x = true) : zparse l = some c ↔ isProgram c = true ∧ itemsOf 0 c = l :=
  ⟨zparse_sound hx, fun ⟨a, b⟩ => by rw [← b]; exact zparse_complete a⟩

/-- all rows read, then the machine: just the specification's reading -/
def readItems : List Text → Option (List Item)
  | [] => some []
  | t :: r => (itemOf t).bind fun x => (readItems r).map (x :: ·)
theorem readItems_some : ∀ {ls : List Text} {l : List Item}, readItems ls = some l → (∀ x ∈ l, itemOk x = true) ∧ l.map itemText = ls
  | [], l, h => by
    cases Option.some.inj h
    exact ⟨fun x hx => (by simp at hx), rfl⟩
  | t :: r, l, h => by
    have h' : (itemOf t).bind (fun x => (readItems r).map (x :: ·)) = some l := h
    cases e1 : itemOf t with
    | none => rw [e1] at h'; cases h'
    | some x =>
      cases e2 : readItems r with
      | none => rw [e1, e2] at h'; cases h'
      | some l' =>
        rw [e1, e2] at h'
        cases Option.some.inj h'
        obtain ⟨a, b⟩ := readItems_some e2
        obtain ⟨p, q⟩ := itemOf_some e1
        refine ⟨fun y hy => ?_, by rw [List.map_cons, q, b]⟩
        rcases List.mem_cons.mp hy with w | w
        · rw [w]; exact p
        · exact a y w
theorem readItems_of : ∀ {l : List Item}, (∀ x ∈ l, itemOk x = true) → readItems (l.map itemText) = some l
  | [], _ => rfl
  | x :: r, h => by
    show (itemOf (itemText x)).bind (fun y => (readItems (r.map itemText)).map (y :: ·)) = _
    rw [itemOf_text (h x (by simp)), readItems_of (fun y hy => h y (by simp [hy]))]
    rfl
theorem programOf_machine (t : Text) : programOf t = (linesIn t).bind fun ls => (readItems ls).bind zparse := by
  have key : ∀ c, ((linesIn t).bind fun ls => (readItems ls).bind zparse) = some c ↔ programOf t = some c := by
    intro c
    rw [programOf_iff]
    constructor
    · intro h
      cases e1 : linesIn t with
      | none => rw [e1] at h; cases h
      | some ls =>
        rw [e1, Option.bind_some] at h
        cases e2 : readItems ls with
        | none => rw [e2] at h; cases h
        | some l =>
          rw [e2, Option.bind_some] at h
          obtain ⟨a, b⟩ := readItems_some e2
          obtain ⟨p, q⟩ := (zparse_iff a).mp h
          refine ⟨p, ?_⟩
          rw [programText_items, q, (linesIn_some e1).1, ← b, List.flatMap_map]
    · rintro ⟨p, rfl⟩
      have h1 := (isProgram_iff.mp p).1
      have ok := items_ok c 0 h1
      have e : linesIn (programText c) = some ((itemsOf 0 c).map itemText) := by
        rw [programText_items]
        have z : (itemsOf 0 c).flatMap (fun x => line (itemText x)) = ((itemsOf 0 c).map itemText).flatMap line := by
          rw [List.flatMap_map]
        rw [z]
        refine linesIn_of fun w hw => ?_
        obtain ⟨x, hx, rfl⟩ := List.mem_map.mp hw
        exact text_no_end (ok x hx)
      rw [e, Option.bind_some, readItems_of ok, Option.bind_some, zparse_complete p]
  cases h : programOf t with
  | some c => exact ((key c).mpr h).symm
  | none =>
    cases h2 : ((linesIn t).bind fun ls => (readItems ls).bind zparse) with
    | none => rfl
    | some c =>
      rw [(key c).mp h2] at h
      cases h

end VO
set_option Elab.async false
set_option maxRecDepth 100000
namespace VP
open PySem PySem.Spec PyProof.Rows L2 TL
open Vaslca (Text cutAt gluedBy ascii isName isSmall isDigit numberOf decimal)

/-- a text of the specification as Python's -/
def S (t : Text) : Str := ⟨(t.map UInt8.toNat).toArray⟩
theorem tl_S (t : Text) : tl (S t) = t.map UInt8.toNat := rfl
theorem len_S (t : Text) : (S t).length = t.length := by
  rw [len_tl, tl_S, List.length_map]
theorem map_toNat_inj : ∀ {a b : Text}, a.map UInt8.toNat = b.map UInt8.toNat → a = b
  | [], [], _ => rfl
  | [], _ :: _, h => by simp at h
  | _ :: _, [], h => by simp at h
  | x :: a, y :: b, h => by
    simp only [List.map_cons, List.cons.injEq] at h
    rw [UInt8.toNat_inj.mp h.1, map_toNat_inj h.2]
theorem S_inj {a b : Text} (h : S a = S b) : a = b := map_toNat_inj (by rw [← tl_S, ← tl_S, h])
theorem S_eq {a b : Text} : S a = S b ↔ a = b := ⟨S_inj, fun h => by rw [h]⟩
theorem mem_S {b : UInt8} {t : Text} : b.toNat ∈ tl (S t) ↔ b ∈ t := by
  rw [tl_S, List.mem_map]
  constructor
  · rintro ⟨a, h, e⟩
    rw [← UInt8.toNat_inj.mp e]
    exact h
  · intro h
    exact ⟨b, h, rfl⟩

theorem joinL_glued (c : UInt8) : ∀ ws : List Text, joinL [c.toNat] (ws.map (fun w => w.map UInt8.toNat)) = (gluedBy [c] ws).map UInt8.toNat
  | [] => rfl
  | [w] => rfl
  | w :: u :: r => by
    have ih := joinL_glued c (u :: r)
    rw [VO.glued_cons, List.map_append, List.map_append, ← ih]
    rfl
theorem join_S (c : UInt8) (ws : List Text) : Txt.join (S [c]) (ws.map S) = S (gluedBy [c] ws) := by
  refine ext_tl ?_
  rw [join_eq, tl_join, tl_S, tl_S, ← joinL_glued, List.map_map]
  rfl
theorem split_S (c : UInt8) (hc : c.toNat < 256) (t : Text) : Txt.split (S t) (S [c]) = (cutAt c t).map S := by
  have e : S t = Txt.join (S [c]) ((cutAt c t).map S) := by rw [join_S, VO.glued_cut]
  rw [e]
  have z : (cutAt c (gluedBy [c] (cutAt c t))) = cutAt c t := by rw [VO.glued_cut]
  refine split_join (s := c.toNat) (S := []) rfl ?_ ?_ ?_
  · show ([c.toNat].toArray).all (· < 256) = true
    simp [hc]
  · intro h
    exact VO.cutAt_ne c t (List.map_eq_nil_iff.mp h)
  · intro p hp
    obtain ⟨w, hw, rfl⟩ := List.mem_map.mp hp
    rw [mem_S]
    exact VO.cut_mem w hw

theorem takeWhile_map (t : Text) : ((t.map UInt8.toNat).takeWhile (S [32]).cps.contains).length = VO.blanks t := by
  unfold VO.blanks
  induction t with
  | nil => rfl
  | cons b r ih =>
    rw [List.map_cons]
    have e : (S [32]).cps.contains b.toNat = (b == 32) := by
      show ([32].toArray).contains b.toNat = (b == 32)
      rw [List.contains_toArray]
      by_cases h : b = 32
      · subst h; rfl
      · have : b.toNat ≠ 32 := fun q => h (UInt8.toNat_inj.mp (q.trans (by decide : (32 : Nat) = (32 : UInt8).toNat)))
        simp [h, this]
    by_cases h : (b == 32) = true
    · rw [List.takeWhile_cons_of_pos (by rw [e]; exact h), List.takeWhile_cons_of_pos (p := fun b => b == 32) h, List.length_cons, List.length_cons, ih]
    · rw [List.takeWhile_cons_of_neg (by rw [e]; exact h), List.takeWhile_cons_of_neg (p := fun b => b == 32) h]
      rfl
theorem lstrip_S (t : Text) : Txt.lstripChars (S t) (S [32]) = S (t.drop (VO.blanks t)) := by
  unfold Txt.lstripChars
  rw [PyProof.Rows.stripBy_eq]
  refine ext_tl ?_
  have e : stripLo (S [32]).cps.contains true (S t) = VO.blanks t := takeWhile_map t
  have e2 : stripHi (S [32]).cps.contains false (S t) (VO.blanks t) = (S t).length := rfl
  rw [e, e2, tl_strSub_end, tl_S, tl_S, List.map_drop]

theorem isDigit_ascii : ∀ n : Fin 128, Unicode.isDigit n.val = (decide (48 ≤ n.val) && decide (n.val ≤ 57)) := by decide +kernel
theorem isDigit_S {b : UInt8} (h : b.toNat < 128) : Unicode.isDigit b.toNat = isDigit b := by
  rw [isDigit_ascii ⟨b.toNat, h⟩]
  rfl
/-- only ASCII in it -/
def Low (t : Text) : Prop := ∀ b ∈ t, b.toNat < 128
theorem digits_S {t : Text} (h : Low t) : Txt.isdigit (S t) = (!t.isEmpty && t.all isDigit) := by
  unfold Txt.isdigit
  rw [len_S]
  have e : (S t).cps.all Unicode.isDigit = t.all isDigit := by
    show ((t.map UInt8.toNat).toArray).all Unicode.isDigit = t.all isDigit
    rw [List.all_toArray']
    · rw [List.all_map]
      rw [Bool.eq_iff_iff, List.all_eq_true, List.all_eq_true]
      exact ⟨fun q x hx => by rw [← isDigit_S (h x hx)]; exact q x hx, fun q x hx => by show Unicode.isDigit x.toNat = true; rw [isDigit_S (h x hx)]; exact q x hx⟩
    · simp
  rw [e]
  cases t <;> simp

theorem S_app (a b : Text) : S (a ++ b) = S a ++ S b := ext_tl (by rw [tl_append, tl_S, tl_S, tl_S, List.map_append])
theorem ends_one (b : UInt8) : Txt.endswith (S [b]) (S [58]) = decide (b = 58) := by
  have e : Txt.endswith (S [b]) (S [58]) = (#[b.toNat] == #[58]) := rfl
  rw [e]
  by_cases h : b = 58
  · subst h; rfl
  · have q : b.toNat ≠ 58 := fun q => h (UInt8.toNat_inj.mp (q.trans (by decide : (58 : Nat) = (58 : UInt8).toNat)))
    simp [h, q]
theorem ends_S (t : Text) : Txt.endswith (S t) (S [58]) = decide (t.getLast? = some 58) := by
  rcases List.eq_nil_or_concat t with h | ⟨r, b, h⟩
  · subst h; rfl
  · rw [h, List.concat_eq_append, S_app, PySem.W.KAf.ends_right (by rw [len_S, len_S]; exact Nat.le_refl _), ends_one]
    simp

theorem cut_last (t : Text) : cutS (S t) none (some (-1)) = S t.dropLast := by
  refine ext_tl ?_
  show ((t.map UInt8.toNat).drop 0).take (((-1 : Int) + ((S t).length : Int)).toNat - 0) = (t.dropLast).map UInt8.toNat
  rw [len_S, List.drop_zero, List.dropLast_eq_take, List.map_take]
  congr 1
  omega
theorem int_S : ∀ n : Fin 100, intText? (S (decimal n.val)) = some (n.val : Int) := by decide +kernel
end VP
set_option Elab.async false
set_option linter.all false
set_option maxRecDepth 100000
set_option maxHeartbeats 4000000
/-! max of a list, with what stands for an empty one -/
namespace PySem
section
variable {G : Program} {u : World} {A : Around} {Z : Result → Shared → Prop} {it S : Addr} {fp wr : List Addr} {n : Nat} {F0 : Nat → Value → Prop} {St : Nat → Heap → Prop} {bt : Nat → Nat → Bool} {d : Value}
/-- what lies in the loop's list: nothing, or the best one so far, twice -/
def Best (bt : Nat → Nat → Bool) (F0 : Nat → Value → Prop) (j : Nat) (cur : Array Value) : Prop := (j = 0 ∧ cur = #[]) ∨ ∃ v, cur = #[v, v] ∧ 0 < j ∧ F0 (argBest bt (j - 1)) v
/-- what comes out -/
def BestOut (bt : Nat → Nat → Bool) (F0 : Nat → Value → Prop) (n : Nat) (d v : Value) : Prop := (n = 0 ∧ v = d) ∨ (0 < n ∧ F0 (argBest bt (n - 1)) v)
theorem max_roundD (W : Walks G u A.in1 it fp wr n F0 St) (hc : CmpOf G u A.in1 .Gt F0 bt) (nS : S ∉ fp) : ∀ (k j : Nat), n - j = k → j ≤ n → ∀ (s : Shared) (cur : Array Value) (e : Nat), St j s.heap → Best bt F0 j cur → s.heap.get? S = some ⟨.type "list", none, .seq cur e, #[]⟩ →
    (∀ v h' tk, BestOut bt F0 n d v → (∀ b o, b ∉ wr → b ≠ S → s.heap.get? b = some o → h'.get? b = some o) → Z (.ok (.ret v)) { s with heap := h', toks := tk }) →
    codeAny (model G u) A (.builtin "max.loop" ⟨[.ref it, .none, .ref S], [(Str.ofString "default", d)]⟩) Z s := by
  have wS : S ∉ wr := fun m => nS (W.sub _ m)
  have nm : (toString "max" ++ toString ".loop" : String) = "max.loop" := by decide
  intro k
  induction k with
  | zero =>
    intro j hk hj s cur e st hb hS fin
    have ej : j = n := by omega
    subst ej
    apply codeAny_builtin F.entry_max_loop
    rw [show A.under (.builtin "max.loop" ⟨[.ref it, .none, .ref S], [(Str.ofString "default", d)]⟩) = A.in1 from Around.under_plainId F.plain_max_loop _]
    apply wpAny_bind
    apply wpAny_seqItems hS rfl
    apply wpAny_bind
    apply wpAny_tryCatch
    apply W.done s _ _ st
    intro h' tk kept
    have hS' := kept S _ wS hS
    rcases hb with ⟨j0, rfl⟩ | ⟨v, rfl, j1, hv⟩
    · apply wpAny_bind
      apply wpAny_rule
      exact wpAny_pure (fin d _ tk (Or.inl ⟨j0, rfl⟩) fun b o h1 _ => kept b o h1)
    · apply wpAny_bind
      apply wpAny_updateSeq hS' rfl
      apply wpAny_bind
      apply wpAny_letGo
      exact wpAny_pure (fin v _ tk (Or.inr ⟨j1, hv⟩) fun b o h1 h2 q => (Heap.get?_update_other _ _ h2.symm).trans (kept b o h1 q))
  | succ k ih =>
    intro j hk hj s cur e st hb hS fin
    apply codeAny_builtin F.entry_max_loop
    rw [show A.under (.builtin "max.loop" ⟨[.ref it, .none, .ref S], [(Str.ofString "default", d)]⟩) = A.in1 from Around.under_plainId F.plain_max_loop _]
    apply wpAny_bind
    apply wpAny_seqItems hS rfl
    apply wpAny_bind
    apply wpAny_tryCatch
    apply W.item j s _ _ (by omega) st
    intro v h' tk hv st' kept
    have hS' := kept S _ wS hS
    have other : ∀ (x : Addr), x ∈ fp → S ≠ x := fun x hx z => nS (z ▸ hx)
    rcases hb with ⟨j0, rfl⟩ | ⟨b0, rfl, j1, hb0⟩
    · subst j0
      show wpAny _ _ (updateSeq S (fun _ => #[v, v]) >>= fun _ => _) _ _ _
      apply wpAny_bind
      apply wpAny_updateSeq hS' rfl
      rw [nm]
      refine wpAny_pure ⟨plainId_quiet F.plain_max_loop _, ih 1 (by omega) (by omega) _ #[v, v] _ (W.frame _ _ _ st' fun b hbf o q => ?_) (Or.inr ⟨v, rfl, Nat.one_pos, hv⟩) (Heap.get?_update_self _ hS' rfl) fun v2 h2 tk2 out kept2 => ?_⟩
      · exact (Heap.get?_update_other _ _ (other b hbf)).trans q
      · exact fin v2 h2 tk2 out fun b o h1 h2 q => kept2 b o h1 h2 ((Heap.get?_update_other _ _ h2.symm).trans (kept b o h1 q))
    · obtain ⟨i, rfl⟩ : ∃ i, j = i + 1 := ⟨j - 1, by omega⟩
      show wpAny _ _ (tryCatch (holding [v, v] (richCompare .Gt v b0 >>= fun _ => _)) _ >>= fun _ => _) _ _ _
      apply wpAny_bind
      apply wpAny_tryCatch
      apply wpAny_holding
      apply wpAny_bind
      apply hc (i + 1) (argBest bt i) v b0 _ _ _ hv hb0
      apply wpAny_bind
      apply wpAny_holding
      apply wpAny_truthy_bool
      apply wpAny_bind
      apply wpAny_letGo
      apply wpAny_pure
      cases q : bt (i + 1) (argBest bt i) with
      | true =>
        simp only [if_true]
        apply wpAny_bind
        apply wpAny_updateSeq hS' rfl
        apply wpAny_bind
        apply wpAny_letGo
        rw [nm]
        refine wpAny_pure ⟨plainId_quiet F.plain_max_loop _, ih (i + 2) (by omega) (by omega) _ #[v, v] _ (W.frame _ _ _ st' fun b hbf o q => ?_) (Or.inr ⟨v, rfl, by omega, by show F0 (argBest bt (i + 1)) v; rw [argBest, q]; exact hv⟩) (Heap.get?_update_self _ hS' rfl) fun v2 h2 tk2 out kept2 => ?_⟩
        · exact (Heap.get?_update_other _ _ (other b hbf)).trans q
        · exact fin v2 h2 tk2 out fun b o h1 h2 q => kept2 b o h1 h2 ((Heap.get?_update_other _ _ h2.symm).trans (kept b o h1 q))
      | false =>
        simp only [Bool.false_eq_true, if_false]
        apply wpAny_bind
        apply wpAny_letGo
        rw [nm]
        refine wpAny_pure ⟨plainId_quiet F.plain_max_loop _, ih (i + 2) (by omega) (by omega) _ #[b0, b0] e st' (Or.inr ⟨b0, rfl, by omega, by show F0 (argBest bt (i + 1)) b0; rw [argBest, q]; exact hb0⟩) hS' fun v2 h2 tk2 out kept2 => ?_⟩
        exact fin v2 h2 tk2 out fun b o h1 h2 q => kept2 b o h1 h2 (kept b o h1 q)
end
theorem F.args_maxD (x y : Value) : argsOk "max" ⟨[x], [(Str.ofString "default", y)]⟩ := by unfold argsOk; kernel_rfl
section
variable {G : Program} {u : World} {A : Around} {E : Value → Shared → Prop} {s : Shared} {l : Addr} {its : List Value} {ns : List Int} {d : Value} {Q : Value → Shared → Prop}
theorem max_listD (hh : A.handled = none) (hl : s.heap.IsList l its.toArray) (hi : PyProof.Rows.IntsAre its ns)
    (fin : ∀ h' tk v, (∀ b o, s.heap.get? b = some o → h'.get? b = some o) → ((ns = [] ∧ v = d) ∨ ∃ m t, v = .int m t ∧ m ∈ ns ∧ ∀ y, y ∈ ns → y ≤ m) → Q v { s with heap := h', toks := tk }) : wpAny (model G u) A (call (.builtin "max") [.ref l] [(Str.ofString "default", d)]) Q E s := by
  obtain ⟨xs, e⟩ := hi.allInts.items
  have hn : numsOf (intItems xs).toList = ns := by rw [← e]; exact hi.numsOf
  rw [nums_intItems] at hn
  subst hn
  rw [e] at hl
  refine wpAny_call (codeAny_call_builtin F.plain_max F.entry_max ?_)
  simp only [checkBuiltinCall, F.kind_max]
  have ck := F.args_maxD (.ref l) d
  cases hsig : Manifest.signature? "max" with
  | none =>
    rw [show Manifest.signature? "max" = _ from rfl] at hsig
    cases hsig
  | some sig =>
    simp only [argsOk, hsig] at ck
    dsimp only
    rw [ck]
    apply wpAny_pure
    show wpAny _ A.in1 (Builtin.Builtins.bindParams "max" ["key", "default"] 0 ⟨[], [(Str.ofString "default", d)]⟩ >>= fun _ => _) _ _ s
    apply wpAny_bind
    apply wpAny_of_eq (show Builtin.Builtins.bindParams "max" ["key", "default"] 0 ⟨[], [(Str.ofString "default", d)]⟩ = pure [none, some d] by rfl)
    dsimp only [Option.getD_none, Option.toList_some, List.map_cons, List.map_nil]
    rw [show (toString "max" ++ toString ".loop" : String) = "max.loop" by decide]
    apply wpAny_bind
    apply wpAny_pure
    apply wpAny_bind
    apply iter_intList hl
    intro s2 e2 st small nl
    subst e2
    apply wpAny_bind
    refine wpAny_newObj_type ?_
    refine wpAny_pure ⟨plainId_quiet F.plain_max_loop _, ?_⟩
    have big : ∀ b o, s.heap.get? b = some o → b < s.heap.objs.size := fun b o q => Heap.lt_size q
    refine max_roundD (W := Walks.list (A := A.in1) hh s.heap.objs.size l nl (intItems xs)) (bt := fun i j => decide (numAt xs i > numAt xs j)) (CmpOf.ints_gt (numAt xs) fun _ _ => intItems_at) (fun m => absurd (small _ m) (Nat.lt_irrefl _)) _ 0 rfl (Nat.zero_le _) _ #[] 0 ?_ (Or.inl ⟨rfl, rfl⟩) (Heap.get?_push_size _ rfl) ?_
    · exact ⟨st.1.at fun o q => Heap.get?_push_of_some _ q, st.2.push _⟩
    · intro v h' tk out kept
      refine fin h' tk v (fun b o q => kept b o (fun m => ?_) ?_ ?_) ?_
      · have lt := big b o q
        rcases List.mem_cons.mp m with z | z
        · rw [z] at lt
          exact Nat.lt_irrefl _ lt
        · cases z
      · have lt := big b o q
        intro z
        rw [z] at lt
        simp only [Heap.size_push] at lt
        exact Nat.not_succ_le_self _ (Nat.le_of_succ_le lt)
      · exact Heap.get?_push_of_some _ (Heap.get?_push_of_some _ q)
      · have sz : (intItems xs).size = xs.size := by simp [intItems]
        rcases out with ⟨n0, rfl⟩ | ⟨n1, hv⟩
        · left
          rw [sz] at n0
          exact ⟨by simp [Array.eq_empty_of_size_eq_zero n0], rfl⟩
        · right
          rw [sz] at n1 hv
          obtain ⟨t, rfl⟩ := intItems_at hv
          obtain ⟨b1, b2⟩ := argBest_gt (numAt xs) (xs.size - 1)
          have len : (xs.toList.map (·.1)).length = xs.size := by simp
          have at_ : ∀ i, i < xs.size → numAt xs i ∈ xs.toList.map (·.1) := fun i hi => by
            unfold numAt
            rw [Array.getElem?_eq_getElem hi]
            exact List.mem_map.mpr ⟨xs[i], by simp, rfl⟩
          refine ⟨_, t, rfl, at_ _ (by omega), fun y hy => ?_⟩
          obtain ⟨p, hp, rfl⟩ := List.mem_map.mp hy
          obtain ⟨i, hi, rfl⟩ := List.getElem_of_mem hp
          simp at hi
          have := b2 i (by omega)
          have e3 : numAt xs i = (xs.toList[i]).1 := by
            unfold numAt
            rw [Array.getElem?_eq_getElem hi]
            simp
          rw [e3] at this
          exact this
end
end PySem
namespace L2
open PySem PySem.Spec PyProof.Rows
def rMaxD (K : PySem.W.Frag) : List V → List V → Hp → VK → Prop := fun xs zs H Q => ∃ (a : Addr) (ns : List Int) (d : Int), xs = [.ref a] ∧ zs = [.int d] ∧ SqL K H a (ns.map V.int) ∧ ∀ m : Int, ((ns = [] ∧ m = d) ∨ (m ∈ ns ∧ ∀ y, y ∈ ns → y ≤ m)) → Q (.int m) H
theorem cr_maxD {X : Cx} (hc : X.calm = true) : CallRK X (.builtin "max") [Str.ofString "default"] (rMaxD X.K) := by
  intro pins s σ H xs zs us ws Q I r1 r2 h
  obtain ⟨a, ns, d, rfl, rfl, hs, q⟩ := h
  obtain ⟨its, rv, hl, _⟩ := I.list hs
  rw [Vals.ref1 r1]
  obtain ⟨t, rfl⟩ : ∃ t, ws = [Value.int d t] := by
    cases r2 with
    | cons r t =>
      cases t
      obtain ⟨t, rfl⟩ := r
      exact ⟨t, rfl⟩
  refine max_listD (I.ok.hd hc) hl.isList rv.ints fun h' tk v hk out => ?_
  rcases out with ⟨z, rfl⟩ | ⟨m, t2, rfl, hm, hle⟩
  · exact ⟨.int d, H, I.kept hk, ⟨_, rfl⟩, q d (Or.inl ⟨z, rfl⟩)⟩
  · exact ⟨.int m, H, I.kept hk, ⟨_, rfl⟩, q m (Or.inr ⟨hm, hle⟩)⟩
end L2
set_option Elab.async false
set_option maxRecDepth 100000
set_option maxHeartbeats 2000000
namespace VP
open PySem PySem.Spec PyProof.Rows L2 TL
open Vaslca (Text Name cutAt gluedBy ascii isName isSmall isDigit numberOf decimal)
/-! words that the layer lacks -/
section
variable {X : Cx} {C : Addr} {bmB : List Value} {B newId initId : String}
theorem pe_gi {x : Str} {p : Pos} {n : Int} {t : Tok} (hg : Gl X x) (hm : X.mg x = some (.int n t)) (hdb : (x == ("__debug__" : Str)) = false := by decide) : PE X (.Name x p) (tC (.int n)) := pe_glob hg hm ⟨_, rfl⟩ hdb
theorem pe_gs {x : Str} {p : Pos} {n : Str} {t : Tok} (hg : Gl X x) (hm : X.mg x = some (.str n t)) (hdb : (x == ("__debug__" : Str)) = false := by decide) : PE X (.Name x p) (tC (.str n)) := pe_glob hg hm ⟨_, rfl⟩ hdb
theorem pe_ga {x : Str} {p : Pos} {n : Addr} (hg : Gl X x) (hm : X.mg x = some (.ref n)) (hdb : (x == ("__debug__" : Str)) = false := by decide) : PE X (.Name x p) (tC (.ref n)) := pe_glob hg hm rfl hdb
theorem pe_fldB {K2 : PySem.W.Frag} {e : Expr} {f : Str} {pos : Pos} {ta : TE} (hK : X.K = K2) (ha : PE X e ta) (hb : attributeBase e f X.env (eval e X.env) = eval e X.env) : PE X (.Attribute e f pos) (tFld K2 ta f) := by
  subst hK
  exact pe_fld ha hb
theorem ix_listB {K2 : PySem.W.Frag} (hK : X.K = K2) : IxR X (rIxL K2) := by
  subst hK
  exact ix_list
theorem call_len_seqB {K2 : PySem.W.Frag} (hK : X.K = K2) : CallR X (.builtin "len") (Evl.rLenS K2) := by
  subst hK
  exact call_len_seq
/-- a text, so many times -/
theorem op_mul_str : OpR X (binaryOp .Mult) (fun x y H Q => ∃ i n, x = .str i ∧ y = .int n ∧ MulOk i n ∧ Q (.str (Txt.mul i n)) H) := by
  intro pins s σ H x y v u Q I rx ry h
  obtain ⟨i, n, rfl, rfl, hz, q⟩ := h
  obtain ⟨t, rfl⟩ := rx
  obtain ⟨t', rfl⟩ := ry
  exact SB.mul hz (fun t' tk => ⟨.str (Txt.mul i n), H, I.tok _, ⟨_, rfl⟩, q⟩)
/-- X(), X an own exception class without own __init__ -/
theorem pmk_own0 {x : Str} {p pos : Pos} (F : ExcBaseFacts B newId initId bmB) (q : PySem.W.excIn X.K C bmB newId = true) (gC : X.mg x = some (.ref C)) (kC : PySem.W.keepIn X.K (.ref C) = true) (r : Raises X (.ref C)) (hg : Gl X x)
    (hdb : (x == ("__debug__" : Str)) = false := by decide) : PMk X (.Call (.Name x p) [] [] pos) (fun _ H Q => Q (.ref C) none H) := by
  intro pins s σ H Q I h
  refine wpAny_Call_Name_kw (ld_glob I hg gC ?_ hdb)
  refine PySem.W.callWith_K0 I.kIn kC ?_
  show wpAny _ _ (call (.ref C) []) _ _ _
  obtain ⟨bm, N, nm, qn, bs, hdct, sn, sub, ab, col, dd, k0, k1, k2, k3, k5, mN, hC, hN, hni, T⟩ := exc_obj I.kIn q
  refine wpAny_call_exc_subT F T hC hN hni (fun h' e hm => ?_) (Nat.zero_le _)
  exact mk_of I hm r h (I.hok.gone hm.new)
end
def top (i : Nat) : Stmt := PySem.Challenge.pw_valueoriginsdesk_s01_answers.main.body.getD i (.Pass ⟨0, 0, 0, 0⟩)
abbrev st_Statement_init : Stmt := inClass (top 20) 0
abbrev st_is_number : Stmt := top 21
abbrev st_is_name : Stmt := top 22
abbrev st_is_atom : Stmt := top 23
abbrev st_names_among : Stmt := top 24
abbrev st_is_header : Stmt := top 25
abbrev st_read_statement : Stmt := top 26
abbrev st_read_header : Stmt := top 27
abbrev st_read_assignment : Stmt := top 28
abbrev st_check_atoms : Stmt := top 29
abbrev st_Program_init : Stmt := inClass (top 36) 0
abbrev st_Program_all_lines : Stmt := inClass (top 36) 1
abbrev st_Program_depth : Stmt := inClass (top 36) 2
abbrev st_Program_text_alone : Stmt := inClass (top 36) 3
abbrev st_Program_rows_alone : Stmt := inClass (top 36) 4
abbrev st_BlockBuilder_init : Stmt := inClass (top 37) 0
abbrev st_BlockBuilder_add_statement : Stmt := inClass (top 37) 1
abbrev st_BlockBuilder_add_else : Stmt := inClass (top 37) 2
abbrev st_read_program : Stmt := top 38
abbrev st_rows_of : Stmt := top 39
abbrev st_bytes_of : Stmt := top 40
abbrev st_Step_init : Stmt := inClass (top 47) 0
abbrev st_Run_init : Stmt := inClass (top 48) 0
abbrev st_Run_do_block : Stmt := inClass (top 48) 1
abbrev st_Run_do_line : Stmt := inClass (top 48) 2
abbrev st_Run_do_rounds : Stmt := inClass (top 48) 3
abbrev st_Run_make_step : Stmt := inClass (top 48) 4
abbrev st_Run_note_effects : Stmt := inClass (top 48) 5
abbrev st_Run_test_around : Stmt := inClass (top 48) 6
abbrev st_Run_origins_of : Stmt := inClass (top 48) 7
abbrev st_Run_uses_of : Stmt := inClass (top 48) 8
abbrev st_Run_take_value : Stmt := inClass (top 48) 9
abbrev st_Run_number_of : Stmt := inClass (top 48) 10
abbrev st_Run_output : Stmt := inClass (top 48) 11
abbrev st_Run_row_at : Stmt := inClass (top 48) 12
abbrev st_reckon : Stmt := top 49
abbrev st_run_lines : Stmt := top 50
abbrev st_Desk_init : Stmt := inClass (top 54) 0
abbrev st_Desk_take_program : Stmt := inClass (top 54) 1
abbrev st_Desk_tell_text : Stmt := inClass (top 54) 2
abbrev st_Desk_take_numbers : Stmt := inClass (top 54) 3
abbrev st_Desk_tell_account : Stmt := inClass (top 54) 4
abbrev st_Desk_tell_row : Stmt := inClass (top 54) 5
abbrev st_Desk_tell_trace : Stmt := inClass (top 54) 6
abbrev st_Desk_tell_step : Stmt := inClass (top 54) 7
abbrev st_Desk_tell_statement : Stmt := inClass (top 54) 8
abbrev st_Desk_tell_text_alone : Stmt := inClass (top 54) 9
abbrev st_Desk_tell_account_alone : Stmt := inClass (top 54) 10
abbrev st_Desk_tell_same : Stmt := inClass (top 54) 11
abbrev st_Desk_tell_size : Stmt := inClass (top 54) 12
abbrev st_Desk_check_line : Stmt := inClass (top 54) 13
abbrev st_Desk_check_lines : Stmt := inClass (top 54) 14
abbrev st_Desk_make_run : Stmt := inClass (top 54) 15
abbrev st_Desk_make_run_alone : Stmt := inClass (top 54) 16
abbrev st_account_of : Stmt := top 55
abbrev st_traced : Stmt := top 56
abbrev st_counted : Stmt := top 57
abbrev st_counted_text : Stmt := top 58
abbrev st_counted_texts : Stmt := top 59
abbrev st_first_difference : Stmt := top 60
abbrev st_CallReader_init : Stmt := inClass (top 75) 0
abbrev st_CallReader_has_more : Stmt := inClass (top 75) 1
abbrev st_CallReader_take_number : Stmt := inClass (top 75) 2
abbrev st_CallReader_take_row : Stmt := inClass (top 75) 3
abbrev st_answers : Stmt := top 76
abbrev st_answer_or_refusal : Stmt := top 77
abbrev st_answer_next : Stmt := top 78
/-- where things stand -/
structure Ad where
  C_Statement : Addr
  C_Program : Addr
  C_BlockBuilder : Addr
  C_Step : Addr
  C_Run : Addr
  C_Desk : Addr
  C_CallReader : Addr
  C_NotAProgram : Addr
  C_NotAnInput : Addr
  C_NoSuchStep : Addr
  C_NoSuchLine : Addr
  C_NotSomeLines : Addr
  C_UnknownCall : Addr
  f_Statement_init : Addr
  d_Statement_init : FuncData
  f_is_number : Addr
  d_is_number : FuncData
  f_is_name : Addr
  d_is_name : FuncData
  f_is_atom : Addr
  d_is_atom : FuncData
  f_names_among : Addr
  d_names_among : FuncData
  f_is_header : Addr
  d_is_header : FuncData
  f_read_statement : Addr
  d_read_statement : FuncData
  f_read_header : Addr
  d_read_header : FuncData
  f_read_assignment : Addr
  d_read_assignment : FuncData
  f_check_atoms : Addr
  d_check_atoms : FuncData
  f_Program_init : Addr
  d_Program_init : FuncData
  f_Program_all_lines : Addr
  d_Program_all_lines : FuncData
  f_Program_depth : Addr
  d_Program_depth : FuncData
  f_Program_text_alone : Addr
  d_Program_text_alone : FuncData
  f_Program_rows_alone : Addr
  d_Program_rows_alone : FuncData
  f_BlockBuilder_init : Addr
  d_BlockBuilder_init : FuncData
  f_BlockBuilder_add_statement : Addr
  d_BlockBuilder_add_statement : FuncData
  f_BlockBuilder_add_else : Addr
  d_BlockBuilder_add_else : FuncData
  f_read_program : Addr
  d_read_program : FuncData
  f_rows_of : Addr
  d_rows_of : FuncData
  f_bytes_of : Addr
  d_bytes_of : FuncData
  f_Step_init : Addr
  d_Step_init : FuncData
  f_Run_init : Addr
  d_Run_init : FuncData
  f_Run_do_block : Addr
  d_Run_do_block : FuncData
  f_Run_do_line : Addr
  d_Run_do_line : FuncData
  f_Run_do_rounds : Addr
  d_Run_do_rounds : FuncData
  f_Run_make_step : Addr
  d_Run_make_step : FuncData
  f_Run_note_effects : Addr
  d_Run_note_effects : FuncData
  f_Run_test_around : Addr
  d_Run_test_around : FuncData
  f_Run_origins_of : Addr
  d_Run_origins_of : FuncData
  f_Run_uses_of : Addr
  d_Run_uses_of : FuncData
  f_Run_take_value : Addr
  d_Run_take_value : FuncData
  f_Run_number_of : Addr
  d_Run_number_of : FuncData
  f_Run_output : Addr
  d_Run_output : FuncData
  f_Run_row_at : Addr
  d_Run_row_at : FuncData
  f_reckon : Addr
  d_reckon : FuncData
  f_run_lines : Addr
  d_run_lines : FuncData
  f_Desk_init : Addr
  d_Desk_init : FuncData
  f_Desk_take_program : Addr
  d_Desk_take_program : FuncData
  f_Desk_tell_text : Addr
  d_Desk_tell_text : FuncData
  f_Desk_take_numbers : Addr
  d_Desk_take_numbers : FuncData
  f_Desk_tell_account : Addr
  d_Desk_tell_account : FuncData
  f_Desk_tell_row : Addr
  d_Desk_tell_row : FuncData
  f_Desk_tell_trace : Addr
  d_Desk_tell_trace : FuncData
  f_Desk_tell_step : Addr
  d_Desk_tell_step : FuncData
  f_Desk_tell_statement : Addr
  d_Desk_tell_statement : FuncData
  f_Desk_tell_text_alone : Addr
  d_Desk_tell_text_alone : FuncData
  f_Desk_tell_account_alone : Addr
  d_Desk_tell_account_alone : FuncData
  f_Desk_tell_same : Addr
  d_Desk_tell_same : FuncData
  f_Desk_tell_size : Addr
  d_Desk_tell_size : FuncData
  f_Desk_check_line : Addr
  d_Desk_check_line : FuncData
  f_Desk_check_lines : Addr
  d_Desk_check_lines : FuncData
  f_Desk_make_run : Addr
  d_Desk_make_run : FuncData
  f_Desk_make_run_alone : Addr
  d_Desk_make_run_alone : FuncData
  f_account_of : Addr
  d_account_of : FuncData
  f_traced : Addr
  d_traced : FuncData
  f_counted : Addr
  d_counted : FuncData
  f_counted_text : Addr
  d_counted_text : FuncData
  f_counted_texts : Addr
  d_counted_texts : FuncData
  f_first_difference : Addr
  d_first_difference : FuncData
  f_CallReader_init : Addr
  d_CallReader_init : FuncData
  f_CallReader_has_more : Addr
  d_CallReader_has_more : FuncData
  f_CallReader_take_number : Addr
  d_CallReader_take_number : FuncData
  f_CallReader_take_row : Addr
  d_CallReader_take_row : FuncData
  f_answers : Addr
  d_answers : FuncData
  f_answer_or_refusal : Addr
  d_answer_or_refusal : FuncData
  f_answer_next : Addr
  d_answer_next : FuncData
  t_HEADER_WORDS : Addr
  t_NO_NAMES : Addr
  t_OPERATORS : Addr
  t_RELATIONS : Addr
structure ExcF (K : PySem.W.Frag) (mg : Str → Option Value) (x : Str) (C : Addr) : Prop where
  g : mg x = some (.ref C)
  x : PySem.W.excIn K C [.type "Exception", .type "BaseException", .type "object"] "Exception.__new__" = true
  k : PySem.W.keepIn K (.ref C) = true
  b : PySem.W.subIn K (.ref C) (.type "BaseException") = some true
  t : PySem.W.typeIn K (.ref C) = some (.type "type")
  i : PySem.W.isClsIn K C = true
structure Facts (K : PySem.W.Frag) (mg : Str → Option Value) (a : Ad) : Prop where
  b_all : mg "all" = none
  b_int : mg "int" = none
  b_len : mg "len" = none
  b_list : mg "list" = none
  b_max : mg "max" = none
  b_ord : mg "ord" = none
  b_range : mg "range" = none
  b_zip : mg "zip" = none
  c_ASSIGNMENT : ∃ t, mg "ASSIGNMENT" = some (.int 1 t)
  c_READ : ∃ t, mg "READ" = some (.int 2 t)
  c_WRITE : ∃ t, mg "WRITE" = some (.int 3 t)
  c_STOP : ∃ t, mg "STOP" = some (.int 4 t)
  c_IF : ∃ t, mg "IF" = some (.int 5 t)
  c_WHILE : ∃ t, mg "WHILE" = some (.int 6 t)
  t_HEADER_WORDS : mg "HEADER_WORDS" = some (.ref a.t_HEADER_WORDS)
  s_HEADER_WORDS : ∀ H, SqT K H a.t_HEADER_WORDS [.str "if", .str "while"]
  c_LETTERS : ∃ t, mg "LETTERS" = some (.str "abcdefghijklmnopqrstuvwxyz" t)
  c_LONGEST_NAME : ∃ t, mg "LONGEST_NAME" = some (.int 4 t)
  t_NO_NAMES : mg "NO_NAMES" = some (.ref a.t_NO_NAMES)
  s_NO_NAMES : ∀ H, SqT K H a.t_NO_NAMES [.str "read", .str "if", .str "else", .str "stop"]
  c_LONGEST_NUMBER : ∃ t, mg "LONGEST_NUMBER" = some (.int 2 t)
  t_OPERATORS : mg "OPERATORS" = some (.ref a.t_OPERATORS)
  s_OPERATORS : ∀ H, SqT K H a.t_OPERATORS [.str "+", .str "-", .str "*"]
  t_RELATIONS : mg "RELATIONS" = some (.ref a.t_RELATIONS)
  s_RELATIONS : ∀ H, SqT K H a.t_RELATIONS [.str "<", .str "==", .str "!="]
  c_MOST_STATEMENTS : ∃ t, mg "MOST_STATEMENTS" = some (.int 14 t)
  c_MOST_DEPTH : ∃ t, mg "MOST_DEPTH" = some (.int 3 t)
  c_ELSE : ∃ t, mg "ELSE" = some (.str "else:" t)
  c_INDENT : ∃ t, mg "INDENT" = some (.str "  " t)
  c_SIGNS : ∃ t, mg "SIGNS" = some (.str "\n !*+-0123456789:<=abcdefghijklmnopqrstuvwxyz" t)
  c_ENDED : ∃ t, mg "ENDED" = some (.int 0 t)
  c_STOPPED : ∃ t, mg "STOPPED" = some (.int 1 t)
  c_LONG : ∃ t, mg "LONG" = some (.int 2 t)
  c_MOST_STEPS : ∃ t, mg "MOST_STEPS" = some (.int 120 t)
  c_MODULUS : ∃ t, mg "MODULUS" = some (.int 1000 t)
  c_MOST_NUMBERS : ∃ t, mg "MOST_NUMBERS" = some (.int 6 t)
  c_LARGEST_NUMBER : ∃ t, mg "LARGEST_NUMBER" = some (.int 999 t)
  c_PROGRAM : ∃ t, mg "PROGRAM" = some (.int 0 t)
  c_SHOW : ∃ t, mg "SHOW" = some (.int 1 t)
  c_INPUTS : ∃ t, mg "INPUTS" = some (.int 2 t)
  c_RUN : ∃ t, mg "RUN" = some (.int 3 t)
  c_VALUES : ∃ t, mg "VALUES" = some (.int 4 t)
  c_TRACE : ∃ t, mg "TRACE" = some (.int 5 t)
  c_STEP : ∃ t, mg "STEP" = some (.int 6 t)
  c_INFO : ∃ t, mg "INFO" = some (.int 7 t)
  c_ONLY : ∃ t, mg "ONLY" = some (.int 8 t)
  c_RUNONLY : ∃ t, mg "RUNONLY" = some (.int 9 t)
  c_SAME : ∃ t, mg "SAME" = some (.int 10 t)
  c_SIZE : ∃ t, mg "SIZE" = some (.int 11 t)
  x_NotAProgram : ExcF K mg "NotAProgram" a.C_NotAProgram
  x_NotAnInput : ExcF K mg "NotAnInput" a.C_NotAnInput
  x_NoSuchStep : ExcF K mg "NoSuchStep" a.C_NoSuchStep
  x_NoSuchLine : ExcF K mg "NoSuchLine" a.C_NoSuchLine
  x_NotSomeLines : ExcF K mg "NotSomeLines" a.C_NotSomeLines
  x_UnknownCall : ExcF K mg "UnknownCall" a.C_UnknownCall
  e_NotAProgram_NotAProgram : PySem.W.exmOne K (.ref a.C_NotAProgram) (.ref a.C_NotAProgram) = some true
  e_NotAnInput_NotAnInput : PySem.W.exmOne K (.ref a.C_NotAnInput) (.ref a.C_NotAnInput) = some true
  e_NoSuchStep_NoSuchStep : PySem.W.exmOne K (.ref a.C_NoSuchStep) (.ref a.C_NoSuchStep) = some true
  e_NoSuchLine_NoSuchLine : PySem.W.exmOne K (.ref a.C_NoSuchLine) (.ref a.C_NoSuchLine) = some true
  e_NotSomeLines_NotSomeLines : PySem.W.exmOne K (.ref a.C_NotSomeLines) (.ref a.C_NotSomeLines) = some true
  e_NotAProgram_NotAnInput : PySem.W.exmOne K (.ref a.C_NotAProgram) (.ref a.C_NotAnInput) = some false
  e_NotAProgram_NoSuchStep : PySem.W.exmOne K (.ref a.C_NotAProgram) (.ref a.C_NoSuchStep) = some false
  e_NotAProgram_NoSuchLine : PySem.W.exmOne K (.ref a.C_NotAProgram) (.ref a.C_NoSuchLine) = some false
  e_NotAProgram_NotSomeLines : PySem.W.exmOne K (.ref a.C_NotAProgram) (.ref a.C_NotSomeLines) = some false
  e_NotAnInput_NotAProgram : PySem.W.exmOne K (.ref a.C_NotAnInput) (.ref a.C_NotAProgram) = some false
  e_NotAnInput_NoSuchStep : PySem.W.exmOne K (.ref a.C_NotAnInput) (.ref a.C_NoSuchStep) = some false
  e_NotAnInput_NoSuchLine : PySem.W.exmOne K (.ref a.C_NotAnInput) (.ref a.C_NoSuchLine) = some false
  e_NotAnInput_NotSomeLines : PySem.W.exmOne K (.ref a.C_NotAnInput) (.ref a.C_NotSomeLines) = some false
  e_NoSuchStep_NotAProgram : PySem.W.exmOne K (.ref a.C_NoSuchStep) (.ref a.C_NotAProgram) = some false
  e_NoSuchStep_NotAnInput : PySem.W.exmOne K (.ref a.C_NoSuchStep) (.ref a.C_NotAnInput) = some false
  e_NoSuchStep_NoSuchLine : PySem.W.exmOne K (.ref a.C_NoSuchStep) (.ref a.C_NoSuchLine) = some false
  e_NoSuchStep_NotSomeLines : PySem.W.exmOne K (.ref a.C_NoSuchStep) (.ref a.C_NotSomeLines) = some false
  e_NoSuchLine_NotAProgram : PySem.W.exmOne K (.ref a.C_NoSuchLine) (.ref a.C_NotAProgram) = some false
  e_NoSuchLine_NotAnInput : PySem.W.exmOne K (.ref a.C_NoSuchLine) (.ref a.C_NotAnInput) = some false
  e_NoSuchLine_NoSuchStep : PySem.W.exmOne K (.ref a.C_NoSuchLine) (.ref a.C_NoSuchStep) = some false
  e_NoSuchLine_NotSomeLines : PySem.W.exmOne K (.ref a.C_NoSuchLine) (.ref a.C_NotSomeLines) = some false
  e_NotSomeLines_NotAProgram : PySem.W.exmOne K (.ref a.C_NotSomeLines) (.ref a.C_NotAProgram) = some false
  e_NotSomeLines_NotAnInput : PySem.W.exmOne K (.ref a.C_NotSomeLines) (.ref a.C_NotAnInput) = some false
  e_NotSomeLines_NoSuchStep : PySem.W.exmOne K (.ref a.C_NotSomeLines) (.ref a.C_NoSuchStep) = some false
  e_NotSomeLines_NoSuchLine : PySem.W.exmOne K (.ref a.C_NotSomeLines) (.ref a.C_NoSuchLine) = some false
  g_Statement : mg "Statement" = some (.ref a.C_Statement)
  cl_Statement : Cls K a.C_Statement
  n_Statement_kind : NoAttr K a.C_Statement "kind"
  n_Statement_sets : NoAttr K a.C_Statement "sets"
  n_Statement_atoms : NoAttr K a.C_Statement "atoms"
  n_Statement_sign : NoAttr K a.C_Statement "sign"
  n_Statement_names : NoAttr K a.C_Statement "names"
  n_Statement_headers : NoAttr K a.C_Statement "headers"
  n_Statement_block : NoAttr K a.C_Statement "block"
  n_Statement_otherwise : NoAttr K a.C_Statement "otherwise"
  K_Statement : Mk K a.C_Statement a.f_Statement_init
  g_Program : mg "Program" = some (.ref a.C_Program)
  cl_Program : Cls K a.C_Program
  n_Program_text : NoAttr K a.C_Program "text"
  n_Program_rows : NoAttr K a.C_Program "rows"
  n_Program_statements : NoAttr K a.C_Program "statements"
  n_Program_top : NoAttr K a.C_Program "top"
  K_Program : Mk K a.C_Program a.f_Program_init
  g_BlockBuilder : mg "BlockBuilder" = some (.ref a.C_BlockBuilder)
  cl_BlockBuilder : Cls K a.C_BlockBuilder
  n_BlockBuilder_statements : NoAttr K a.C_BlockBuilder "statements"
  n_BlockBuilder_top : NoAttr K a.C_BlockBuilder "top"
  n_BlockBuilder_around : NoAttr K a.C_BlockBuilder "around"
  n_BlockBuilder_filling : NoAttr K a.C_BlockBuilder "filling"
  n_BlockBuilder_awaits : NoAttr K a.C_BlockBuilder "awaits"
  K_BlockBuilder : Mk K a.C_BlockBuilder a.f_BlockBuilder_init
  g_Step : mg "Step" = some (.ref a.C_Step)
  cl_Step : Cls K a.C_Step
  n_Step_line : NoAttr K a.C_Step "line"
  n_Step_value : NoAttr K a.C_Step "value"
  n_Step_let_by : NoAttr K a.C_Step "let_by"
  n_Step_origins : NoAttr K a.C_Step "origins"
  K_Step : Mk K a.C_Step a.f_Step_init
  g_Run : mg "Run" = some (.ref a.C_Run)
  cl_Run : Cls K a.C_Run
  n_Run_statements : NoAttr K a.C_Run "statements"
  n_Run_lines : NoAttr K a.C_Run "lines"
  n_Run_left : NoAttr K a.C_Run "left"
  n_Run_outcome : NoAttr K a.C_Run "outcome"
  n_Run_steps : NoAttr K a.C_Run "steps"
  n_Run_held : NoAttr K a.C_Run "held"
  n_Run_setters : NoAttr K a.C_Run "setters"
  n_Run_last_tests : NoAttr K a.C_Run "last_tests"
  n_Run_last_read : NoAttr K a.C_Run "last_read"
  K_Run : Mk K a.C_Run a.f_Run_init
  g_Desk : mg "Desk" = some (.ref a.C_Desk)
  cl_Desk : Cls K a.C_Desk
  n_Desk_program : NoAttr K a.C_Desk "program"
  n_Desk_numbers : NoAttr K a.C_Desk "numbers"
  K_Desk : Mk K a.C_Desk a.f_Desk_init
  g_CallReader : mg "CallReader" = some (.ref a.C_CallReader)
  cl_CallReader : Cls K a.C_CallReader
  n_CallReader_calls : NoAttr K a.C_CallReader "calls"
  n_CallReader_place : NoAttr K a.C_CallReader "place"
  K_CallReader : Mk K a.C_CallReader a.f_CallReader_init
  F_Statement_init : Fun K "__init__" "Statement.__init__" st_Statement_init a.f_Statement_init a.d_Statement_init
  B_Statement_init : Binds K a.d_Statement_init ["self", "kind", "sets", "atoms", "sign"] []
  g_is_number : mg "is_number" = some (.ref a.f_is_number)
  F_is_number : Fun K "is_number" "is_number" st_is_number a.f_is_number a.d_is_number
  B_is_number : Binds K a.d_is_number ["word"] []
  g_is_name : mg "is_name" = some (.ref a.f_is_name)
  F_is_name : Fun K "is_name" "is_name" st_is_name a.f_is_name a.d_is_name
  B_is_name : Binds K a.d_is_name ["word"] []
  g_is_atom : mg "is_atom" = some (.ref a.f_is_atom)
  F_is_atom : Fun K "is_atom" "is_atom" st_is_atom a.f_is_atom a.d_is_atom
  B_is_atom : Binds K a.d_is_atom ["word"] []
  g_names_among : mg "names_among" = some (.ref a.f_names_among)
  F_names_among : Fun K "names_among" "names_among" st_names_among a.f_names_among a.d_names_among
  B_names_among : Binds K a.d_names_among ["atoms"] []
  g_is_header : mg "is_header" = some (.ref a.f_is_header)
  F_is_header : Fun K "is_header" "is_header" st_is_header a.f_is_header a.d_is_header
  B_is_header : Binds K a.d_is_header ["statement"] []
  g_read_statement : mg "read_statement" = some (.ref a.f_read_statement)
  F_read_statement : Fun K "read_statement" "read_statement" st_read_statement a.f_read_statement a.d_read_statement
  B_read_statement : Binds K a.d_read_statement ["row"] []
  g_read_header : mg "read_header" = some (.ref a.f_read_header)
  F_read_header : Fun K "read_header" "read_header" st_read_header a.f_read_header a.d_read_header
  B_read_header : Binds K a.d_read_header ["row"] []
  g_read_assignment : mg "read_assignment" = some (.ref a.f_read_assignment)
  F_read_assignment : Fun K "read_assignment" "read_assignment" st_read_assignment a.f_read_assignment a.d_read_assignment
  B_read_assignment : Binds K a.d_read_assignment ["words"] []
  g_check_atoms : mg "check_atoms" = some (.ref a.f_check_atoms)
  F_check_atoms : Fun K "check_atoms" "check_atoms" st_check_atoms a.f_check_atoms a.d_check_atoms
  B_check_atoms : Binds K a.d_check_atoms ["words"] []
  F_Program_init : Fun K "__init__" "Program.__init__" st_Program_init a.f_Program_init a.d_Program_init
  B_Program_init : Binds K a.d_Program_init ["self", "text", "rows", "statements", "top"] []
  F_Program_all_lines : Fun K "all_lines" "Program.all_lines" st_Program_all_lines a.f_Program_all_lines a.d_Program_all_lines
  B_Program_all_lines : Binds K a.d_Program_all_lines ["self"] []
  M_Program_all_lines : Meth K a.C_Program "all_lines" a.f_Program_all_lines
  F_Program_depth : Fun K "depth" "Program.depth" st_Program_depth a.f_Program_depth a.d_Program_depth
  B_Program_depth : Binds K a.d_Program_depth ["self"] []
  M_Program_depth : Meth K a.C_Program "depth" a.f_Program_depth
  F_Program_text_alone : Fun K "text_alone" "Program.text_alone" st_Program_text_alone a.f_Program_text_alone a.d_Program_text_alone
  B_Program_text_alone : Binds K a.d_Program_text_alone ["self", "lines"] []
  M_Program_text_alone : Meth K a.C_Program "text_alone" a.f_Program_text_alone
  F_Program_rows_alone : Fun K "rows_alone" "Program.rows_alone" st_Program_rows_alone a.f_Program_rows_alone a.d_Program_rows_alone
  B_Program_rows_alone : Binds K a.d_Program_rows_alone ["self", "block", "lines"] []
  M_Program_rows_alone : Meth K a.C_Program "rows_alone" a.f_Program_rows_alone
  F_BlockBuilder_init : Fun K "__init__" "BlockBuilder.__init__" st_BlockBuilder_init a.f_BlockBuilder_init a.d_BlockBuilder_init
  B_BlockBuilder_init : Binds K a.d_BlockBuilder_init ["self"] []
  F_BlockBuilder_add_statement : Fun K "add_statement" "BlockBuilder.add_statement" st_BlockBuilder_add_statement a.f_BlockBuilder_add_statement a.d_BlockBuilder_add_statement
  B_BlockBuilder_add_statement : Binds K a.d_BlockBuilder_add_statement ["self", "depth", "statement"] []
  M_BlockBuilder_add_statement : Meth K a.C_BlockBuilder "add_statement" a.f_BlockBuilder_add_statement
  F_BlockBuilder_add_else : Fun K "add_else" "BlockBuilder.add_else" st_BlockBuilder_add_else a.f_BlockBuilder_add_else a.d_BlockBuilder_add_else
  B_BlockBuilder_add_else : Binds K a.d_BlockBuilder_add_else ["self", "depth"] []
  M_BlockBuilder_add_else : Meth K a.C_BlockBuilder "add_else" a.f_BlockBuilder_add_else
  g_read_program : mg "read_program" = some (.ref a.f_read_program)
  F_read_program : Fun K "read_program" "read_program" st_read_program a.f_read_program a.d_read_program
  B_read_program : Binds K a.d_read_program ["text"] []
  g_rows_of : mg "rows_of" = some (.ref a.f_rows_of)
  F_rows_of : Fun K "rows_of" "rows_of" st_rows_of a.f_rows_of a.d_rows_of
  B_rows_of : Binds K a.d_rows_of ["text"] []
  g_bytes_of : mg "bytes_of" = some (.ref a.f_bytes_of)
  F_bytes_of : Fun K "bytes_of" "bytes_of" st_bytes_of a.f_bytes_of a.d_bytes_of
  B_bytes_of : Binds K a.d_bytes_of ["signs"] []
  F_Step_init : Fun K "__init__" "Step.__init__" st_Step_init a.f_Step_init a.d_Step_init
  B_Step_init : Binds K a.d_Step_init ["self", "line", "value", "let_by", "origins"] []
  F_Run_init : Fun K "__init__" "Run.__init__" st_Run_init a.f_Run_init a.d_Run_init
  B_Run_init : Binds K a.d_Run_init ["self", "statements", "lines", "numbers"] []
  F_Run_do_block : Fun K "do_block" "Run.do_block" st_Run_do_block a.f_Run_do_block a.d_Run_do_block
  B_Run_do_block : Binds K a.d_Run_do_block ["self", "block"] []
  M_Run_do_block : Meth K a.C_Run "do_block" a.f_Run_do_block
  F_Run_do_line : Fun K "do_line" "Run.do_line" st_Run_do_line a.f_Run_do_line a.d_Run_do_line
  B_Run_do_line : Binds K a.d_Run_do_line ["self", "line"] []
  M_Run_do_line : Meth K a.C_Run "do_line" a.f_Run_do_line
  F_Run_do_rounds : Fun K "do_rounds" "Run.do_rounds" st_Run_do_rounds a.f_Run_do_rounds a.d_Run_do_rounds
  B_Run_do_rounds : Binds K a.d_Run_do_rounds ["self", "line", "value"] []
  M_Run_do_rounds : Meth K a.C_Run "do_rounds" a.f_Run_do_rounds
  F_Run_make_step : Fun K "make_step" "Run.make_step" st_Run_make_step a.f_Run_make_step a.d_Run_make_step
  B_Run_make_step : Binds K a.d_Run_make_step ["self", "line", "let_by"] []
  M_Run_make_step : Meth K a.C_Run "make_step" a.f_Run_make_step
  F_Run_note_effects : Fun K "note_effects" "Run.note_effects" st_Run_note_effects a.f_Run_note_effects a.d_Run_note_effects
  B_Run_note_effects : Binds K a.d_Run_note_effects ["self", "line", "value"] []
  M_Run_note_effects : Meth K a.C_Run "note_effects" a.f_Run_note_effects
  F_Run_test_around : Fun K "test_around" "Run.test_around" st_Run_test_around a.f_Run_test_around a.d_Run_test_around
  B_Run_test_around : Binds K a.d_Run_test_around ["self", "statement"] []
  M_Run_test_around : Meth K a.C_Run "test_around" a.f_Run_test_around
  F_Run_origins_of : Fun K "origins_of" "Run.origins_of" st_Run_origins_of a.f_Run_origins_of a.d_Run_origins_of
  B_Run_origins_of : Binds K a.d_Run_origins_of ["self", "statement"] []
  M_Run_origins_of : Meth K a.C_Run "origins_of" a.f_Run_origins_of
  F_Run_uses_of : Fun K "uses_of" "Run.uses_of" st_Run_uses_of a.f_Run_uses_of a.d_Run_uses_of
  B_Run_uses_of : Binds K a.d_Run_uses_of ["self", "step"] []
  M_Run_uses_of : Meth K a.C_Run "uses_of" a.f_Run_uses_of
  F_Run_take_value : Fun K "take_value" "Run.take_value" st_Run_take_value a.f_Run_take_value a.d_Run_take_value
  B_Run_take_value : Binds K a.d_Run_take_value ["self", "statement"] []
  M_Run_take_value : Meth K a.C_Run "take_value" a.f_Run_take_value
  F_Run_number_of : Fun K "number_of" "Run.number_of" st_Run_number_of a.f_Run_number_of a.d_Run_number_of
  B_Run_number_of : Binds K a.d_Run_number_of ["self", "atom"] []
  M_Run_number_of : Meth K a.C_Run "number_of" a.f_Run_number_of
  F_Run_output : Fun K "output" "Run.output" st_Run_output a.f_Run_output a.d_Run_output
  B_Run_output : Binds K a.d_Run_output ["self"] []
  M_Run_output : Meth K a.C_Run "output" a.f_Run_output
  F_Run_row_at : Fun K "row_at" "Run.row_at" st_Run_row_at a.f_Run_row_at a.d_Run_row_at
  B_Run_row_at : Binds K a.d_Run_row_at ["self", "line"] []
  M_Run_row_at : Meth K a.C_Run "row_at" a.f_Run_row_at
  g_reckon : mg "reckon" = some (.ref a.f_reckon)
  F_reckon : Fun K "reckon" "reckon" st_reckon a.f_reckon a.d_reckon
  B_reckon : Binds K a.d_reckon ["left", "sign", "right"] []
  g_run_lines : mg "run_lines" = some (.ref a.f_run_lines)
  F_run_lines : Fun K "run_lines" "run_lines" st_run_lines a.f_run_lines a.d_run_lines
  B_run_lines : Binds K a.d_run_lines ["program", "lines", "numbers"] []
  F_Desk_init : Fun K "__init__" "Desk.__init__" st_Desk_init a.f_Desk_init a.d_Desk_init
  B_Desk_init : Binds K a.d_Desk_init ["self"] []
  F_Desk_take_program : Fun K "take_program" "Desk.take_program" st_Desk_take_program a.f_Desk_take_program a.d_Desk_take_program
  B_Desk_take_program : Binds K a.d_Desk_take_program ["self", "text"] []
  M_Desk_take_program : Meth K a.C_Desk "take_program" a.f_Desk_take_program
  F_Desk_tell_text : Fun K "tell_text" "Desk.tell_text" st_Desk_tell_text a.f_Desk_tell_text a.d_Desk_tell_text
  B_Desk_tell_text : Binds K a.d_Desk_tell_text ["self"] []
  M_Desk_tell_text : Meth K a.C_Desk "tell_text" a.f_Desk_tell_text
  F_Desk_take_numbers : Fun K "take_numbers" "Desk.take_numbers" st_Desk_take_numbers a.f_Desk_take_numbers a.d_Desk_take_numbers
  B_Desk_take_numbers : Binds K a.d_Desk_take_numbers ["self", "numbers"] []
  M_Desk_take_numbers : Meth K a.C_Desk "take_numbers" a.f_Desk_take_numbers
  F_Desk_tell_account : Fun K "tell_account" "Desk.tell_account" st_Desk_tell_account a.f_Desk_tell_account a.d_Desk_tell_account
  B_Desk_tell_account : Binds K a.d_Desk_tell_account ["self"] []
  M_Desk_tell_account : Meth K a.C_Desk "tell_account" a.f_Desk_tell_account
  F_Desk_tell_row : Fun K "tell_row" "Desk.tell_row" st_Desk_tell_row a.f_Desk_tell_row a.d_Desk_tell_row
  B_Desk_tell_row : Binds K a.d_Desk_tell_row ["self", "line"] []
  M_Desk_tell_row : Meth K a.C_Desk "tell_row" a.f_Desk_tell_row
  F_Desk_tell_trace : Fun K "tell_trace" "Desk.tell_trace" st_Desk_tell_trace a.f_Desk_tell_trace a.d_Desk_tell_trace
  B_Desk_tell_trace : Binds K a.d_Desk_tell_trace ["self"] []
  M_Desk_tell_trace : Meth K a.C_Desk "tell_trace" a.f_Desk_tell_trace
  F_Desk_tell_step : Fun K "tell_step" "Desk.tell_step" st_Desk_tell_step a.f_Desk_tell_step a.d_Desk_tell_step
  B_Desk_tell_step : Binds K a.d_Desk_tell_step ["self", "number"] []
  M_Desk_tell_step : Meth K a.C_Desk "tell_step" a.f_Desk_tell_step
  F_Desk_tell_statement : Fun K "tell_statement" "Desk.tell_statement" st_Desk_tell_statement a.f_Desk_tell_statement a.d_Desk_tell_statement
  B_Desk_tell_statement : Binds K a.d_Desk_tell_statement ["self", "line"] []
  M_Desk_tell_statement : Meth K a.C_Desk "tell_statement" a.f_Desk_tell_statement
  F_Desk_tell_text_alone : Fun K "tell_text_alone" "Desk.tell_text_alone" st_Desk_tell_text_alone a.f_Desk_tell_text_alone a.d_Desk_tell_text_alone
  B_Desk_tell_text_alone : Binds K a.d_Desk_tell_text_alone ["self", "lines"] []
  M_Desk_tell_text_alone : Meth K a.C_Desk "tell_text_alone" a.f_Desk_tell_text_alone
  F_Desk_tell_account_alone : Fun K "tell_account_alone" "Desk.tell_account_alone" st_Desk_tell_account_alone a.f_Desk_tell_account_alone a.d_Desk_tell_account_alone
  B_Desk_tell_account_alone : Binds K a.d_Desk_tell_account_alone ["self", "lines"] []
  M_Desk_tell_account_alone : Meth K a.C_Desk "tell_account_alone" a.f_Desk_tell_account_alone
  F_Desk_tell_same : Fun K "tell_same" "Desk.tell_same" st_Desk_tell_same a.f_Desk_tell_same a.d_Desk_tell_same
  B_Desk_tell_same : Binds K a.d_Desk_tell_same ["self", "line", "lines"] []
  M_Desk_tell_same : Meth K a.C_Desk "tell_same" a.f_Desk_tell_same
  F_Desk_tell_size : Fun K "tell_size" "Desk.tell_size" st_Desk_tell_size a.f_Desk_tell_size a.d_Desk_tell_size
  B_Desk_tell_size : Binds K a.d_Desk_tell_size ["self"] []
  M_Desk_tell_size : Meth K a.C_Desk "tell_size" a.f_Desk_tell_size
  F_Desk_check_line : Fun K "check_line" "Desk.check_line" st_Desk_check_line a.f_Desk_check_line a.d_Desk_check_line
  B_Desk_check_line : Binds K a.d_Desk_check_line ["self", "line"] []
  M_Desk_check_line : Meth K a.C_Desk "check_line" a.f_Desk_check_line
  F_Desk_check_lines : Fun K "check_lines" "Desk.check_lines" st_Desk_check_lines a.f_Desk_check_lines a.d_Desk_check_lines
  B_Desk_check_lines : Binds K a.d_Desk_check_lines ["self", "lines"] []
  M_Desk_check_lines : Meth K a.C_Desk "check_lines" a.f_Desk_check_lines
  F_Desk_make_run : Fun K "make_run" "Desk.make_run" st_Desk_make_run a.f_Desk_make_run a.d_Desk_make_run
  B_Desk_make_run : Binds K a.d_Desk_make_run ["self"] []
  M_Desk_make_run : Meth K a.C_Desk "make_run" a.f_Desk_make_run
  F_Desk_make_run_alone : Fun K "make_run_alone" "Desk.make_run_alone" st_Desk_make_run_alone a.f_Desk_make_run_alone a.d_Desk_make_run_alone
  B_Desk_make_run_alone : Binds K a.d_Desk_make_run_alone ["self", "lines"] []
  M_Desk_make_run_alone : Meth K a.C_Desk "make_run_alone" a.f_Desk_make_run_alone
  g_account_of : mg "account_of" = some (.ref a.f_account_of)
  F_account_of : Fun K "account_of" "account_of" st_account_of a.f_account_of a.d_account_of
  B_account_of : Binds K a.d_account_of ["run"] []
  g_traced : mg "traced" = some (.ref a.f_traced)
  F_traced : Fun K "traced" "traced" st_traced a.f_traced a.d_traced
  B_traced : Binds K a.d_traced ["step"] []
  g_counted : mg "counted" = some (.ref a.f_counted)
  F_counted : Fun K "counted" "counted" st_counted a.f_counted a.d_counted
  B_counted : Binds K a.d_counted ["row"] []
  g_counted_text : mg "counted_text" = some (.ref a.f_counted_text)
  F_counted_text : Fun K "counted_text" "counted_text" st_counted_text a.f_counted_text a.d_counted_text
  B_counted_text : Binds K a.d_counted_text ["signs"] []
  g_counted_texts : mg "counted_texts" = some (.ref a.f_counted_texts)
  F_counted_texts : Fun K "counted_texts" "counted_texts" st_counted_texts a.f_counted_texts a.d_counted_texts
  B_counted_texts : Binds K a.d_counted_texts ["texts"] []
  g_first_difference : mg "first_difference" = some (.ref a.f_first_difference)
  F_first_difference : Fun K "first_difference" "first_difference" st_first_difference a.f_first_difference a.d_first_difference
  B_first_difference : Binds K a.d_first_difference ["left", "right"] []
  F_CallReader_init : Fun K "__init__" "CallReader.__init__" st_CallReader_init a.f_CallReader_init a.d_CallReader_init
  B_CallReader_init : Binds K a.d_CallReader_init ["self", "calls"] []
  F_CallReader_has_more : Fun K "has_more" "CallReader.has_more" st_CallReader_has_more a.f_CallReader_has_more a.d_CallReader_has_more
  B_CallReader_has_more : Binds K a.d_CallReader_has_more ["self"] []
  M_CallReader_has_more : Meth K a.C_CallReader "has_more" a.f_CallReader_has_more
  F_CallReader_take_number : Fun K "take_number" "CallReader.take_number" st_CallReader_take_number a.f_CallReader_take_number a.d_CallReader_take_number
  B_CallReader_take_number : Binds K a.d_CallReader_take_number ["self"] []
  M_CallReader_take_number : Meth K a.C_CallReader "take_number" a.f_CallReader_take_number
  F_CallReader_take_row : Fun K "take_row" "CallReader.take_row" st_CallReader_take_row a.f_CallReader_take_row a.d_CallReader_take_row
  B_CallReader_take_row : Binds K a.d_CallReader_take_row ["self"] []
  M_CallReader_take_row : Meth K a.C_CallReader "take_row" a.f_CallReader_take_row
  g_answers : mg "answers" = some (.ref a.f_answers)
  F_answers : Fun K "answers" "answers" st_answers a.f_answers a.d_answers
  B_answers : Binds K a.d_answers ["calls"] []
  g_answer_or_refusal : mg "answer_or_refusal" = some (.ref a.f_answer_or_refusal)
  F_answer_or_refusal : Fun K "answer_or_refusal" "answer_or_refusal" st_answer_or_refusal a.f_answer_or_refusal a.d_answer_or_refusal
  B_answer_or_refusal : Binds K a.d_answer_or_refusal ["desk", "reader"] []
  g_answer_next : mg "answer_next" = some (.ref a.f_answer_next)
  F_answer_next : Fun K "answer_next" "answer_next" st_answer_next a.f_answer_next a.d_answer_next
  B_answer_next : Binds K a.d_answer_next ["desk", "reader"] []
theorem sc_Statement_init : FnScope ["self", "kind", "sets", "atoms", "sign"] ["self", "kind", "sets", "atoms", "sign"] (defScope st_Statement_init) := ⟨rfl, rfl, rfl, by decide +kernel, rfl, by decide +kernel, by decide +kernel⟩
theorem sc_is_number : FnScope ["word"] ["word"] (defScope st_is_number) := ⟨rfl, rfl, rfl, by decide +kernel, rfl, by decide +kernel, by decide +kernel⟩
theorem sc_is_name : FnScope ["word", "sign"] ["word"] (defScope st_is_name) := ⟨rfl, rfl, rfl, by decide +kernel, rfl, by decide +kernel, by decide +kernel⟩
theorem sc_is_atom : FnScope ["word"] ["word"] (defScope st_is_atom) := ⟨rfl, rfl, rfl, by decide +kernel, rfl, by decide +kernel, by decide +kernel⟩
theorem sc_names_among : FnScope ["atoms", "names", "atom"] ["atoms"] (defScope st_names_among) := ⟨rfl, rfl, rfl, by decide +kernel, rfl, by decide +kernel, by decide +kernel⟩
theorem sc_is_header : FnScope ["statement"] ["statement"] (defScope st_is_header) := ⟨rfl, rfl, rfl, by decide +kernel, rfl, by decide +kernel, by decide +kernel⟩
theorem sc_read_statement : FnScope ["row", "words"] ["row"] (defScope st_read_statement) := ⟨rfl, rfl, rfl, by decide +kernel, rfl, by decide +kernel, by decide +kernel⟩
theorem sc_read_header : FnScope ["row", "words", "atoms", "kind"] ["row"] (defScope st_read_header) := ⟨rfl, rfl, rfl, by decide +kernel, rfl, by decide +kernel, by decide +kernel⟩
theorem sc_read_assignment : FnScope ["words", "atoms", "sign"] ["words"] (defScope st_read_assignment) := ⟨rfl, rfl, rfl, by decide +kernel, rfl, by decide +kernel, by decide +kernel⟩
theorem sc_check_atoms : FnScope ["words", "word"] ["words"] (defScope st_check_atoms) := ⟨rfl, rfl, rfl, by decide +kernel, rfl, by decide +kernel, by decide +kernel⟩
theorem sc_Program_init : FnScope ["self", "text", "rows", "statements", "top"] ["self", "text", "rows", "statements", "top"] (defScope st_Program_init) := ⟨rfl, rfl, rfl, by decide +kernel, rfl, by decide +kernel, by decide +kernel⟩
theorem sc_Program_all_lines : FnScope ["self"] ["self"] (defScope st_Program_all_lines) := ⟨rfl, rfl, rfl, by decide +kernel, rfl, by decide +kernel, by decide +kernel⟩
theorem sc_Program_depth : FnScope ["self", "statement"] ["self"] (defScope st_Program_depth) := ⟨rfl, rfl, rfl, by decide +kernel, rfl, by decide +kernel, by decide +kernel⟩
theorem sc_Program_text_alone : FnScope ["self", "lines", "rows", "row"] ["self", "lines"] (defScope st_Program_text_alone) := ⟨rfl, rfl, rfl, by decide +kernel, rfl, by decide +kernel, by decide +kernel⟩
theorem sc_Program_rows_alone : FnScope ["self", "block", "lines", "rows", "line", "statement", "below_else"] ["self", "block", "lines"] (defScope st_Program_rows_alone) := ⟨rfl, rfl, rfl, by decide +kernel, rfl, by decide +kernel, by decide +kernel⟩
theorem sc_BlockBuilder_init : FnScope ["self"] ["self"] (defScope st_BlockBuilder_init) := ⟨rfl, rfl, rfl, by decide +kernel, rfl, by decide +kernel, by decide +kernel⟩
theorem sc_BlockBuilder_add_statement : FnScope ["self", "depth", "statement", "deepest", "line"] ["self", "depth", "statement"] (defScope st_BlockBuilder_add_statement) := ⟨rfl, rfl, rfl, by decide +kernel, rfl, by decide +kernel, by decide +kernel⟩
theorem sc_BlockBuilder_add_else : FnScope ["self", "depth", "header"] ["self", "depth"] (defScope st_BlockBuilder_add_else) := ⟨rfl, rfl, rfl, by decide +kernel, rfl, by decide +kernel, by decide +kernel⟩
theorem sc_read_program : FnScope ["text", "builder", "rows", "row", "bare", "blanks"] ["text"] (defScope st_read_program) := ⟨rfl, rfl, rfl, by decide +kernel, rfl, by decide +kernel, by decide +kernel⟩
theorem sc_rows_of : FnScope ["text", "known", "sign", "signs", "byte", "rows"] ["text"] (defScope st_rows_of) := ⟨rfl, rfl, rfl, by decide +kernel, rfl, by decide +kernel, by decide +kernel⟩
theorem sc_bytes_of : FnScope ["signs", "sign"] ["signs"] (defScope st_bytes_of) := ⟨rfl, rfl, rfl, by decide +kernel, rfl, by decide +kernel, by decide +kernel⟩
theorem sc_Step_init : FnScope ["self", "line", "value", "let_by", "origins"] ["self", "line", "value", "let_by", "origins"] (defScope st_Step_init) := ⟨rfl, rfl, rfl, by decide +kernel, rfl, by decide +kernel, by decide +kernel⟩
theorem sc_Run_init : FnScope ["self", "statements", "lines", "numbers"] ["self", "statements", "lines", "numbers"] (defScope st_Run_init) := ⟨rfl, rfl, rfl, by decide +kernel, rfl, by decide +kernel, by decide +kernel⟩
theorem sc_Run_do_block : FnScope ["self", "block", "line"] ["self", "block"] (defScope st_Run_do_block) := ⟨rfl, rfl, rfl, by decide +kernel, rfl, by decide +kernel, by decide +kernel⟩
theorem sc_Run_do_line : FnScope ["self", "line", "statement", "value"] ["self", "line"] (defScope st_Run_do_line) := ⟨rfl, rfl, rfl, by decide +kernel, rfl, by decide +kernel, by decide +kernel⟩
theorem sc_Run_do_rounds : FnScope ["self", "line", "value"] ["self", "line", "value"] (defScope st_Run_do_rounds) := ⟨rfl, rfl, rfl, by decide +kernel, rfl, by decide +kernel, by decide +kernel⟩
theorem sc_Run_make_step : FnScope ["self", "line", "let_by", "statement", "origins", "value"] ["self", "line", "let_by"] (defScope st_Run_make_step) := ⟨rfl, rfl, rfl, by decide +kernel, rfl, by decide +kernel, by decide +kernel⟩
theorem sc_Run_note_effects : FnScope ["self", "line", "value", "statement", "mark"] ["self", "line", "value"] (defScope st_Run_note_effects) := ⟨rfl, rfl, rfl, by decide +kernel, rfl, by decide +kernel, by decide +kernel⟩
theorem sc_Run_test_around : FnScope ["self", "statement"] ["self", "statement"] (defScope st_Run_test_around) := ⟨rfl, rfl, rfl, by decide +kernel, rfl, by decide +kernel, by decide +kernel⟩
theorem sc_Run_origins_of : FnScope ["self", "statement", "name"] ["self", "statement"] (defScope st_Run_origins_of) := ⟨rfl, rfl, rfl, by decide +kernel, rfl, by decide +kernel, by decide +kernel⟩
theorem sc_Run_uses_of : FnScope ["self", "step", "statement"] ["self", "step"] (defScope st_Run_uses_of) := ⟨rfl, rfl, rfl, by decide +kernel, rfl, by decide +kernel, by decide +kernel⟩
theorem sc_Run_take_value : FnScope ["self", "statement", "numbers", "atom"] ["self", "statement"] (defScope st_Run_take_value) := ⟨rfl, rfl, rfl, by decide +kernel, rfl, by decide +kernel, by decide +kernel⟩
theorem sc_Run_number_of : FnScope ["self", "atom"] ["self", "atom"] (defScope st_Run_number_of) := ⟨rfl, rfl, rfl, by decide +kernel, rfl, by decide +kernel, by decide +kernel⟩
theorem sc_Run_output : FnScope ["self", "step"] ["self"] (defScope st_Run_output) := ⟨rfl, rfl, rfl, by decide +kernel, rfl, by decide +kernel, by decide +kernel⟩
theorem sc_Run_row_at : FnScope ["self", "line", "step"] ["self", "line"] (defScope st_Run_row_at) := ⟨rfl, rfl, rfl, by decide +kernel, rfl, by decide +kernel, by decide +kernel⟩
theorem sc_reckon : FnScope ["left", "sign", "right"] ["left", "sign", "right"] (defScope st_reckon) := ⟨rfl, rfl, rfl, by decide +kernel, rfl, by decide +kernel, by decide +kernel⟩
theorem sc_run_lines : FnScope ["program", "lines", "numbers", "run"] ["program", "lines", "numbers"] (defScope st_run_lines) := ⟨rfl, rfl, rfl, by decide +kernel, rfl, by decide +kernel, by decide +kernel⟩
theorem sc_Desk_init : FnScope ["self"] ["self"] (defScope st_Desk_init) := ⟨rfl, rfl, rfl, by decide +kernel, rfl, by decide +kernel, by decide +kernel⟩
theorem sc_Desk_take_program : FnScope ["self", "text"] ["self", "text"] (defScope st_Desk_take_program) := ⟨rfl, rfl, rfl, by decide +kernel, rfl, by decide +kernel, by decide +kernel⟩
theorem sc_Desk_tell_text : FnScope ["self"] ["self"] (defScope st_Desk_tell_text) := ⟨rfl, rfl, rfl, by decide +kernel, rfl, by decide +kernel, by decide +kernel⟩
theorem sc_Desk_take_numbers : FnScope ["self", "numbers", "number"] ["self", "numbers"] (defScope st_Desk_take_numbers) := ⟨rfl, rfl, rfl, by decide +kernel, rfl, by decide +kernel, by decide +kernel⟩
theorem sc_Desk_tell_account : FnScope ["self"] ["self"] (defScope st_Desk_tell_account) := ⟨rfl, rfl, rfl, by decide +kernel, rfl, by decide +kernel, by decide +kernel⟩
theorem sc_Desk_tell_row : FnScope ["self", "line"] ["self", "line"] (defScope st_Desk_tell_row) := ⟨rfl, rfl, rfl, by decide +kernel, rfl, by decide +kernel, by decide +kernel⟩
theorem sc_Desk_tell_trace : FnScope ["self", "run", "told", "step"] ["self"] (defScope st_Desk_tell_trace) := ⟨rfl, rfl, rfl, by decide +kernel, rfl, by decide +kernel, by decide +kernel⟩
theorem sc_Desk_tell_step : FnScope ["self", "number", "run", "step"] ["self", "number"] (defScope st_Desk_tell_step) := ⟨rfl, rfl, rfl, by decide +kernel, rfl, by decide +kernel, by decide +kernel⟩
theorem sc_Desk_tell_statement : FnScope ["self", "line", "statement", "told"] ["self", "line"] (defScope st_Desk_tell_statement) := ⟨rfl, rfl, rfl, by decide +kernel, rfl, by decide +kernel, by decide +kernel⟩
theorem sc_Desk_tell_text_alone : FnScope ["self", "lines"] ["self", "lines"] (defScope st_Desk_tell_text_alone) := ⟨rfl, rfl, rfl, by decide +kernel, rfl, by decide +kernel, by decide +kernel⟩
theorem sc_Desk_tell_account_alone : FnScope ["self", "lines"] ["self", "lines"] (defScope st_Desk_tell_account_alone) := ⟨rfl, rfl, rfl, by decide +kernel, rfl, by decide +kernel, by decide +kernel⟩
theorem sc_Desk_tell_same : FnScope ["self", "line", "lines", "row", "row_alone"] ["self", "line", "lines"] (defScope st_Desk_tell_same) := ⟨rfl, rfl, rfl, by decide +kernel, rfl, by decide +kernel, by decide +kernel⟩
theorem sc_Desk_tell_size : FnScope ["self", "program", "run"] ["self"] (defScope st_Desk_tell_size) := ⟨rfl, rfl, rfl, by decide +kernel, rfl, by decide +kernel, by decide +kernel⟩
theorem sc_Desk_check_line : FnScope ["self", "line"] ["self", "line"] (defScope st_Desk_check_line) := ⟨rfl, rfl, rfl, by decide +kernel, rfl, by decide +kernel, by decide +kernel⟩
theorem sc_Desk_check_lines : FnScope ["self", "lines", "last", "line"] ["self", "lines"] (defScope st_Desk_check_lines) := ⟨rfl, rfl, rfl, by decide +kernel, rfl, by decide +kernel, by decide +kernel⟩
theorem sc_Desk_make_run : FnScope ["self"] ["self"] (defScope st_Desk_make_run) := ⟨rfl, rfl, rfl, by decide +kernel, rfl, by decide +kernel, by decide +kernel⟩
theorem sc_Desk_make_run_alone : FnScope ["self", "lines"] ["self", "lines"] (defScope st_Desk_make_run_alone) := ⟨rfl, rfl, rfl, by decide +kernel, rfl, by decide +kernel, by decide +kernel⟩
theorem sc_account_of : FnScope ["run"] ["run"] (defScope st_account_of) := ⟨rfl, rfl, rfl, by decide +kernel, rfl, by decide +kernel, by decide +kernel⟩
theorem sc_traced : FnScope ["step"] ["step"] (defScope st_traced) := ⟨rfl, rfl, rfl, by decide +kernel, rfl, by decide +kernel, by decide +kernel⟩
theorem sc_counted : FnScope ["row"] ["row"] (defScope st_counted) := ⟨rfl, rfl, rfl, by decide +kernel, rfl, by decide +kernel, by decide +kernel⟩
theorem sc_counted_text : FnScope ["signs"] ["signs"] (defScope st_counted_text) := ⟨rfl, rfl, rfl, by decide +kernel, rfl, by decide +kernel, by decide +kernel⟩
theorem sc_counted_texts : FnScope ["texts", "told", "signs"] ["texts"] (defScope st_counted_texts) := ⟨rfl, rfl, rfl, by decide +kernel, rfl, by decide +kernel, by decide +kernel⟩
theorem sc_first_difference : FnScope ["left", "right", "place", "one", "other"] ["left", "right"] (defScope st_first_difference) := ⟨rfl, rfl, rfl, by decide +kernel, rfl, by decide +kernel, by decide +kernel⟩
theorem sc_CallReader_init : FnScope ["self", "calls"] ["self", "calls"] (defScope st_CallReader_init) := ⟨rfl, rfl, rfl, by decide +kernel, rfl, by decide +kernel, by decide +kernel⟩
theorem sc_CallReader_has_more : FnScope ["self"] ["self"] (defScope st_CallReader_has_more) := ⟨rfl, rfl, rfl, by decide +kernel, rfl, by decide +kernel, by decide +kernel⟩
theorem sc_CallReader_take_number : FnScope ["self", "number"] ["self"] (defScope st_CallReader_take_number) := ⟨rfl, rfl, rfl, by decide +kernel, rfl, by decide +kernel, by decide +kernel⟩
theorem sc_CallReader_take_row : FnScope ["self", "length", "row"] ["self"] (defScope st_CallReader_take_row) := ⟨rfl, rfl, rfl, by decide +kernel, rfl, by decide +kernel, by decide +kernel⟩
theorem sc_answers : FnScope ["calls", "desk", "reader", "told", "answer"] ["calls"] (defScope st_answers) := ⟨rfl, rfl, rfl, by decide +kernel, rfl, by decide +kernel, by decide +kernel⟩
theorem sc_answer_or_refusal : FnScope ["desk", "reader"] ["desk", "reader"] (defScope st_answer_or_refusal) := ⟨rfl, rfl, rfl, by decide +kernel, rfl, by decide +kernel, by decide +kernel⟩
theorem sc_answer_next : FnScope ["desk", "reader", "call", "line"] ["desk", "reader"] (defScope st_answer_next) := ⟨rfl, rfl, rfl, by decide +kernel, rfl, by decide +kernel, by decide +kernel⟩
end VP
set_option Elab.async false
set_option linter.all false
set_option maxRecDepth 100000
set_option maxHeartbeats 2000000
namespace VP
open PySem PySem.Spec PyProof.Rows L2 TL
open Vaslca (Text Name cutAt gluedBy ascii isName isSmall isDigit numberOf decimal)
open Evl (Ex Ev EvT EvA EvL)

/-! numbers -/
theorem digit_cases {b : UInt8} (h : isDigit b = true) : ∃ i : Fin 10, b = UInt8.ofNat (48 + i.val) := by
  simp only [isDigit, Bool.and_eq_true, decide_eq_true_eq, UInt8.le_iff_toNat_le] at h
  have h1 : 48 ≤ b.toNat := h.1
  have h2 : b.toNat ≤ 57 := h.2
  refine ⟨⟨b.toNat - 48, by omega⟩, ?_⟩
  apply UInt8.toNat_inj.mp
  show b.toNat = (UInt8.ofNat (48 + (b.toNat - 48))).toNat
  rw [UInt8.toNat_ofNat']
  omega
theorem one_digit : ∀ i : Fin 10, (numberOf [UInt8.ofNat (48 + i.val)]).isSome = true := by decide +kernel
theorem two_digits : ∀ i j : Fin 10, (numberOf [UInt8.ofNat (48 + i.val), UInt8.ofNat (48 + j.val)]).isSome = !(UInt8.ofNat (48 + i.val) == 48) := by decide +kernel
def numTest (w : Text) : Bool := if (!(!w.isEmpty && w.all isDigit) || decide (2 < w.length)) = true then false else (w == [48] || w.head? != some 48)
theorem number_test (w : Text) : (numberOf w).isSome = numTest w := by
  unfold numTest
  match w with
  | [] => decide
  | [x] =>
    by_cases hx : isDigit x = true
    · obtain ⟨i, rfl⟩ := digit_cases hx
      rw [one_digit i]
      revert i
      decide +kernel
    · have : numberOf [x] = none := by
        unfold numberOf
        rw [if_neg (by simp [hx])]
      simp [this, hx]
  | [x, y] =>
    by_cases hx : isDigit x = true
    · by_cases hy : isDigit y = true
      · obtain ⟨i, rfl⟩ := digit_cases hx
        obtain ⟨j, rfl⟩ := digit_cases hy
        rw [two_digits i j]
        revert i j
        decide +kernel
      · have : numberOf [x, y] = none := by
          unfold numberOf
          rw [if_neg (by simp [hy])]
        simp [this, hy]
    · have : numberOf [x, y] = none := by
        unfold numberOf
        rw [if_neg (by simp [hx])]
      simp [this, hx]
  | x :: y :: z :: r =>
    have : numberOf (x :: y :: z :: r) = none := by
      unfold numberOf
      rw [if_neg (by simp [Vaslca.DIGITS])]
    simp [this]

variable {P : Program} {w : World} {K : PySem.W.Frag} {mg : Str → Option Value} {base : Heap} {a : Ad}

theorem ev_isdigit {to : TE} {σ : L2.St} {H : Hp} {z : Str} (h : Ev to σ H (.str z)) : Ev (tM0 (fun x xs H Q => ∃ a, x = .str a ∧ xs = [] ∧ True ∧ Q (.bl (Txt.isdigit a)) H) to) σ H (.bl (Txt.isdigit z)) :=
  fun H1 e Q q => h H1 e _ fun H2 e2 => ⟨⟨z, rfl⟩, z, rfl, rfl, trivial, q H2 e2⟩
theorem ev_lenS {to : TE} {σ : L2.St} {H : Hp} {z : Str} (h : Ev to σ H (.str z)) (hz : z.length ≤ 100000) : Ev (tCB (fun xs H Q => ∃ a, xs = [.str a] ∧ a.length ≤ sizeLine ∧ Q (.int a.length) H) (tCons to tNil)) σ H (.int (z.length : Int)) :=
  fun H1 e Q q => h H1 e _ fun H2 e2 => ⟨z, rfl, Evl.sz_of hz, q H2 e2⟩
theorem dec_S {x : Text} {y : Text} : decide (V.str (S x) = V.str (S y)) = (x == y) := by
  rw [Bool.eq_iff_iff, decide_eq_true_eq, beq_iff_eq]
  exact ⟨fun h => S_inj (V.str.inj h), fun h => by rw [h]⟩
theorem lit_0 : (("0" : Str)) = S [48] := by decide +kernel

def sp_is_number (_ : Ad) : Sp := fun vs H Q _ => ∃ w : Text, vs = [.str (S w)] ∧ Low w ∧ w.length ≤ 1000 ∧ ∀ H', Ex H H' → Q (.bl (numberOf w).isSome) H'
theorem ok_is_number (T : Facts K mg a) : FnOk P w K mg base CX0 1 a.f_is_number a.d_is_number ["word"] (sp_is_number a) := by
  refine T.F_is_number.ok sc_is_number (fun vs H Q E h => ?_) (fun cdv A outer s H vs Q E hr h => ?_)
  · obtain ⟨w, rfl, _⟩ := h
    rfl
  · refine ⟨_, (pss_cons (ps_if (PW.pt (pw_or (pt_not (pt_val (pe_m0 PySem.F.slot_str_isdigit PySem.F.type_str_isdigit mt_isdigit (pv 0)))) (pw_or1 (pt_cmpR op_gt (pe_callB call_len_str (by rfl) T.b_len (by decide +kernel) (pa_cons (pv 0) pa_nil)) (pe_gi rfl T.c_LONGEST_NUMBER.choose_spec) (nomark _)))))
    (pss_one (ps_ret pe_bl))
    pss_nil)
    (pss_one (ps_ret (pe_or (pe_cmpR op_eq (pv 0) pe_str (nomark _)) (pe_one (pe_cmpR op_ne (pe_ix ix_str (pv 0) pe_int (fun _ _ => rfl)) pe_str (nomark _))))))), ?_⟩
    obtain ⟨w, rfl, hl, hz, k⟩ := h
    rw [number_test w] at k
    refine Evl.s_if (b := (!Txt.isdigit (S w)) || decide ((2 : Int) < ((S w).length : Int))) (Evl.et_or (Evl.et_not (Evl.et_B (ev_isdigit (Evl.ev_var rfl)))) fun _ => Evl.et_test (Evl.ev_op (ev_lenS (Evl.ev_var rfl) (by rw [len_S]; omega)) Evl.ev_c Evl.rv_I0)) (fun hc H1 e1 => ?_) (fun hc H1 e1 => ?_)
    · rw [digits_S hl, len_S, show decide ((2 : Int) < (w.length : Int)) = decide (2 < w.length) from decide_eq_decide.mpr (by omega)] at hc
      have e : numTest w = false := by
        unfold numTest
        rw [if_pos (by simpa using hc)]
      rw [e] at k
      exact Evl.s_ret Evl.ev_c fun H2 e2 => k H2 (e1.trans e2)
    · rw [digits_S hl, len_S, show decide ((2 : Int) < (w.length : Int)) = decide (2 < w.length) from decide_eq_decide.mpr (by omega)] at hc
      have e : numTest w = (w == [48] || w.head? != some 48) := by
        unfold numTest
        rw [if_neg (by simpa using hc)]
      rw [e] at k
      have ne : w ≠ [] := by
        rintro rfl
        simp at hc
      cases w with
      | nil => exact absurd rfl ne
      | cons b r =>
        refine Evl.s_ret (Evl.ev_orV (a := decide (V.str (S (b :: r)) = V.str "0")) (b := !decide (V.str (S [b]) = V.str "0")) (Evl.ev_op (Evl.ev_var rfl) Evl.ev_c (Evl.rv_eq rfl))
          fun _ => Evl.ev_op (Evl.ev_op (Evl.ev_var rfl) Evl.ev_c (Evl.rv_ixS (by rw [len_S]; omega) (atI_nat (j := 0) rfl))) Evl.ev_c (Evl.rv_ne rfl)) fun H2 e2 => ?_
        rw [lit_0, dec_S, dec_S]
        have q := k H2 (e1.trans e2)
        have z : (some b != some (48 : UInt8)) = !(b == 48) := by cases h : b == 48 <;> simp_all
        simp only [List.head?_cons, z] at q
        simpa using q


theorem el_lcS {σ : L2.St} {H : Hp} {tl te : TE} {z : Str} {j : Nat} {vs : List Nat} (v : Nat → V) (h : Ev tl σ H (.str z)) (hz : z.cps.size ≤ 40000) (hw : ∀ x, wipe ((wipe σ vs).set j (some x)) vs = wipe σ vs)
    (he : ∀ (i c : Nat) H1, Ex H H1 → z.cps[i]? = some c → Ev te ((wipe σ vs).set j (some (.str ⟨#[c]⟩))) H1 (v i)) :
    EvL (tLc (iStr tl) (gName j) tYes te vs) σ H ((List.range z.cps.size).map v) := fun H0 e Q q => h H0 e _ fun H1 e1 => ⟨z, rfl, fun Dl hD =>
  lc_it (walk_str (z := z)) (Evl.Cw H1 (fun _ => true) v Dl) ⟨hD, Ex.new hD, upd_same⟩ (fun _ _ _ _ => trivial) (fun i x H' H'' hi p y => by
    obtain ⟨rfl, c, hc, rfl⟩ := y
    exact ⟨hw _, Evl.cw_turn p (by omega) (fun H3 _ _ q => q H3 (Ex.refl H3)) (fun _ => he i c H1 (e.trans e1) hc)⟩) (fun H' p => q Dl H' (Evl.fresh_back e1 p.1) (e1.trans p.2.1) (by
      have := p.2.2
      unfold Evl.given at this
      rw [List.filter_eq_self.mpr (fun _ _ => rfl)] at this
      exact this))⟩
theorem ev_allN {σ : L2.St} {H : Hp} {ta : TE} {bs : List Bool} (h : EvL ta σ H (bs.map V.bl)) : Ev (tCB (rAll K) (tCons ta tNil)) σ H (.bl (bs.all id)) := fun H1 e Q q =>
  h H1 e _ fun p H2 _ e2 h2 => ⟨p, bs, rfl, Evl.sq_of h2, q H2 e2⟩
theorem lit_empty : (("" : Str)) = S [] := by decide +kernel
theorem in_words (w : Text) : ∀ ws : List Text, inV (.str (S w)) (ws.map fun t => V.str (S t)) = ws.contains w
  | [] => rfl
  | t :: r => by
    have ih := in_words w r
    show (S t == S w || inV (.str (S w)) (r.map fun t => V.str (S t))) = _
    rw [ih, List.contains_cons]
    congr 1
    rw [Bool.eq_iff_iff, beq_iff_eq, beq_iff_eq]
    exact ⟨fun h => (S_inj h).symm, fun h => by rw [h]⟩
theorem lit_reserved : ([.str "read", .str "if", .str "else", .str "stop"] : List V) = Vaslca.RESERVED.map fun t => V.str (S t) := by
  have h1 : ("read" : Str) = S (ascii "read") := by decide +kernel
  have h2 : ("if" : Str) = S (ascii "if") := by decide +kernel
  have h3 : ("else" : Str) = S (ascii "else") := by decide +kernel
  have h4 : ("stop" : Str) = S (ascii "stop") := by decide +kernel
  rw [h1, h2, h3, h4]
  rfl
theorem letters : tl ("abcdefghijklmnopqrstuvwxyz" : Str) = (List.range 26).map (97 + ·) := by decide +kernel
theorem small_letter (b : UInt8) : decide (b.toNat ∈ tl ("abcdefghijklmnopqrstuvwxyz" : Str)) = isSmall b := by
  rw [letters, Bool.eq_iff_iff, decide_eq_true_eq]
  simp only [isSmall, Bool.and_eq_true, decide_eq_true_eq, UInt8.le_iff_toNat_le, List.mem_map, List.mem_range]
  constructor
  · rintro ⟨k, hk, e⟩
    exact ⟨by show 97 ≤ b.toNat; omega, by show b.toNat ≤ 122; omega⟩
  · rintro ⟨h1, h2⟩
    have h1' : 97 ≤ b.toNat := h1
    have h2' : b.toNat ≤ 122 := h2
    exact ⟨b.toNat - 97, by omega, by omega⟩

def sp_is_name (_ : Ad) : Sp := fun vs H Q _ => ∃ w : Text, vs = [.str (S w)] ∧ Low w ∧ w.length ≤ 1000 ∧ ∀ H', Ex H H' → Q (.bl (isName w)) H'
theorem ok_is_name (T : Facts K mg a) : FnOk P w K mg base CX0 1 a.f_is_name a.d_is_name ["word"] (sp_is_name a) := by
  refine T.F_is_name.ok sc_is_name (fun vs H Q E h => ?_) (fun cdv A outer s H vs Q E hr h => ?_)
  · obtain ⟨w, rfl, _⟩ := h
    rfl
  · refine ⟨_, (pss_cons (ps_if (PW.pt (pw_or (pt_cmpR op_eq (pv 0) pe_str (nomark _)) (pw_or (pt_cmpR op_gt (pe_callB call_len_str (by rfl) T.b_len (by decide +kernel) (pa_cons (pv 0) pa_nil)) (pe_gi rfl T.c_LONGEST_NAME.choose_spec) (nomark _)) (pw_or1 (pt_cmpR op_in_seq (pv 0) (pe_ga rfl T.t_NO_NAMES) (by rfl))))))
    (pss_one (ps_ret pe_bl))
    pss_nil)
    (pss_one (ps_ret (pe_callB (cr_all rfl) (by rfl) T.b_all (by decide +kernel) (pa_cons (pe_lc (own := [("sign", 1)]) (g := gName 1) (tt := tYes) (by rfl) sc_is_name.nd (pi_str (pv 0)) (blkOk_by (own := [("sign", 1)]) (N := ["word", "sign"]) (sc := defScope st_is_name) (by decide +kernel)) (fun _ _ _ _ _ => pg_name (i := 1) sc_is_name.nd rfl (Or.inl rfl)) (fun _ _ _ _ _ => pts_nil) (fun _ _ _ _ _ => (pe_cmpR op_in_sign (pv 1) (pe_gs rfl T.c_LETTERS.choose_spec) (by rfl)))) pa_nil))))), ?_⟩
    obtain ⟨w, rfl, hl, hz, k⟩ := h
    refine Evl.q_when (b := decide (V.str (S w) = V.str "") || (decide ((4 : Int) < ((S w).length : Int)) || inV (.str (S w)) [.str "read", .str "if", .str "else", .str "stop"]))
      (Evl.et_or (Evl.et_test (Evl.ev_op (Evl.ev_var rfl) Evl.ev_c (Evl.rv_eq rfl))) fun _ => Evl.et_or (Evl.et_test (Evl.ev_op (ev_lenS (Evl.ev_var rfl) (by rw [len_S]; omega)) Evl.ev_c Evl.rv_I0)) fun _ =>
        Evl.et_test (Evl.ev_op (Evl.ev_var rfl) Evl.ev_c (Evl.rv_isT (T.s_NO_NAMES _) rfl rfl))) (fun hc H1 e1 => ?_) (fun hc H1 e1 => ?_)
    · refine Evl.s_ret Evl.ev_c fun H2 e2 => ?_
      rw [lit_empty, dec_S, lit_reserved, in_words, len_S] at hc
      have e : isName w = false := by
        cases h : isName w with
        | false => rfl
        | true =>
          simp only [isName, Bool.and_eq_true, Bool.not_eq_true', decide_eq_true_eq, Vaslca.NAME] at h
          obtain ⟨h1, h2, h3, h4⟩ := h
          simp only [Bool.or_eq_true, beq_iff_eq, decide_eq_true_eq] at hc
          rcases hc with c | c | c
          · rw [c] at h1; simp at h1
          · have h2' : w.length ≤ 4 := of_decide_eq_true h2
            omega
          · rw [c] at h4; cases h4
      rw [e] at k
      exact k H2 (e1.trans e2)
    · rw [lit_empty, dec_S, lit_reserved, in_words, len_S] at hc
      simp only [Bool.or_eq_false_iff, beq_eq_false_iff_ne, decide_eq_false_iff_not] at hc
      obtain ⟨c1, c2, c3⟩ := hc
      have e : isName w = w.all isSmall := by
        unfold isName Vaslca.NAME
        rw [c3]
        have : w.isEmpty = false := by cases w <;> simp_all
        rw [this]
        have c4 : w.length ≤ 4 := by omega
        simp [c4]
      rw [e] at k
      have sz : (S w).cps.size = w.length := len_S w
      refine Evl.s_ret (ev_allN (bs := (List.range w.length).map fun i => isSmall (w.getD i 0)) ?_) fun H2 e2 => ?_
      · have q := el_lcS (z := S w) (σ := L2.start ["word", "sign"] [V.str (S w)]) (H := H1) (tl := tVar 0) (j := 1) (vs := [1]) (te := tOp (fun x y H Q => ∃ (c : Nat) (z : Str), x = .str ⟨#[c]⟩ ∧ y = .str z ∧ Q (.bl (decide (c ∈ z.cps.toList))) H) (tVar 1) (tC (.str "abcdefghijklmnopqrstuvwxyz")))
          (fun i => V.bl (isSmall (w.getD i 0))) (Evl.ev_var rfl) (by omega) (fun x => rfl) (fun i c H3 e3 hc => Evl.ev_op (Evl.ev_var rfl) Evl.ev_c (fun H4 e4 Q q => ?_))
        · rw [sz] at q
          rw [List.map_map]
          exact q
        · refine ⟨c, _, rfl, rfl, ?_⟩
          have hc' : (w.map UInt8.toNat)[i]? = some c := by
            have : (S w).cps[i]? = (tl (S w))[i]? := by simp [tl]
            rw [this] at hc
            exact hc
          rw [List.getElem?_map] at hc'
          cases hb : w[i]? with
          | none => rw [hb] at hc'; cases hc'
          | some b =>
            rw [hb] at hc'
            cases Option.some.inj hc'
            have q' := q H4 (Ex.refl H4)
            rw [List.getD_eq_getElem?_getD, hb] at q'
            rw [small_letter b]
            exact q'
      · have e2' : ((List.range w.length).map fun i => isSmall (w.getD i 0)).all id = w.all isSmall := by
          have : (List.range w.length).map (fun i => isSmall (w.getD i 0)) = w.map isSmall := by
            refine List.ext_getElem (by simp) fun i h1 h2 => ?_
            simp at h1
            simp [h1]
          rw [this, List.all_map]
          rfl
        rw [e2']
        exact k H2 (e1.trans e2)
end VP
set_option Elab.async false
set_option linter.all false
set_option maxRecDepth 100000
set_option maxHeartbeats 2000000
namespace VP
open PySem PySem.Spec PyProof.Rows L2 TL
open Vaslca (Text Name cutAt gluedBy ascii isName isSmall isDigit numberOf decimal atomOf Atom atomText isAtom)
open Evl (Ex Ev EvT EvA EvL)
variable {P : Program} {w : World} {K : PySem.W.Frag} {mg : Str → Option Value} {base : Heap} {a : Ad}

def wdV (ws : List Text) : List V := ws.map fun t => V.str (S t)
def natV (ns : List Nat) : List V := ns.map fun (n : Nat) => V.int (n : Int)
/-- a word of a row: ASCII, not longer than a text -/
def Word (t : Text) : Prop := Low t ∧ t.length ≤ 1000
theorem atom_test (t : Text) : (atomOf t).isSome = ((numberOf t).isSome || isName t) := by
  unfold atomOf
  by_cases h : isName t = true
  · rw [if_pos h, h]; simp
  · rw [if_neg h]
    have : isName t = false := by simpa using h
    rw [this]
    cases numberOf t <;> rfl

def sp_is_atom (_ : Ad) : Sp := fun vs H Q _ => ∃ t : Text, vs = [.str (S t)] ∧ Word t ∧ ∀ H', Ex H H' → Q (.bl (atomOf t).isSome) H'
theorem ok_is_atom (T : Facts K mg a) : FnOk P w K mg base CX0 2 a.f_is_atom a.d_is_atom ["word"] (sp_is_atom a) := by
  refine T.F_is_atom.ok sc_is_atom (fun vs H Q E h => ?_) (fun cdv A outer s H vs Q E hr h => ?_)
  · obtain ⟨w, rfl, _⟩ := h
    rfl
  · refine ⟨_, (pss_one (ps_ret (pe_or (pe_call (ok_is_number T) (hr.mono (by decide)) rfl T.g_is_number T.F_is_number.kp T.B_is_number .nil pass0 (pa_cons (pv 0) pa_nil)) (pe_one (pe_call (ok_is_name T) (hr.mono (by decide)) rfl T.g_is_name T.F_is_name.kp T.B_is_name .nil pass0 (pa_cons (pv 0) pa_nil)))))), ?_⟩
    obtain ⟨t, rfl, ⟨hl, hz⟩, k⟩ := h
    rw [atom_test] at k
    refine Evl.s_ret (Evl.ev_orV (Evl.ev_call (Evl.ea_cons (Evl.ev_var rfl) Evl.ea_nil) fun H1 _ Q q E => ⟨t, rfl, hl, hz, q⟩) fun _ => Evl.ev_call (Evl.ea_cons (Evl.ev_var rfl) Evl.ea_nil) fun H1 _ Q q E => ⟨t, rfl, hl, hz, q⟩) k

def namesIn (ws : List Text) : List Text := ws.foldl (fun acc w => if (isName w && !acc.contains w) = true then acc ++ [w] else acc) []
theorem namesIn_more {ws : List Text} {i : Nat} {t : Text} (h : ws[i]? = some t) : namesIn (ws.take (i + 1)) = if (isName t && !(namesIn (ws.take i)).contains t) = true then namesIn (ws.take i) ++ [t] else namesIn (ws.take i) := by
  have e : ws.take (i + 1) = ws.take i ++ [t] := by
    rw [List.take_add_one, h]
    rfl
  unfold namesIn
  rw [e, List.foldl_append]
  rfl
theorem namesIn_len (ws : List Text) : (namesIn ws).length ≤ ws.length := by
  have : ∀ (l acc : List Text), (l.foldl (fun acc w => if (isName w && !acc.contains w) = true then acc ++ [w] else acc) acc).length ≤ acc.length + l.length := by
    intro l
    induction l with
    | nil => intro acc; simp
    | cons x r ih =>
      intro acc
      rw [List.foldl_cons]
      refine Nat.le_trans (ih _) ?_
      split
      · simp; omega
      · simp
  simpa [namesIn] using this ws []

theorem wdV_at {ws : List Text} {i : Nat} {x : V} (h : (wdV ws)[i]? = some x) : ∃ t, ws[i]? = some t ∧ x = .str (S t) := by
  unfold wdV at h
  rw [List.getElem?_map] at h
  cases e : ws[i]? with
  | none => rw [e] at h; cases h
  | some t =>
    rw [e] at h
    exact ⟨t, rfl, (Option.some.inj h).symm⟩
theorem wdV_flat (ws : List Text) : (wdV ws).all flatV = true := by
  rw [List.all_eq_true]
  intro x hx
  obtain ⟨t, _, rfl⟩ := List.mem_map.mp hx
  rfl
theorem wdV_len (ws : List Text) : (wdV ws).length = ws.length := List.length_map ..
theorem wdV_app (ws : List Text) (t : Text) : wdV (ws ++ [t]) = wdV ws ++ [.str (S t)] := by simp [wdV]

def sp_names_among (_ : Ad) : Sp := fun vs H Q _ => ∃ (l : Addr) (ws : List Text), vs = [.ref l] ∧ H l = some (.lst (wdV ws)) ∧ (∀ t ∈ ws, Word t) ∧ ws.length ≤ 10 ∧ Evl.RetL (wdV (namesIn ws)) H Q
theorem ok_names_among (T : Facts K mg a) : FnOk P w K mg base CX0 2 a.f_names_among a.d_names_among ["atoms"] (sp_names_among a) := by
  refine T.F_names_among.ok sc_names_among (fun vs H Q E h => ?_) (fun cdv A outer s H vs Q E hr h => ?_)
  · obtain ⟨l, ws, rfl, _⟩ := h
    rfl
  · refine ⟨_, (pss_cons (ps_set (i := 1) sc_names_among.nd rfl (Or.inl rfl) (pe_lst pa_nil))
    (pss_cons (ps_for PassesOwn.never rfl (pi_list (pv 0)) (pg_name (i := 2) sc_names_among.nd rfl (Or.inl rfl))
    (pss_one (ps_if (PW.pt (pw_and (pt_val (pe_call (ok_is_name T) (hr.mono (by decide)) rfl T.g_is_name T.F_is_name.kp T.B_is_name .nil pass0 (pa_cons (pv 2) pa_nil))) (pw_and1 (pt_cmpR op_notIn_seq (pv 2) (pv 1) (by rfl)))))
    (pss_one (ps_expr (pe_bm PySem.F.plainAttrs_list PySem.F.slot_list_append PySem.F.type_list_append mt_append (pv 1) (pa_cons (pv 2) pa_nil))))
    pss_nil)))
    (pss_one (ps_ret (pv 1))))), ?_⟩
    obtain ⟨l, ws, rfl, hl, hw, hz, k⟩ := h
    refine Evl.q_asgL (Evl.el_lst Evl.ea_nil (by decide)) fun p H1 hp e1 h1 => ?_
    refine Evl.q_forLn (Evl.ev_var rfl) (Evl.sq_of (e1 l _ hl)) (fun i σ' H' => ∃ v, σ' = [some (.ref l), some (.ref p), v] ∧ Ex H H' ∧ H' p = some (.lst (wdV (namesIn (ws.take i))))) (fun H2 e2 => ⟨_, rfl, e1.trans e2, e2 p _ h1⟩)
      (fun i σ' H' _ ⟨_, _, e, _⟩ => Evl.sq_of (e l _ hl)) (fun i x σ' H' hi ⟨v, es, e, hp'⟩ => ?_) (fun σ' H' ⟨v, es, e, hp'⟩ => ?_)
    · obtain ⟨t, ht, rfl⟩ := wdV_at hi
      subst es
      have wt : Word t := hw t (List.mem_of_getElem? ht)
      have lt : i < ws.length := (List.getElem?_eq_some_iff.mp ht).1
      have nl : (namesIn (ws.take i)).length ≤ 10 := Nat.le_trans (namesIn_len _) (by rw [List.length_take]; omega)
      refine Evl.s_when (b := isName t && !(namesIn (ws.take i)).contains t) (Evl.et_and (Evl.et_B (Evl.ev_call (Evl.ea_cons (Evl.ev_var rfl) Evl.ea_nil) fun H1 _ Q q E => ⟨t, rfl, wt.1, wt.2, q⟩))
        fun _ => Evl.et_test (by
          have q := Evl.ev_op (r := rIn K true) (Evl.ev_var (σ := [some (V.ref l), some (V.ref p), some (.str (S t))]) (i := 2) (H := H') rfl) (Evl.ev_var (i := 1) rfl) (Evl.rv_niL (Evl.sq_of hp') rfl (wdV_flat _))
          have q2 : inV (.str (S t)) (wdV (namesIn (ws.take i))) = (namesIn (ws.take i)).contains t := in_words t _
          rw [q2] at q
          exact q)) (fun hb H2 e2 => ?_) (fun hb H2 e2 => ?_)
      · refine Evl.s_app (e2 p _ hp') (Evl.ev_var rfl) (Evl.ev_var rfl) (by rw [wdV_len]; omega) fun H3 e3 => ⟨_, rfl, Ex.mut ((e.trans e2).trans e3) hp, ?_⟩
        rw [namesIn_more ht, if_pos hb, wdV_app]
        exact upd_same
      · refine ⟨_, rfl, e.trans e2, ?_⟩
        rw [namesIn_more ht, if_neg (by rw [hb]; decide)]
        exact e2 p _ hp'
    · subst es
      rw [wdV_len, List.take_length] at hp'
      exact Evl.s_ret (Evl.ev_var rfl) fun H2 e2 => k p H2 hp (e.trans e2) (e2 p _ hp')

def sp_check_atoms (a : Ad) : Sp := fun vs H Q E => ∃ (l : Addr) (ws : List Text), vs = [.ref l] ∧ H l = some (.lst (wdV ws)) ∧ (∀ t ∈ ws, Word t) ∧ ws.length ≤ 1000 ∧
  ((∀ t ∈ ws, (atomOf t).isSome = true) → ∀ H', Ex H H' → Q .non H') ∧ ((∃ t ∈ ws, (atomOf t).isSome = false) → ∀ H', Ex H H' → E (.ref a.C_NotAProgram) none H')
theorem ok_check_atoms (T : Facts K mg a) : FnOk P w K mg base (L2.CX P w) 3 a.f_check_atoms a.d_check_atoms ["words"] (sp_check_atoms a) := by
  refine T.F_check_atoms.okX sc_check_atoms (fun vs H Q E h => ?_) (fun cdv A outer s H vs Q E hr h => ?_)
  · obtain ⟨l, ws, rfl, _⟩ := h
    rfl
  · refine ⟨_, (pss_one (ps_for (passes_of rfl) rfl (pi_list (pv 0)) (pg_name (i := 1) sc_check_atoms.nd rfl (Or.inl rfl))
    (pss_one (ps_if (pt_not (pt_val (pe_call (ok_is_atom T) (hr.mono (by decide)) rfl T.g_is_atom T.F_is_atom.kp T.B_is_atom .nil pass0 (pa_cons (pv 1) pa_nil))))
    (pss_one (ps_raise rfl (takes_of rfl rfl rfl rfl) (pmk_own0 PySem.F.excBase_Exception T.x_NotAProgram.x T.x_NotAProgram.g T.x_NotAProgram.k (raises_own T.x_NotAProgram.b T.x_NotAProgram.t) (by exact rfl))))
    pss_nil)))), ?_⟩
    obtain ⟨l, ws, rfl, hl, hw, hz, kY, kN⟩ := h
    refine Evl.s_forLn (Evl.ev_var rfl) (Evl.sq_of hl) (fun i σ' H' => ∃ v, σ' = [some (.ref l), v] ∧ Ex H H' ∧ ∀ t ∈ ws.take i, (atomOf t).isSome = true) (fun H2 e2 => ⟨_, rfl, e2, by simp⟩)
      (fun i σ' H' _ ⟨_, _, e, _⟩ => Evl.sq_of (e l _ hl)) (fun i x σ' H' hi ⟨v, es, e, hp'⟩ => ?_) (fun σ' H' ⟨v, es, e, hp'⟩ => ?_)
    · obtain ⟨t, ht, rfl⟩ := wdV_at hi
      subst es
      have mt : t ∈ ws := List.mem_of_getElem? ht
      have wt : Word t := hw t mt
      refine Evl.s_when (b := !(atomOf t).isSome) (Evl.et_not (Evl.et_B (Evl.ev_call (Evl.ea_cons (Evl.ev_var rfl) Evl.ea_nil) fun H1 _ Q q E => ⟨t, rfl, wt, q⟩))) (fun hb H2 e2 => ?_) (fun hb H2 e2 => ?_)
      · exact kN ⟨t, mt, by simpa using hb⟩ H2 (e.trans e2)
      · refine ⟨_, rfl, e.trans e2, fun u hu => ?_⟩
        rw [List.take_add_one, ht] at hu
        rcases List.mem_append.mp hu with q | q
        · exact hp' u q
        · have : u = t := by simpa using q
          subst this
          simpa using hb
    · rw [wdV_len, List.take_length] at hp'
      exact kY hp' H' e
end VP
set_option Elab.async false
set_option linter.all false
set_option maxRecDepth 100000
set_option maxHeartbeats 2000000
namespace VP
open PySem PySem.Spec PyProof.Rows L2 TL
open Vaslca (Text Name cutAt gluedBy ascii isName isSmall isDigit numberOf decimal atomOf Atom atomText isAtom)
open Evl (Ex Ev EvT EvA EvL EvU)
variable {P : Program} {w : World} {K : PySem.W.Frag} {mg : Str → Option Value} {base : Heap} {a : Ad}

/-! all but one object stand as before -/
def Fr (p : Addr) (H H' : Hp) : Prop := ∀ b o, H b = some o → b ≠ p → H' b = some o
theorem Fr.of {p : Addr} {H H' : Hp} (e : Ex H H') : Fr p H H' := fun b o h _ => e b o h
theorem Fr.refl (p : Addr) (H : Hp) : Fr p H H := fun _ _ h _ => h
theorem Fr.trans {p : Addr} {H H1 H2 : Hp} (x : Fr p H H1) (y : Fr p H1 H2) : Fr p H H2 := fun b o h n => y b o (x b o h n) n
theorem Fr.put {p : Addr} {H H' : Hp} {o : HO} (e : Fr p H H') : Fr p H (upd H' p o) := fun b u h n => by
  rw [upd_ne n]
  exact e b u h n
theorem Fr.free {p q : Addr} {H H' : Hp} {o : HO} (e : Fr p H H') (hp : H' p = some o) (h : H' q = none) : H q = none := by
  cases h1 : H q with
  | none => rfl
  | some u =>
    have n : q ≠ p := by
      rintro rfl
      rw [hp] at h
      cases h
    rw [e q u h1 n] at h
    cases h
/-- an object that the first heap does not know -/
theorem Fr.ex {p : Addr} {H H' : Hp} (e : Fr p H H') (h : H p = none) : Ex H H' := fun b o hb => e b o hb (by
  rintro rfl
  rw [h] at hb
  cases hb)
theorem ne_some {H : Hp} {p q : Addr} {o : HO} (h : H p = some o) (n : H q = none) : p ≠ q := ne_of_none h n

section
variable {σ : L2.St} {H : Hp} {ta tv : TE} {D : Ends} {tz : TS} {p C dx : Addr} {f : Str} {y : V} {fs fs' : List (Str × V)}
theorem s_fld (hv : Ev tv σ H y) (ha : Ev ta σ H (.ref p)) (hp : H p = some (.ins C dx fs)) (hc : Cls K C) (hn : NoAttr K C f) (hl : fs.length < 1000) (hf : putF f y fs = fs')
    (k : ∀ H2, Fr p H H2 → H2 p = some (.ins C dx fs') → D.nx σ H2) : sFld K ta tv f D σ H :=
  hv H (Ex.refl H) _ fun H1 e1 => ha H1 e1 _ fun H2 e2 => ⟨p, C, dx, fs, rfl, (e1.trans e2) p _ hp, hc, hn, hl, k _ (Fr.of (e1.trans e2)).put (by rw [hf]; exact upd_same)⟩
theorem q_fld (hv : Ev tv σ H y) (ha : Ev ta σ H (.ref p)) (hp : H p = some (.ins C dx fs)) (hc : Cls K C) (hn : NoAttr K C f) (hl : fs.length < 1000) (hf : putF f y fs = fs')
    (k : ∀ H2, Fr p H H2 → H2 p = some (.ins C dx fs') → tz D σ H2) : tSeq (sFld K ta tv f) tz D σ H := s_fld (D := { D with nx := tz D }) hv ha hp hc hn hl hf k
theorem s_fldL {xs : List V} {fs' : Addr → List (Str × V)} (hv : EvL tv σ H xs) (ha : Ev ta σ H (.ref p)) (hp : H p = some (.ins C dx fs)) (hc : Cls K C) (hn : NoAttr K C f) (hl : fs.length < 1000) (hf : ∀ q, putF f (.ref q) fs = fs' q)
    (k : ∀ q H2, H q = none → q ≠ p → Fr p H H2 → H2 p = some (.ins C dx (fs' q)) → H2 q = some (.lst xs) → D.nx σ H2) : sFld K ta tv f D σ H :=
  hv H (Ex.refl H) _ fun q H1 hq e1 h1 => ha H1 e1 _ fun H2 e2 => by
    have n : q ≠ p := fun e => by
      rw [e, hp] at hq
      cases hq
    exact ⟨p, C, dx, fs, rfl, (e1.trans e2) p _ hp, hc, hn, hl, k q _ hq n (Fr.of (e1.trans e2)).put (by rw [hf]; exact upd_same) (by rw [upd_ne n]; exact e2 q _ h1)⟩
theorem q_fldL {xs : List V} {fs' : Addr → List (Str × V)} (hv : EvL tv σ H xs) (ha : Ev ta σ H (.ref p)) (hp : H p = some (.ins C dx fs)) (hc : Cls K C) (hn : NoAttr K C f) (hl : fs.length < 1000) (hf : ∀ q, putF f (.ref q) fs = fs' q)
    (k : ∀ q H2, H q = none → q ≠ p → Fr p H H2 → H2 p = some (.ins C dx (fs' q)) → H2 q = some (.lst xs) → tz D σ H2) : tSeq (sFld K ta tv f) tz D σ H := s_fldL (D := { D with nx := tz D }) hv ha hp hc hn hl hf k
theorem ev_fld {v : V} (ha : Ev ta σ H (.ref p)) (hp : H p = some (.ins C dx fs)) (hc : Cls K C) (hn : NoAttr K C f) (hl : fs.lookup f = some v) : Ev (tFld K ta f) σ H v := fun H1 e Q q =>
  ha H1 e _ fun H2 e2 => ⟨p, C, dx, fs, v, rfl, (e.trans e2) p _ hp, hc, hn, hl, q H2 e2⟩
end

/-! statements -/
structure Stm where
  kind : Nat
  sets : Text
  atoms : List Text
  sign : Text
  names : List Text
  headers : List Nat
  block : List Nat
  otherwise : List Nat
structure SA where
  o : Addr
  dx : Addr
  at_ : Addr
  nm : Addr
  hd : Addr
  bl : Addr
  ot : Addr
def SA.all (r : SA) : List Addr := [r.o, r.at_, r.nm, r.hd, r.bl, r.ot]
def stF (s : Stm) (r : SA) : List (Str × V) := [("kind", .int (s.kind : Int)), ("sets", .str (S s.sets)), ("atoms", .ref r.at_), ("sign", .str (S s.sign)), ("names", .ref r.nm), ("headers", .ref r.hd), ("block", .ref r.bl), ("otherwise", .ref r.ot)]
structure StmAt (a : Ad) (H : Hp) (r : SA) (s : Stm) : Prop where
  o : H r.o = some (.ins a.C_Statement r.dx (stF s r))
  at_ : H r.at_ = some (.lst (wdV s.atoms))
  nm : H r.nm = some (.lst (wdV s.names))
  hd : H r.hd = some (.lst (natV s.headers))
  bl : H r.bl = some (.lst (natV s.block))
  ot : H r.ot = some (.lst (natV s.otherwise))
theorem StmAt.mono {H H' : Hp} {r : SA} {s : Stm} (e : Ex H H') (h : StmAt a H r s) : StmAt a H' r s := ⟨e _ _ h.o, e _ _ h.at_, e _ _ h.nm, e _ _ h.hd, e _ _ h.bl, e _ _ h.ot⟩
theorem stF_kind (s : Stm) (r : SA) : (stF s r).lookup ("kind" : Str) = some (.int (s.kind : Int)) := by kernel_rfl
theorem stF_sets (s : Stm) (r : SA) : (stF s r).lookup ("sets" : Str) = some (.str (S s.sets)) := by kernel_rfl
theorem stF_atoms (s : Stm) (r : SA) : (stF s r).lookup ("atoms" : Str) = some (.ref r.at_) := by kernel_rfl
theorem stF_sign (s : Stm) (r : SA) : (stF s r).lookup ("sign" : Str) = some (.str (S s.sign)) := by kernel_rfl
theorem stF_names (s : Stm) (r : SA) : (stF s r).lookup ("names" : Str) = some (.ref r.nm) := by kernel_rfl
theorem stF_headers (s : Stm) (r : SA) : (stF s r).lookup ("headers" : Str) = some (.ref r.hd) := by kernel_rfl
theorem stF_block (s : Stm) (r : SA) : (stF s r).lookup ("block" : Str) = some (.ref r.bl) := by kernel_rfl
theorem stF_otherwise (s : Stm) (r : SA) : (stF s r).lookup ("otherwise" : Str) = some (.ref r.ot) := by kernel_rfl

/-- a statement as its row tells it -/
def rowStm (k : Nat) (sets : Text) (atoms : List Text) (sign : Text) : Stm := ⟨k, sets, atoms, sign, namesIn atoms, [], [], []⟩
def sp_Statement_init (a : Ad) : Sp := fun vs H Q _ => ∃ (p dx l : Addr) (k : Nat) (sets sign : Text) (ws : List Text), vs = [.ref p, .int (k : Int), .str (S sets), .ref l, .str (S sign)] ∧ H p = some (.ins a.C_Statement dx []) ∧ H l = some (.lst (wdV ws)) ∧
  (∀ t ∈ ws, Word t) ∧ ws.length ≤ 10 ∧ ∀ (r : SA) (H' : Hp), r.o = p → r.dx = dx → r.at_ = l → H r.nm = none → H r.hd = none → H r.bl = none → H r.ot = none → r.all.Nodup → Fr p H H' → StmAt a H' r (rowStm k sets ws sign) → Q .non H'
theorem ok_Statement_init (T : Facts K mg a) : FnOk P w K mg base CX0 3 a.f_Statement_init a.d_Statement_init ["self", "kind", "sets", "atoms", "sign"] (sp_Statement_init a) := by
  refine T.F_Statement_init.ok sc_Statement_init (fun vs H Q E h => ?_) (fun cdv A outer s H vs Q E hr h => ?_)
  · obtain ⟨p, dx, l, k, sets, sign, ws, rfl, _⟩ := h
    rfl
  · refine ⟨_, (pss_cons (ps_fld (pv 0) (pv 1) rfl)
    (pss_cons (ps_fld (pv 0) (pv 2) rfl)
    (pss_cons (ps_fld (pv 0) (pv 3) rfl)
    (pss_cons (ps_fld (pv 0) (pv 4) rfl)
    (pss_cons (ps_fld (pv 0) (pe_call (ok_names_among T) (hr.mono (by decide)) rfl T.g_names_among T.F_names_among.kp T.B_names_among .nil pass0 (pa_cons (pv 3) pa_nil)) rfl)
    (pss_cons (ps_fld (pv 0) (pe_lst pa_nil) rfl)
    (pss_cons (ps_fld (pv 0) (pe_lst pa_nil) rfl)
    (pss_one (ps_fld (pv 0) (pe_lst pa_nil) rfl))))))))), ?_⟩
    obtain ⟨p, dx, l, k, sets, sign, ws, rfl, hp, hl, hw, hz, q⟩ := h
    have npl : l ≠ p := ne_of hl hp (by intro z; cases z)
    refine q_fld (Evl.ev_var rfl) (Evl.ev_var rfl) hp T.cl_Statement T.n_Statement_kind (by simp) (fs' := [("kind", .int (k : Int))]) (by kernel_rfl) fun H1 f1 h1 => ?_
    refine q_fld (Evl.ev_var rfl) (Evl.ev_var rfl) h1 T.cl_Statement T.n_Statement_sets (by simp) (fs' := [("kind", .int (k : Int)), ("sets", .str (S sets))]) (by kernel_rfl) fun H2 f2 h2 => ?_
    refine q_fld (Evl.ev_var rfl) (Evl.ev_var rfl) h2 T.cl_Statement T.n_Statement_atoms (by simp) (fs' := [("kind", .int (k : Int)), ("sets", .str (S sets)), ("atoms", .ref l)]) (by kernel_rfl) fun H3 f3 h3 => ?_
    refine q_fld (Evl.ev_var rfl) (Evl.ev_var rfl) h3 T.cl_Statement T.n_Statement_sign (by simp) (fs' := [("kind", .int (k : Int)), ("sets", .str (S sets)), ("atoms", .ref l), ("sign", .str (S sign))]) (by kernel_rfl) fun H4 f4 h4 => ?_
    have f14 := ((f1.trans f2).trans f3).trans f4
    have l4 := f14 l _ hl npl
    refine q_fldL (xs := wdV (namesIn ws)) (Evl.el_call (Evl.ea_cons (Evl.ev_var rfl) Evl.ea_nil) fun H5 e5 Q q _ => ⟨l, ws, rfl, e5 l _ l4, hw, hz, q⟩) (Evl.ev_var rfl) h4 T.cl_Statement T.n_Statement_names (by simp)
      (fs' := fun nm => [("kind", .int (k : Int)), ("sets", .str (S sets)), ("atoms", .ref l), ("sign", .str (S sign)), ("names", .ref nm)]) (fun _ => by kernel_rfl) fun nm H5 n5 np5 f5 h5 g5 => ?_
    refine q_fldL (xs := []) (Evl.el_lst Evl.ea_nil (by decide)) (Evl.ev_var rfl) h5 T.cl_Statement T.n_Statement_headers (by simp)
      (fs' := fun hd => [("kind", .int (k : Int)), ("sets", .str (S sets)), ("atoms", .ref l), ("sign", .str (S sign)), ("names", .ref nm), ("headers", .ref hd)]) (fun _ => by kernel_rfl) fun hd H6 n6 np6 f6 h6 g6 => ?_
    refine q_fldL (xs := []) (Evl.el_lst Evl.ea_nil (by decide)) (Evl.ev_var rfl) h6 T.cl_Statement T.n_Statement_block (by simp)
      (fs' := fun bl => [("kind", .int (k : Int)), ("sets", .str (S sets)), ("atoms", .ref l), ("sign", .str (S sign)), ("names", .ref nm), ("headers", .ref hd), ("block", .ref bl)]) (fun _ => by kernel_rfl) fun bl H7 n7 np7 f7 h7 g7 => ?_
    refine s_fldL (xs := []) (Evl.el_lst Evl.ea_nil (by decide)) (Evl.ev_var rfl) h7 T.cl_Statement T.n_Statement_otherwise (by simp)
      (fs' := fun ot => [("kind", .int (k : Int)), ("sets", .str (S sets)), ("atoms", .ref l), ("sign", .str (S sign)), ("names", .ref nm), ("headers", .ref hd), ("block", .ref bl), ("otherwise", .ref ot)]) (fun _ => by kernel_rfl) fun ot H8 n8 np8 f8 h8 g8 => ?_
    have l5 := f5 l _ l4 npl
    have l6 := f6 l _ l5 npl
    have l7 := f7 l _ l6 npl
    have l8 := f8 l _ l7 npl
    have nm6 := f6 nm _ g5 np5
    have nm7 := f7 nm _ nm6 np5
    have nm8 := f8 nm _ nm7 np5
    have hd7 := f7 hd _ g6 np6
    have hd8 := f8 hd _ hd7 np6
    have bl8 := f8 bl _ g7 np7
    have a5 : H nm = none := f14.free h4 n5
    have a6 : H hd = none := f14.free h4 (f5.free h5 n6)
    have a7 : H bl = none := f14.free h4 (f5.free h5 (f6.free h6 n7))
    have a8 : H ot = none := f14.free h4 (f5.free h5 (f6.free h6 (f7.free h7 n8)))
    refine q ⟨p, dx, l, nm, hd, bl, ot⟩ H8 rfl rfl rfl a5 a6 a7 a8 ?_ ((((f14.trans f5).trans f6).trans f7).trans f8) ⟨h8, l8, nm8, hd8, bl8, g8⟩
    have x1 : p ≠ l := npl.symm
    have x2 := np5.symm
    have x3 := np6.symm
    have x4 := np7.symm
    have x5 := np8.symm
    have y1 := ne_some hl a5
    have y2 := ne_some hl a6
    have y3 := ne_some hl a7
    have y4 := ne_some hl a8
    have z1 := ne_some g5 n6
    have z2 := ne_some nm6 n7
    have z3 := ne_some nm7 n8
    have u1 := ne_some g6 n7
    have u2 := ne_some hd7 n8
    have u3 := ne_some g7 n8
    simp only [SA.all, List.nodup_cons, List.mem_cons, List.not_mem_nil, or_false, not_or, List.nodup_nil, not_false_eq_true, and_true]
    exact ⟨⟨x1, x2, x3, x4, x5⟩, ⟨y1, y2, y3, y4⟩, ⟨z1, z2, z3⟩, ⟨u1, u2⟩, u3⟩

def sp_is_header (a : Ad) : Sp := fun vs H Q _ => ∃ (r : SA) (s : Stm), vs = [.ref r.o] ∧ StmAt a H r s ∧ ∀ H', Ex H H' → Q (.bl (decide (s.kind = 5 ∨ s.kind = 6))) H'
theorem ok_is_header (T : Facts K mg a) : FnOk P w K mg base CX0 1 a.f_is_header a.d_is_header ["statement"] (sp_is_header a) := by
  refine T.F_is_header.ok sc_is_header (fun vs H Q E h => ?_) (fun cdv A outer s H vs Q E hr h => ?_)
  · obtain ⟨r, s, rfl, _⟩ := h
    rfl
  · refine ⟨_, (pss_one (ps_ret (pe_cmpR op_in_seq (pe_fld (pv 0) rfl) (pe_tup (pa_cons (pe_gi rfl T.c_IF.choose_spec) (pa_cons (pe_gi rfl T.c_WHILE.choose_spec) pa_nil))) (by rfl)))), ?_⟩
    obtain ⟨r, s', rfl, hs, k⟩ := h
    have e : decide (s'.kind = 5 ∨ s'.kind = 6) = inV (.int (s'.kind : Int)) [.int 5, .int 6] := by
      show _ = ((((5 : Int) == (s'.kind : Int)) || (((6 : Int) == (s'.kind : Int)) || false)))
      rw [Bool.eq_iff_iff]
      simp only [decide_eq_true_eq, Bool.or_eq_true, beq_iff_eq, Bool.or_false]
      omega
    rw [e] at k
    exact Evl.s_ret (Evl.ev_inU (ev_fld (Evl.ev_var rfl) hs.o T.cl_Statement T.n_Statement_kind (stF_kind _ _)) (Evl.eu_tup (Evl.ea_cons Evl.ev_c (Evl.ea_cons Evl.ev_c Evl.ea_nil)) (by decide)) rfl rfl) k
end VP
set_option Elab.async false
set_option linter.all false
set_option maxRecDepth 100000
set_option maxHeartbeats 4000000
namespace VP
open PySem PySem.Spec PyProof.Rows L2 TL
open Vaslca (Text Name cutAt gluedBy ascii isName isSmall isDigit numberOf decimal atomOf Atom atomText isAtom exprOf condOf opOf relOf opText relText)
open VO (Head headOf)
open Evl (Ex Ev EvT EvA EvL EvU)
variable {P : Program} {w : World} {K : PySem.W.Frag} {mg : Str → Option Value} {base : Heap} {a : Ad}

/-- what is wanted behind a new statement -/
def RetS (a : Ad) (s : Stm) (H : Hp) (Q : VK) : Prop := ∀ (r : SA) (H' : Hp), (∀ x ∈ r.all, H x = none) → r.all.Nodup → Ex H H' → StmAt a H' r s → Q (.ref r.o) H'
theorem made_stm {H H1 : Hp} {l : Addr} {ws : List Text} {k : Nat} {sets sign : Text} {Q : VK} {E : XK} (e : Ex H H1) (hl : H l = none) (h1 : H1 l = some (.lst (wdV ws))) (hw : ∀ t ∈ ws, Word t) (hz : ws.length ≤ 10) (q : RetS a (rowStm k sets ws sign) H Q) :
    ∀ x dx, H1 x = none → H1 dx = none → dx ≠ x → sp_Statement_init a (.ref x :: ([.int (k : Int), .str (S sets), .ref l, .str (S sign)] ++ [])) (upd (upd H1 dx (.own x)) x (.ins a.C_Statement dx [])) (fun v H2 => v = .non ∧ Q (.ref x) H2) E := by
  intro x dx nx nd ne
  have lx : l ≠ x := ne_some h1 nx
  have ld : l ≠ dx := ne_some h1 nd
  refine ⟨x, dx, l, k, sets, sign, ws, rfl, upd_same, by rw [upd_ne lx, upd_ne ld]; exact h1, hw, hz, fun r H' ro rdx rat f1 f2 f3 f4 nod fr st => ⟨rfl, ?_⟩⟩
  have back : ∀ y, (upd (upd H1 dx (.own x)) x (.ins a.C_Statement dx [])) y = none → H y = none := by
    intro y hy
    have yx : y ≠ x := by
      rintro rfl
      rw [upd_same] at hy
      cases hy
    rw [upd_ne yx] at hy
    have yd : y ≠ dx := by
      rintro rfl
      rw [upd_same] at hy
      cases hy
    rw [upd_ne yd] at hy
    exact Evl.fresh_back e hy
  have z := q r H' (fun y hy => ?_) nod (fun b o hb => ?_) st
  · rw [ro] at z
    exact z
  · simp only [SA.all, List.mem_cons, List.not_mem_nil, or_false] at hy
    rcases hy with rfl | rfl | rfl | rfl | rfl | rfl
    · rw [ro]; exact Evl.fresh_back e nx
    · rw [rat]; exact hl
    · exact back _ f1
    · exact back _ f2
    · exact back _ f3
    · exact back _ f4
  · have hb1 := e b o hb
    have bx := ne_some hb1 nx
    have bd := ne_some hb1 nd
    exact fr b o (by rw [upd_ne bx, upd_ne bd]; exact hb1) bx

def exprAtoms (e : Vaslca.Expr) : List Text := if e.op = .alone then [atomText e.one] else [atomText e.one, atomText e.two]
def stmOf : Head → Stm
  | .set v e => rowStm 1 v (exprAtoms e) (opText e.op)
  | .read v => rowStm 2 v [] []
  | .write x => rowStm 3 [] [atomText x] []
  | .halt => rowStm 4 [] [] []
  | .ite c => rowStm 5 [] [atomText c.one, atomText c.two] (relText c.rel)
  | .loop c => rowStm 6 [] [atomText c.one, atomText c.two] (relText c.rel)
def asgOf (ws : List Text) : Option Head := match ws with
  | v :: w :: e => if w = ascii "=" ∧ isName v = true then (exprOf e).map (.set v) else none
  | _ => none

theorem lit_eq : (("=" : Str)) = S (ascii "=") := by decide +kernel
theorem lit_ops : ([.str "+", .str "-", .str "*"] : List V) = [ascii "+", ascii "-", ascii "*"].map fun t => V.str (S t) := by
  have h1 : ("+" : Str) = S (ascii "+") := by decide +kernel
  have h2 : ("-" : Str) = S (ascii "-") := by decide +kernel
  have h3 : ("*" : Str) = S (ascii "*") := by decide +kernel
  rw [h1, h2, h3]
  rfl
theorem op_test (t : Text) : ([ascii "+", ascii "-", ascii "*"] : List Text).contains t = (opOf t).isSome := by
  cases h : opOf t with
  | some o =>
    obtain ⟨h1, h2⟩ := VO.opOf_some h
    subst h2
    cases o with
    | alone => exact absurd rfl h1
    | _ => decide
  | none =>
    have n1 : t ≠ ascii "+" := by rintro rfl; revert h; decide
    have n2 : t ≠ ascii "-" := by rintro rfl; revert h; decide
    have n3 : t ≠ ascii "*" := by rintro rfl; revert h; decide
    simp [n1, n2, n3]
theorem wdV_get {ws : List Text} {i : Nat} {t : Text} (h : ws[i]? = some t) : atI (wdV ws) (i : Int) = some (.str (S t)) := by
  refine atI_nat ?_
  unfold wdV
  rw [List.getElem?_map, h]
  rfl
theorem ev_wd {σ : L2.St} {H : Hp} {ta : TE} {l : Addr} {ws : List Text} (i : Nat) {t : Text} (ha : Ev ta σ H (.ref l)) (hl : H l = some (.lst (wdV ws))) (h : ws[i]? = some t) : Ev (tOp (rIxL K) ta (tC (.int (i : Int)))) σ H (.str (S t)) :=
  Evl.ev_op ha Evl.ev_c (Evl.rv_ixL (Evl.sq_of hl) (wdV_get h))
theorem ev_len' {σ : L2.St} {H : Hp} {ta : TE} {l : Addr} {ws : List Text} (ha : Ev ta σ H (.ref l)) (hl : H l = some (.lst (wdV ws))) : Ev (tCB (Evl.rLenS K) (tCons ta tNil)) σ H (.int (ws.length : Int)) := by
  have q := Evl.ev_len (K := K) ha (Evl.sq_of hl)
  rw [wdV_len] at q
  exact q
theorem in_two (n x y : Nat) : inV (.int (n : Int)) [.int (x : Int), .int (y : Int)] = decide (n = x ∨ n = y) := by
  show (((x : Int) == (n : Int)) || (((y : Int) == (n : Int)) || false)) = _
  rw [Bool.eq_iff_iff]
  simp only [decide_eq_true_eq, Bool.or_eq_true, beq_iff_eq, Bool.or_false]
  omega

/-! calls whose arguments hold a new list -/
def EvAL (ta : TA) (σ : L2.St) (H : Hp) (pre xs post : List V) : Prop := ∀ H1, Ex H H1 → ∀ Q : List V → Hp → Prop, (∀ p H2, H1 p = none → Ex H1 H2 → H2 p = some (.lst xs) → Q (pre ++ .ref p :: post) H2) → ta σ H1 Q
section
variable {σ : L2.St} {H : Hp} {te : TE} {ta : TA} {v : V} {pre xs post vs dvs : List V} {C : Addr} {sp : Sp} {E : XK} {D : Ends}
theorem eal_cons (h : Ev te σ H v) (hr : EvAL ta σ H pre xs post) : EvAL (tCons te ta) σ H (v :: pre) xs post := fun H1 e Q q =>
  h H1 e _ fun H2 e2 => hr H2 (e.trans e2) _ fun p H3 hp e3 h3 => q p H3 (Evl.fresh_back e2 hp) (e2.trans e3) h3
theorem eal_here (h : EvL te σ H xs) (hr : EvA ta σ H post) : EvAL (tCons te ta) σ H [] xs post := fun H1 e Q q =>
  h H1 e _ fun p H2 hp e2 h2 => hr H2 (e.trans e2) _ fun H3 e3 => q p H3 hp (e2.trans e3) (e3 p _ h2)
theorem s_retMake (h : EvA ta σ H vs) (k : ∀ H1, Ex H H1 → ∀ x dx, H1 x = none → H1 dx = none → dx ≠ x → sp (.ref x :: (vs ++ dvs)) (upd (upd H1 dx (.own x)) x (.ins C dx [])) (fun v H2 => v = .non ∧ D.rt (.ref x) H2) E) : tRet (tMake C sp dvs E ta) D σ H :=
  h H (Ex.refl H) _ fun H1 e1 => k H1 e1
theorem s_retMakeL (h : EvAL ta σ H pre xs post) (k : ∀ p H1, H p = none → Ex H H1 → H1 p = some (.lst xs) → ∀ x dx, H1 x = none → H1 dx = none → dx ≠ x → sp (.ref x :: ((pre ++ .ref p :: post) ++ dvs)) (upd (upd H1 dx (.own x)) x (.ins C dx [])) (fun v H2 => v = .non ∧ D.rt (.ref x) H2) E) : tRet (tMake C sp dvs E ta) D σ H :=
  h H (Ex.refl H) _ fun p H1 hp e1 h1 => k p H1 hp e1 h1
end

theorem fin_asg {D : Ends} {H H4 : Hp} {E : XK} {l p : Addr} {ws atoms : List Text} {v sign : Text} {Q : VK} (hD : D.rt = Q) (hl : H l = some (.lst (wdV ws))) (h0 : ws[0]? = some v) (e : Ex H H4) (np : H p = none) (hp : H4 p = some (.lst (wdV atoms))) (hw : ∀ t ∈ atoms, Word t) (hz : atoms.length ≤ 10)
    (good : (∀ t ∈ atoms, (atomOf t).isSome = true) → RetS a (rowStm 1 v atoms sign) H Q) (bad : (∃ t ∈ atoms, (atomOf t).isSome = false) → ∀ H', Ex H H' → E (.ref a.C_NotAProgram) none H') :
    tSeq (tDrop (tCall (sp_check_atoms a) [] E (tCons (tVar 1) tNil))) (tRet (tMake a.C_Statement (sp_Statement_init a) [] E0 (tCons (tC (.int 1)) (tCons (tOp (rIxL K) (tVar 0) (tC (.int 0))) (tCons (tVar 1) (tCons (tVar 2) tNil)))))) D [some (.ref l), some (.ref p), some (.str (S sign))] H4 := by
  refine ⟨_, rfl, p, atoms, rfl, hp, hw, by omega, fun hy H5 e5 => ?_, fun hn H5 e5 => bad hn H5 (e.trans e5)⟩
  have e6 := e.trans e5
  subst hD
  refine s_retMake (vs := [.int ((1 : Nat) : Int), .str (S v), .ref p, .str (S sign)]) (Evl.ea_cons Evl.ev_c (Evl.ea_cons (ev_wd 0 (Evl.ev_var rfl) (e6 l _ hl) h0) (Evl.ea_cons (Evl.ev_var rfl) (Evl.ea_cons (Evl.ev_var rfl) Evl.ea_nil)))) fun H6 e7 => ?_
  exact made_stm (e6.trans e7) np (e7 p _ (e5 p _ hp)) hw hz (good hy)

def sp_read_assignment (a : Ad) : Sp := fun vs H Q E => ∃ (l : Addr) (ws : List Text), vs = [.ref l] ∧ H l = some (.lst (wdV ws)) ∧ (∀ t ∈ ws, Word t) ∧ ws.length ≤ 1001 ∧
  (∀ h, asgOf ws = some h → RetS a (stmOf h) H Q) ∧ (asgOf ws = none → ∀ H', Ex H H' → E (.ref a.C_NotAProgram) none H')
theorem ok_read_assignment (T : Facts K mg a) : FnOk P w K mg base (L2.CX P w) 5 a.f_read_assignment a.d_read_assignment ["words"] (sp_read_assignment a) := by
  refine T.F_read_assignment.okX sc_read_assignment (fun vs H Q E h => ?_) (fun cdv A outer s H vs Q E hr h => ?_)
  · obtain ⟨l, ws, rfl, _⟩ := h
    rfl
  · refine ⟨_, (pss_cons (ps_if (PW.pt (pw_or (pt_cmpR op_notIn_seq (pe_callB call_len_seq (by rfl) T.b_len (by decide +kernel) (pa_cons (pv 0) pa_nil)) (pe_tup (pa_cons pe_int (pa_cons pe_int pa_nil))) (by rfl)) (pw_or (pt_not (pt_val (pe_call (ok_is_name T) (hr.mono (by decide)) rfl T.g_is_name T.F_is_name.kp T.B_is_name .nil pass0 (pa_cons (pe_ix ix_list (pv 0) pe_int (fun _ _ => rfl)) pa_nil)))) (pw_or1 (pt_cmpR op_ne (pe_ix ix_list (pv 0) pe_int (fun _ _ => rfl)) pe_str (nomark _))))))
    (pss_one (ps_raise rfl (takes_of rfl rfl rfl rfl) (pmk_own0 PySem.F.excBase_Exception T.x_NotAProgram.x T.x_NotAProgram.g T.x_NotAProgram.k (raises_own T.x_NotAProgram.b T.x_NotAProgram.t) (by exact rfl))))
    pss_nil)
    (pss_cons (ps_if (pt_cmpR op_eq (pe_callB call_len_seq (by rfl) T.b_len (by decide +kernel) (pa_cons (pv 0) pa_nil)) pe_int (nomark _))
    (pss_cons (ps_set (i := 1) sc_read_assignment.nd rfl (Or.inl rfl) (pe_lst (pa_cons (pe_ix ix_list (pv 0) pe_int (fun _ _ => rfl)) pa_nil)))
    (pss_one (ps_set (i := 2) sc_read_assignment.nd rfl (Or.inl rfl) pe_str)))
    (pss_cons (ps_set (i := 1) sc_read_assignment.nd rfl (Or.inl rfl) (pe_lst (pa_cons (pe_ix ix_list (pv 0) pe_int (fun _ _ => rfl)) (pa_cons (pe_ix ix_list (pv 0) pe_int (fun _ _ => rfl)) pa_nil))))
    (pss_cons (ps_set (i := 2) sc_read_assignment.nd rfl (Or.inl rfl) (pe_ix ix_list (pv 0) pe_int (fun _ _ => rfl)))
    (pss_one (ps_if (pt_cmpR op_notIn_seq (pv 2) (pe_ga rfl T.t_OPERATORS) (by rfl))
    (pss_one (ps_raise rfl (takes_of rfl rfl rfl rfl) (pmk_own0 PySem.F.excBase_Exception T.x_NotAProgram.x T.x_NotAProgram.g T.x_NotAProgram.k (raises_own T.x_NotAProgram.b T.x_NotAProgram.t) (by exact rfl))))
    pss_nil)))))
    (pss_cons (ps_expr (pe_call (ok_check_atoms T) (hr.mono (by decide)) rfl T.g_check_atoms T.F_check_atoms.kp T.B_check_atoms .nil (passes_call (takes_of rfl rfl rfl rfl) (fun _ _ _ _ h => h)) (pa_cons (pv 1) pa_nil)))
    (pss_one (ps_ret (pe_make T.K_Statement (ok_Statement_init T) (hr.mono (by decide)) rfl T.g_Statement T.B_Statement_init .nil pass0 (pa_cons (pe_gi rfl T.c_ASSIGNMENT.choose_spec) (pa_cons (pe_ix ix_list (pv 0) pe_int (fun _ _ => rfl)) (pa_cons (pv 1) (pa_cons (pv 2) pa_nil)))))))))), ?_⟩
    obtain ⟨l, ws, rfl, hl, hw, hz, kY, kN⟩ := h
    have wd : ∀ {i : Nat} {t : Text}, ws[i]? = some t → Word t := fun h => hw _ (List.mem_of_getElem? h)
    refine Evl.q_when (b := !inV (.int (ws.length : Int)) [.int ((3 : Nat) : Int), .int ((5 : Nat) : Int)] || (!isName (ws.getD 0 []) || !decide (V.str (S (ws.getD 1 [])) = V.str "=")))
      (Evl.et_or (Evl.et_test (Evl.ev_niU (ev_len' (Evl.ev_var rfl) hl) (Evl.eu_tup (Evl.ea_cons Evl.ev_c (Evl.ea_cons Evl.ev_c Evl.ea_nil)) (by decide)) rfl rfl)) fun hlen => ?_) (fun hc H1 e1 => ?_) (fun hc H1 e1 => ?_)
    · rw [in_two] at hlen
      have len3 : 3 ≤ ws.length := by
        simp only [Bool.not_eq_false', decide_eq_true_eq] at hlen
        omega
      have g0 : ws[0]? = some (ws.getD 0 []) := by rw [List.getD_eq_getElem?_getD, List.getElem?_eq_getElem (by omega)]; rfl
      have g1 : ws[1]? = some (ws.getD 1 []) := by rw [List.getD_eq_getElem?_getD, List.getElem?_eq_getElem (by omega)]; rfl
      exact Evl.et_or (Evl.et_not (Evl.et_B (Evl.ev_call (Evl.ea_cons (ev_wd 0 (Evl.ev_var rfl) hl g0) Evl.ea_nil) fun H2 _ Q q E => ⟨_, rfl, (wd g0).1, (wd g0).2, q⟩)))
        fun _ => Evl.et_test (Evl.ev_op (ev_wd 1 (Evl.ev_var rfl) hl g1) Evl.ev_c (Evl.rv_ne rfl))
    · refine kN ?_ H1 e1
      rw [in_two, lit_eq, dec_S] at hc
      match ws, hc with
      | [], _ => rfl
      | [_], _ => rfl
      | v :: w :: e, hc =>
        show (if w = ascii "=" ∧ isName v = true then (exprOf e).map (Head.set v) else none) = none
        by_cases q : w = ascii "=" ∧ isName v = true
        · rw [if_pos q]
          have q1 : ((v :: w :: e).getD 1 [] == ascii "=") = true := by simp [q.1]
          have q2 : isName ((v :: w :: e).getD 0 []) = true := by simp [q.2]
          rw [q1, q2] at hc
          simp only [Bool.not_true, Bool.or_false, Bool.not_eq_true', decide_eq_false_iff_not, List.length_cons, not_or] at hc
          match e, hc with
          | [], _ => rfl
          | [_], hc => simp at hc
          | [_, _], _ => rfl
          | [_, _, _], hc => simp at hc
          | _ :: _ :: _ :: _ :: _, _ => rfl
        · rw [if_neg q]
    · rw [in_two, lit_eq, dec_S] at hc
      simp only [Bool.or_eq_false_iff, Bool.not_eq_false', decide_eq_true_eq, beq_iff_eq] at hc
      obtain ⟨c1, c2, c3⟩ := hc
      have hl1 := e1 l _ hl
      have two : (∃ v x, ws = [v, ascii "=", x] ∧ isName v = true) ∨ (∃ v x o y, ws = [v, ascii "=", x, o, y] ∧ isName v = true) := by
        match ws, c1, c2, c3 with
        | [v, w, x], _, c2, c3 => exact Or.inl ⟨v, x, by simp at c3; rw [c3], by simpa using c2⟩
        | [v, w, x, o, y], _, c2, c3 => exact Or.inr ⟨v, x, o, y, by simp at c3; rw [c3], by simpa using c2⟩
        | [], c1, _, _ => simp at c1
        | [_], c1, _, _ => simp at c1
        | [_, _], c1, _, _ => simp at c1
        | [_, _, _, _], c1, _, _ => simp at c1
        | _ :: _ :: _ :: _ :: _ :: _ :: r, c1, _, _ => simp at c1
      rcases two with ⟨v, x, rfl, hv⟩ | ⟨v, x, o, y, rfl, hv⟩
      · have eA : asgOf [v, ascii "=", x] = (exprOf [x]).map (.set v) := if_pos ⟨rfl, hv⟩
        refine Evl.q_if (b := true) (Evl.et_test (Evl.ev_is (Evl.ev_op (ev_len' (Evl.ev_var rfl) hl1) Evl.ev_c (Evl.rv_eq rfl)) rfl)) (fun _ H2 e2 => ?_) (fun z => by cases z)
        have hl2 := e2 l _ hl1
        refine Evl.q_asgL (xs := wdV [x]) (Evl.el_lst (Evl.ea_cons (ev_wd 2 (Evl.ev_var rfl) hl2 rfl) Evl.ea_nil) (by simp [wdV])) fun p H3 n3 e3 h3 => ?_
        refine Evl.s_asg (v := .str (S [])) (Evl.ev_is Evl.ev_c (by rw [lit_empty])) fun H4 e4 => ?_
        have np : H p = none := Evl.fresh_back (e1.trans e2) n3
        have wx : ∀ t ∈ [x], Word t := fun t ht => hw t (by simp at ht; simp [ht])
        refine fin_asg rfl hl rfl (((e1.trans e2).trans e3).trans e4) np (e4 p _ h3) wx (by simp) (fun hy => ?_) (fun ⟨t, ht, hn⟩ => kN ?_)
        · have hx := hy x (by simp)
          cases hx1 : atomOf x with
          | none => rw [hx1] at hx; cases hx
          | some xa =>
            have q := kY _ (show asgOf [v, ascii "=", x] = some (.set v ⟨xa, .alone, .num 0⟩) by rw [eA]; show ((atomOf x).map _).map _ = _; rw [hx1]; rfl)
            have es : stmOf (.set v ⟨xa, .alone, .num 0⟩) = rowStm 1 v [x] [] := by
              show rowStm 1 v [atomText xa] [] = _
              rw [(VO.atomOf_some hx1).2]
            rw [es] at q
            exact q
        · have : t = x := by simpa using ht
          subst this
          rw [eA]
          show ((atomOf t).map _).map _ = none
          cases h : atomOf t with
          | none => rfl
          | some _ => rw [h] at hn; cases hn
      · have eA : asgOf [v, ascii "=", x, o, y] = (exprOf [x, o, y]).map (.set v) := if_pos ⟨rfl, hv⟩
        have eE : exprOf [x, o, y] = (atomOf x).bind fun p => (opOf o).bind fun q => (atomOf y).map fun r => (⟨p, q, r⟩ : Vaslca.Expr) := rfl
        refine Evl.q_if (b := false) (Evl.et_test (Evl.ev_is (Evl.ev_op (ev_len' (Evl.ev_var rfl) hl1) Evl.ev_c (Evl.rv_eq rfl)) rfl)) (fun z => by cases z) (fun _ H2 e2 => ?_)
        have hl2 := e2 l _ hl1
        refine Evl.q_asgL (xs := wdV [x, y]) (Evl.el_lst (Evl.ea_cons (ev_wd 2 (Evl.ev_var rfl) hl2 rfl) (Evl.ea_cons (ev_wd 4 (Evl.ev_var rfl) hl2 rfl) Evl.ea_nil)) (by simp [wdV])) fun p H3 n3 e3 h3 => ?_
        refine Evl.q_asg (v := .str (S o)) (ev_wd 3 (Evl.ev_var rfl) (e3 l _ hl2) rfl) fun H4 e4 => ?_
        have np : H p = none := Evl.fresh_back (e1.trans e2) n3
        have wx : ∀ t ∈ [x, y], Word t := fun t ht => hw t (by simp at ht; rcases ht with z | z <;> simp [z])
        refine Evl.s_when (b := !inV (.str (S o)) [.str "+", .str "-", .str "*"]) (Evl.et_test (Evl.ev_op (Evl.ev_var rfl) Evl.ev_c (Evl.rv_niT (T.s_OPERATORS _) rfl rfl))) (fun hb H5 e5 => ?_) (fun hb H5 e5 => ?_)
        · refine kN ?_ H5 ((((e1.trans e2).trans e3).trans e4).trans e5)
          rw [lit_ops, in_words, op_test] at hb
          rw [eA, eE]
          cases h1 : atomOf x with
          | none => rfl
          | some _ =>
            cases h2 : opOf o with
            | none => rfl
            | some _ => rw [h2] at hb; cases hb
        · rw [lit_ops, in_words, op_test] at hb
          cases h2 : opOf o with
          | none => rw [h2] at hb; cases hb
          | some oo =>
            refine fin_asg rfl hl rfl ((((e1.trans e2).trans e3).trans e4).trans e5) np (e5 p _ (e4 p _ h3)) wx (by simp) (fun hy => ?_) (fun ⟨t, ht, hn⟩ => kN ?_)
            · have hx := hy x (by simp)
              have hy' := hy y (by simp)
              cases hx1 : atomOf x with
              | none => rw [hx1] at hx; cases hx
              | some xa =>
                cases hy1 : atomOf y with
                | none => rw [hy1] at hy'; cases hy'
                | some ya =>
                  have q := kY _ (show asgOf [v, ascii "=", x, o, y] = some (.set v ⟨xa, oo, ya⟩) by rw [eA, eE, hx1, h2, hy1]; rfl)
                  obtain ⟨o1, o2⟩ := VO.opOf_some h2
                  have es : stmOf (.set v ⟨xa, oo, ya⟩) = rowStm 1 v [x, y] o := by
                    show rowStm 1 v (exprAtoms ⟨xa, oo, ya⟩) (opText oo) = _
                    unfold exprAtoms
                    rw [if_neg o1, o2, (VO.atomOf_some hx1).2, (VO.atomOf_some hy1).2]
                  rw [es] at q
                  exact q
            · rw [eA, eE, h2]
              have ht' : t = x ∨ t = y := by simpa using ht
              rcases ht' with rfl | rfl
              · cases h : atomOf t with
                | none => rfl
                | some _ => rw [h] at hn; cases hn
              · cases h1 : atomOf x with
                | none => rfl
                | some _ =>
                  cases h : atomOf t with
                  | none => rfl
                  | some _ => rw [h] at hn; cases hn
end VP
set_option Elab.async false
set_option linter.all false
set_option maxRecDepth 100000
set_option maxHeartbeats 4000000
namespace VP
open PySem PySem.Spec PyProof.Rows L2 TL
open Vaslca (Text Name cutAt gluedBy ascii isName isSmall isDigit numberOf decimal atomOf Atom atomText isAtom exprOf condOf opOf relOf opText relText)
open VO (Head headOf)
open Evl (Ex Ev EvT EvA EvL EvU)
variable {P : Program} {w : World} {K : PySem.W.Frag} {mg : Str → Option Value} {base : Heap} {a : Ad}

/-! headers -/
def hdrOf (t : Text) : Option Head := match cutAt 32 t with
  | v :: w :: e => if v = ascii "if" then (condOf (w :: e)).map .ite else if v = ascii "while" then (condOf (w :: e)).map .loop else none
  | _ => none
theorem lit_colon : ((":" : Str)) = S [58] := by decide +kernel
theorem lit_blank : ((" " : Str)) = S [32] := by decide +kernel
theorem lit_if : (("if" : Str)) = S (ascii "if") := by decide +kernel
theorem lit_while : (("while" : Str)) = S (ascii "while") := by decide +kernel
theorem lit_rels : ([.str "<", .str "==", .str "!="] : List V) = [ascii "<", ascii "==", ascii "!="].map fun t => V.str (S t) := by
  have h1 : ("<" : Str) = S (ascii "<") := by decide +kernel
  have h2 : ("==" : Str) = S (ascii "==") := by decide +kernel
  have h3 : ("!=" : Str) = S (ascii "!=") := by decide +kernel
  rw [h1, h2, h3]
  rfl
theorem rel_test (t : Text) : ([ascii "<", ascii "==", ascii "!="] : List Text).contains t = (relOf t).isSome := by
  cases h : relOf t with
  | some o =>
    have h2 := VO.relOf_some h
    subst h2
    cases o <;> decide
  | none =>
    have n1 : t ≠ ascii "<" := by rintro rfl; revert h; decide
    have n2 : t ≠ ascii "==" := by rintro rfl; revert h; decide
    have n3 : t ≠ ascii "!=" := by rintro rfl; revert h; decide
    simp [n1, n2, n3]
/-- the row without its last sign, cut -/
theorem cut_snoc (c : UInt8) (b : UInt8) (h : b ≠ c) : ∀ t : Text, ∃ ws z, cutAt c t = ws ++ [z] ∧ cutAt c (t ++ [b]) = ws ++ [z ++ [b]]
  | [] => ⟨[], [], rfl, by
    show cutAt c [b] = [[b]]
    rw [VO.cutAt_none (by simp; exact fun z => h z.symm)]⟩
  | x :: r => by
    obtain ⟨ws, z, e1, e2⟩ := cut_snoc c b h r
    by_cases hx : x = c
    · subst hx
      refine ⟨[] :: ws, z, by rw [VO.cutAt_cons_eq, e1]; rfl, ?_⟩
      show cutAt x (x :: (r ++ [b])) = _
      rw [VO.cutAt_cons_eq, e2]
      rfl
    · obtain ⟨u, us, f1, f2⟩ := VO.cutAt_cons_ne (r := r) hx
      obtain ⟨u', us', g1, g2⟩ := VO.cutAt_cons_ne (r := r ++ [b]) hx
      show ∃ ws z, _ ∧ cutAt c (x :: (r ++ [b])) = _
      rw [f2, g2]
      cases ws with
      | nil =>
        rw [e1] at f1
        rw [e2] at g1
        simp at f1 g1
        obtain ⟨rfl, rfl⟩ := f1
        obtain ⟨rfl, rfl⟩ := g1
        exact ⟨[], x :: z, rfl, rfl⟩
      | cons v vs =>
        rw [e1] at f1
        rw [e2] at g1
        simp at f1 g1
        obtain ⟨rfl, rfl⟩ := f1
        obtain ⟨rfl, rfl⟩ := g1
        exact ⟨(x :: v) :: vs, z, rfl, rfl⟩
/-- a header's words from those of the row without its colon -/
theorem hdr_cut {t : Text} (h : t.getLast? = some 58) : ∃ ws z, cutAt 32 t.dropLast = ws ++ [z] ∧ cutAt 32 t = ws ++ [z ++ [58]] := by
  obtain ⟨r, rfl⟩ := List.getLast?_eq_some_iff.mp h
  rw [List.dropLast_concat]
  exact cut_snoc 32 58 (by decide) r
theorem last_last {t : Text} {ws : List Text} {z : Text} (h : cutAt 32 t = ws ++ [z]) (hz : z.getLast? = some 58) : t.getLast? = some 58 := by
  have e := VO.glued_cut (c := 32) t
  rw [h] at e
  have q : ∀ ws : List Text, ∃ u, gluedBy [32] (ws ++ [z]) = u ++ z := by
    intro ws
    induction ws with
    | nil => exact ⟨[], rfl⟩
    | cons v vs ih =>
      obtain ⟨u, hu⟩ := ih
      cases vs with
      | nil => exact ⟨v ++ [32], by show v ++ ([32] ++ z) = _; simp⟩
      | cons v' vs' => exact ⟨v ++ ([32] ++ u), by show v ++ ([32] ++ gluedBy [32] ((v' :: vs') ++ [z])) = _; rw [hu]; simp⟩
  obtain ⟨u, hu⟩ := q ws
  rw [← e, hu, List.getLast?_append, hz]
  rfl
theorem condOf_end {w : Text} {e : List Text} {c : Vaslca.Cond} (h : condOf (w :: e) = some c) : ∃ r b, e = [r, b ++ [58]] ∧ atomOf w = some c.one ∧ relOf r = some c.rel ∧ atomOf b = some c.two := by
  obtain ⟨h1, h2⟩ := VO.condOf_some h
  simp only [Vaslca.isCond, Bool.and_eq_true] at h1
  unfold Vaslca.condWords at h2
  obtain ⟨rfl, rfl⟩ := List.cons.inj h2
  exact ⟨_, _, rfl, VO.atomOf_text h1.1, VO.relOf_text _, VO.atomOf_text h1.2⟩
/-- what the def looks at -/
theorem hdr_some {t : Text} {h : Head} (k : hdrOf t = some h) : ∃ v x r y, t.getLast? = some 58 ∧ cutAt 32 t.dropLast = [v, x, r, y] ∧ (v = ascii "if" ∨ v = ascii "while") ∧
    ∃ c : Vaslca.Cond, atomOf x = some c.one ∧ relOf r = some c.rel ∧ atomOf y = some c.two ∧ h = if v = ascii "if" then .ite c else .loop c := by
  unfold hdrOf at k
  split at k
  · rename_i v w e hcut
    have key : ∀ c, condOf (w :: e) = some c → ∃ r y, t.getLast? = some 58 ∧ cutAt 32 t.dropLast = [v, w, r, y] ∧ atomOf w = some c.one ∧ relOf r = some c.rel ∧ atomOf y = some c.two := by
      intro c hc
      obtain ⟨r, b, rfl, q1, q2, q3⟩ := condOf_end hc
      have hl : t.getLast? = some 58 := last_last (ws := [v, w, r]) (z := b ++ [58]) hcut (by simp)
      obtain ⟨ws, z, c1, c2⟩ := hdr_cut hl
      rw [hcut] at c2
      have c2' : [v, w, r] ++ [b ++ [58]] = ws ++ [z ++ [58]] := c2
      obtain ⟨e1, e2⟩ := List.append_inj' c2' rfl
      simp at e2
      subst e1 e2
      exact ⟨r, b, hl, c1, q1, q2, q3⟩
    split at k
    · rename_i hv
      cases hc : condOf (w :: e) with
      | none => rw [hc] at k; cases k
      | some c =>
        rw [hc] at k
        cases Option.some.inj k
        obtain ⟨r, y, k1, k2, k3, k4, k5⟩ := key c hc
        exact ⟨v, w, r, y, k1, k2, Or.inl hv, c, k3, k4, k5, by rw [if_pos hv]⟩
    · rename_i hv0
      split at k
      · rename_i hv
        cases hc : condOf (w :: e) with
        | none => rw [hc] at k; cases k
        | some c =>
          rw [hc] at k
          cases Option.some.inj k
          obtain ⟨r, y, k1, k2, k3, k4, k5⟩ := key c hc
          exact ⟨v, w, r, y, k1, k2, Or.inr hv, c, k3, k4, k5, by rw [if_neg hv0]⟩
      · cases k
  · cases k
theorem hdr_of {t : Text} {v x r y : Text} (hl : t.getLast? = some 58) (hc : cutAt 32 t.dropLast = [v, x, r, y]) (hv : v = ascii "if" ∨ v = ascii "while") {xa ya : Atom} {rr : Vaslca.Rel} (h1 : atomOf x = some xa) (h2 : relOf r = some rr) (h3 : atomOf y = some ya) :
    hdrOf t = some (if v = ascii "if" then .ite ⟨xa, rr, ya⟩ else .loop ⟨xa, rr, ya⟩) := by
  obtain ⟨ws, z, c1, c2⟩ := hdr_cut hl
  rw [hc] at c1
  have c1' : [v, x, r] ++ [y] = ws ++ [z] := c1
  obtain ⟨e1, e2⟩ := List.append_inj' c1' rfl
  simp at e2
  subst e1 e2
  unfold hdrOf
  rw [c2]
  have q : condOf [x, r, y ++ [58]] = some ⟨xa, rr, ya⟩ := by
    show (if (y ++ [58]).getLast? = some 58 then (atomOf x).bind fun x => (relOf r).bind fun q => (atomOf (y ++ [58]).dropLast).map fun y => (⟨x, q, y⟩ : Vaslca.Cond) else none) = _
    rw [if_pos (by simp), List.dropLast_concat, h1, h2, h3]
    rfl
  show (if v = ascii "if" then (condOf [x, r, y ++ [58]]).map Head.ite else if v = ascii "while" then (condOf [x, r, y ++ [58]]).map Head.loop else none) = _
  rw [q]
  rcases hv with rfl | rfl
  · rfl
  · rfl

theorem ev_ends {σ : L2.St} {H : Hp} {to te : TE} {x y : Str} (h : Ev to σ H (.str x)) (h2 : Ev te σ H (.str y)) : Ev (tM1 (fun x xs H Q => ∃ a b, x = .str a ∧ xs = [.str b] ∧ Q (.bl (Txt.endswith a b)) H) to te) σ H (.bl (Txt.endswith x y)) :=
  fun H1 e Q q => h H1 e _ fun H2 e2 => ⟨⟨x, rfl⟩, h2 H2 (e.trans e2) _ fun H3 e3 => ⟨x, y, rfl, rfl, q H3 (e2.trans e3)⟩⟩
theorem el_split {σ : L2.St} {H : Hp} {to te : TE} {t : Text} (h : Ev to σ H (.str (S t))) (h2 : Ev te σ H (.str (S [32]))) (hz : t.length ≤ 5000) :
    EvL (tM1 (fun x xs H Q => ∃ a b, x = .str a ∧ xs = [.str b] ∧ (b.length == 0) = false ∧ a.length + 2 ≤ sizeLine ∧ rNewStrs (Txt.split a b) H Q) to te) σ H (wdV (cutAt 32 t)) :=
  fun H1 e Q q => h H1 e _ fun H2 e2 => ⟨⟨_, rfl⟩, h2 H2 (e.trans e2) _ fun H3 e3 => ⟨_, _, rfl, rfl, rfl, by rw [len_S]; exact Evl.sz_of (by omega), fun p hp => q p _ (Evl.fresh_back (e2.trans e3) hp) ((e2.trans e3).trans (Ex.new hp)) (by
    rw [upd_same, split_S 32 (by decide), List.map_map]
    rfl)⟩⟩
theorem ev_cutS {σ : L2.St} {H : Hp} {te : TE} {t : Text} (h : Ev te σ H (.str (S t))) (hz : t.length ≤ 5000) : Ev (tSl rSlS te tNoPart (tPart (tUn (rU fun i => .int (-i)) (tC (.int 1))))) σ H (.str (S t.dropLast)) :=
  fun H1 e Q q => h H1 e _ fun H2 e2 => ⟨1, rfl, -1, rfl, S t, rfl, by rw [len_S]; exact Evl.sz_of (by omega), by rw [cut_last]; exact q H2 e2⟩
theorem word_cut {t : Text} (h : Word t) : ∀ x ∈ cutAt 32 t, Word x := by
  intro x hx
  refine ⟨fun b hb => h.1 b (VO.cut_mem_of hx hb), ?_⟩
  have : ∀ (t : Text) (x : Text), x ∈ cutAt 32 t → x.length ≤ t.length := by
    intro t
    induction t with
    | nil => intro x hx; simp [cutAt] at hx; simp [hx]
    | cons b r ih =>
      intro x hx
      by_cases hb : b = 32
      · subst hb
        rw [VO.cutAt_cons_eq] at hx
        rcases List.mem_cons.mp hx with rfl | q
        · simp
        · have := ih x q; simp; omega
      · obtain ⟨u, us, e1, e2⟩ := VO.cutAt_cons_ne (r := r) hb
        rw [e2] at hx
        rw [e1] at ih
        rcases List.mem_cons.mp hx with rfl | q
        · have := ih u (by simp); simp; omega
        · have := ih x (by simp [q]); simp; omega
  exact Nat.le_trans (this t x hx) h.2
theorem cut_len (t : Text) : (cutAt 32 t).length ≤ t.length + 1 := by
  induction t with
  | nil => simp [cutAt]
  | cons b r ih =>
    by_cases hb : b = 32
    · subst hb
      rw [VO.cutAt_cons_eq]; simp; omega
    · obtain ⟨u, us, e1, e2⟩ := VO.cutAt_cons_ne (r := r) hb
      rw [e2]
      rw [e1] at ih
      simp at ih ⊢
      omega
theorem word_drop {t : Text} (h : Word t) : Word t.dropLast := ⟨fun b hb => h.1 b ((List.dropLast_sublist t).subset hb), by have := h.2; simp; omega⟩

def sp_read_header (a : Ad) : Sp := fun vs H Q E => ∃ (t : Text), vs = [.str (S t)] ∧ Word t ∧ (∃ v r, cutAt 32 t = v :: r ∧ (v = ascii "if" ∨ v = ascii "while")) ∧
  (∀ h, hdrOf t = some h → RetS a (stmOf h) H Q) ∧ (hdrOf t = none → ∀ H', Ex H H' → E (.ref a.C_NotAProgram) none H')
theorem ok_read_header (T : Facts K mg a) : FnOk P w K mg base (L2.CX P w) 5 a.f_read_header a.d_read_header ["row"] (sp_read_header a) := by
  refine T.F_read_header.okX sc_read_header (fun vs H Q E h => ?_) (fun cdv A outer s H vs Q E hr h => ?_)
  · obtain ⟨t, rfl, _⟩ := h
    rfl
  · refine ⟨_, (pss_cons (ps_if (pt_not (pt_val (pe_m1 PySem.F.slot_str_endswith PySem.F.type_str_endswith mt_endswith (pv 0) pe_str)))
    (pss_one (ps_raise rfl (takes_of rfl rfl rfl rfl) (pmk_own0 PySem.F.excBase_Exception T.x_NotAProgram.x T.x_NotAProgram.g T.x_NotAProgram.k (raises_own T.x_NotAProgram.b T.x_NotAProgram.t) (by exact rfl))))
    pss_nil)
    (pss_cons (ps_set (i := 1) sc_read_header.nd rfl (Or.inl rfl) (pe_split (pe_slice sl_str (pv 0) po_none (po_some (pe_un un_neg pe_int))) pe_str))
    (pss_cons (ps_if (PW.pt (pw_or (pt_cmpR op_ne (pe_callB call_len_seq (by rfl) T.b_len (by decide +kernel) (pa_cons (pv 1) pa_nil)) pe_int (nomark _)) (pw_or1 (pt_cmpR op_notIn_seq (pe_ix ix_list (pv 1) pe_int (fun _ _ => rfl)) (pe_ga rfl T.t_RELATIONS) (by rfl)))))
    (pss_one (ps_raise rfl (takes_of rfl rfl rfl rfl) (pmk_own0 PySem.F.excBase_Exception T.x_NotAProgram.x T.x_NotAProgram.g T.x_NotAProgram.k (raises_own T.x_NotAProgram.b T.x_NotAProgram.t) (by exact rfl))))
    pss_nil)
    (pss_cons (ps_set (i := 2) sc_read_header.nd rfl (Or.inl rfl) (pe_lst (pa_cons (pe_ix ix_list (pv 1) pe_int (fun _ _ => rfl)) (pa_cons (pe_ix ix_list (pv 1) pe_int (fun _ _ => rfl)) pa_nil))))
    (pss_cons (ps_expr (pe_call (ok_check_atoms T) (hr.mono (by decide)) rfl T.g_check_atoms T.F_check_atoms.kp T.B_check_atoms .nil (passes_call (takes_of rfl rfl rfl rfl) (fun _ _ _ _ h => h)) (pa_cons (pv 2) pa_nil)))
    (pss_cons (ps_set (i := 3) sc_read_header.nd rfl (Or.inl rfl) (pe_ifExp (pt_cmpR op_eq (pe_ix ix_list (pv 1) pe_int (fun _ _ => rfl)) pe_str (nomark _)) (pe_gi rfl T.c_IF.choose_spec) (pe_gi rfl T.c_WHILE.choose_spec)))
    (pss_one (ps_ret (pe_make T.K_Statement (ok_Statement_init T) (hr.mono (by decide)) rfl T.g_Statement T.B_Statement_init .nil pass0 (pa_cons (pv 3) (pa_cons pe_str (pa_cons (pv 2) (pa_cons (pe_ix ix_list (pv 1) pe_int (fun _ _ => rfl)) pa_nil))))))))))))), ?_⟩
    obtain ⟨t, rfl, wt, hfirst, kY, kN⟩ := h
    refine Evl.q_when (b := !Txt.endswith (S t) (S [58])) (Evl.et_not (Evl.et_B (ev_ends (Evl.ev_var rfl) (Evl.ev_is Evl.ev_c (by rw [lit_colon]))))) (fun hc H1 e1 => ?_) (fun hc H1 e1 => ?_)
    · rw [ends_S] at hc
      refine kN ?_ H1 e1
      cases hk : hdrOf t with
      | none => rfl
      | some h =>
        obtain ⟨_, _, _, _, hl, _⟩ := hdr_some hk
        rw [hl] at hc
        simp at hc
    · rw [ends_S] at hc
      have hl : t.getLast? = some 58 := by simpa using hc
      have wt' := word_drop wt
      refine Evl.q_asgL (el_split (ev_cutS (Evl.ev_var rfl) (by have := wt.2; omega)) (Evl.ev_is Evl.ev_c (by rw [lit_blank])) (by have := wt'.2; omega)) fun p H2 n2 e2 h2 => ?_
      have nH : H p = none := Evl.fresh_back e1 n2
      have e02 := e1.trans e2
      generalize hws : cutAt 32 t.dropLast = ws at h2
      have hw : ∀ x ∈ ws, Word x := by rw [← hws]; exact word_cut wt'
      have wlen : ws.length ≤ 1001 := by rw [← hws]; have := cut_len t.dropLast; have := wt'.2; omega
      refine Evl.q_when (b := !decide (V.int (ws.length : Int) = V.int 4) || !inV (.str (S (ws.getD 2 []))) [.str "<", .str "==", .str "!="])
        (Evl.et_or (Evl.et_test (Evl.ev_op (ev_len' (Evl.ev_var rfl) h2) Evl.ev_c (Evl.rv_ne rfl))) fun hlen => Evl.et_test (Evl.ev_op (ev_wd 2 (Evl.ev_var rfl) h2 ?_) Evl.ev_c (Evl.rv_niT (T.s_RELATIONS _) rfl rfl))) (fun hc2 H3 e3 => ?_) (fun hc2 H3 e3 => ?_)
      · have h4 : ws.length = 4 := by
          simp only [Bool.not_eq_false', decide_eq_true_eq] at hlen
          have := V.int.inj hlen
          omega
        rw [List.getD_eq_getElem?_getD, List.getElem?_eq_getElem (by omega)]
        rfl
      · refine kN ?_ H3 (e02.trans e3)
        cases hk : hdrOf t with
        | none => rfl
        | some h =>
          obtain ⟨v, x, r, y, _, q2, _, c, _, q4, _⟩ := hdr_some hk
          rw [hws] at q2
          subst q2
          rw [lit_rels, in_words, rel_test] at hc2
          simp at hc2
          rw [q4] at hc2
          simp at hc2
      · rw [lit_rels, in_words, rel_test] at hc2
        simp only [Bool.or_eq_false_iff, Bool.not_eq_false', decide_eq_true_eq] at hc2
        obtain ⟨h4, hr⟩ := hc2
        have h4' : ws.length = 4 := by have := V.int.inj h4; omega
        match ws, h4', hws, h2, hw, hr with
        | [v, x, r, y], _, hws, h2, hw, hr =>
          have hr' : (relOf r).isSome = true := by simpa using hr
          have h3 := e3 p _ h2
          have hv : v = ascii "if" ∨ v = ascii "while" := by
            obtain ⟨v', r', hc', hv'⟩ := hfirst
            obtain ⟨ws', z, c1, c2⟩ := hdr_cut hl
            rw [hws] at c1
            have c1' : [v, x, r] ++ [y] = ws' ++ [z] := c1
            obtain ⟨e1', e2'⟩ := List.append_inj' c1' rfl
            subst e1'
            rw [hc'] at c2
            have : v' = v := (List.cons.inj c2).1
            rw [← this]
            exact hv'
          refine Evl.q_asgL (xs := wdV [x, y]) (Evl.el_lst (Evl.ea_cons (ev_wd 1 (Evl.ev_var rfl) h3 rfl) (Evl.ea_cons (ev_wd 3 (Evl.ev_var rfl) h3 rfl) Evl.ea_nil)) (by simp [wdV])) fun l H4 n4 e4 h4 => ?_
          have nl : H l = none := Evl.fresh_back (e02.trans e3) n4
          have e04 := (e02.trans e3).trans e4
          have wx : ∀ t ∈ [x, y], Word t := fun t ht => hw t (by simp at ht; rcases ht with z | z <;> simp [z])
          refine ⟨_, rfl, l, [x, y], rfl, h4, wx, by simp, fun hy H5 e5 => ?_, fun ⟨u, hu, hn⟩ H5 e5 => kN ?_ H5 (e04.trans e5)⟩
          · have hx1 := hy x (by simp)
            have hy1 := hy y (by simp)
            cases hx2 : atomOf x with
            | none => rw [hx2] at hx1; cases hx1
            | some xa =>
              cases hy2 : atomOf y with
              | none => rw [hy2] at hy1; cases hy1
              | some ya =>
                cases hr2 : relOf r with
                | none => rw [hr2] at hr'; cases hr'
                | some rr =>
                  have q := kY _ (hdr_of hl hws hv hx2 hr2 hy2)
                  have s1 := (VO.atomOf_some hx2).2
                  have s2 := (VO.atomOf_some hy2).2
                  have s3 := VO.relOf_some hr2
                  have h5 := e5 p _ (e4 p _ h3)
                  have hl5 := e5 l _ h4
                  have e05 := e04.trans e5
                  refine Evl.q_asg (v := .int ((if v = ascii "if" then 5 else 6 : Nat) : Int)) (Evl.ev_if (b := decide (V.str (S v) = V.str "if")) (Evl.et_test (Evl.ev_op (ev_wd 0 (Evl.ev_var rfl) h5 rfl) Evl.ev_c (Evl.rv_eq rfl)))
                    (fun hb => Evl.ev_is Evl.ev_c ?_) (fun hb => Evl.ev_is Evl.ev_c ?_)) fun H6 e6 => ?_
                  · rw [lit_if, dec_S, beq_iff_eq] at hb
                    rw [if_pos hb]
                    rfl
                  · rw [lit_if, dec_S, beq_eq_false_iff_ne] at hb
                    rw [if_neg hb]
                    rfl
                  · refine s_retMake (vs := [.int ((if v = ascii "if" then 5 else 6 : Nat) : Int), .str (S []), .ref l, .str (S r)]) (Evl.ea_cons (Evl.ev_var rfl) (Evl.ea_cons (Evl.ev_is Evl.ev_c (by rw [lit_empty])) (Evl.ea_cons (Evl.ev_var rfl) (Evl.ea_cons (ev_wd 2 (Evl.ev_var rfl) (e6 p _ h5) rfl) Evl.ea_nil)))) fun H7 e7 => ?_
                    refine made_stm ((e05.trans e6).trans e7) nl (e7 l _ (e6 l _ hl5)) wx (by simp) ?_
                    have es : stmOf (if v = ascii "if" then Head.ite ⟨xa, rr, ya⟩ else Head.loop ⟨xa, rr, ya⟩) = rowStm (if v = ascii "if" then 5 else 6) [] [x, y] r := by
                      by_cases hif : v = ascii "if"
                      · rw [if_pos hif, if_pos hif]
                        show rowStm 5 [] [atomText xa, atomText ya] (relText rr) = _
                        rw [s1, s2, s3]
                      · rw [if_neg hif, if_neg hif]
                        show rowStm 6 [] [atomText xa, atomText ya] (relText rr) = _
                        rw [s1, s2, s3]
                    rw [es] at q
                    exact q
          · cases hk : hdrOf t with
            | none => rfl
            | some h =>
              obtain ⟨v', x', r', y', _, q2, _, c, q3, _, q5, _⟩ := hdr_some hk
              rw [hws] at q2
              simp at q2
              obtain ⟨_, rfl, _, rfl⟩ := q2
              have hu' : u = x ∨ u = y := by simpa using hu
              rcases hu' with rfl | rfl
              · rw [q3] at hn; cases hn
              · rw [q5] at hn; cases hn
end VP
set_option Elab.async false
set_option linter.all false
set_option maxRecDepth 100000
set_option maxHeartbeats 4000000
namespace VP
open PySem PySem.Spec PyProof.Rows L2 TL
open Vaslca (Text Name cutAt gluedBy ascii isName isSmall isDigit numberOf decimal atomOf Atom atomText isAtom exprOf condOf opOf relOf opText relText)
open VO (Head headOf)
open Evl (Ex Ev EvT EvA EvL EvU)
variable {P : Program} {w : World} {K : PySem.W.Frag} {mg : Str → Option Value} {base : Heap} {a : Ad}

/-! lists compared -/
def wdD (ws : List Text) : List PyData := ws.map fun t => PyData.str (S t)
theorem dp_wd {H : Hp} : ∀ ws : List Text, DpAll K H (wdV ws) (wdD ws)
  | [] => .nil
  | t :: r => .cons (.str _) (dp_wd r)
theorem canLay_wd : ∀ ws : List Text, (∀ t ∈ ws, Low t) → PyData.canLayAll0 (wdD ws) = true
  | [], _ => by simp [wdD, PyData.canLayAll0]
  | t :: r, h => by
    have q : PyData.strOk (S t) = true := by
      unfold PyData.strOk
      rw [Array.all_eq_true']
      intro x hx
      have hx' : x ∈ t.map UInt8.toNat := by
        have : x ∈ (S t).cps.toList := Array.mem_toList_iff.mpr hx
        exact this
      obtain ⟨b, hb, rfl⟩ := List.mem_map.mp hx'
      have := h t (by simp) b hb
      simp
      omega
    have ih := canLay_wd r (fun u hu => h u (by simp [hu]))
    show PyData.canLayAll0 (PyData.str (S t) :: wdD r) = true
    simp only [PyData.canLayAll0, PyData.canLay0, q, ih, Bool.and_self]
theorem depth_wd : ∀ ws : List Text, PyData.depthAll (wdD ws) ≤ 1
  | [] => by simp [wdD, PyData.depthAll]
  | t :: r => by
    have := depth_wd r
    show PyData.depthAll (PyData.str (S t) :: wdD r) ≤ 1
    simp only [PyData.depthAll, PyData.depth]
    omega
theorem shaped_wd {ws : List Text} (h : ∀ t ∈ ws, Low t) : SeqAt.shaped (.list (wdD ws)) = true := by
  have h1 := depth_wd ws
  have h2 : PyData.depth (.list (wdD ws)) ≤ 64 := by simp only [PyData.depth]; omega
  show (PyData.canLay0 (.list (wdD ws)) && decide (PyData.depth (.list (wdD ws)) ≤ 64)) = true
  rw [Bool.and_eq_true]
  exact ⟨by simp only [PyData.canLay0]; exact canLay_wd ws h, decide_eq_true h2⟩
theorem eqv_wd : ∀ ws vs : List Text, PyData.eqvAll (wdD ws) (wdD vs) = (ws == vs)
  | [], [] => by simp [wdD, PyData.eqvAll]
  | [], _ :: _ => by simp [wdD, PyData.eqvAll]
  | _ :: _, [] => by simp [wdD, PyData.eqvAll]
  | x :: r, y :: q => by
    have ih := eqv_wd r q
    show PyData.eqvAll (PyData.str (S x) :: wdD r) (PyData.str (S y) :: wdD q) = _
    simp only [PyData.eqvAll, PyData.eqv, ih]
    show _ = (x == y && r == q)
    congr 1
    rw [Bool.eq_iff_iff, beq_iff_eq, beq_iff_eq]
    exact S_eq
theorem rv_eqD_wd {H : Hp} {p q : Addr} {ws vs : List Text} (hp : H p = some (.lst (wdV ws))) (hq : H q = some (.lst (wdV vs))) (hw : ∀ t ∈ ws, Low t) (hv : ∀ t ∈ vs, Low t) : Evl.RV (rEqD K) (.ref p) (.ref q) H (.bl (ws == vs)) := fun H1 e Q k =>
  ⟨.list (wdD ws), .list (wdD vs), .lst (Evl.sq_of (e p _ hp)) (dp_wd ws), .lst (Evl.sq_of (e q _ hq)) (dp_wd vs), shaped_wd hw, shaped_wd hv, by
    have z : PyData.eqv (.list (wdD ws)) (.list (wdD vs)) = (ws == vs) := by simp only [PyData.eqv, eqv_wd]
    rw [z]
    exact k H1 (Ex.refl H1)⟩
/-- lists of numbers, against the empty one -/
def natD (ns : List Nat) : List PyData := ns.map fun (n : Nat) => PyData.int (n : Int)
theorem dp_nat {H : Hp} : ∀ ns : List Nat, DpAll K H (natV ns) (natD ns)
  | [] => .nil
  | t :: r => .cons (.int _) (dp_nat r)
theorem shaped_nat (ns : List Nat) : SeqAt.shaped (.list (natD ns)) = true := by
  have e : natD ns = (ns.map fun (n : Nat) => (n : Int)).map PyData.int := by rw [List.map_map]; rfl
  rw [e]
  exact PySem.W.ke_shaped_ints _
theorem eqv_nat_nil (ns : List Nat) : PyData.eqv (.list (natD ns)) (.list []) = ns.isEmpty := by
  cases ns <;> simp [PyData.eqv, PyData.eqvAll, natD]
theorem rv_eqD_nil {H : Hp} {p q : Addr} {ns : List Nat} (hp : H p = some (.lst (natV ns))) (hq : H q = some (.lst [])) : Evl.RV (rEqD K) (.ref p) (.ref q) H (.bl ns.isEmpty) := fun H1 e Q k =>
  ⟨.list (natD ns), .list [], .lst (Evl.sq_of (e p _ hp)) (dp_nat ns), .lst (Evl.sq_of (e q _ hq)) .nil, shaped_nat ns, shaped_nat [], by
    rw [eqv_nat_nil]
    exact k H1 (Ex.refl H1)⟩
theorem rv_neD_nil {H : Hp} {p q : Addr} {ns : List Nat} (hp : H p = some (.lst (natV ns))) (hq : H q = some (.lst [])) : Evl.RV (rNeD K) (.ref p) (.ref q) H (.bl (!ns.isEmpty)) := fun H1 e Q k =>
  ⟨.list (natD ns), .list [], .lst (Evl.sq_of (e p _ hp)) (dp_nat ns), .lst (Evl.sq_of (e q _ hq)) .nil, shaped_nat ns, shaped_nat [], by
    rw [eqv_nat_nil]
    exact k H1 (Ex.refl H1)⟩

theorem lit_stop : (("stop" : Str)) = S (ascii "stop") := by decide +kernel
theorem lit_read : (("read" : Str)) = S (ascii "read") := by decide +kernel
theorem lit_write : (("write" : Str)) = S (ascii "write") := by decide +kernel
theorem lit_heads : ([.str "if", .str "while"] : List V) = [ascii "if", ascii "while"].map fun t => V.str (S t) := by
  rw [lit_if, lit_while]
  rfl
theorem headOf_hdr {t v : Text} {r : List Text} (hc : cutAt 32 t = v :: r) (hv : v = ascii "if" ∨ v = ascii "while") : headOf t = hdrOf t := by
  unfold headOf hdrOf
  rw [hc]
  have n1 : v ≠ ascii "stop" := by rcases hv with rfl | rfl <;> decide
  have n2 : v ≠ ascii "read" := by rcases hv with rfl | rfl <;> decide
  have n3 : v ≠ ascii "write" := by rcases hv with rfl | rfl <;> decide
  match r with
  | [] =>
    show (if v = ascii "stop" then some Head.halt else none) = none
    rw [if_neg n1]
  | [x] =>
    show (if v = ascii "read" then _ else if v = ascii "write" then _ else none) = (if v = ascii "if" then (condOf [x]).map Head.ite else if v = ascii "while" then (condOf [x]).map Head.loop else none)
    rw [if_neg n2, if_neg n3]
    rcases hv with rfl | rfl <;> rfl
  | x :: y :: e =>
    show (if v = ascii "if" then (condOf (x :: y :: e)).map Head.ite else if v = ascii "while" then (condOf (x :: y :: e)).map Head.loop else _) = (if v = ascii "if" then (condOf (x :: y :: e)).map Head.ite else if v = ascii "while" then (condOf (x :: y :: e)).map Head.loop else none)
    rcases hv with rfl | rfl
    · rw [if_pos rfl, if_pos rfl]
    · rw [if_neg (by decide), if_pos rfl, if_neg (by decide), if_pos rfl]
theorem headOf_asg {t v : Text} {r : List Text} (hc : cutAt 32 t = v :: r) (h1 : v ≠ ascii "if") (h2 : v ≠ ascii "while") (h3 : v :: r ≠ [ascii "stop"])
    (h4 : ∀ x, r = [x] → ¬ (v = ascii "read" ∧ isName x = true)) (h5 : ∀ x, r = [x] → ¬ (v = ascii "write" ∧ (atomOf x).isSome = true)) : headOf t = asgOf (v :: r) := by
  unfold headOf
  rw [hc]
  match r, h3, h4, h5 with
  | [], h3, _, _ =>
    show (if v = ascii "stop" then some Head.halt else none) = none
    rw [if_neg]
    rintro rfl
    exact h3 rfl
  | [x], _, h4, h5 =>
    show (if v = ascii "read" then (if isName x = true then some (Head.read x) else none) else if v = ascii "write" then (atomOf x).map Head.write else none) = (if x = ascii "=" ∧ isName v = true then (exprOf []).map (Head.set v) else none)
    have e : (if x = ascii "=" ∧ isName v = true then (exprOf []).map (Head.set v) else none) = none := by
      split <;> rfl
    rw [e]
    by_cases c1 : v = ascii "read"
    · rw [if_pos c1, if_neg]
      intro q
      exact h4 x rfl ⟨c1, q⟩
    · rw [if_neg c1]
      by_cases c2 : v = ascii "write"
      · rw [if_pos c2]
        cases h : atomOf x with
        | none => rfl
        | some _ => exact absurd ⟨c2, by rw [h]; rfl⟩ (h5 x rfl)
      · rw [if_neg c2]
  | x :: y :: e, _, _, _ =>
    show (if v = ascii "if" then _ else if v = ascii "while" then _ else if x = ascii "=" ∧ isName v = true then (exprOf (y :: e)).map (Head.set v) else none) = _
    rw [if_neg h1, if_neg h2]
    rfl

def sp_read_statement (a : Ad) : Sp := fun vs H Q E => ∃ (t : Text), vs = [.str (S t)] ∧ Word t ∧ (∀ h, headOf t = some h → RetS a (stmOf h) H Q) ∧ (headOf t = none → ∀ H', Ex H H' → E (.ref a.C_NotAProgram) none H')
theorem RetS.mono {s : Stm} {H H1 : Hp} {Q : VK} (e : Ex H H1) (k : RetS a s H Q) : RetS a s H1 Q := fun r H' f n e' st => k r H' (fun x hx => Evl.fresh_back e (f x hx)) n (e.trans e') st
theorem ok_read_statement (T : Facts K mg a) : FnOk P w K mg base (L2.CX P w) 6 a.f_read_statement a.d_read_statement ["row"] (sp_read_statement a) := by
  refine T.F_read_statement.okX sc_read_statement (fun vs H Q E h => ?_) (fun cdv A outer s H vs Q E hr h => ?_)
  · obtain ⟨t, rfl, _⟩ := h
    rfl
  · refine ⟨_, (pss_cons (ps_set (i := 1) sc_read_statement.nd rfl (Or.inl rfl) (pe_split (pv 0) pe_str))
    (pss_cons (ps_if (pt_cmpR op_in_seq (pe_ix ix_list (pv 1) pe_int (fun _ _ => rfl)) (pe_ga rfl T.t_HEADER_WORDS) (by rfl))
    (pss_one (ps_ret (pe_call (ok_read_header T) (hr.mono (by decide)) rfl T.g_read_header T.F_read_header.kp T.B_read_header .nil (passes_call (takes_of rfl rfl rfl rfl) (fun _ _ _ _ h => h)) (pa_cons (pv 0) pa_nil))))
    pss_nil)
    (pss_cons (ps_if (pt_cmpR (op_eqD hr.units) (pv 1) (pe_lst (pa_cons pe_str pa_nil)) (nomark _))
    (pss_one (ps_ret (pe_make T.K_Statement (ok_Statement_init T) (hr.mono (by decide)) rfl T.g_Statement T.B_Statement_init .nil pass0 (pa_cons (pe_gi rfl T.c_STOP.choose_spec) (pa_cons pe_str (pa_cons (pe_lst pa_nil) (pa_cons pe_str pa_nil)))))))
    pss_nil)
    (pss_cons (ps_if (PW.pt (pw_and (pt_cmpR op_eq (pe_callB call_len_seq (by rfl) T.b_len (by decide +kernel) (pa_cons (pv 1) pa_nil)) pe_int (nomark _)) (pw_and (pt_cmpR op_eq (pe_ix ix_list (pv 1) pe_int (fun _ _ => rfl)) pe_str (nomark _)) (pw_and1 (pt_val (pe_call (ok_is_name T) (hr.mono (by decide)) rfl T.g_is_name T.F_is_name.kp T.B_is_name .nil pass0 (pa_cons (pe_ix ix_list (pv 1) pe_int (fun _ _ => rfl)) pa_nil)))))))
    (pss_one (ps_ret (pe_make T.K_Statement (ok_Statement_init T) (hr.mono (by decide)) rfl T.g_Statement T.B_Statement_init .nil pass0 (pa_cons (pe_gi rfl T.c_READ.choose_spec) (pa_cons (pe_ix ix_list (pv 1) pe_int (fun _ _ => rfl)) (pa_cons (pe_lst pa_nil) (pa_cons pe_str pa_nil)))))))
    pss_nil)
    (pss_cons (ps_if (PW.pt (pw_and (pt_cmpR op_eq (pe_callB call_len_seq (by rfl) T.b_len (by decide +kernel) (pa_cons (pv 1) pa_nil)) pe_int (nomark _)) (pw_and (pt_cmpR op_eq (pe_ix ix_list (pv 1) pe_int (fun _ _ => rfl)) pe_str (nomark _)) (pw_and1 (pt_val (pe_call (ok_is_atom T) (hr.mono (by decide)) rfl T.g_is_atom T.F_is_atom.kp T.B_is_atom .nil pass0 (pa_cons (pe_ix ix_list (pv 1) pe_int (fun _ _ => rfl)) pa_nil)))))))
    (pss_one (ps_ret (pe_make T.K_Statement (ok_Statement_init T) (hr.mono (by decide)) rfl T.g_Statement T.B_Statement_init .nil pass0 (pa_cons (pe_gi rfl T.c_WRITE.choose_spec) (pa_cons pe_str (pa_cons (pe_lst (pa_cons (pe_ix ix_list (pv 1) pe_int (fun _ _ => rfl)) pa_nil)) (pa_cons pe_str pa_nil)))))))
    pss_nil)
    (pss_one (ps_ret (pe_call (ok_read_assignment T) (hr.mono (by decide)) rfl T.g_read_assignment T.F_read_assignment.kp T.B_read_assignment .nil (passes_call (takes_of rfl rfl rfl rfl) (fun _ _ _ _ h => h)) (pa_cons (pv 1) pa_nil))))))))), ?_⟩
    obtain ⟨t, rfl, wt, kY, kN⟩ := h
    refine Evl.q_asgL (el_split (Evl.ev_var rfl) (Evl.ev_is Evl.ev_c (by rw [lit_blank])) (by have := wt.2; omega)) fun p H1 n1 e1 h1 => ?_
    obtain ⟨v, r, hc⟩ : ∃ v r, cutAt 32 t = v :: r := by
      cases h : cutAt 32 t with
      | nil => exact absurd h (VO.cutAt_ne 32 t)
      | cons v r => exact ⟨v, r, rfl⟩
    have hw : ∀ x ∈ v :: r, Word x := by rw [← hc]; exact word_cut wt
    have wlen : (v :: r).length ≤ 1001 := by rw [← hc]; have := cut_len t; have := wt.2; omega
    rw [hc] at h1
    refine Evl.q_when (b := inV (.str (S v)) [.str "if", .str "while"]) (Evl.et_test (Evl.ev_op (ev_wd 0 (Evl.ev_var rfl) h1 rfl) Evl.ev_c (Evl.rv_isT (T.s_HEADER_WORDS _) rfl rfl))) (fun hb H2 e2 => ?_) (fun hb H2 e2 => ?_)
    · rw [lit_heads, in_words] at hb
      have hv : v = ascii "if" ∨ v = ascii "while" := by simpa using hb
      have e := headOf_hdr hc hv
      refine ⟨_, rfl, t, rfl, wt, ⟨v, r, hc, hv⟩, fun h hh => (kY h (by rw [e]; exact hh)).mono (e1.trans e2), fun hh H3 e3 => kN (by rw [e]; exact hh) H3 ((e1.trans e2).trans e3)⟩
    · rw [lit_heads, in_words] at hb
      have hv1 : v ≠ ascii "if" := by rintro rfl; revert hb; decide
      have hv2 : v ≠ ascii "while" := by rintro rfl; revert hb; decide
      have h2 := e2 p _ h1
      have e02 := e1.trans e2
      refine Evl.q_when (b := (v :: r) == [ascii "stop"]) (Evl.et_test (Evl.ev_opL (xs := wdV [ascii "stop"]) (Evl.ev_var rfl) (Evl.el_lst (Evl.ea_cons (Evl.ev_is Evl.ev_c (by rw [lit_stop])) Evl.ea_nil) (by decide)) fun q H3 h3 e3 => rv_eqD_wd (e3 p _ h2) h3 (fun x hx => (hw x hx).1) (by unfold Low; decide))) (fun hs H3 e3 => ?_) (fun hs H3 e3 => ?_)
      · rw [beq_iff_eq] at hs
        have hk : headOf t = some .halt := by
          unfold headOf
          rw [hc, hs]
          rfl
        refine s_retMakeL (pre := [.int ((4 : Nat) : Int), .str (S [])]) (xs := wdV []) (post := [.str (S [])]) (eal_cons Evl.ev_c (eal_cons (Evl.ev_is Evl.ev_c (by rw [lit_empty])) (eal_here (Evl.el_lst Evl.ea_nil (by decide)) (Evl.ea_cons (Evl.ev_is Evl.ev_c (by rw [lit_empty])) Evl.ea_nil)))) fun l H4 n4 e4 h4 => ?_
        exact made_stm ((e02.trans e3).trans e4) (Evl.fresh_back (e02.trans e3) n4) h4 (by simp) (by decide) (kY _ hk)
      · have hs' : v :: r ≠ [ascii "stop"] := by simpa using hs
        have h3 := e3 p _ h2
        have e03 := e02.trans e3
        have g : ∀ {i : Nat} {x : Text}, (v :: r)[i]? = some x → Word x := fun h => hw _ (List.mem_of_getElem? h)
        refine Evl.q_when (b := decide (V.int ((v :: r).length : Int) = V.int 2) && (decide (V.str (S v) = V.str "read") && isName (r.getD 0 [])))
          (Evl.et_and (Evl.et_test (Evl.ev_op (ev_len' (Evl.ev_var rfl) h3) Evl.ev_c (Evl.rv_eq rfl))) fun hl => Evl.et_and (Evl.et_test (Evl.ev_op (ev_wd 0 (Evl.ev_var rfl) h3 rfl) Evl.ev_c (Evl.rv_eq rfl))) fun _ => Evl.et_B (Evl.ev_call (Evl.ea_cons (ev_wd 1 (t := r.getD 0 []) (Evl.ev_var rfl) h3 ?_) Evl.ea_nil) ?_)) (fun hb2 H4 e4 => ?_) (fun hb2 H4 e4 => ?_)
        · have hl' : (v :: r).length = 2 := by have := V.int.inj (of_decide_eq_true hl); omega
          match r, hl' with
          | [x], _ => rfl
        · have hl' : (v :: r).length = 2 := by have := V.int.inj (of_decide_eq_true hl); omega
          match r, hl', hw with
          | [x], _, hw =>
            have wx := hw x (by simp)
            exact fun H5 _ Q q E => ⟨x, rfl, wx.1, wx.2, q⟩
        · simp only [Bool.and_eq_true, decide_eq_true_eq] at hb2
          obtain ⟨c1, c2, c3⟩ := hb2
          have hl' : (v :: r).length = 2 := by have := V.int.inj c1; omega
          rw [lit_read] at c2
          have c2' := S_inj (V.str.inj c2)
          match r, hl', hw, c3, h3 with
          | [x], _, hw, c3, h3 =>
            have hk : headOf t = some (.read x) := by
              unfold headOf
              rw [hc, c2']
              show (if ascii "read" = ascii "read" then (if isName x = true then some (Head.read x) else none) else _) = _
              rw [if_pos rfl, if_pos (show isName x = true from c3)]
            refine s_retMakeL (pre := [.int ((2 : Nat) : Int), .str (S x)]) (xs := wdV []) (post := [.str (S [])]) (eal_cons Evl.ev_c (eal_cons (ev_wd 1 (Evl.ev_var rfl) (e4 p _ h3) rfl) (eal_here (Evl.el_lst Evl.ea_nil (by decide)) (Evl.ea_cons (Evl.ev_is Evl.ev_c (by rw [lit_empty])) Evl.ea_nil)))) fun l H5 n5 e5 h5 => ?_
            exact made_stm ((e03.trans e4).trans e5) (Evl.fresh_back (e03.trans e4) n5) h5 (by simp) (by decide) (kY _ hk)
        · have h4 := e4 p _ h3
          have e04 := e03.trans e4
          refine Evl.q_when (b := decide (V.int ((v :: r).length : Int) = V.int 2) && (decide (V.str (S v) = V.str "write") && (atomOf (r.getD 0 [])).isSome))
            (Evl.et_and (Evl.et_test (Evl.ev_op (ev_len' (Evl.ev_var rfl) h4) Evl.ev_c (Evl.rv_eq rfl))) fun hl => Evl.et_and (Evl.et_test (Evl.ev_op (ev_wd 0 (Evl.ev_var rfl) h4 rfl) Evl.ev_c (Evl.rv_eq rfl))) fun _ => Evl.et_B (Evl.ev_call (Evl.ea_cons (ev_wd 1 (t := r.getD 0 []) (Evl.ev_var rfl) h4 ?_) Evl.ea_nil) ?_)) (fun hb3 H5 e5 => ?_) (fun hb3 H5 e5 => ?_)
          · have hl' : (v :: r).length = 2 := by have := V.int.inj (of_decide_eq_true hl); omega
            match r, hl' with
            | [x], _ => rfl
          · have hl' : (v :: r).length = 2 := by have := V.int.inj (of_decide_eq_true hl); omega
            match r, hl', hw with
            | [x], _, hw =>
              have wx := hw x (by simp)
              exact fun H5 _ Q q E => ⟨x, rfl, wx, q⟩
          · simp only [Bool.and_eq_true, decide_eq_true_eq] at hb3
            obtain ⟨c1, c2, c3⟩ := hb3
            have hl' : (v :: r).length = 2 := by have := V.int.inj c1; omega
            rw [lit_write] at c2
            have c2' := S_inj (V.str.inj c2)
            match r, hl', hw, c3, h4 with
            | [x], _, hw, c3, h4 =>
              cases hx : atomOf x with
              | none =>
                have c3' : (atomOf x).isSome = true := c3
                rw [hx] at c3'; cases c3'
              | some xa =>
                have hk : headOf t = some (.write xa) := by
                  unfold headOf
                  rw [hc, c2']
                  show (if ascii "write" = ascii "read" then _ else if ascii "write" = ascii "write" then (atomOf x).map Head.write else none) = _
                  rw [if_neg (by decide), if_pos rfl, hx]
                  rfl
                have q := kY _ hk
                have es : stmOf (.write xa) = rowStm 3 [] [x] [] := by
                  show rowStm 3 [] [atomText xa] [] = _
                  rw [(VO.atomOf_some hx).2]
                rw [es] at q
                refine s_retMakeL (pre := [.int ((3 : Nat) : Int), .str (S [])]) (xs := wdV [x]) (post := [.str (S [])]) (eal_cons Evl.ev_c (eal_cons (Evl.ev_is Evl.ev_c (by rw [lit_empty])) (eal_here (Evl.el_lst (Evl.ea_cons (ev_wd 1 (Evl.ev_var rfl) (e5 p _ h4) rfl) Evl.ea_nil) (by simp [wdV])) (Evl.ea_cons (Evl.ev_is Evl.ev_c (by rw [lit_empty])) Evl.ea_nil)))) fun l H6 n6 e6 h6 => ?_
                exact made_stm ((e04.trans e5).trans e6) (Evl.fresh_back (e04.trans e5) n6) h6 (fun u hu => hw u (by simp at hu; simp [hu])) (by simp) q
          · have e05 := e04.trans e5
            have e : headOf t = asgOf (v :: r) := by
              refine headOf_asg hc hv1 hv2 hs' (fun x hx ⟨q1, q2⟩ => ?_) (fun x hx ⟨q1, q2⟩ => ?_)
              · subst hx q1
                rw [lit_read] at hb2
                simp [q2] at hb2
              · subst hx q1
                rw [lit_write] at hb3
                simp [q2] at hb3
            exact ⟨_, rfl, p, v :: r, rfl, e5 p _ h4, hw, wlen, fun h hh => (kY h (by rw [e]; exact hh)).mono e05, fun hh H6 e6 => kN (by rw [e]; exact hh) H6 (e05.trans e6)⟩
end VP
set_option Elab.async false
set_option linter.all false
set_option maxRecDepth 100000
set_option maxHeartbeats 4000000
namespace VP
open PySem PySem.Spec PyProof.Rows L2 TL
open Vaslca (Text Name cutAt gluedBy ascii isName isSmall isDigit numberOf decimal atomOf Atom atomText isAtom exprOf condOf opOf relOf opText relText linesIn)
open VO (Head headOf)
open Evl (Ex Ev EvT EvA EvL EvU)
variable {P : Program} {w : World} {K : PySem.W.Frag} {mg : Str → Option Value} {base : Heap} {a : Ad}

/-! dicts -/
section
variable {σ : L2.St} {H : Hp} {td ty tx : TE} {d : Addr} {k : Key} {kvs : List (Key × V)} {z v : V}
theorem dget_mono {H1 : Hp} (e : Ex H H1) (h : H d = some (.dK kvs)) : DGet H1 d (kV k) (valV kvs k) := DGet.k (e d _ h)
theorem ev_dget (h1 : Ev td σ H (.ref d)) (h2 : Ev ty σ H (kV k)) (h : H d = some (.dK kvs)) (hv : valV kvs k = some v) : Ev (tDGet td ty) σ H v := fun H1 e Q q =>
  h1 H1 e _ fun H2 e2 => h2 H2 (e.trans e2) _ fun H3 e3 => ⟨d, v, rfl, by rw [← hv]; exact dget_mono ((e.trans e2).trans e3) h, q H3 (e2.trans e3)⟩
theorem et_dnotin (h1 : Ev ty σ H (kV k)) (h2 : Ev td σ H (.ref d)) (h : H d = some (.dK kvs)) : EvT (tB (tDNotIn ty td)) σ H (!(valV kvs k).isSome) := fun H1 e Q q =>
  h1 H1 e _ fun H2 e2 => h2 H2 (e.trans e2) _ fun H3 e3 => ⟨d, _, rfl, dget_mono ((e.trans e2).trans e3) h, _, rfl, q H3 (e2.trans e3)⟩
theorem ev_dget2 (h1 : Ev td σ H (.ref d)) (h2 : Ev ty σ H (kV k)) (h3 : Ev tx σ H z) (h : H d = some (.dK kvs)) : Ev (tDGet2 td ty tx) σ H ((valV kvs k).getD z) := fun H1 e Q q =>
  h1 H1 e _ fun H2 e2 => ⟨d, rfl, .inl ⟨kvs, .inl ((e.trans e2) d _ h)⟩, h2 H2 (e.trans e2) _ fun H3 e3 => h3 H3 ((e.trans e2).trans e3) _ fun H4 e4 => ⟨_, dget_mono (((e.trans e2).trans e3).trans e4) h, q H4 ((e2.trans e3).trans e4)⟩⟩
end

/-! joined texts, cut lists -/
theorem join_one (t : Text) : Txt.join (S []) (t.map fun b => S [b]) = S t := by
  refine ext_tl ?_
  rw [join_eq, tl_join, tl_S, tl_S, List.map_map]
  have : ∀ t : Text, joinL (List.map UInt8.toNat []) (t.map (tl ∘ fun b => S [b])) = t.map UInt8.toNat := by
    intro t
    induction t with
    | nil => rfl
    | cons b r ih =>
      cases r with
      | nil => rfl
      | cons c q =>
        show [b.toNat] ++ ([] ++ joinL [] ((c :: q).map (tl ∘ fun b => S [b]))) = _
        have ih' : joinL [] ((c :: q).map (tl ∘ fun b => S [b])) = (c :: q).map UInt8.toNat := ih
        rw [ih']
        rfl
  exact this t
theorem el_splitC {σ : L2.St} {H : Hp} {to te : TE} {t : Text} (c : UInt8) (hc : c.toNat < 256) (h : Ev to σ H (.str (S t))) (h2 : Ev te σ H (.str (S [c]))) (hz : t.length ≤ 5000) :
    EvL (tM1 (fun x xs H Q => ∃ a b, x = .str a ∧ xs = [.str b] ∧ (b.length == 0) = false ∧ a.length + 2 ≤ sizeLine ∧ rNewStrs (Txt.split a b) H Q) to te) σ H (wdV (cutAt c t)) :=
  fun H1 e Q q => h H1 e _ fun H2 e2 => ⟨⟨_, rfl⟩, h2 H2 (e.trans e2) _ fun H3 e3 => ⟨_, _, rfl, rfl, rfl, by rw [len_S]; exact Evl.sz_of (by omega), fun p hp => q p _ (Evl.fresh_back (e2.trans e3) hp) ((e2.trans e3).trans (Ex.new hp)) (by
    rw [upd_same, split_S c hc, List.map_map]
    rfl)⟩⟩
theorem cutV_last (xs : List V) : cutV xs none (some (-1)) = xs.dropLast := by
  unfold cutV
  show (xs.drop 0).take (((-1 : Int) + (xs.length : Int)).toNat - 0) = _
  rw [List.drop_zero, List.dropLast_eq_take]
  congr 1
  omega
theorem wdV_drop (ws : List Text) : (wdV ws).dropLast = wdV ws.dropLast := by simp [wdV, List.map_dropLast]

/-! rows -/
def bytV (t : Text) : List V := t.map fun b => V.int (b.toNat : Int)
def signs : Text := ascii "\n !*+-0123456789:<=abcdefghijklmnopqrstuvwxyz"
theorem lit_signs : (("\n !*+-0123456789:<=abcdefghijklmnopqrstuvwxyz" : Str)) = S signs := by decide +kernel
theorem lit_nl : (("\n" : Str)) = S [10] := by decide +kernel
theorem signs_len : signs.length = 45 := by decide +kernel
def rowsIn (t : Text) : Option (List Text) := if t.all signs.contains = true then linesIn t else none
/-- what the table of signs holds behind i turns -/
def Known (i : Nat) (kvs : List (Key × V)) : Prop := kvs.length ≤ i ∧ ∀ b : UInt8, valV kvs (Sum.inl (b.toNat : Int)) = if (signs.take i).contains b = true then some (.str (S [b])) else none
theorem known_more {i : Nat} {kvs : List (Key × V)} {c : UInt8} (hc : signs[i]? = some c) (h : Known i kvs) : Known (i + 1) (putK kvs (Sum.inl (c.toNat : Int)) (.str (S [c]))) := by
  obtain ⟨h1, h2⟩ := h
  refine ⟨?_, fun b => ?_⟩
  · unfold putK
    split
    · simp; omega
    · simp; omega
  · rw [valV_put, h2 b, List.take_add_one, hc]
    by_cases e : b = c
    · subst e
      rw [if_pos rfl, if_pos (by simp)]
    · have e' : ¬ (Sum.inl (b.toNat : Int) : Key) = Sum.inl (c.toNat : Int) := by
        intro q
        have := Sum.inl.inj q
        exact e (UInt8.toNat_inj.mp (by omega))
      rw [if_neg e']
      have : (signs.take i ++ [c]).contains b = (signs.take i).contains b := by
        simp [List.contains_eq_any_beq, e]
      show _ = if (signs.take i ++ [c]).contains b = true then _ else _
      rw [this]

def sp_rows_of (a : Ad) : Sp := fun vs H Q E => ∃ (l : Addr) (t : Text), vs = [.ref l] ∧ H l = some (.lst (bytV t)) ∧ t.length ≤ 1000 ∧
  (∀ ls, rowsIn t = some ls → Evl.RetL (wdV ls) H Q) ∧ (rowsIn t = none → ∀ H', Ex H H' → E (.ref a.C_NotAProgram) none H')
theorem ok_rows_of (T : Facts K mg a) : FnOk P w K mg base (L2.CX P w) 1 a.f_rows_of a.d_rows_of ["text"] (sp_rows_of a) := by
  refine T.F_rows_of.okX sc_rows_of (fun vs H Q E h => ?_) (fun cdv A outer s H vs Q E hr h => ?_)
  · obtain ⟨l, t, rfl, _⟩ := h
    rfl
  · refine ⟨_, (pss_cons (ps_set (i := 1) sc_rows_of.nd rfl (Or.inl rfl) pe_dnewK)
    (pss_cons (ps_for (passes_of rfl) rfl (pi_str (pe_gs rfl T.c_SIGNS.choose_spec)) (pg_name (i := 2) sc_rows_of.nd rfl (Or.inl rfl))
    (pss_one (ps_dput (by exact hu_of hr) (pv 1) (pe_callB call_ord (by rfl) T.b_ord (by decide +kernel) (pa_cons (pv 2) pa_nil)) (pv 2) rfl)))
    (pss_cons (ps_set (i := 3) sc_rows_of.nd rfl (Or.inl rfl) (pe_lst pa_nil))
    (pss_cons (ps_for (passes_of rfl) rfl (pi_list (pv 0)) (pg_name (i := 4) sc_rows_of.nd rfl (Or.inl rfl))
    (pss_cons (ps_if (pt_cmp (pc_dnotin (by exact hu_of hr) (pv 4) (pv 1)))
    (pss_one (ps_raise rfl (takes_of rfl rfl rfl rfl) (pmk_own0 PySem.F.excBase_Exception T.x_NotAProgram.x T.x_NotAProgram.g T.x_NotAProgram.k (raises_own T.x_NotAProgram.b T.x_NotAProgram.t) (by exact rfl))))
    pss_nil)
    (pss_one (ps_expr (pe_bm PySem.F.plainAttrs_list PySem.F.slot_list_append PySem.F.type_list_append mt_append (pv 3) (pa_cons (pe_dget (by exact hu_of hr) (pv 1) (pv 4) (fun _ _ => rfl)) pa_nil))))))
    (pss_cons (ps_set (i := 5) sc_rows_of.nd rfl (Or.inl rfl) (pe_split (pe_join pe_str (pv 3)) pe_str))
    (pss_cons (ps_if (pt_cmpR op_ne (pe_ix ix_list (pv 5) (pe_un un_neg pe_int) (fun _ _ => rfl)) pe_str (nomark _))
    (pss_one (ps_raise rfl (takes_of rfl rfl rfl rfl) (pmk_own0 PySem.F.excBase_Exception T.x_NotAProgram.x T.x_NotAProgram.g T.x_NotAProgram.k (raises_own T.x_NotAProgram.b T.x_NotAProgram.t) (by exact rfl))))
    pss_nil)
    (pss_one (ps_ret (pe_slice sl_list (pv 5) po_none (po_some (pe_un un_neg pe_int))))))))))), ?_⟩
    obtain ⟨l, t, rfl, hl, hz, kY, kN⟩ := h
    intro d hd
    have e1 : Ex H (upd H d (.dK [])) := Ex.new hd
    refine ⟨_, rfl, for_it walk_str (fun i σ' H' => ∃ v kvs, σ' = [some (.ref l), some (.ref d), v, none, none, none] ∧ Ex H H' ∧ H' d = some (.dK kvs) ∧ Known i kvs)
      ⟨none, [], rfl, e1, upd_same, Nat.le_refl _, fun b => by simp [valV_nil]⟩ (fun _ _ _ _ _ => trivial) (fun i x σ' H' H'' hi ⟨v, kvs, es, e, hd', hk⟩ hx => ?_) (fun σ' H2 ⟨v, kvs, es, e2, hd2, hk⟩ => ?_)⟩
    · obtain ⟨rfl, c, hc, rfl⟩ := hx
      subst es
      rw [lit_signs] at hc
      have hc' : (signs.map UInt8.toNat)[i]? = some c := by
        have q : (S signs).cps[i]? = (tl (S signs))[i]? := by simp [tl]
        rw [q] at hc
        exact hc
      rw [List.getElem?_map] at hc'
      cases hb : signs[i]? with
      | none => rw [hb] at hc'; cases hc'
      | some b =>
        rw [hb] at hc'
        cases Option.some.inj hc'
        have lt : i < 45 := by rw [← signs_len]; exact (List.getElem?_eq_some_iff.mp hb).1
        refine ⟨_, rfl, _, rfl, _, rfl, _, rfl, rfl, d, _, rfl, DPut.k (k := Sum.inl (b.toNat : Int)) hd' (by have := hk.1; exact Evl.sz_lt (by omega)), ?_⟩
        exact ⟨_, _, rfl, e.mut hd, upd_same, known_more hb hk⟩
    · subst es
      have hk' : ∀ b : UInt8, valV kvs (Sum.inl (b.toNat : Int)) = if signs.contains b = true then some (.str (S [b])) else none := by
        intro b
        have q := hk.2 b
        have sz : (("\n !*+-0123456789:<=abcdefghijklmnopqrstuvwxyz" : Str)).cps.size = signs.length := by rw [lit_signs]; exact len_S signs
        rw [sz, List.take_length] at q
        exact q
      refine Evl.q_asgL (Evl.el_lst Evl.ea_nil (by decide)) fun p H3 n3 e3 h3 => ?_
      have np : H p = none := Evl.fresh_back e2 n3
      have hd3 := e3 d _ hd2
      refine Evl.q_forLn (Evl.ev_var rfl) (Evl.sq_of ((e2.trans e3) l _ hl)) (fun i σ' H' => ∃ v1 v2, σ' = [some (.ref l), some (.ref d), v1, some (.ref p), v2, none] ∧ Ex H H' ∧ H' d = some (.dK kvs) ∧ H' p = some (.lst ((t.take i).map fun b => V.str (S [b]))) ∧ ∀ b ∈ t.take i, signs.contains b = true)
        (fun H4 e4 => ⟨_, _, rfl, (e2.trans e3).trans e4, e4 d _ hd3, e4 p _ h3, by simp⟩) (fun i σ' H' _ ⟨_, _, _, e, _⟩ => Evl.sq_of (e l _ hl)) (fun i x σ' H' hi ⟨v1, v2, es, e, hd', hp', ha⟩ => ?_) (fun σ' H4 ⟨v1, v2, es, e4, hd4, hp4, ha⟩ => ?_)
      · subst es
        unfold bytV at hi
        rw [List.getElem?_map] at hi
        cases hb : t[i]? with
        | none => rw [hb] at hi; cases hi
        | some b =>
          rw [hb] at hi
          cases Option.some.inj hi
          have mb : b ∈ t := List.mem_of_getElem? hb
          have lt : i < t.length := (List.getElem?_eq_some_iff.mp hb).1
          refine Evl.q_when (b := !(valV kvs (Sum.inl (b.toNat : Int))).isSome) (et_dnotin (k := Sum.inl (b.toNat : Int)) (Evl.ev_var rfl) (Evl.ev_var rfl) hd') (fun hn H5 e5 => ?_) (fun hn H5 e5 => ?_)
          · refine kN ?_ H5 (e.trans e5)
            rw [hk' b] at hn
            unfold rowsIn
            rw [if_neg]
            intro q
            rw [List.all_eq_true] at q
            rw [if_pos (q b mb)] at hn
            cases hn
          · rw [hk' b] at hn
            have hs : signs.contains b = true := by
              by_cases q : signs.contains b = true
              · exact q
              · rw [if_neg q] at hn; cases hn
            refine Evl.s_app (xs := (t.take i).map fun b => V.str (S [b])) (v := .str (S [b])) (e5 p _ hp') (Evl.ev_var rfl) (ev_dget (k := Sum.inl (b.toNat : Int)) (Evl.ev_var rfl) (Evl.ev_var rfl) (e5 d _ hd') (by rw [hk' b, if_pos hs])) (by simp; omega) fun H6 e6 => ?_
            have dp : d ≠ p := ne_of hd' hp' (by intro z; cases z)
            refine ⟨_, _, rfl, ((e.trans e5).trans e6).mut np, by rw [upd_ne dp]; exact e6 d _ (e5 d _ hd'), ?_, fun u hu => ?_⟩
            · rw [upd_same, List.take_add_one, hb]
              simp
            · rw [List.take_add_one, hb] at hu
              rcases List.mem_append.mp hu with q | q
              · exact ha u q
              · have : u = b := by simpa using q
                rw [this]; exact hs
      · subst es
        have len : (bytV t).length = t.length := List.length_map ..
        rw [len, List.take_length] at hp4 ha
        have er : rowsIn t = linesIn t := if_pos (List.all_eq_true.mpr ha)
        rw [er] at kY kN
        refine Evl.q_asgL (el_splitC (t := t) 10 (by decide) (fun H5 e5 Q q => ⟨⟨"", rfl⟩, _, rfl, "", p, t.map fun b => S [b], rfl, rfl, .inl (Evl.sq_of (by rw [e5 p _ hp4, List.map_map]; rfl)), ?_, ?_⟩) (Evl.ev_is Evl.ev_c (by rw [lit_nl])) (by omega)) fun q H5 n5 e5 h5 => ?_
        · have : ∀ t : Text, ((t.map fun b => S [b]).map (·.length)).sum = t.length := by
            intro t
            induction t with
            | nil => rfl
            | cons b r ih => simp only [List.map_cons, List.sum_cons, ih, len_S, List.length_cons, List.length_nil]; omega
          rw [this, List.length_map]
          have z : (("" : Str)).length = 0 := by decide
          rw [z]
          omega
        · rw [lit_empty, join_one]
          exact q H5 (Ex.refl H5)
        · have e05 := e4.trans e5
          obtain ⟨ls, x, hls⟩ : ∃ ls x, cutAt 10 t = ls ++ [x] := by
            rcases List.eq_nil_or_concat (cutAt 10 t) with z | ⟨ls, x, z⟩
            · exact absurd z (VO.cutAt_ne 10 t)
            · exact ⟨ls, x, by rw [z, List.concat_eq_append]⟩
          have eL : linesIn t = if x = [] then some ls else none := by
            unfold Vaslca.linesIn
            rw [hls]
            simp
          rw [hls] at h5
          refine Evl.q_when (b := !decide (V.str (S x) = V.str "")) (Evl.et_test (Evl.ev_op (Evl.ev_op (Evl.ev_var rfl) (Evl.ev_un Evl.ev_c Evl.ru_neg) (Evl.rv_ixL (Evl.sq_of h5) (v := .str (S x)) ?_)) Evl.ev_c (Evl.rv_ne rfl))) (fun hn H6 e6 => ?_) (fun hn H6 e6 => ?_)
          · have : wdV (ls ++ [x]) = wdV ls ++ [.str (S x)] := by simp [wdV]
            rw [this]
            exact atI_last _ _
          · rw [lit_empty, dec_S] at hn
            refine kN ?_ H6 (e05.trans e6)
            rw [eL, if_neg]
            intro z
            rw [z] at hn
            simp at hn
          · rw [lit_empty, dec_S] at hn
            have hx : x = [] := by simpa using hn
            have kk := kY ls (by rw [eL, if_pos hx])
            refine Evl.s_retL (Evl.el_sl (Evl.ev_var rfl) Evl.eo_none (Evl.eo_some (Evl.ev_un Evl.ev_c Evl.ru_neg)) (Evl.sq_of (e6 q _ h5))) fun r H7 n7 e7 h7 => ?_
            refine kk r H7 (Evl.fresh_back (e05.trans e6) n7) ((e05.trans e6).trans e7) ?_
            rw [h7]
            have : cutV (wdV (ls ++ [x])) none (some (-1)) = wdV ls := by
              rw [cutV_last, wdV_drop, List.dropLast_concat]
            rw [← this]
end VP
set_option Elab.async false
set_option linter.all false
set_option maxRecDepth 100000
set_option maxHeartbeats 4000000
namespace VP
open Vaslca (Text Name atomText linesOf deepOf areStatements isDone Code)
open VO (Head headOf Frame Z unwind frameLines)
/-! # The builder's lists, from the machine's pile -/
def topLines : Code → List Nat
  | .done => []
  | .set n _ _ r => n :: topLines r
  | .read n _ r => n :: topLines r
  | .write n _ r => n :: topLines r
  | .halt_ n r => n :: topLines r
  | .ite n _ _ _ r => n :: topLines r
  | .loop n _ _ r => n :: topLines r
def stmsOf (h : List Nat) : Code → List Stm
  | .done => []
  | .set _ v e r => { stmOf (.set v e) with headers := h } :: stmsOf h r
  | .read _ v r => { stmOf (.read v) with headers := h } :: stmsOf h r
  | .write _ x r => { stmOf (.write x) with headers := h } :: stmsOf h r
  | .halt_ _ r => { stmOf .halt with headers := h } :: stmsOf h r
  | .ite n c x y r => { stmOf (.ite c) with headers := h, block := topLines x, otherwise := topLines y } :: (stmsOf (h ++ [n]) x ++ (stmsOf (h ++ [n]) y ++ stmsOf h r))
  | .loop n c x r => { stmOf (.loop c) with headers := h, block := topLines x } :: (stmsOf (h ++ [n]) x ++ stmsOf h r)
theorem top_app : ∀ x y : Code, topLines (VO.app x y) = topLines x ++ topLines y
  | .done, _ => rfl
  | .set n v e r, y => by simp only [VO.app, topLines, top_app r y, List.cons_append]
  | .read n v r, y => by simp only [VO.app, topLines, top_app r y, List.cons_append]
  | .write n v r, y => by simp only [VO.app, topLines, top_app r y, List.cons_append]
  | .halt_ n r, y => by simp only [VO.app, topLines, top_app r y, List.cons_append]
  | .ite n c p q r, y => by simp only [VO.app, topLines, top_app r y, List.cons_append]
  | .loop n c p r, y => by simp only [VO.app, topLines, top_app r y, List.cons_append]
theorem stms_app (h : List Nat) : ∀ x y : Code, stmsOf h (VO.app x y) = stmsOf h x ++ stmsOf h y
  | .done, _ => rfl
  | .set n v e r, y => by simp only [VO.app, stmsOf, stms_app h r y, List.cons_append]
  | .read n v r, y => by simp only [VO.app, stmsOf, stms_app h r y, List.cons_append]
  | .write n v r, y => by simp only [VO.app, stmsOf, stms_app h r y, List.cons_append]
  | .halt_ n r, y => by simp only [VO.app, stmsOf, stms_app h r y, List.cons_append]
  | .ite n c p q r, y => by simp only [VO.app, stmsOf, stms_app h r y, List.cons_append, List.append_assoc]
  | .loop n c p r, y => by simp only [VO.app, stmsOf, stms_app h r y, List.cons_append, List.append_assoc]
theorem stms_len : ∀ (x : Code) (h : List Nat), (stmsOf h x).length = (linesOf x).length
  | .done, _ => rfl
  | .set n v e r, h => by simp only [stmsOf, linesOf, List.length_cons, stms_len r]
  | .read n v r, h => by simp only [stmsOf, linesOf, List.length_cons, stms_len r]
  | .write n v r, h => by simp only [stmsOf, linesOf, List.length_cons, stms_len r]
  | .halt_ n r, h => by simp only [stmsOf, linesOf, List.length_cons, stms_len r]
  | .ite n c p q r, h => by simp only [stmsOf, linesOf, List.length_cons, List.length_append, stms_len r, stms_len p, stms_len q]
  | .loop n c p r, h => by simp only [stmsOf, linesOf, List.length_cons, List.length_append, stms_len r, stms_len p]
theorem top_nil {x : Code} : topLines x = [] ↔ isDone x = true := by
  cases x <;> simp [topLines, isDone]

def fpre : Frame → Code
  | .thn p _ _ => p
  | .els p _ _ _ => p
  | .whl p _ _ => p
def fnum : Frame → Nat
  | .thn _ n _ => n
  | .els _ n _ _ => n
  | .whl _ n _ => n
def fhdr (h tl : List Nat) : Frame → Stm
  | .thn _ _ c => { stmOf (.ite c) with headers := h, block := tl }
  | .els _ _ c x => { stmOf (.ite c) with headers := h, block := topLines x, otherwise := tl }
  | .whl _ _ c => { stmOf (.loop c) with headers := h, block := tl }
def ftail (h : List Nat) : Frame → List Stm
  | .els _ n _ x => stmsOf (h ++ [n]) x
  | _ => []
inductive Slot where
  | top
  | blk (n : Nat)
  | els (n : Nat)
def fslot : Frame → Slot
  | .thn _ n _ => .blk n
  | .els _ n _ _ => .els n
  | .whl _ n _ => .blk n
def aroundF : List Frame → List Nat
  | [] => []
  | f :: fs => aroundF fs ++ [fnum f]
def fillF : List Frame → List Slot
  | [] => [.top]
  | f :: fs => fillF fs ++ [fslot f]
def stmsF : List Frame → List Nat → List Stm
  | [], _ => []
  | f :: fs, tl => stmsF fs (topLines (fpre f) ++ [fnum f]) ++ (stmsOf (aroundF fs) (fpre f) ++ (fhdr (aroundF fs) tl f :: ftail (aroundF fs) f))
def topF : List Frame → List Nat → List Nat
  | [], tl => tl
  | f :: fs, _ => topF fs (topLines (fpre f) ++ [fnum f])
theorem around_len : ∀ fs : List Frame, (aroundF fs).length = fs.length
  | [] => rfl
  | f :: fs => by simp [aroundF, around_len fs]
theorem fill_len : ∀ fs : List Frame, (fillF fs).length = fs.length + 1
  | [] => rfl
  | f :: fs => by simp [fillF, fill_len fs]

/-- the builder's parts -/
structure B where
  stms : List Stm
  top : List Nat
  around : List Nat
  fill : List Slot
  awaits : Bool
def stmsZ (fs : List Frame) (x : Code) : List Stm := stmsF fs (topLines x) ++ stmsOf (aroundF fs) x
def topZ (fs : List Frame) (x : Code) : List Nat := topF fs (topLines x)
def reprZ (z : Z) : B := ⟨stmsZ z.frames z.cur, topZ z.frames z.cur, aroundF z.frames, fillF z.frames, z.awaits⟩

theorem stms_wrap (f : Frame) (fs : List Frame) (x : Code) : stmsZ (f :: fs) x = stmsZ fs (f.wrap x) := by
  unfold stmsZ
  cases f <;> simp [stmsF, Frame.wrap, top_app, stms_app, topLines, stmsOf, fpre, fnum, fhdr, ftail, aroundF, stmOf, rowStm]
theorem top_wrap (f : Frame) (fs : List Frame) (x : Code) : topZ (f :: fs) x = topZ fs (f.wrap x) := by
  unfold topZ
  cases f <;> simp [topF, Frame.wrap, top_app, topLines, fpre, fnum]
theorem stms_unwind : ∀ (k : Nat) (fs : List Frame) (x : Code), stmsZ (unwind k fs x).1 (unwind k fs x).2 = stmsZ fs x
  | 0, _, _ => rfl
  | _ + 1, [], _ => rfl
  | k + 1, f :: fs, x => (stms_unwind k fs (f.wrap x)).trans (stms_wrap f fs x).symm
theorem top_unwind : ∀ (k : Nat) (fs : List Frame) (x : Code), topZ (unwind k fs x).1 (unwind k fs x).2 = topZ fs x
  | 0, _, _ => rfl
  | _ + 1, [], _ => rfl
  | k + 1, f :: fs, x => (top_unwind k fs (f.wrap x)).trans (top_wrap f fs x).symm
theorem frames_unwind : ∀ (k : Nat) (fs : List Frame) (x : Code), (unwind k fs x).1 = fs.drop k
  | 0, _, _ => rfl
  | _ + 1, [], _ => by simp [unwind]
  | k + 1, f :: fs, x => by
    show (unwind k fs (f.wrap x)).1 = _
    rw [frames_unwind k]
    rfl
theorem around_drop : ∀ (k : Nat) (fs : List Frame), aroundF (fs.drop k) = (aroundF fs).take (fs.length - k)
  | 0, fs => by
    rw [List.drop_zero, Nat.sub_zero, ← around_len fs, List.take_length]
  | k + 1, [] => by simp [aroundF]
  | k + 1, f :: fs => by
    rw [List.drop_succ_cons, around_drop k fs, List.length_cons]
    have e : fs.length + 1 - (k + 1) = fs.length - k := by omega
    rw [e]
    show _ = (aroundF fs ++ [fnum f]).take _
    rw [List.take_append_of_le_length (by rw [around_len]; omega)]
theorem fill_drop : ∀ (k : Nat) (fs : List Frame), k ≤ fs.length → fillF (fs.drop k) = (fillF fs).take (fs.length - k + 1)
  | 0, fs, _ => by
    rw [List.drop_zero, Nat.sub_zero, ← fill_len fs, List.take_length]
  | k + 1, f :: fs, h => by
    have h' : k ≤ fs.length := by simpa using h
    rw [List.drop_succ_cons, fill_drop k fs h', List.length_cons]
    have e : fs.length + 1 - (k + 1) = fs.length - k := by omega
    rw [e]
    show _ = (fillF fs ++ [fslot f]).take _
    rw [List.take_append_of_le_length (by rw [fill_len]; omega)]

/-- a line put into a slot -/
def addBlk (k : Nat) (s : Stm) : Stm := { s with block := s.block ++ [k] }
def addEls (k : Nat) (s : Stm) : Stm := { s with otherwise := s.otherwise ++ [k] }
def putStms (k : Nat) : Slot → List Stm → List Stm
  | .top, l => l
  | .blk n, l => l.modify n (addBlk k)
  | .els n, l => l.modify n (addEls k)
def putTop (k : Nat) : Slot → List Nat → List Nat
  | .top, l => l ++ [k]
  | _, l => l
theorem modify_at {α : Type} (g : α → α) : ∀ (A : List α) (s : α) (C : List α), (A ++ s :: C).modify A.length g = A ++ g s :: C
  | [], s, C => rfl
  | x :: A, s, C => by
    show (x :: (A ++ s :: C)).modify (A.length + 1) g = _
    rw [List.modify_succ_cons, modify_at g A s C]
    rfl
theorem modify_on {α : Type} (g : α → α) {A : List α} {n : Nat} (h : A.length = n) (s : α) (C : List α) : (A ++ s :: C).modify n g = A ++ g s :: C := by
  subst h
  exact modify_at g A s C
theorem stmsF_len : ∀ (fs : List Frame) (tl : List Nat), (stmsF fs tl).length = (frameLines fs).length
  | [], _ => rfl
  | f :: fs, tl => by
    have ih := stmsF_len fs (topLines (fpre f) ++ [fnum f])
    cases f <;> simp [stmsF, frameLines, fpre, fnum, ftail, stms_len] at ih ⊢ <;> omega

/-- the slot of the innermost open block, and its number's place -/
def slotOf : List Frame → Slot
  | [] => .top
  | f :: _ => fslot f
theorem fill_last : ∀ fs : List Frame, (fillF fs)[fs.length]? = some (slotOf fs)
  | [] => rfl
  | f :: fs => by
    show (fillF fs ++ [fslot f])[fs.length + 1]? = _
    rw [List.getElem?_append_right (by rw [fill_len]; exact Nat.le_refl _), fill_len]
    simp [slotOf]
theorem fill_get : ∀ (fs : List Frame) (d : Nat), d ≤ fs.length → (fillF fs)[d]? = some (slotOf (fs.drop (fs.length - d))) := by
  intro fs d h
  have q := fill_drop (fs.length - d) fs (by omega)
  have q2 := fill_last (fs.drop (fs.length - d))
  rw [q, List.length_drop] at q2
  have e : fs.length - (fs.length - d) = d := by omega
  rw [e, List.getElem?_take] at q2
  rw [if_pos (by omega)] at q2
  exact q2
theorem num_place {f : Frame} {fs : List Frame} {l : List Nat} {n : Nat} (h : frameLines (f :: fs) ++ l = List.range' 0 n) : fnum f = (frameLines fs).length + (linesOf (fpre f)).length := by
  have e : ∃ r, frameLines (f :: fs) ++ l = (frameLines fs ++ linesOf (fpre f)) ++ (fnum f :: r) := by
    cases f with
    | thn p n c => exact ⟨l, by simp [frameLines, fpre, fnum]⟩
    | els p n c x => exact ⟨linesOf x ++ l, by simp [frameLines, fpre, fnum]⟩
    | whl p n c => exact ⟨l, by simp [frameLines, fpre, fnum]⟩
  obtain ⟨r, e⟩ := e
  rw [e] at h
  have q : (List.range' 0 n)[(frameLines fs ++ linesOf (fpre f)).length]? = some (fnum f) := by
    rw [← h, List.getElem?_append_right (Nat.le_refl _)]
    simp
  have lt : (frameLines fs ++ linesOf (fpre f)).length < n := by
    have z := congrArg List.length h
    simp at z
    simp
    omega
  rw [List.getElem?_range' lt] at q
  have q2 : 0 + 1 * (frameLines fs ++ linesOf (fpre f)).length = fnum f := Option.some.inj q
  rw [List.length_append] at q2
  omega
/-- a new line in the innermost open block -/
theorem put_slot {fs : List Frame} {x : Code} {n k : Nat} (h : frameLines fs ++ linesOf x = List.range' 0 n) :
    stmsF fs (topLines x ++ [k]) ++ stmsOf (aroundF fs) x = putStms k (slotOf fs) (stmsZ fs x) ∧ topF fs (topLines x ++ [k]) = putTop k (slotOf fs) (topZ fs x) := by
  cases fs with
  | nil => exact ⟨rfl, rfl⟩
  | cons f fs =>
    have hn := num_place h
    refine ⟨?_, ?_⟩
    · have e : ∀ tl, stmsF (f :: fs) tl ++ stmsOf (aroundF (f :: fs)) x = (stmsF fs (topLines (fpre f) ++ [fnum f]) ++ stmsOf (aroundF fs) (fpre f)) ++ (fhdr (aroundF fs) tl f :: (ftail (aroundF fs) f ++ stmsOf (aroundF (f :: fs)) x)) := by
        intro tl
        simp [stmsF]
      unfold stmsZ
      rw [e, e]
      have len : (stmsF fs (topLines (fpre f) ++ [fnum f]) ++ stmsOf (aroundF fs) (fpre f)).length = fnum f := by
        rw [List.length_append, stmsF_len, stms_len]
        omega
      cases f with
      | thn p n c =>
        have len' : (stmsF fs (topLines p ++ [n]) ++ stmsOf (aroundF fs) p).length = n := len
        exact (modify_on (addBlk k) len' (fhdr (aroundF fs) (topLines x) (.thn p n c)) _).symm
      | els p n c y =>
        have len' : (stmsF fs (topLines p ++ [n]) ++ stmsOf (aroundF fs) p).length = n := len
        exact (modify_on (addEls k) len' (fhdr (aroundF fs) (topLines x) (.els p n c y)) _).symm
      | whl p n c =>
        have len' : (stmsF fs (topLines p ++ [n]) ++ stmsOf (aroundF fs) p).length = n := len
        exact (modify_on (addBlk k) len' (fhdr (aroundF fs) (topLines x) (.whl p n c)) _).symm
    · cases f <;> rfl

def isHdr : Head → Bool
  | .ite _ => true
  | .loop _ => true
  | _ => false
theorem isHdr_kind (h : Head) : decide ((stmOf h).kind = 5 ∨ (stmOf h).kind = 6) = isHdr h := by
  cases h <;> rfl
def bAdd (b : B) (d : Nat) (h : Head) : Option B :=
  if b.around.length < d ∨ (b.awaits = true ∧ d < b.around.length) then none else if 3 < d ∨ b.stms.length = 14 then none else
  some ⟨putStms b.stms.length ((b.fill[d]?).getD .top) b.stms ++ [{ stmOf h with headers := b.around.take d }], putTop b.stms.length ((b.fill[d]?).getD .top) b.top,
    b.around.take d ++ (if isHdr h = true then [b.stms.length] else []), b.fill.take (d + 1) ++ (if isHdr h = true then [.blk b.stms.length] else []), isHdr h⟩
theorem stmsZ_len {z : Z} (h : frameLines z.frames ++ linesOf z.cur = List.range' 0 z.num) : (stmsZ z.frames z.cur).length = z.num := by
  unfold stmsZ
  rw [List.length_append, stmsF_len, stms_len, ← List.length_append, h, List.length_range']
theorem opened_repr (fs : List Frame) (x : Code) (n : Nat) (h : Head) : reprZ (VO.opened fs x n h) =
    ⟨stmsF fs (topLines x ++ [n]) ++ stmsOf (aroundF fs) x ++ [{ stmOf h with headers := aroundF fs }], topF fs (topLines x ++ [n]), aroundF fs ++ (if isHdr h = true then [n] else []), fillF fs ++ (if isHdr h = true then [.blk n] else []), isHdr h⟩ := by
  cases h with
  | set v e =>
    have q : (VO.Z.mk fs (VO.app x (.set n v e .done)) (n + 1)).awaits = false := VO.awaits_app rfl
    simp [reprZ, VO.opened, stmsZ, topZ, top_app, stms_app, topLines, stmsOf, isHdr, aroundF, fillF, fnum, fslot, stmsF, topF, fpre, fhdr, ftail, stmOf, rowStm, q]
  | read v =>
    have q : (VO.Z.mk fs (VO.app x (.read n v .done)) (n + 1)).awaits = false := VO.awaits_app rfl
    simp [reprZ, VO.opened, stmsZ, topZ, top_app, stms_app, topLines, stmsOf, isHdr, aroundF, fillF, fnum, fslot, stmsF, topF, fpre, fhdr, ftail, stmOf, rowStm, q]
  | write y =>
    have q : (VO.Z.mk fs (VO.app x (.write n y .done)) (n + 1)).awaits = false := VO.awaits_app rfl
    simp [reprZ, VO.opened, stmsZ, topZ, top_app, stms_app, topLines, stmsOf, isHdr, aroundF, fillF, fnum, fslot, stmsF, topF, fpre, fhdr, ftail, stmOf, rowStm, q]
  | halt  =>
    have q : (VO.Z.mk fs (VO.app x (.halt_ n .done)) (n + 1)).awaits = false := VO.awaits_app rfl
    simp [reprZ, VO.opened, stmsZ, topZ, top_app, stms_app, topLines, stmsOf, isHdr, aroundF, fillF, fnum, fslot, stmsF, topF, fpre, fhdr, ftail, stmOf, rowStm, q]
  | ite c => simp [reprZ, VO.opened, stmsZ, topZ, top_app, stms_app, topLines, stmsOf, isHdr, aroundF, fillF, fnum, fslot, stmsF, topF, fpre, fhdr, ftail, stmOf, rowStm, VO.Z.awaits, isDone]
  | loop c => simp [reprZ, VO.opened, stmsZ, topZ, top_app, stms_app, topLines, stmsOf, isHdr, aroundF, fillF, fnum, fslot, stmsF, topF, fpre, fhdr, ftail, stmOf, rowStm, VO.Z.awaits, isDone]
theorem bAdd_repr {z : Z} (h : frameLines z.frames ++ linesOf z.cur = List.range' 0 z.num) (hw : ∀ d, ¬ (z.frames.length < d ∨ (z.awaits = true ∧ d < z.frames.length)) → frameLines (unwind (z.frames.length - d) z.frames z.cur).1 ++ linesOf (unwind (z.frames.length - d) z.frames z.cur).2 = List.range' 0 z.num) (d : Nat) (k : Head) :
    bAdd (reprZ z) d k = (VO.zadd z d k).map reprZ := by
  unfold bAdd VO.zadd
  have e1 : (reprZ z).around.length = z.frames.length := around_len _
  have e2 : (reprZ z).stms.length = z.num := stmsZ_len h
  have e3 : (reprZ z).awaits = z.awaits := rfl
  rw [e1, e2, e3]
  by_cases c1 : z.frames.length < d ∨ (z.awaits = true ∧ d < z.frames.length)
  · rw [if_pos c1, if_pos c1]
    rfl
  · rw [if_neg c1, if_neg c1]
    by_cases c2 : 3 < d ∨ z.num = 14
    · rw [if_pos c2, if_pos c2]
      rfl
    · rw [if_neg c2, if_neg c2]
      show _ = some (reprZ _)
      rw [opened_repr]
      have dl : d ≤ z.frames.length := by
        rcases Nat.lt_or_ge z.frames.length d with w | w
        · exact absurd (Or.inl w) c1
        · exact w
      have q := hw d c1
      obtain ⟨p1, p2⟩ := put_slot (k := z.num) q
      rw [p1, p2, stms_unwind, top_unwind]
      have e4 : (reprZ z).fill[d]? = some (slotOf (unwind (z.frames.length - d) z.frames z.cur).1) := by
        rw [frames_unwind]
        exact fill_get _ _ dl
      rw [e4]
      have e5 : (reprZ z).around.take d = aroundF (unwind (z.frames.length - d) z.frames z.cur).1 := by
        rw [frames_unwind, around_drop]
        have : z.frames.length - (z.frames.length - d) = d := by omega
        rw [this]
        rfl
      have e6 : (reprZ z).fill.take (d + 1) = fillF (unwind (z.frames.length - d) z.frames z.cur).1 := by
        rw [frames_unwind, fill_drop _ _ (by omega)]
        have : z.frames.length - (z.frames.length - d) = d := by omega
        rw [this]
        rfl
      rw [e5, e6]
      rfl
def bEls (b : B) (d : Nat) : Option B :=
  if b.awaits = true ∨ b.around.length ≤ d then none else
  match b.stms[b.around.getD d 0]? with
  | some s => if s.kind ≠ 5 ∨ s.otherwise ≠ [] then none else some ⟨b.stms, b.top, b.around.take (d + 1), b.fill.take (d + 1) ++ [.els (b.around.getD d 0)], true⟩
  | none => none
theorem hdr_get {f : Frame} {fs : List Frame} {x : Code} {n : Nat} (h : frameLines (f :: fs) ++ linesOf x = List.range' 0 n) : (stmsZ (f :: fs) x)[fnum f]? = some (fhdr (aroundF fs) (topLines x) f) := by
  have hn := num_place h
  have len : (stmsF fs (topLines (fpre f) ++ [fnum f]) ++ stmsOf (aroundF fs) (fpre f)).length = fnum f := by
    rw [List.length_append, stmsF_len, stms_len]
    omega
  have e : stmsZ (f :: fs) x = (stmsF fs (topLines (fpre f) ++ [fnum f]) ++ stmsOf (aroundF fs) (fpre f)) ++ (fhdr (aroundF fs) (topLines x) f :: (ftail (aroundF fs) f ++ stmsOf (aroundF (f :: fs)) x)) := by
    simp [stmsZ, stmsF]
  rw [e, List.getElem?_append_right (by omega), len, Nat.sub_self]
  rfl
theorem unwind_length' (z : Z) (d : Nat) (h : d < z.frames.length) : (unwind (z.frames.length - (d + 1)) z.frames z.cur).1.length = d + 1 := by
  rw [VO.unwind_length]
  omega
theorem bEls_repr {z : Z} (hw : ∀ d, ¬ (z.awaits = true ∨ z.frames.length ≤ d) → frameLines (unwind (z.frames.length - (d + 1)) z.frames z.cur).1 ++ linesOf (unwind (z.frames.length - (d + 1)) z.frames z.cur).2 = List.range' 0 z.num ∧ isDone (unwind (z.frames.length - (d + 1)) z.frames z.cur).2 = false) (d : Nat) :
    bEls (reprZ z) d = (VO.zels z d).map reprZ := by
  unfold bEls VO.zels
  have e1 : (reprZ z).around.length = z.frames.length := around_len _
  have e3 : (reprZ z).awaits = z.awaits := rfl
  rw [e1, e3]
  by_cases c1 : z.awaits = true ∨ z.frames.length ≤ d
  · rw [if_pos c1, if_pos c1]
    rfl
  · rw [if_neg c1, if_neg c1]
    obtain ⟨q1, q2⟩ := hw d c1
    have dl : d < z.frames.length := by
      rcases Nat.lt_or_ge d z.frames.length with w | w
      · exact w
      · exact absurd (Or.inr w) c1
    have e2 : (reprZ z).stms = stmsZ (unwind (z.frames.length - (d + 1)) z.frames z.cur).1 (unwind (z.frames.length - (d + 1)) z.frames z.cur).2 := (stms_unwind _ _ _).symm
    have e4 : (reprZ z).top = topZ (unwind (z.frames.length - (d + 1)) z.frames z.cur).1 (unwind (z.frames.length - (d + 1)) z.frames z.cur).2 := (top_unwind _ _ _).symm
    have e5 : (reprZ z).around.take (d + 1) = aroundF (unwind (z.frames.length - (d + 1)) z.frames z.cur).1 := by
      rw [frames_unwind, around_drop]
      have : z.frames.length - (z.frames.length - (d + 1)) = d + 1 := by omega
      rw [this]
      rfl
    have e6 : (reprZ z).fill.take (d + 1) = (fillF (unwind (z.frames.length - (d + 1)) z.frames z.cur).1).take (d + 1) := by
      rw [frames_unwind, fill_drop _ _ (by omega)]
      have : z.frames.length - (z.frames.length - (d + 1)) = d + 1 := by omega
      rw [this, List.take_take]
      show (fillF z.frames).take (d + 1) = _
      congr 1
      omega
    have e8 := unwind_length' z d dl
    generalize hu : unwind (z.frames.length - (d + 1)) z.frames z.cur = u at q1 q2 e2 e4 e5 e6 e8
    obtain ⟨gs, y⟩ := u
    cases gs with
    | nil => simp at e8
    | cons f fs =>
      have e9 : fs.length = d := by simpa using e8
      have e7 : (reprZ z).around.getD d 0 = fnum f := by
        have : ((reprZ z).around.take (d + 1))[d]? = some (fnum f) := by
          rw [e5]
          show (aroundF fs ++ [fnum f])[d]? = _
          rw [List.getElem?_append_right (by rw [around_len]; omega), around_len, e9, Nat.sub_self]
          rfl
        rw [List.getElem?_take, if_pos (by omega)] at this
        rw [List.getD_eq_getElem?_getD, this]
        rfl
      rw [e7, e2, e4, e5, e6]
      dsimp only
      rw [hdr_get q1]
      have yn : topLines y ≠ [] := fun w => by
        rw [top_nil.mp w] at q2
        cases q2
      cases f with
      | thn p n c =>
        show (if ((5 : Nat) ≠ 5 ∨ ([] : List Nat) ≠ []) then none else some _) = some (reprZ ⟨.els p n c y :: fs, .done, z.num⟩)
        rw [if_neg (by simp)]
        have f1 : (fillF (.thn p n c :: fs)).take (d + 1) = fillF fs := by
          show (fillF fs ++ [_]).take (d + 1) = _
          rw [List.take_append_of_le_length (by rw [fill_len]; omega)]
          have : (fillF fs).length = d + 1 := by rw [fill_len]; omega
          rw [← this, List.take_length]
        rw [f1]
        unfold reprZ
        congr 1
        simp [stmsZ, stmsF, fpre, fnum, fhdr, ftail, topLines, stmsOf, topZ, topF, aroundF, fillF, fslot, VO.Z.awaits, isDone, stmOf, rowStm]
      | els p n c w =>
        show (if ((5 : Nat) ≠ 5 ∨ topLines y ≠ []) then none else some _) = none
        rw [if_pos (Or.inr yn)]
      | whl p n c =>
        show (if ((6 : Nat) ≠ 5 ∨ ([] : List Nat) ≠ []) then none else some _) = none
        rw [if_pos (Or.inl (by decide))]
end VP
set_option Elab.async false
set_option linter.all false
set_option maxRecDepth 100000
set_option maxHeartbeats 4000000
namespace VP
open PySem PySem.Spec PyProof.Rows L2 TL
open Vaslca (Text Name)
open Evl (Ex Ev EvT EvA EvL EvU)
variable {P : Program} {w : World} {K : PySem.W.Frag} {mg : Str → Option Value} {base : Heap} {a : Ad}

/-! # The builder in the heap -/
structure BA where
  b : Addr
  dx : Addr
  sl : Addr
  tl : Addr
  al : Addr
  fl : Addr
  rs : List SA
def bF (sl tl al fl : Addr) (aw : Bool) : List (Str × V) := [("statements", .ref sl), ("top", .ref tl), ("around", .ref al), ("filling", .ref fl), ("awaits", .bl aw)]
theorem bF_statements (sl tl al fl : Addr) (aw : Bool) : (bF sl tl al fl aw).lookup ("statements" : Str) = some (.ref sl) := by kernel_rfl
theorem bF_top (sl tl al fl : Addr) (aw : Bool) : (bF sl tl al fl aw).lookup ("top" : Str) = some (.ref tl) := by kernel_rfl
theorem bF_around (sl tl al fl : Addr) (aw : Bool) : (bF sl tl al fl aw).lookup ("around" : Str) = some (.ref al) := by kernel_rfl
theorem bF_filling (sl tl al fl : Addr) (aw : Bool) : (bF sl tl al fl aw).lookup ("filling" : Str) = some (.ref fl) := by kernel_rfl
theorem bF_awaits (sl tl al fl : Addr) (aw : Bool) : (bF sl tl al fl aw).lookup ("awaits" : Str) = some (.bl aw) := by kernel_rfl
theorem bF_add_statement (sl tl al fl : Addr) (aw : Bool) : (bF sl tl al fl aw).lookup ("add_statement" : Str) = none := by kernel_rfl
theorem bF_add_else (sl tl al fl : Addr) (aw : Bool) : (bF sl tl al fl aw).lookup ("add_else" : Str) = none := by kernel_rfl
theorem bF_put_around (sl tl al fl q : Addr) (aw : Bool) : putF "around" (.ref q) (bF sl tl al fl aw) = bF sl tl q fl aw := by kernel_rfl
theorem bF_put_filling (sl tl al fl q : Addr) (aw : Bool) : putF "filling" (.ref q) (bF sl tl al fl aw) = bF sl tl al q aw := by kernel_rfl
theorem bF_put_awaits (sl tl al fl : Addr) (aw b : Bool) : putF "awaits" (.bl b) (bF sl tl al fl aw) = bF sl tl al fl b := by kernel_rfl
theorem bF_len (sl tl al fl : Addr) (aw : Bool) : (bF sl tl al fl aw).length < 1000 := by simp [bF]
def slotA (A : BA) : Slot → Addr
  | .top => A.tl
  | .blk n => match A.rs[n]? with
    | some r => r.bl
    | none => A.tl
  | .els n => match A.rs[n]? with
    | some r => r.ot
    | none => A.tl
def slotOk (n : Nat) : Slot → Prop
  | .top => True
  | .blk m => m < n
  | .els m => m < n
def five (A : BA) : List Addr := [A.b, A.sl, A.tl, A.al, A.fl]
def InFoot (A : BA) (x : Addr) : Prop := x ∈ five A ∨ ∃ r ∈ A.rs, x ∈ r.all
structure BAt (a : Ad) (H : Hp) (A : BA) (Y : B) : Prop where
  ob : H A.b = some (.ins a.C_BlockBuilder A.dx (bF A.sl A.tl A.al A.fl Y.awaits))
  sl : H A.sl = some (.lst (A.rs.map fun r => V.ref r.o))
  tl : H A.tl = some (.lst (natV Y.top))
  al : H A.al = some (.lst (natV Y.around))
  fl : H A.fl = some (.lst (Y.fill.map fun s => V.ref (slotA A s)))
  len : A.rs.length = Y.stms.length
  st : ∀ (i : Nat) (r : SA) (s : Stm), A.rs[i]? = some r → Y.stms[i]? = some s → StmAt a H r s
  ok : ∀ s ∈ Y.fill, slotOk Y.stms.length s
  nd : (five A).Nodup
  out : ∀ r ∈ A.rs, ∀ x ∈ r.all, x ∉ five A
  each : ∀ r ∈ A.rs, r.all.Nodup
  apart : ∀ (i j : Nat) (r r' : SA) (x : Addr), A.rs[i]? = some r → A.rs[j]? = some r' → x ∈ r.all → x ∈ r'.all → i = j

theorem StmAt.some_all {H : Hp} {r : SA} {s : Stm} (h : StmAt a H r s) : ∀ x ∈ r.all, ∃ o, H x = some o := by
  intro x hx
  simp only [SA.all, List.mem_cons, List.not_mem_nil, or_false] at hx
  rcases hx with rfl | rfl | rfl | rfl | rfl | rfl
  · exact ⟨_, h.o⟩
  · exact ⟨_, h.at_⟩
  · exact ⟨_, h.nm⟩
  · exact ⟨_, h.hd⟩
  · exact ⟨_, h.bl⟩
  · exact ⟨_, h.ot⟩
theorem StmAt.keep {H H' : Hp} {r : SA} {s : Stm} {p : Addr} (h : StmAt a H r s) (f : Fr p H H') (n : p ∉ r.all) : StmAt a H' r s := by
  simp only [SA.all, List.mem_cons, List.not_mem_nil, or_false, not_or] at n
  obtain ⟨n1, n2, n3, n4, n5, n6⟩ := n
  exact ⟨f _ _ h.o (fun e => n1 e.symm), f _ _ h.at_ (fun e => n2 e.symm), f _ _ h.nm (fun e => n3 e.symm), f _ _ h.hd (fun e => n4 e.symm), f _ _ h.bl (fun e => n5 e.symm), f _ _ h.ot (fun e => n6 e.symm)⟩
section
variable {H H' : Hp} {A : BA} {Y : B}
theorem BAt.rs_st (h : BAt a H A Y) {i : Nat} {r : SA} (hr : A.rs[i]? = some r) : ∃ s, Y.stms[i]? = some s ∧ StmAt a H r s := by
  have lt : i < Y.stms.length := by rw [← h.len]; exact (List.getElem?_eq_some_iff.mp hr).1
  exact ⟨_, List.getElem?_eq_getElem lt, h.st i r _ hr (List.getElem?_eq_getElem lt)⟩
theorem BAt.foot (h : BAt a H A Y) {x : Addr} (hx : InFoot A x) : ∃ o, H x = some o := by
  rcases hx with hx | ⟨r, hr, hx⟩
  · simp only [five, List.mem_cons, List.not_mem_nil, or_false] at hx
    rcases hx with rfl | rfl | rfl | rfl | rfl
    · exact ⟨_, h.ob⟩
    · exact ⟨_, h.sl⟩
    · exact ⟨_, h.tl⟩
    · exact ⟨_, h.al⟩
    · exact ⟨_, h.fl⟩
  · obtain ⟨i, hi⟩ := List.getElem?_of_mem hr
    obtain ⟨s, _, hs⟩ := h.rs_st hi
    exact hs.some_all x hx
theorem BAt.new (h : BAt a H A Y) {q : Addr} (hq : H q = none) : ¬ InFoot A q := fun hx => by
  obtain ⟨o, ho⟩ := h.foot hx
  rw [hq] at ho
  cases ho
theorem BAt.mono (h : BAt a H A Y) (e : Ex H H') : BAt a H' A Y :=
  ⟨e _ _ h.ob, e _ _ h.sl, e _ _ h.tl, e _ _ h.al, e _ _ h.fl, h.len, fun i r s hr hs => (h.st i r s hr hs).mono e, h.ok, h.nd, h.out, h.each, h.apart⟩
theorem five_ne (nd : (five A).Nodup) : A.b ≠ A.sl ∧ A.b ≠ A.tl ∧ A.b ≠ A.al ∧ A.b ≠ A.fl ∧ A.sl ≠ A.tl ∧ A.sl ≠ A.al ∧ A.sl ≠ A.fl ∧ A.tl ≠ A.al ∧ A.tl ≠ A.fl ∧ A.al ≠ A.fl := by
  simp only [five, List.nodup_cons, List.mem_cons, List.not_mem_nil, or_false, not_or, List.nodup_nil, not_false_eq_true, and_true] at nd
  obtain ⟨⟨a1, a2, a3, a4⟩, ⟨b1, b2, b3⟩, ⟨c1, c2⟩, d1⟩ := nd
  exact ⟨a1, a2, a3, a4, b1, b2, b3, c1, c2, d1⟩
/-- self.around = a new list -/
theorem BAt.setAround (h : BAt a H A Y) {q : Addr} {ar : List Nat} (f : Fr A.b H H') (hq : H q = none) (hb : H' A.b = some (.ins a.C_BlockBuilder A.dx (bF A.sl A.tl q A.fl Y.awaits))) (hl : H' q = some (.lst (natV ar))) :
    BAt a H' { A with al := q } { Y with around := ar } := by
  obtain ⟨n1, n2, n3, n4, n5, n6, n7, n8, n9, n10⟩ := five_ne h.nd
  have nq := h.new hq
  have m1 : q ≠ A.b := fun e => nq (Or.inl (by simp [five, e]))
  have m2 : q ≠ A.sl := fun e => nq (Or.inl (by simp [five, e]))
  have m3 : q ≠ A.tl := fun e => nq (Or.inl (by simp [five, e]))
  have m5 : q ≠ A.fl := fun e => nq (Or.inl (by simp [five, e]))
  refine ⟨hb, f _ _ h.sl n1.symm, f _ _ h.tl n2.symm, hl, f _ _ h.fl n4.symm, h.len, fun i r s hr hs => ?_, h.ok, ?_, fun r hr x hx hm => ?_, h.each, h.apart⟩
  · exact (h.st i r s hr hs).keep f fun hm => h.out r (List.mem_of_getElem? hr) _ hm (by simp [five])
  · simp [five, n1, n2, n4, n5, n7, n9, m1.symm, m2.symm, m3.symm, m5]
  · simp only [five, List.mem_cons, List.not_mem_nil, or_false] at hm
    have o := h.out r hr x hx
    simp only [five, List.mem_cons, List.not_mem_nil, or_false, not_or] at o
    rcases hm with e | e | e | e | e
    · exact o.1 e
    · exact o.2.1 e
    · exact o.2.2.1 e
    · exact nq (Or.inr ⟨r, hr, e ▸ hx⟩)
    · exact o.2.2.2.2 e
theorem BAt.setFilling (h : BAt a H A Y) {q : Addr} {fi : List Slot} (f : Fr A.b H H') (hq : H q = none) (hb : H' A.b = some (.ins a.C_BlockBuilder A.dx (bF A.sl A.tl A.al q Y.awaits))) (hl : H' q = some (.lst (fi.map fun s => V.ref (slotA A s)))) (hfi : ∀ s ∈ fi, slotOk Y.stms.length s) :
    BAt a H' { A with fl := q } { Y with fill := fi } := by
  obtain ⟨n1, n2, n3, n4, n5, n6, n7, n8, n9, n10⟩ := five_ne h.nd
  have nq := h.new hq
  have m1 : q ≠ A.b := fun e => nq (Or.inl (by simp [five, e]))
  have m2 : q ≠ A.sl := fun e => nq (Or.inl (by simp [five, e]))
  have m3 : q ≠ A.tl := fun e => nq (Or.inl (by simp [five, e]))
  have m4 : q ≠ A.al := fun e => nq (Or.inl (by simp [five, e]))
  refine ⟨hb, f _ _ h.sl n1.symm, f _ _ h.tl n2.symm, f _ _ h.al n3.symm, ?_, h.len, fun i r s hr hs => ?_, hfi, ?_, fun r hr x hx hm => ?_, h.each, h.apart⟩
  · refine hl.trans ?_
    congr 2
  · exact (h.st i r s hr hs).keep f fun hm => h.out r (List.mem_of_getElem? hr) _ hm (by simp [five])
  · simp [five, n1, n2, n3, n5, n6, n8, m1.symm, m2.symm, m3.symm, m4.symm]
  · simp only [five, List.mem_cons, List.not_mem_nil, or_false] at hm
    have o := h.out r hr x hx
    simp only [five, List.mem_cons, List.not_mem_nil, or_false, not_or] at o
    rcases hm with e | e | e | e | e
    · exact o.1 e
    · exact o.2.1 e
    · exact o.2.2.1 e
    · exact o.2.2.2.1 e
    · exact nq (Or.inr ⟨r, hr, e ▸ hx⟩)
theorem BAt.setAwaits (h : BAt a H A Y) {b : Bool} (f : Fr A.b H H') (hb : H' A.b = some (.ins a.C_BlockBuilder A.dx (bF A.sl A.tl A.al A.fl b))) : BAt a H' A { Y with awaits := b } := by
  obtain ⟨n1, n2, n3, n4, n5, n6, n7, n8, n9, n10⟩ := five_ne h.nd
  exact ⟨hb, f _ _ h.sl n1.symm, f _ _ h.tl n2.symm, f _ _ h.al n3.symm, f _ _ h.fl n4.symm, h.len, fun i r s hr hs => (h.st i r s hr hs).keep f fun hm => h.out r (List.mem_of_getElem? hr) _ hm (by simp [five]), h.ok, h.nd, h.out, h.each, h.apart⟩
/-- a list of the five gets one thing more -/
theorem BAt.appAround (h : BAt a H A Y) {ar : List Nat} (f : Fr A.al H H') (hl : H' A.al = some (.lst (natV ar))) : BAt a H' A { Y with around := ar } := by
  obtain ⟨n1, n2, n3, n4, n5, n6, n7, n8, n9, n10⟩ := five_ne h.nd
  exact ⟨f _ _ h.ob n3, f _ _ h.sl n6, f _ _ h.tl n8, hl, f _ _ h.fl n10.symm, h.len, fun i r s hr hs => (h.st i r s hr hs).keep f fun hm => h.out r (List.mem_of_getElem? hr) _ hm (by simp [five]), h.ok, h.nd, h.out, h.each, h.apart⟩
theorem BAt.appFilling (h : BAt a H A Y) {fi : List Slot} (f : Fr A.fl H H') (hl : H' A.fl = some (.lst (fi.map fun s => V.ref (slotA A s)))) (hfi : ∀ s ∈ fi, slotOk Y.stms.length s) : BAt a H' A { Y with fill := fi } := by
  obtain ⟨n1, n2, n3, n4, n5, n6, n7, n8, n9, n10⟩ := five_ne h.nd
  exact ⟨f _ _ h.ob n4, f _ _ h.sl n7, f _ _ h.tl n9, f _ _ h.al n10, hl, h.len, fun i r s hr hs => (h.st i r s hr hs).keep f fun hm => h.out r (List.mem_of_getElem? hr) _ hm (by simp [five]), hfi, h.nd, h.out, h.each, h.apart⟩
theorem slotA_more {A : BA} {r : SA} {s : Slot} (h : slotOk A.rs.length s) : slotA { A with rs := A.rs ++ [r] } s = slotA A s := by
  cases s with
  | top => rfl
  | blk n =>
    have h' : n < A.rs.length := h
    show (match (A.rs ++ [r])[n]? with | some r => r.bl | none => A.tl) = (match A.rs[n]? with | some r => r.bl | none => A.tl)
    rw [List.getElem?_append_left h']
  | els n =>
    have h' : n < A.rs.length := h
    show (match (A.rs ++ [r])[n]? with | some r => r.ot | none => A.tl) = (match A.rs[n]? with | some r => r.ot | none => A.tl)
    rw [List.getElem?_append_left h']
theorem slotOk_more {n : Nat} {s : Slot} (h : slotOk n s) : slotOk (n + 1) s := by
  cases s with
  | top => trivial
  | blk m => exact Nat.lt_succ_of_lt h
  | els m => exact Nat.lt_succ_of_lt h
/-- a statement more -/
theorem BAt.appStm (h : BAt a H A Y) {r : SA} {s : Stm} (f : Fr A.sl H H') (hl : H' A.sl = some (.lst ((A.rs ++ [r]).map fun r => V.ref r.o))) (hs : StmAt a H r s) (hn : r.all.Nodup) (hd : ∀ x ∈ r.all, ¬ InFoot A x) :
    BAt a H' { A with rs := A.rs ++ [r] } { Y with stms := Y.stms ++ [s] } := by
  obtain ⟨n1, n2, n3, n4, n5, n6, n7, n8, n9, n10⟩ := five_ne h.nd
  have hd5 : ∀ x ∈ r.all, x ∉ five A := fun x hx hm => hd x hx (Or.inl hm)
  refine ⟨f _ _ h.ob n1, hl, f _ _ h.tl n5.symm, f _ _ h.al n6.symm, ?_, by simp [h.len], fun i r' s' hr hs' => ?_, fun t ht => ?_, h.nd, fun r' hr x hx => ?_, fun r' hr => ?_, fun i j r1 r2 x h1 h2 x1 x2 => ?_⟩
  · refine (f _ _ h.fl n7.symm).trans ?_
    congr 2
    refine List.map_congr_left fun t ht => ?_
    have := h.ok t ht
    rw [← h.len] at this
    exact congrArg V.ref (slotA_more this).symm
  · have hr' : (A.rs ++ [r])[i]? = some r' := hr
    have hs'' : (Y.stms ++ [s])[i]? = some s' := hs'
    rcases Nat.lt_or_ge i A.rs.length with lt | ge
    · rw [List.getElem?_append_left lt] at hr'
      rw [List.getElem?_append_left (by rw [← h.len]; exact lt)] at hs''
      exact (h.st i r' s' hr' hs'').keep f fun hm => h.out r' (List.mem_of_getElem? hr') _ hm (by simp [five])
    · rw [List.getElem?_append_right ge] at hr'
      rw [List.getElem?_append_right (by rw [← h.len]; exact ge), ← h.len] at hs''
      cases e : i - A.rs.length with
      | zero =>
        rw [e] at hr' hs''
        cases Option.some.inj hr'
        cases Option.some.inj hs''
        exact hs.keep f fun hm => hd5 _ hm (by simp [five])
      | succ n => rw [e] at hr'; simp at hr'
  · have := h.ok t ht
    have : slotOk (Y.stms.length + 1) t := slotOk_more this
    simpa using this
  · rcases List.mem_append.mp hr with q | q
    · exact h.out r' q x hx
    · have : r' = r := by simpa using q
      subst this
      exact hd5 x hx
  · rcases List.mem_append.mp hr with q | q
    · exact h.each r' q
    · have : r' = r := by simpa using q
      subst this
      exact hn
  · have last : ∀ {i : Nat} {r' : SA}, (A.rs ++ [r])[i]? = some r' → (i < A.rs.length ∧ A.rs[i]? = some r') ∨ (i = A.rs.length ∧ r' = r) := by
      intro i r' hh
      rcases Nat.lt_or_ge i A.rs.length with lt | ge
      · rw [List.getElem?_append_left lt] at hh
        exact Or.inl ⟨lt, hh⟩
      · rw [List.getElem?_append_right ge] at hh
        cases e : i - A.rs.length with
        | zero =>
          rw [e] at hh
          exact Or.inr ⟨by omega, (Option.some.inj hh).symm⟩
        | succ n => rw [e] at hh; simp at hh
    rcases last h1 with ⟨l1, g1⟩ | ⟨l1, rfl⟩
    · rcases last h2 with ⟨l2, g2⟩ | ⟨l2, rfl⟩
      · exact h.apart i j r1 r2 x g1 g2 x1 x2
      · exact absurd (Or.inr ⟨r1, List.mem_of_getElem? g1, x1⟩) (hd x x2)
    · rcases last h2 with ⟨l2, g2⟩ | ⟨l2, rfl⟩
      · exact absurd (Or.inr ⟨r2, List.mem_of_getElem? g2, x2⟩) (hd x x1)
      · omega
/-- what stands in a slot -/
def contS (Y : B) : Slot → List Nat
  | .top => Y.top
  | .blk n => match Y.stms[n]? with
    | some s => s.block
    | none => []
  | .els n => match Y.stms[n]? with
    | some s => s.otherwise
    | none => []
theorem BAt.rs_at (h : BAt a H A Y) {n : Nat} (hn : n < Y.stms.length) : ∃ r s, A.rs[n]? = some r ∧ Y.stms[n]? = some s ∧ StmAt a H r s := by
  have hr : A.rs[n]? = some (A.rs[n]'(by rw [h.len]; exact hn)) := List.getElem?_eq_getElem _
  obtain ⟨s, h1, h2⟩ := h.rs_st hr
  exact ⟨_, s, hr, h1, h2⟩
theorem BAt.slot (h : BAt a H A Y) {s : Slot} (hs : slotOk Y.stms.length s) : H (slotA A s) = some (.lst (natV (contS Y s))) := by
  cases s with
  | top => exact h.tl
  | blk n =>
    obtain ⟨r, s, h1, h2, h3⟩ := h.rs_at (n := n) hs
    show H (match A.rs[n]? with | some r => r.bl | none => A.tl) = some (.lst (natV (match Y.stms[n]? with | some s => s.block | none => [])))
    rw [h1, h2]
    exact h3.bl
  | els n =>
    obtain ⟨r, s, h1, h2, h3⟩ := h.rs_at (n := n) hs
    show H (match A.rs[n]? with | some r => r.ot | none => A.tl) = some (.lst (natV (match Y.stms[n]? with | some s => s.otherwise | none => [])))
    rw [h1, h2]
    exact h3.ot
/-- a statement's part changed -/
theorem BAt.chStm (h : BAt a H A Y) {n : Nat} {r : SA} {s : Stm} {g : Stm → Stm} {p : Addr} (hr : A.rs[n]? = some r) (hs : Y.stms[n]? = some s) (hp : p ∈ r.all) (f : Fr p H H') (hg : StmAt a H' r (g s)) : BAt a H' A { Y with stms := Y.stms.modify n g } := by
  have mr := List.mem_of_getElem? hr
  have np := h.out r mr p hp
  simp only [five, List.mem_cons, List.not_mem_nil, or_false, not_or] at np
  obtain ⟨p1, p2, p3, p4, p5⟩ := np
  refine ⟨f _ _ h.ob (fun e => p1 e.symm), f _ _ h.sl (fun e => p2 e.symm), f _ _ h.tl (fun e => p3 e.symm), f _ _ h.al (fun e => p4 e.symm), f _ _ h.fl (fun e => p5 e.symm), by simp [h.len], fun i r' s' hr' hs' => ?_, fun t ht => by simpa using h.ok t ht, h.nd, h.out, h.each, h.apart⟩
  have hs'' : (Y.stms.modify n g)[i]? = some s' := hs'
  rw [List.getElem?_modify] at hs''
  by_cases e : n = i
  · subst e
    rw [hr] at hr'
    cases Option.some.inj hr'
    rw [hs] at hs''
    have q : g s = s' := by simpa using hs''
    rw [← q]
    exact hg
  · have hs3 : Y.stms[i]? = some s' := by
      cases q : Y.stms[i]? with
      | none => rw [q] at hs''; cases hs''
      | some u =>
        rw [q] at hs''
        have z : (if n = i then g u else u) = s' := by simpa using hs''
        rw [if_neg e] at z
        rw [z]
    refine (h.st i r' s' hr' hs3).keep f fun hm => e ?_
    exact h.apart n i r r' p hr hr' hp hm
theorem BAt.putSlot (h : BAt a H A Y) {s : Slot} {k : Nat} (hs : slotOk Y.stms.length s) (f : Fr (slotA A s) H H') (hl : H' (slotA A s) = some (.lst (natV (contS Y s ++ [k])))) :
    BAt a H' A { Y with stms := putStms k s Y.stms, top := putTop k s Y.top } := by
  cases s with
  | top =>
    obtain ⟨n1, n2, n3, n4, n5, n6, n7, n8, n9, n10⟩ := five_ne h.nd
    exact ⟨f _ _ h.ob n2, f _ _ h.sl n5, hl, f _ _ h.al n8.symm, f _ _ h.fl n9.symm, h.len, fun i r s hr hs => (h.st i r s hr hs).keep f fun hm => h.out r (List.mem_of_getElem? hr) _ hm (by simp [five, slotA]), h.ok, h.nd, h.out, h.each, h.apart⟩
  | blk n =>
    obtain ⟨r, s, h1, h2, h3⟩ := h.rs_at (n := n) hs
    have e1 : slotA A (.blk n) = r.bl := by show (match A.rs[n]? with | some r => r.bl | none => A.tl) = _; rw [h1]
    have e2 : contS Y (.blk n) = s.block := by show (match Y.stms[n]? with | some s => s.block | none => []) = _; rw [h2]
    rw [e1] at f
    rw [e1, e2] at hl
    have nd := h.each r (List.mem_of_getElem? h1)
    simp only [SA.all, List.nodup_cons, List.mem_cons, List.not_mem_nil, or_false, not_or, List.nodup_nil, not_false_eq_true, and_true] at nd
    obtain ⟨⟨a1, a2, a3, a4, a5⟩, ⟨b1, b2, b3, b4⟩, ⟨c1, c2, c3⟩, ⟨d1, d2⟩, e⟩ := nd
    exact h.chStm (g := addBlk k) h1 h2 (by simp [SA.all]) f ⟨f _ _ h3.o a4, f _ _ h3.at_ b3, f _ _ h3.nm c2, f _ _ h3.hd d1, hl, f _ _ h3.ot (fun z => e z.symm)⟩
  | els n =>
    obtain ⟨r, s, h1, h2, h3⟩ := h.rs_at (n := n) hs
    have e1 : slotA A (.els n) = r.ot := by show (match A.rs[n]? with | some r => r.ot | none => A.tl) = _; rw [h1]
    have e2 : contS Y (.els n) = s.otherwise := by show (match Y.stms[n]? with | some s => s.otherwise | none => []) = _; rw [h2]
    rw [e1] at f
    rw [e1, e2] at hl
    have nd := h.each r (List.mem_of_getElem? h1)
    simp only [SA.all, List.nodup_cons, List.mem_cons, List.not_mem_nil, or_false, not_or, List.nodup_nil, not_false_eq_true, and_true] at nd
    obtain ⟨⟨a1, a2, a3, a4, a5⟩, ⟨b1, b2, b3, b4⟩, ⟨c1, c2, c3⟩, ⟨d1, d2⟩, e⟩ := nd
    exact h.chStm (g := addEls k) h1 h2 (by simp [SA.all]) f ⟨f _ _ h3.o a5, f _ _ h3.at_ b4, f _ _ h3.nm c3, f _ _ h3.hd d2, f _ _ h3.bl e, hl⟩
end
end VP
set_option Elab.async false
set_option linter.all false
set_option maxRecDepth 100000
set_option maxHeartbeats 4000000
namespace VP
open PySem PySem.Spec PyProof.Rows L2 TL
open Vaslca (Text Name)
open VO (Head)
open Evl (Ex Ev EvT EvA EvL EvU)
variable {P : Program} {w : World} {K : PySem.W.Frag} {mg : Str → Option Value} {base : Heap} {a : Ad}

theorem natV_len (ns : List Nat) : (natV ns).length = ns.length := List.length_map ..
theorem cutV_take {α : Type} (f : α → V) (l : List α) (d : Nat) : cutV (l.map f) none (some (d : Int)) = (l.take d).map f := by
  unfold cutV
  rw [HT.sIx_nat]
  show ((l.map f).drop 0).take (min d (l.map f).length - 0) = _
  rw [List.drop_zero, Nat.sub_zero, List.length_map, List.map_take]
  by_cases h : d ≤ l.length
  · rw [Nat.min_eq_left h]
  · rw [Nat.min_eq_right (by omega), List.take_of_length_le (by simp), List.take_of_length_le (by simp; omega)]
theorem el_is {σ : L2.St} {H : Hp} {te : TE} {xs ys : List V} (h : EvL te σ H xs) (e : xs = ys) : EvL te σ H ys := e ▸ h
theorem ev_lenL {σ : L2.St} {H : Hp} {ta : TE} {l : Addr} {xs : List V} {n : Nat} (ha : Ev ta σ H (.ref l)) (hl : H l = some (.lst xs)) (hn : xs.length = n) : Ev (tCB (Evl.rLenS K) (tCons ta tNil)) σ H (.int (n : Int)) := by
  have q := Evl.ev_len (K := K) ha (Evl.sq_of hl)
  rw [hn] at q
  exact q

/-! # with what stood before -/
structure BI (a : Ad) (H0 H : Hp) (A : BA) (Y : B) : Prop where
  ex : Ex H0 H
  fr : ∀ x, InFoot A x → H0 x = none
  at_ : BAt a H A Y
section
variable {H0 H H' : Hp} {A : BA} {Y : B}
theorem foot_b (A : BA) : InFoot A A.b := Or.inl (by simp [five])
theorem foot_sl (A : BA) : InFoot A A.sl := Or.inl (by simp [five])
theorem foot_tl (A : BA) : InFoot A A.tl := Or.inl (by simp [five])
theorem foot_al (A : BA) : InFoot A A.al := Or.inl (by simp [five])
theorem foot_fl (A : BA) : InFoot A A.fl := Or.inl (by simp [five])
theorem foot_slot (A : BA) (s : Slot) : InFoot A (slotA A s) := by
  cases s with
  | top => exact foot_tl A
  | blk n =>
    show InFoot A (match A.rs[n]? with | some r => r.bl | none => A.tl)
    cases h : A.rs[n]? with
    | none => exact foot_tl A
    | some r => exact Or.inr ⟨r, List.mem_of_getElem? h, by simp [SA.all]⟩
  | els n =>
    show InFoot A (match A.rs[n]? with | some r => r.ot | none => A.tl)
    cases h : A.rs[n]? with
    | none => exact foot_tl A
    | some r => exact Or.inr ⟨r, List.mem_of_getElem? h, by simp [SA.all]⟩
theorem BI.mono (h : BI a H0 H A Y) (e : Ex H H') : BI a H0 H' A Y := ⟨h.ex.trans e, h.fr, h.at_.mono e⟩
theorem BI.go (h : BI a H0 H A Y) {p : Addr} (hp : InFoot A p) (f : Fr p H H') : Ex H0 H' := fun b o hb => f b o (h.ex b o hb) (by
  rintro rfl
  rw [h.fr b hp] at hb
  cases hb)
theorem BI.setAround (h : BI a H0 H A Y) {q : Addr} {ar : List Nat} (f : Fr A.b H H') (hq : H q = none) (hb : H' A.b = some (.ins a.C_BlockBuilder A.dx (bF A.sl A.tl q A.fl Y.awaits))) (hl : H' q = some (.lst (natV ar))) :
    BI a H0 H' { A with al := q } { Y with around := ar } := by
  refine ⟨h.go (foot_b A) f, fun x hx => ?_, h.at_.setAround f hq hb hl⟩
  rcases hx with hx | hx
  · simp only [five, List.mem_cons, List.not_mem_nil, or_false] at hx
    rcases hx with rfl | rfl | rfl | rfl | rfl
    · exact h.fr _ (foot_b A)
    · exact h.fr _ (foot_sl A)
    · exact h.fr _ (foot_tl A)
    · exact Evl.fresh_back h.ex hq
    · exact h.fr _ (foot_fl A)
  · exact h.fr _ (Or.inr hx)
theorem BI.setFilling (h : BI a H0 H A Y) {q : Addr} {fi : List Slot} (f : Fr A.b H H') (hq : H q = none) (hb : H' A.b = some (.ins a.C_BlockBuilder A.dx (bF A.sl A.tl A.al q Y.awaits))) (hl : H' q = some (.lst (fi.map fun s => V.ref (slotA A s)))) (hfi : ∀ s ∈ fi, slotOk Y.stms.length s) :
    BI a H0 H' { A with fl := q } { Y with fill := fi } := by
  refine ⟨h.go (foot_b A) f, fun x hx => ?_, h.at_.setFilling f hq hb hl hfi⟩
  rcases hx with hx | hx
  · simp only [five, List.mem_cons, List.not_mem_nil, or_false] at hx
    rcases hx with rfl | rfl | rfl | rfl | rfl
    · exact h.fr _ (foot_b A)
    · exact h.fr _ (foot_sl A)
    · exact h.fr _ (foot_tl A)
    · exact h.fr _ (foot_al A)
    · exact Evl.fresh_back h.ex hq
  · exact h.fr _ (Or.inr hx)
theorem BI.setAwaits (h : BI a H0 H A Y) {b : Bool} (f : Fr A.b H H') (hb : H' A.b = some (.ins a.C_BlockBuilder A.dx (bF A.sl A.tl A.al A.fl b))) : BI a H0 H' A { Y with awaits := b } := ⟨h.go (foot_b A) f, h.fr, h.at_.setAwaits f hb⟩
theorem BI.appAround (h : BI a H0 H A Y) {ar : List Nat} (f : Fr A.al H H') (hl : H' A.al = some (.lst (natV ar))) : BI a H0 H' A { Y with around := ar } := ⟨h.go (foot_al A) f, h.fr, h.at_.appAround f hl⟩
theorem BI.appFilling (h : BI a H0 H A Y) {fi : List Slot} (f : Fr A.fl H H') (hl : H' A.fl = some (.lst (fi.map fun s => V.ref (slotA A s)))) (hfi : ∀ s ∈ fi, slotOk Y.stms.length s) : BI a H0 H' A { Y with fill := fi } := ⟨h.go (foot_fl A) f, h.fr, h.at_.appFilling f hl hfi⟩
theorem BI.appStm (h : BI a H0 H A Y) {r : SA} {s : Stm} (f : Fr A.sl H H') (hl : H' A.sl = some (.lst ((A.rs ++ [r]).map fun r => V.ref r.o))) (hs : StmAt a H r s) (hn : r.all.Nodup) (hd : ∀ x ∈ r.all, ¬ InFoot A x) (h0 : ∀ x ∈ r.all, H0 x = none) :
    BI a H0 H' { A with rs := A.rs ++ [r] } { Y with stms := Y.stms ++ [s] } := by
  refine ⟨h.go (foot_sl A) f, fun x hx => ?_, h.at_.appStm f hl hs hn hd⟩
  rcases hx with hx | ⟨r', hr, hx⟩
  · exact h.fr x (Or.inl hx)
  · rcases List.mem_append.mp hr with q | q
    · exact h.fr x (Or.inr ⟨r', q, hx⟩)
    · have : r' = r := by simpa using q
      subst this
      exact h0 x hx
theorem BI.putSlot (h : BI a H0 H A Y) {s : Slot} {k : Nat} (hs : slotOk Y.stms.length s) (f : Fr (slotA A s) H H') (hl : H' (slotA A s) = some (.lst (natV (contS Y s ++ [k])))) :
    BI a H0 H' A { Y with stms := putStms k s Y.stms, top := putTop k s Y.top } := ⟨h.go (foot_slot A s) f, h.fr, h.at_.putSlot hs f hl⟩
end
theorem modify_app_lt {α : Type} (g : α → α) : ∀ (l : List α) (n : Nat) (x : α), n < l.length → (l ++ [x]).modify n g = l.modify n g ++ [x]
  | [], n, x, h => by simp at h
  | y :: l, 0, x, _ => rfl
  | y :: l, n + 1, x, h => by
    show (y :: (l ++ [x])).modify (n + 1) g = (y :: l).modify (n + 1) g ++ [x]
    rw [List.modify_succ_cons, List.modify_succ_cons, modify_app_lt g l n x (by simpa using h)]
    rfl
theorem putStms_app {l : List Stm} {x : Stm} {s : Slot} {k : Nat} (h : slotOk l.length s) : putStms k s (l ++ [x]) = putStms k s l ++ [x] := by
  cases s with
  | top => rfl
  | blk n => exact modify_app_lt _ _ _ _ h
  | els n => exact modify_app_lt _ _ _ _ h
theorem putStms_len (l : List Stm) (s : Slot) (k : Nat) : (putStms k s l).length = l.length := by
  cases s <;> simp [putStms]

/-- a statement's headers -/
def setHd (hs : List Nat) (s : Stm) : Stm := { s with headers := hs }
theorem stF_put_headers (s : Stm) (r : SA) (q : Addr) (hs : List Nat) : putF "headers" (.ref q) (stF s r) = stF (setHd hs s) { r with hd := q } := by kernel_rfl
theorem map_set_o {rs : List SA} {n : Nat} {r r' : SA} (hr : rs[n]? = some r) (e : r'.o = r.o) : (rs.set n r').map (fun r => V.ref r.o) = rs.map fun r => V.ref r.o := by
  refine List.ext_getElem? fun i => ?_
  rw [List.getElem?_map, List.getElem?_map, List.getElem?_set]
  by_cases h : n = i
  · subst h
    rw [if_pos rfl, if_pos (List.getElem?_eq_some_iff.mp hr).1, hr]
    simp [e]
  · rw [if_neg h]
theorem slotA_set {A : BA} {n : Nat} {r : SA} {q : Addr} (hr : A.rs[n]? = some r) (s : Slot) : slotA { A with rs := A.rs.set n { r with hd := q } } s = slotA A s := by
  have key : ∀ m, (A.rs.set n { r with hd := q })[m]? = (A.rs[m]?).map (fun x => if n = m then { r with hd := q } else x) := by
    intro m
    rw [List.getElem?_set]
    by_cases h : n = m
    · subst h
      rw [if_pos rfl, if_pos (List.getElem?_eq_some_iff.mp hr).1, hr]
      simp
    · rw [if_neg h]
      cases A.rs[m]? <;> simp [h]
  cases s with
  | top => rfl
  | blk m =>
    show (match (A.rs.set n { r with hd := q })[m]? with | some r => r.bl | none => A.tl) = (match A.rs[m]? with | some r => r.bl | none => A.tl)
    rw [key]
    by_cases h : n = m
    · subst h
      rw [hr]
      simp
    · cases A.rs[m]? <;> simp [h]
  | els m =>
    show (match (A.rs.set n { r with hd := q })[m]? with | some r => r.ot | none => A.tl) = (match A.rs[m]? with | some r => r.ot | none => A.tl)
    rw [key]
    by_cases h : n = m
    · subst h
      rw [hr]
      simp
    · cases A.rs[m]? <;> simp [h]
theorem all_hd {r : SA} {q x : Addr} (h : x ∈ ({ r with hd := q } : SA).all) : x ∈ r.all ∨ x = q := by
  simp only [SA.all, List.mem_cons, List.not_mem_nil, or_false] at h ⊢
  rcases h with h | h | h | h | h | h <;> simp [h]
theorem BAt.setHeaders {H H' : Hp} {A : BA} {Y : B} (h : BAt a H A Y) {n : Nat} {r : SA} {s : Stm} {q : Addr} {hs : List Nat} (hr : A.rs[n]? = some r) (hs' : Y.stms[n]? = some s) (f : Fr r.o H H') (hq : H q = none)
    (ho : H' r.o = some (.ins a.C_Statement r.dx (stF (setHd hs s) { r with hd := q }))) (hl : H' q = some (.lst (natV hs))) : BAt a H' { A with rs := A.rs.set n { r with hd := q } } { Y with stms := Y.stms.modify n (setHd hs) } := by
  have mr := List.mem_of_getElem? hr
  have np := h.out r mr r.o (by simp [SA.all])
  simp only [five, List.mem_cons, List.not_mem_nil, or_false, not_or] at np
  obtain ⟨p1, p2, p3, p4, p5⟩ := np
  have nq := h.new hq
  have look : ∀ {i : Nat} {r' : SA}, (A.rs.set n { r with hd := q })[i]? = some r' → (n = i ∧ r' = { r with hd := q }) ∨ (n ≠ i ∧ A.rs[i]? = some r') := by
    intro i r' hh
    rw [List.getElem?_set] at hh
    by_cases e : n = i
    · subst e
      rw [if_pos rfl, if_pos (List.getElem?_eq_some_iff.mp hr).1] at hh
      exact Or.inl ⟨rfl, (Option.some.inj hh).symm⟩
    · rw [if_neg e] at hh
      exact Or.inr ⟨e, hh⟩
  have mem : ∀ {r' : SA}, r' ∈ A.rs.set n { r with hd := q } → r' = { r with hd := q } ∨ r' ∈ A.rs := by
    intro r' hh
    obtain ⟨i, hi⟩ := List.getElem?_of_mem hh
    rcases look hi with ⟨_, e⟩ | ⟨_, e⟩
    · exact Or.inl e
    · exact Or.inr (List.mem_of_getElem? e)
  have nd := h.each r mr
  refine ⟨f _ _ h.ob (fun e => p1 e.symm), ?_, f _ _ h.tl (fun e => p3 e.symm), f _ _ h.al (fun e => p4 e.symm), ?_, by simp [h.len], fun i r' s' hr' hs'' => ?_, fun t ht => by simpa using h.ok t ht, h.nd, fun r' hr' x hx => ?_, fun r' hr' => ?_, fun i j r1 r2 x h1 h2 x1 x2 => ?_⟩
  · show H' A.sl = some (.lst ((A.rs.set n { r with hd := q }).map fun r => V.ref r.o))
    rw [map_set_o (r' := { r with hd := q }) hr rfl]
    exact f _ _ h.sl (fun e => p2 e.symm)
  · refine (f _ _ h.fl (fun e => p5 e.symm)).trans ?_
    congr 2
    exact List.map_congr_left fun t _ => congrArg V.ref (slotA_set hr t).symm
  · have hs3 : (Y.stms.modify n (setHd hs))[i]? = some s' := hs''
    rw [List.getElem?_modify] at hs3
    rcases look hr' with ⟨e, rfl⟩ | ⟨e, g⟩
    · subst e
      rw [hs'] at hs3
      have q' : setHd hs s = s' := by simpa using hs3
      subst q'
      have o := h.st n r s hr hs'
      simp only [SA.all, List.nodup_cons, List.mem_cons, List.not_mem_nil, or_false, not_or, List.nodup_nil, not_false_eq_true, and_true] at nd
      obtain ⟨⟨a1, a2, a3, a4, a5⟩, _⟩ := nd
      exact ⟨ho, f _ _ o.at_ (fun e => a1 e.symm), f _ _ o.nm (fun e => a2 e.symm), hl, f _ _ o.bl (fun e => a4 e.symm), f _ _ o.ot (fun e => a5 e.symm)⟩
    · have hs4 : Y.stms[i]? = some s' := by
        cases z : Y.stms[i]? with
        | none => rw [z] at hs3; cases hs3
        | some u =>
          rw [z] at hs3
          have z2 : (if n = i then setHd hs u else u) = s' := by simpa using hs3
          rw [if_neg e] at z2
          rw [z2]
      exact (h.st i r' s' g hs4).keep f fun hm => e (h.apart n i r r' r.o hr g (by simp [SA.all]) hm)
  · rcases mem hr' with rfl | g
    · rcases all_hd hx with z | rfl
      · exact h.out r mr x z
      · exact fun hm => nq (Or.inl hm)
    · exact h.out r' g x hx
  · rcases mem hr' with rfl | g
    · have nqr : q ∉ r.all := fun hm => nq (Or.inr ⟨r, mr, hm⟩)
      simp only [SA.all, List.nodup_cons, List.mem_cons, List.not_mem_nil, or_false, not_or, List.nodup_nil, not_false_eq_true, and_true] at nd nqr ⊢
      obtain ⟨⟨a1, a2, a3, a4, a5⟩, ⟨b1, b2, b3, b4⟩, ⟨c1, c2, c3⟩, ⟨d1, d2⟩, e⟩ := nd
      obtain ⟨q1, q2, q3, q4, q5, q6⟩ := nqr
      exact ⟨⟨a1, a2, fun z => q1 z.symm, a4, a5⟩, ⟨b1, fun z => q2 z.symm, b3, b4⟩, ⟨fun z => q3 z.symm, c2, c3⟩, ⟨q5, q6⟩, e⟩
    · exact h.each r' g
  · have low : ∀ {i : Nat} {r' : SA} {x : Addr}, (A.rs.set n { r with hd := q })[i]? = some r' → x ∈ r'.all → (∃ r0, A.rs[i]? = some r0 ∧ x ∈ r0.all) ∨ (i = n ∧ x = q) := by
      intro i r' x hh hx
      rcases look hh with ⟨e, rfl⟩ | ⟨e, g⟩
      · rcases all_hd hx with z | z
        · exact Or.inl ⟨r, by rw [← e]; exact hr, z⟩
        · exact Or.inr ⟨e.symm, z⟩
      · exact Or.inl ⟨r', g, hx⟩
    rcases low h1 x1 with ⟨r3, g3, y3⟩ | ⟨e3, y3⟩
    · rcases low h2 x2 with ⟨r4, g4, y4⟩ | ⟨e4, y4⟩
      · exact h.apart i j r3 r4 x g3 g4 y3 y4
      · subst y4
        exact absurd (Or.inr ⟨r3, List.mem_of_getElem? g3, y3⟩) nq
    · rcases low h2 x2 with ⟨r4, g4, y4⟩ | ⟨e4, y4⟩
      · subst y3
        exact absurd (Or.inr ⟨r4, List.mem_of_getElem? g4, y4⟩) nq
      · omega
theorem BI.setHeaders {H0 H H' : Hp} {A : BA} {Y : B} (h : BI a H0 H A Y) {n : Nat} {r : SA} {s : Stm} {q : Addr} {hs : List Nat} (hr : A.rs[n]? = some r) (hs' : Y.stms[n]? = some s) (f : Fr r.o H H') (hq : H q = none)
    (ho : H' r.o = some (.ins a.C_Statement r.dx (stF (setHd hs s) { r with hd := q }))) (hl : H' q = some (.lst (natV hs))) : BI a H0 H' { A with rs := A.rs.set n { r with hd := q } } { Y with stms := Y.stms.modify n (setHd hs) } := by
  have mr := List.mem_of_getElem? hr
  refine ⟨h.go (Or.inr ⟨r, mr, by simp [SA.all]⟩) f, fun x hx => ?_, h.at_.setHeaders hr hs' f hq ho hl⟩
  rcases hx with hx | ⟨r', hr', hx⟩
  · exact h.fr x (Or.inl hx)
  · obtain ⟨i, hi⟩ := List.getElem?_of_mem hr'
    have hi' : (A.rs.set n { r with hd := q })[i]? = some r' := hi
    rw [List.getElem?_set] at hi'
    by_cases e : n = i
    · subst e
      rw [if_pos rfl, if_pos (List.getElem?_eq_some_iff.mp hr).1] at hi'
      have z := Option.some.inj hi'
      subst z
      rcases all_hd hx with y | rfl
      · exact h.fr x (Or.inr ⟨r, mr, y⟩)
      · exact Evl.fresh_back h.ex hq
    · rw [if_neg e] at hi'
      exact h.fr x (Or.inr ⟨r', List.mem_of_getElem? hi', hx⟩)

def sp_BlockBuilder_init (a : Ad) : Sp := fun vs H Q _ => ∃ (p dx : Addr), vs = [.ref p] ∧ H p = some (.ins a.C_BlockBuilder dx []) ∧
  ∀ (A : BA) (H' : Hp), A.b = p → A.dx = dx → (∀ x ∈ [A.sl, A.tl, A.al, A.fl], H x = none) → A.rs = [] → Fr p H H' → BAt a H' A ⟨[], [], [], [.top], false⟩ → Q .non H'
theorem ok_BlockBuilder_init (T : Facts K mg a) : FnOk P w K mg base CX0 1 a.f_BlockBuilder_init a.d_BlockBuilder_init ["self"] (sp_BlockBuilder_init a) := by
  refine T.F_BlockBuilder_init.ok sc_BlockBuilder_init (fun vs H Q E h => ?_) (fun cdv A outer s H vs Q E hr h => ?_)
  · obtain ⟨p, dx, rfl, _⟩ := h
    rfl
  · refine ⟨_, (pss_cons (ps_fld (pv 0) (pe_lst pa_nil) rfl)
    (pss_cons (ps_fld (pv 0) (pe_lst pa_nil) rfl)
    (pss_cons (ps_fld (pv 0) (pe_lst pa_nil) rfl)
    (pss_cons (ps_fld (pv 0) (pe_lst (pa_cons (pe_fld (pv 0) rfl) pa_nil)) rfl)
    (pss_one (ps_fld (pv 0) pe_bl rfl)))))), ?_⟩
    obtain ⟨p, dx, rfl, hp, q⟩ := h
    refine q_fldL (xs := []) (Evl.el_lst Evl.ea_nil (by decide)) (Evl.ev_var rfl) hp T.cl_BlockBuilder T.n_BlockBuilder_statements (by simp) (fs' := fun sl => [("statements", .ref sl)]) (fun _ => by kernel_rfl) fun sl H1 n1 np1 f1 h1 g1 => ?_
    refine q_fldL (xs := []) (Evl.el_lst Evl.ea_nil (by decide)) (Evl.ev_var rfl) h1 T.cl_BlockBuilder T.n_BlockBuilder_top (by simp) (fs' := fun tl => [("statements", .ref sl), ("top", .ref tl)]) (fun _ => by kernel_rfl) fun tl H2 n2 np2 f2 h2 g2 => ?_
    refine q_fldL (xs := []) (Evl.el_lst Evl.ea_nil (by decide)) (Evl.ev_var rfl) h2 T.cl_BlockBuilder T.n_BlockBuilder_around (by simp) (fs' := fun al => [("statements", .ref sl), ("top", .ref tl), ("around", .ref al)]) (fun _ => by kernel_rfl) fun al H3 n3 np3 f3 h3 g3 => ?_
    refine q_fldL (xs := [.ref tl]) (Evl.el_lst (Evl.ea_cons (ev_fld (Evl.ev_var rfl) h3 T.cl_BlockBuilder T.n_BlockBuilder_top (by kernel_rfl)) Evl.ea_nil) (by simp)) (Evl.ev_var rfl) h3 T.cl_BlockBuilder T.n_BlockBuilder_filling (by simp)
      (fs' := fun fl => [("statements", .ref sl), ("top", .ref tl), ("around", .ref al), ("filling", .ref fl)]) (fun _ => by kernel_rfl) fun fl H4 n4 np4 f4 h4 g4 => ?_
    refine s_fld (Evl.ev_c) (Evl.ev_var rfl) h4 T.cl_BlockBuilder T.n_BlockBuilder_awaits (by simp) (fs' := bF sl tl al fl false) (by kernel_rfl) fun H5 f5 h5 => ?_
    have sl2 := f2 sl _ g1 np1
    have sl3 := f3 sl _ sl2 np1
    have sl4 := f4 sl _ sl3 np1
    have sl5 := f5 sl _ sl4 np1
    have tl3 := f3 tl _ g2 np2
    have tl4 := f4 tl _ tl3 np2
    have tl5 := f5 tl _ tl4 np2
    have al4 := f4 al _ g3 np3
    have al5 := f5 al _ al4 np3
    have fl5 := f5 fl _ g4 np4
    have a2 : H tl = none := f1.free h1 n2
    have a3 : H al = none := f1.free h1 (f2.free h2 n3)
    have a4 : H fl = none := f1.free h1 (f2.free h2 (f3.free h3 n4))
    refine q ⟨p, dx, sl, tl, al, fl, []⟩ H5 rfl rfl ?_ rfl ((((f1.trans f2).trans f3).trans f4).trans f5) ⟨h5, sl5, tl5, al5, fl5, rfl, by simp, by simp [slotOk], ?_, by simp, by simp, by simp⟩
    · intro x hx
      simp only [List.mem_cons, List.not_mem_nil, or_false] at hx
      rcases hx with rfl | rfl | rfl | rfl
      · exact n1
      · exact a2
      · exact a3
      · exact a4
    · have x1 := ne_some g1 n2
      have x2 := ne_some sl2 n3
      have x3 := ne_some sl3 n4
      have y1 := ne_some g2 n3
      have y2 := ne_some tl3 n4
      have z1 := ne_some g3 n4
      simp [five, np1.symm, np2.symm, np3.symm, np4.symm, x1, x2, x3, y1, y2, z1]

def sp_BlockBuilder_add_statement (a : Ad) : Sp := fun vs H Q E => ∃ (H0 : Hp) (A : BA) (Y : B) (d : Nat) (r : SA) (h : Head), vs = [.ref A.b, .int (d : Int), .ref r.o] ∧ BI a H0 H A Y ∧ StmAt a H r (stmOf h) ∧ r.all.Nodup ∧ (∀ x ∈ r.all, ¬ InFoot A x) ∧ (∀ x ∈ r.all, H0 x = none) ∧
  d ≤ 1000 ∧ Y.stms.length ≤ 14 ∧ Y.around.length ≤ 100 ∧ Y.fill.length = Y.around.length + 1 ∧ (∀ s ∈ Y.fill, (contS Y s).length ≤ 100) ∧
  (∀ Y', bAdd Y d h = some Y' → ∀ (A' : BA) (H' : Hp), A'.b = A.b → BI a H0 H' A' Y' → Q .non H') ∧ (bAdd Y d h = none → ∀ H', Ex H H' → E (.ref a.C_NotAProgram) none H')
theorem ok_BlockBuilder_add_statement (T : Facts K mg a) : FnOk P w K mg base (L2.CX P w) 2 a.f_BlockBuilder_add_statement a.d_BlockBuilder_add_statement ["self", "depth", "statement"] (sp_BlockBuilder_add_statement a) := by
  refine T.F_BlockBuilder_add_statement.okX sc_BlockBuilder_add_statement (fun vs H Q E h => ?_) (fun cdv A outer s H vs Q E hr h => ?_)
  · obtain ⟨H0, A, Y, d, r, h, rfl, _⟩ := h
    rfl
  · refine ⟨_, (pss_cons (ps_set (i := 3) sc_BlockBuilder_add_statement.nd rfl (Or.inl rfl) (pe_callB call_len_seq (by rfl) T.b_len (by decide +kernel) (pa_cons (pe_fld (pv 0) rfl) pa_nil)))
    (pss_cons (ps_if (PW.pt (pw_or (pt_cmpR op_gt (pv 1) (pv 3) (nomark _)) (pw_or1 (PW.pt (pw_and (pt_val (pe_fld (pv 0) rfl)) (pw_and1 (pt_cmpR op_lt (pv 1) (pv 3) (nomark _))))))))
    (pss_one (ps_raise rfl (takes_of rfl rfl rfl rfl) (pmk_own0 PySem.F.excBase_Exception T.x_NotAProgram.x T.x_NotAProgram.g T.x_NotAProgram.k (raises_own T.x_NotAProgram.b T.x_NotAProgram.t) (by exact rfl))))
    pss_nil)
    (pss_cons (ps_if (PW.pt (pw_or (pt_cmpR op_gt (pv 1) (pe_gi rfl T.c_MOST_DEPTH.choose_spec) (nomark _)) (pw_or1 (pt_cmpR op_eq (pe_callB call_len_seq (by rfl) T.b_len (by decide +kernel) (pa_cons (pe_fld (pv 0) rfl) pa_nil)) (pe_gi rfl T.c_MOST_STATEMENTS.choose_spec) (nomark _)))))
    (pss_one (ps_raise rfl (takes_of rfl rfl rfl rfl) (pmk_own0 PySem.F.excBase_Exception T.x_NotAProgram.x T.x_NotAProgram.g T.x_NotAProgram.k (raises_own T.x_NotAProgram.b T.x_NotAProgram.t) (by exact rfl))))
    pss_nil)
    (pss_cons (ps_fld (pv 0) (pe_slice sl_list (pe_fld (pv 0) rfl) po_none (po_some (pv 1))) rfl)
    (pss_cons (ps_fld (pv 0) (pe_slice sl_list (pe_fld (pv 0) rfl) po_none (po_some (pe_op op_add (pv 1) pe_int))) rfl)
    (pss_cons (ps_set (i := 4) sc_BlockBuilder_add_statement.nd rfl (Or.inl rfl) (pe_callB call_len_seq (by rfl) T.b_len (by decide +kernel) (pa_cons (pe_fld (pv 0) rfl) pa_nil)))
    (pss_cons (ps_expr (pe_bm PySem.F.plainAttrs_list PySem.F.slot_list_append PySem.F.type_list_append mt_append (pe_fld (pv 0) rfl) (pa_cons (pv 2) pa_nil)))
    (pss_cons (ps_expr (pe_bm PySem.F.plainAttrs_list PySem.F.slot_list_append PySem.F.type_list_append mt_append (pe_ix ix_list (pe_fld (pv 0) rfl) (pv 1) (fun _ _ => rfl)) (pa_cons (pv 4) pa_nil)))
    (pss_cons (ps_fld (pv 2) (pe_callTy call_list_of (by rfl) T.b_list (by decide +kernel) (pa_cons (pe_fld (pv 0) rfl) pa_nil)) rfl)
    (pss_cons (ps_fld (pv 0) (pe_call (ok_is_header T) (hr.mono (by decide)) rfl T.g_is_header T.F_is_header.kp T.B_is_header .nil pass0 (pa_cons (pv 2) pa_nil)) rfl)
    (pss_one (ps_if (pt_val (pe_fld (pv 0) rfl))
    (pss_cons (ps_expr (pe_bm PySem.F.plainAttrs_list PySem.F.slot_list_append PySem.F.type_list_append mt_append (pe_fld (pv 0) rfl) (pa_cons (pv 4) pa_nil)))
    (pss_one (ps_expr (pe_bm PySem.F.plainAttrs_list PySem.F.slot_list_append PySem.F.type_list_append mt_append (pe_fld (pv 0) rfl) (pa_cons (pe_fld (pv 2) rfl) pa_nil)))))
    pss_nil)))))))))))), ?_⟩
    obtain ⟨H0, A, Y, d, r, hd, rfl, hI, hs, hnr, hdr, hr0, hd1, hY1, hY2, hY3, hY4, kY, kN⟩ := h
    refine Evl.q_asg (v := .int (Y.around.length : Int)) (ev_lenL (ev_fld (Evl.ev_var rfl) hI.at_.ob T.cl_BlockBuilder T.n_BlockBuilder_around (bF_around _ _ _ _ _)) hI.at_.al (natV_len _)) fun H1 e1 => ?_
    have I1 := hI.mono e1
    refine Evl.q_when (b := decide ((Y.around.length : Int) < (d : Int)) || (Y.awaits && decide ((d : Int) < (Y.around.length : Int))))
      (Evl.et_or (Evl.et_test (Evl.ev_op (Evl.ev_var rfl) (Evl.ev_var rfl) Evl.rv_I0)) fun _ => Evl.et_and (Evl.et_B (ev_fld (Evl.ev_var rfl) I1.at_.ob T.cl_BlockBuilder T.n_BlockBuilder_awaits (bF_awaits _ _ _ _ _))) fun _ => Evl.et_test (Evl.ev_op (Evl.ev_var rfl) (Evl.ev_var rfl) Evl.rv_I0))
      (fun hc H2 e2 => ?_) (fun hc H2 e2 => ?_)
    · refine kN ?_ H2 (e1.trans e2)
      unfold bAdd
      rw [if_pos]
      simp only [Bool.or_eq_true, Bool.and_eq_true, decide_eq_true_eq] at hc
      rcases hc with z | ⟨z1, z2⟩
      · exact Or.inl (by omega)
      · exact Or.inr ⟨z1, by omega⟩
    · have c1 : ¬ (Y.around.length < d ∨ (Y.awaits = true ∧ d < Y.around.length)) := by
        rintro (z | ⟨z1, z2⟩)
        · have : (Y.around.length : Int) < (d : Int) := by omega
          simp [this] at hc
        · have : (d : Int) < (Y.around.length : Int) := by omega
          simp [this, z1] at hc
      have I2 := I1.mono e2
      refine Evl.q_when (b := decide ((3 : Int) < (d : Int)) || decide (V.int (Y.stms.length : Int) = V.int 14))
        (Evl.et_or (Evl.et_test (Evl.ev_op (Evl.ev_var rfl) Evl.ev_c Evl.rv_I0)) fun _ => Evl.et_test (Evl.ev_op (ev_lenL (ev_fld (Evl.ev_var rfl) I2.at_.ob T.cl_BlockBuilder T.n_BlockBuilder_statements (bF_statements _ _ _ _ _)) I2.at_.sl (by rw [List.length_map]; exact I2.at_.len)) Evl.ev_c (Evl.rv_eq rfl)))
        (fun hc2 H3 e3 => ?_) (fun hc2 H3 e3 => ?_)
      · refine kN ?_ H3 ((e1.trans e2).trans e3)
        unfold bAdd
        rw [if_neg c1, if_pos]
        simp only [Bool.or_eq_true, decide_eq_true_eq] at hc2
        rcases hc2 with z | z
        · left; omega
        · right; have := V.int.inj z; omega
      · have c2 : ¬ (3 < d ∨ Y.stms.length = 14) := by
          simp only [Bool.or_eq_false_iff, decide_eq_false_iff_not] at hc2
          rintro (z | z)
          · exact hc2.1 (by omega)
          · exact hc2.2 (by rw [z]; rfl)
        have I3 := I2.mono e3
        have s3 := hs.mono ((e1.trans e2).trans e3)
        refine q_fldL (xs := natV (Y.around.take d)) (el_is (Evl.el_sl (ev_fld (Evl.ev_var rfl) I3.at_.ob T.cl_BlockBuilder T.n_BlockBuilder_around (bF_around _ _ _ _ _)) Evl.eo_none (Evl.eo_some (Evl.ev_var rfl)) (Evl.sq_of I3.at_.al)) (cutV_take _ _ _)) (Evl.ev_var rfl) I3.at_.ob T.cl_BlockBuilder T.n_BlockBuilder_around (bF_len _ _ _ _ _)
          (fun _ => bF_put_around _ _ _ _ _ _) fun al H4 n4 np4 f4 h4 g4 => ?_
        have s4 := s3.keep f4 fun hm => hdr _ hm (foot_b A)
        have I4 := I3.setAround f4 n4 h4 g4
        refine q_fldL (xs := (Y.fill.take (d + 1)).map fun s => V.ref (slotA A s)) (el_is (Evl.el_sl (ev_fld (Evl.ev_var rfl) I4.at_.ob T.cl_BlockBuilder T.n_BlockBuilder_filling (bF_filling _ _ _ _ _)) Evl.eo_none (Evl.eo_some (i := ((d + 1 : Nat) : Int)) (Evl.ev_op (Evl.ev_var rfl) Evl.ev_c Evl.rv_I0)) (Evl.sq_of I4.at_.fl)) (cutV_take _ _ _)) (Evl.ev_var rfl) I4.at_.ob T.cl_BlockBuilder T.n_BlockBuilder_filling (bF_len _ _ _ _ _)
          (fun _ => bF_put_filling _ _ _ _ _ _) fun fl H5 n5 np5 f5 h5 g5 => ?_
        have s5 := s4.keep f5 fun hm => hdr _ hm (foot_b A)
        have okT : ∀ s ∈ Y.fill.take (d + 1), slotOk Y.stms.length s := fun s hs => hI.at_.ok s (List.mem_of_mem_take hs)
        have I5 := I4.setFilling (fi := Y.fill.take (d + 1)) f5 n5 h5 g5 okT
        refine Evl.q_asg (v := .int (Y.stms.length : Int)) (ev_lenL (ev_fld (Evl.ev_var rfl) I5.at_.ob T.cl_BlockBuilder T.n_BlockBuilder_statements (bF_statements _ _ _ _ _)) I5.at_.sl (by rw [List.length_map]; exact I5.at_.len)) fun H6 e6 => ?_
        have I6 := I5.mono e6
        have s6 := s5.mono e6
        have ral : ∀ x ∈ r.all, x ≠ al := fun x hx e => by
          obtain ⟨o, ho⟩ := s3.some_all x hx
          rw [e, n4] at ho
          cases ho
        have rfl' : ∀ x ∈ r.all, x ≠ fl := fun x hx e => by
          obtain ⟨o, ho⟩ := s4.some_all x hx
          rw [e, n5] at ho
          cases ho
        have d6 : ∀ x ∈ r.all, ¬ InFoot { A with al := al, fl := fl } x := by
          rintro x hx (hm | hm)
          · simp only [five, List.mem_cons, List.not_mem_nil, or_false] at hm
            rcases hm with e | e | e | e | e
            · exact hdr x hx (Or.inl (by simp [five, e]))
            · exact hdr x hx (Or.inl (by simp [five, e]))
            · exact hdr x hx (Or.inl (by simp [five, e]))
            · exact ral x hx e
            · exact rfl' x hx e
          · exact hdr x hx (Or.inr hm)
        refine Evl.q_app (xs := A.rs.map fun r => V.ref r.o) (v := .ref r.o) I6.at_.sl (ev_fld (Evl.ev_var rfl) I6.at_.ob T.cl_BlockBuilder T.n_BlockBuilder_statements (bF_statements _ _ _ _ _)) (Evl.ev_var rfl) (by rw [List.length_map]; have := hI.at_.len; omega) fun H7 e7 => ?_
        have f8 : Fr A.sl H6 (upd H7 A.sl (.lst ((A.rs.map fun r => V.ref r.o) ++ [.ref r.o]))) := (Fr.of e7).put
        have nsl : A.sl ∉ r.all := fun hm => hdr _ hm (foot_sl A)
        have s8 := s6.keep f8 nsl
        have I8 := I6.appStm (r := r) (s := stmOf hd) f8 (by rw [List.map_append]; exact upd_same) s6 hnr d6 hr0
        generalize upd H7 A.sl (.lst ((A.rs.map fun r => V.ref r.o) ++ [.ref r.o])) = H8 at I8 s8 ⊢
        have dl : d < (Y.fill.take (d + 1)).length := by
          rw [List.length_take]
          have : ¬ Y.around.length < d := fun z => c1 (Or.inl z)
          omega
        obtain ⟨sl, hsl⟩ : ∃ sl, (Y.fill.take (d + 1))[d]? = some sl := ⟨_, List.getElem?_eq_getElem dl⟩
        have hsl' : Y.fill[d]? = some sl := by rw [List.getElem?_take, if_pos (by omega)] at hsl; exact hsl
        have msl : sl ∈ Y.fill := List.mem_of_getElem? hsl'
        have oksl : slotOk Y.stms.length sl := hI.at_.ok sl msl
        have oksl8 : slotOk (Y.stms ++ [stmOf hd]).length sl := by simpa using slotOk_more oksl
        have cont8 : contS ⟨Y.stms ++ [stmOf hd], Y.top, Y.around.take d, Y.fill.take (d + 1), Y.awaits⟩ sl = contS Y sl := by
          cases sl with
          | top => rfl
          | blk n =>
            have h' : n < Y.stms.length := oksl
            show (match (Y.stms ++ [stmOf hd])[n]? with | some s => s.block | none => []) = (match Y.stms[n]? with | some s => s.block | none => [])
            rw [List.getElem?_append_left h']
          | els n =>
            have h' : n < Y.stms.length := oksl
            show (match (Y.stms ++ [stmOf hd])[n]? with | some s => s.otherwise | none => []) = (match Y.stms[n]? with | some s => s.otherwise | none => [])
            rw [List.getElem?_append_left h']
        have hslot := I8.at_.slot oksl8
        rw [cont8] at hslot
        refine Evl.q_app (xs := natV (contS Y sl)) (v := .int (Y.stms.length : Int)) hslot (Evl.ev_op (ev_fld (Evl.ev_var rfl) I8.at_.ob T.cl_BlockBuilder T.n_BlockBuilder_filling (bF_filling _ _ _ _ _)) (Evl.ev_var rfl) (Evl.rv_ixL (Evl.sq_of I8.at_.fl) (atI_nat ?_))) (Evl.ev_var rfl) (by rw [natV_len]; have := hY4 sl msl; omega) fun H9 e9 => ?_
        · rw [List.getElem?_map, hsl]
          rfl
        have I10 := I8.putSlot (k := Y.stms.length) (H' := upd H9 (slotA { A with al := al, fl := fl, rs := A.rs ++ [r] } sl) (.lst (natV (contS Y sl) ++ [.int (Y.stms.length : Int)]))) oksl8 ((Fr.of e9).put) (by
          rw [cont8, upd_same]
          simp [natV])
        generalize upd H9 (slotA { A with al := al, fl := fl, rs := A.rs ++ [r] } sl) (.lst (natV (contS Y sl) ++ [.int (Y.stms.length : Int)])) = H10 at I10 ⊢
        have lenR : A.rs.length = Y.stms.length := hI.at_.len
        have rk : (A.rs ++ [r])[Y.stms.length]? = some r := by rw [← lenR]; simp
        have e10 : putStms Y.stms.length sl (Y.stms ++ [stmOf hd]) = putStms Y.stms.length sl Y.stms ++ [stmOf hd] := putStms_app oksl
        have sk : (putStms Y.stms.length sl (Y.stms ++ [stmOf hd]))[Y.stms.length]? = some (stmOf hd) := by
          rw [e10, List.getElem?_append_right (by rw [putStms_len]; exact Nat.le_refl _), putStms_len]
          simp
        have s10 : StmAt a H10 r (stmOf hd) := I10.at_.st _ _ _ rk sk
        have nro : r.o ∉ five { A with al := al, fl := fl, rs := A.rs ++ [r] } := I10.at_.out r (by simp) r.o (by simp [SA.all])
        refine q_fldL (xs := natV (Y.around.take d)) (Evl.el_list (ev_fld (Evl.ev_var rfl) I10.at_.ob T.cl_BlockBuilder T.n_BlockBuilder_around (bF_around _ _ _ _ _)) (Evl.sq_of I10.at_.al)) (Evl.ev_var rfl) s10.o T.cl_Statement T.n_Statement_headers (by simp [stF])
          (fun _ => stF_put_headers _ _ _ (Y.around.take d)) fun hq H11 n11 np11 f11 h11 g11 => ?_
        have I11 := I10.setHeaders (hs := Y.around.take d) rk sk f11 n11 h11 g11
        have e11 : (putStms Y.stms.length sl (Y.stms ++ [stmOf hd])).modify Y.stms.length (setHd (Y.around.take d)) = putStms Y.stms.length sl Y.stms ++ [{ stmOf hd with headers := Y.around.take d }] := by
          rw [e10]
          exact modify_on _ (putStms_len _ _ _) _ _
        have rk11 : ((A.rs ++ [r]).set Y.stms.length { r with hd := hq })[Y.stms.length]? = some { r with hd := hq } := by
          rw [List.getElem?_set, if_pos rfl, if_pos (List.getElem?_eq_some_iff.mp rk).1]
        have sk11 : ((putStms Y.stms.length sl (Y.stms ++ [stmOf hd])).modify Y.stms.length (setHd (Y.around.take d)))[Y.stms.length]? = some { stmOf hd with headers := Y.around.take d } := by
          rw [e11, List.getElem?_append_right (by rw [putStms_len]; exact Nat.le_refl _), putStms_len]
          simp
        have s11 := I11.at_.st _ _ _ rk11 sk11
        refine q_fld (y := .bl (isHdr hd)) (Evl.ev_call (Evl.ea_cons (Evl.ev_var rfl) Evl.ea_nil) fun H12 e12 Q q E => ⟨{ r with hd := hq }, _, rfl, s11.mono e12, fun H13 e13 => by rw [show (decide ((stmOf hd).kind = 5 ∨ (stmOf hd).kind = 6)) = isHdr hd from isHdr_kind hd]; exact q H13 e13⟩) (Evl.ev_var rfl) I11.at_.ob T.cl_BlockBuilder T.n_BlockBuilder_awaits (bF_len _ _ _ _ _) (bF_put_awaits _ _ _ _ _ _) fun H12 f12 h12 => ?_
        have I12 := I11.setAwaits f12 h12
        have lenW : (Y.stms.modify Y.stms.length (setHd (Y.around.take d))).length = Y.stms.length := by simp
        have fin : ∀ (Z : B), Z.stms = putStms Y.stms.length sl Y.stms ++ [{ stmOf hd with headers := Y.around.take d }] → Z.top = putTop Y.stms.length sl Y.top → Z.around = Y.around.take d ++ (if isHdr hd = true then [Y.stms.length] else []) → Z.fill = Y.fill.take (d + 1) ++ (if isHdr hd = true then [.blk Y.stms.length] else []) → Z.awaits = isHdr hd → bAdd Y d hd = some Z := by
          intro Z z1 z2 z3 z4 z5
          unfold bAdd
          rw [if_neg c1, if_neg c2, hsl']
          obtain ⟨w1, w2, w3, w4, w5⟩ := Z
          dsimp only at z1 z2 z3 z4 z5
          subst z1 z2 z3 z4 z5
          rfl
        refine Evl.s_when (b := isHdr hd) (Evl.et_B (ev_fld (Evl.ev_var rfl) I12.at_.ob T.cl_BlockBuilder T.n_BlockBuilder_awaits (bF_awaits _ _ _ _ _))) (fun hb H13 e13 => ?_) (fun hb H13 e13 => ?_)
        · have I13 := I12.mono e13
          refine Evl.q_app (xs := natV (Y.around.take d)) (v := .int (Y.stms.length : Int)) I13.at_.al (ev_fld (Evl.ev_var rfl) I13.at_.ob T.cl_BlockBuilder T.n_BlockBuilder_around (bF_around _ _ _ _ _)) (Evl.ev_var rfl) (by rw [natV_len, List.length_take]; omega) fun H14 e14 => ?_
          have I14 := I13.appAround (ar := Y.around.take d ++ [Y.stms.length]) (H' := upd H14 al (.lst (natV (Y.around.take d) ++ [.int (Y.stms.length : Int)]))) ((Fr.of e14).put) (by rw [upd_same]; simp [natV])
          generalize upd H14 al (.lst (natV (Y.around.take d) ++ [.int (Y.stms.length : Int)])) = H15 at I14 ⊢
          have s14 := I14.at_.st _ _ _ rk11 sk11
          have slk : slotA { A with al := al, fl := fl, rs := (A.rs ++ [r]).set Y.stms.length { r with hd := hq } } (.blk Y.stms.length) = r.bl := by
            show (match ((A.rs ++ [r]).set Y.stms.length { r with hd := hq })[Y.stms.length]? with | some r => r.bl | none => A.tl) = _
            rw [rk11]
          refine Evl.s_app (xs := (Y.fill.take (d + 1)).map fun s => V.ref (slotA { A with al := al, fl := fl, rs := (A.rs ++ [r]).set Y.stms.length { r with hd := hq } } s)) (v := .ref r.bl) I14.at_.fl (ev_fld (Evl.ev_var rfl) I14.at_.ob T.cl_BlockBuilder T.n_BlockBuilder_filling (bF_filling _ _ _ _ _)) (ev_fld (Evl.ev_var rfl) s14.o T.cl_Statement T.n_Statement_block (stF_block _ _)) (by rw [List.length_map, List.length_take]; omega) fun H16 e16 => ?_
          have I16 := I14.appFilling (fi := Y.fill.take (d + 1) ++ [.blk Y.stms.length]) (H' := upd H16 fl (.lst (((Y.fill.take (d + 1)).map fun s => V.ref (slotA { A with al := al, fl := fl, rs := (A.rs ++ [r]).set Y.stms.length { r with hd := hq } } s)) ++ [.ref r.bl]))) ((Fr.of e16).put) (by
            rw [upd_same, List.map_append, List.map_cons, List.map_nil, slk]) (fun t ht => by
              rcases List.mem_append.mp ht with q | q
              · exact I14.at_.ok t q
              · have : t = .blk Y.stms.length := by simpa using q
                subst this
                show Y.stms.length < _
                rw [e11]
                simp [putStms_len])
          refine kY _ (fin _ ?_ ?_ ?_ ?_ ?_) _ _ ?_ I16
          · exact e11
          · rfl
          · rw [if_pos hb]
          · rw [if_pos hb]
          · rfl
          · rfl
        · have I13 := I12.mono e13
          refine kY _ (fin _ ?_ ?_ ?_ ?_ ?_) _ _ ?_ I13
          · exact e11
          · rfl
          · rw [hb]; simp
          · rw [hb]; simp
          · rfl
          · rfl
end VP
set_option Elab.async false
set_option linter.all false
set_option maxRecDepth 100000
set_option maxHeartbeats 4000000
namespace VP
open PySem PySem.Spec PyProof.Rows L2 TL
open Vaslca (Text Name)
open VO (Head)
open Evl (Ex Ev EvT EvA EvL EvU)
variable {P : Program} {w : World} {K : PySem.W.Frag} {mg : Str → Option Value} {base : Heap} {a : Ad}

def sp_BlockBuilder_add_else (a : Ad) : Sp := fun vs H Q E => ∃ (H0 : Hp) (A : BA) (Y : B) (d : Nat), vs = [.ref A.b, .int (d : Int)] ∧ BI a H0 H A Y ∧
  d ≤ 1000 ∧ Y.stms.length ≤ 14 ∧ Y.around.length ≤ 100 ∧ Y.fill.length = Y.around.length + 1 ∧ (∀ n ∈ Y.around, n < Y.stms.length) ∧
  (∀ Y', bEls Y d = some Y' → ∀ (A' : BA) (H' : Hp), A'.b = A.b → BI a H0 H' A' Y' → Q .non H') ∧ (bEls Y d = none → ∀ H', Ex H H' → E (.ref a.C_NotAProgram) none H')
theorem ok_BlockBuilder_add_else (T : Facts K mg a) : FnOk P w K mg base (L2.CX P w) 1 a.f_BlockBuilder_add_else a.d_BlockBuilder_add_else ["self", "depth"] (sp_BlockBuilder_add_else a) := by
  refine T.F_BlockBuilder_add_else.okX sc_BlockBuilder_add_else (fun vs H Q E h => ?_) (fun cdv A outer s H vs Q E hr h => ?_)
  · obtain ⟨H0, A, Y, d, rfl, _⟩ := h
    rfl
  · refine ⟨_, (pss_cons (ps_if (PW.pt (pw_or (pt_val (pe_fld (pv 0) rfl)) (pw_or1 (pt_cmpR op_ge (pv 1) (pe_callB call_len_seq (by rfl) T.b_len (by decide +kernel) (pa_cons (pe_fld (pv 0) rfl) pa_nil)) (nomark _)))))
    (pss_one (ps_raise rfl (takes_of rfl rfl rfl rfl) (pmk_own0 PySem.F.excBase_Exception T.x_NotAProgram.x T.x_NotAProgram.g T.x_NotAProgram.k (raises_own T.x_NotAProgram.b T.x_NotAProgram.t) (by exact rfl))))
    pss_nil)
    (pss_cons (ps_set (i := 2) sc_BlockBuilder_add_else.nd rfl (Or.inl rfl) (pe_ix ix_list (pe_fld (pv 0) rfl) (pe_ix ix_list (pe_fld (pv 0) rfl) (pv 1) (fun _ _ => rfl)) (fun _ _ => rfl)))
    (pss_cons (ps_if (PW.pt (pw_or (pt_cmpR op_ne (pe_fld (pv 2) rfl) (pe_gi rfl T.c_IF.choose_spec) (nomark _)) (pw_or1 (pt_cmpR (op_neD hr.units) (pe_fld (pv 2) rfl) (pe_lst pa_nil) (nomark _)))))
    (pss_one (ps_raise rfl (takes_of rfl rfl rfl rfl) (pmk_own0 PySem.F.excBase_Exception T.x_NotAProgram.x T.x_NotAProgram.g T.x_NotAProgram.k (raises_own T.x_NotAProgram.b T.x_NotAProgram.t) (by exact rfl))))
    pss_nil)
    (pss_cons (ps_fld (pv 0) (pe_slice sl_list (pe_fld (pv 0) rfl) po_none (po_some (pe_op op_add (pv 1) pe_int))) rfl)
    (pss_cons (ps_fld (pv 0) (pe_slice sl_list (pe_fld (pv 0) rfl) po_none (po_some (pe_op op_add (pv 1) pe_int))) rfl)
    (pss_cons (ps_expr (pe_bm PySem.F.plainAttrs_list PySem.F.slot_list_append PySem.F.type_list_append mt_append (pe_fld (pv 0) rfl) (pa_cons (pe_fld (pv 2) rfl) pa_nil)))
    (pss_one (ps_fld (pv 0) pe_bl rfl)))))))), ?_⟩
    obtain ⟨H0, A, Y, d, rfl, hI, hd1, hY1, hY2, hY3, hY4, kY, kN⟩ := h
    refine Evl.q_when (b := Y.awaits || decide ((Y.around.length : Int) ≤ (d : Int)))
      (Evl.et_or (Evl.et_B (ev_fld (Evl.ev_var rfl) hI.at_.ob T.cl_BlockBuilder T.n_BlockBuilder_awaits (bF_awaits _ _ _ _ _))) fun _ => Evl.et_test (Evl.ev_op (Evl.ev_var rfl) (ev_lenL (ev_fld (Evl.ev_var rfl) hI.at_.ob T.cl_BlockBuilder T.n_BlockBuilder_around (bF_around _ _ _ _ _)) hI.at_.al (natV_len _)) Evl.rv_I0))
      (fun hc H1 e1 => ?_) (fun hc H1 e1 => ?_)
    · refine kN ?_ H1 e1
      unfold bEls
      rw [if_pos]
      simp only [Bool.or_eq_true, decide_eq_true_eq] at hc
      rcases hc with z | z
      · exact Or.inl z
      · exact Or.inr (by omega)
    · simp only [Bool.or_eq_false_iff, decide_eq_false_iff_not] at hc
      have c1 : ¬ (Y.awaits = true ∨ Y.around.length ≤ d) := by
        rintro (z | z)
        · rw [hc.1] at z; cases z
        · exact hc.2 (by omega)
      have dl : d < Y.around.length := by have := hc.2; omega
      have I1 := hI.mono e1
      have gd : Y.around[d]? = some (Y.around.getD d 0) := by rw [List.getD_eq_getElem?_getD, List.getElem?_eq_getElem dl]; rfl
      generalize hn : Y.around.getD d 0 = n at gd
      have nl : n < Y.stms.length := hY4 n (List.mem_of_getElem? gd)
      obtain ⟨r, s, g1, g2, g3⟩ := I1.at_.rs_at nl
      refine Evl.q_asg (v := .ref r.o) (Evl.ev_op (ev_fld (Evl.ev_var rfl) I1.at_.ob T.cl_BlockBuilder T.n_BlockBuilder_statements (bF_statements _ _ _ _ _)) (Evl.ev_op (z := .int (n : Int)) (ev_fld (Evl.ev_var rfl) I1.at_.ob T.cl_BlockBuilder T.n_BlockBuilder_around (bF_around _ _ _ _ _)) (Evl.ev_var rfl) (Evl.rv_ixL (Evl.sq_of I1.at_.al) (atI_nat ?_))) (Evl.rv_ixL (Evl.sq_of I1.at_.sl) (atI_nat ?_))) fun H2 e2 => ?_
      · show (Y.around.map fun (n : Nat) => V.int (n : Int))[d]? = _
        rw [List.getElem?_map, gd]
        rfl
      · rw [List.getElem?_map, g1]
        rfl
      have I2 := I1.mono e2
      have s2 := g3.mono e2
      have eB : bEls Y d = if s.kind ≠ 5 ∨ s.otherwise ≠ [] then none else some ⟨Y.stms, Y.top, Y.around.take (d + 1), Y.fill.take (d + 1) ++ [.els n], true⟩ := by
        unfold bEls
        rw [if_neg c1, hn, g2]
      refine Evl.q_when (b := !decide (V.int (s.kind : Int) = V.int 5) || !s.otherwise.isEmpty)
        (Evl.et_or (Evl.et_test (Evl.ev_op (ev_fld (Evl.ev_var rfl) s2.o T.cl_Statement T.n_Statement_kind (stF_kind _ _)) Evl.ev_c (Evl.rv_ne rfl))) fun _ => Evl.et_test (Evl.ev_opL (xs := []) (ev_fld (Evl.ev_var rfl) s2.o T.cl_Statement T.n_Statement_otherwise (stF_otherwise _ _)) (Evl.el_lst Evl.ea_nil (by decide)) fun q H3 h3 e3 => rv_neD_nil (e3 _ _ s2.ot) h3))
        (fun hb H3 e3 => ?_) (fun hb H3 e3 => ?_)
      · refine kN ?_ H3 ((e1.trans e2).trans e3)
        rw [eB, if_pos]
        simp only [Bool.or_eq_true, Bool.not_eq_true', decide_eq_false_iff_not] at hb
        rcases hb with z | z
        · exact Or.inl fun w => z (by rw [w]; rfl)
        · exact Or.inr fun w => by rw [w] at z; cases z
      · simp only [Bool.or_eq_false_iff, Bool.not_eq_false', decide_eq_true_eq] at hb
        have k5 : s.kind = 5 := by have := V.int.inj hb.1; omega
        have ot : s.otherwise = [] := by simpa using hb.2
        have eB' : bEls Y d = some ⟨Y.stms, Y.top, Y.around.take (d + 1), Y.fill.take (d + 1) ++ [.els n], true⟩ := by
          rw [eB, if_neg]
          rintro (z | z)
          · exact z k5
          · exact z ot
        have I3 := I2.mono e3
        refine q_fldL (xs := natV (Y.around.take (d + 1))) (el_is (Evl.el_sl (ev_fld (Evl.ev_var rfl) I3.at_.ob T.cl_BlockBuilder T.n_BlockBuilder_around (bF_around _ _ _ _ _)) Evl.eo_none (Evl.eo_some (i := ((d + 1 : Nat) : Int)) (Evl.ev_op (Evl.ev_var rfl) Evl.ev_c Evl.rv_I0)) (Evl.sq_of I3.at_.al)) (cutV_take _ _ _)) (Evl.ev_var rfl) I3.at_.ob T.cl_BlockBuilder T.n_BlockBuilder_around (bF_len _ _ _ _ _)
          (fun _ => bF_put_around _ _ _ _ _ _) fun al H4 n4 np4 f4 h4 g4 => ?_
        have I4 := I3.setAround f4 n4 h4 g4
        refine q_fldL (xs := (Y.fill.take (d + 1)).map fun s => V.ref (slotA A s)) (el_is (Evl.el_sl (ev_fld (Evl.ev_var rfl) I4.at_.ob T.cl_BlockBuilder T.n_BlockBuilder_filling (bF_filling _ _ _ _ _)) Evl.eo_none (Evl.eo_some (i := ((d + 1 : Nat) : Int)) (Evl.ev_op (Evl.ev_var rfl) Evl.ev_c Evl.rv_I0)) (Evl.sq_of I4.at_.fl)) (cutV_take _ _ _)) (Evl.ev_var rfl) I4.at_.ob T.cl_BlockBuilder T.n_BlockBuilder_filling (bF_len _ _ _ _ _)
          (fun _ => bF_put_filling _ _ _ _ _ _) fun fl H5 n5 np5 f5 h5 g5 => ?_
        have okT : ∀ s ∈ Y.fill.take (d + 1), slotOk Y.stms.length s := fun s hs => hI.at_.ok s (List.mem_of_mem_take hs)
        have I5 := I4.setFilling (fi := Y.fill.take (d + 1)) f5 n5 h5 g5 okT
        have s5 := I5.at_.st _ _ _ g1 g2
        have slk : slotA { A with al := al, fl := fl } (.els n) = r.ot := by
          show (match A.rs[n]? with | some r => r.ot | none => A.tl) = _
          rw [g1]
        refine Evl.q_app (xs := (Y.fill.take (d + 1)).map fun s => V.ref (slotA { A with al := al, fl := fl } s)) (v := .ref r.ot) I5.at_.fl (ev_fld (Evl.ev_var rfl) I5.at_.ob T.cl_BlockBuilder T.n_BlockBuilder_filling (bF_filling _ _ _ _ _)) (ev_fld (Evl.ev_var rfl) s5.o T.cl_Statement T.n_Statement_otherwise (stF_otherwise _ _)) (by rw [List.length_map, List.length_take]; omega) fun H6 e6 => ?_
        have I6 := I5.appFilling (fi := Y.fill.take (d + 1) ++ [.els n]) (H' := upd H6 fl (.lst (((Y.fill.take (d + 1)).map fun s => V.ref (slotA { A with al := al, fl := fl } s)) ++ [.ref r.ot]))) ((Fr.of e6).put) (by
          rw [upd_same, List.map_append, List.map_cons, List.map_nil, slk]) (fun t ht => by
            rcases List.mem_append.mp ht with q | q
            · exact okT t q
            · have : t = .els n := by simpa using q
              subst this
              exact nl)
        generalize upd H6 fl (.lst (((Y.fill.take (d + 1)).map fun s => V.ref (slotA { A with al := al, fl := fl } s)) ++ [.ref r.ot])) = H7 at I6 ⊢
        refine s_fld (y := .bl true) Evl.ev_c (Evl.ev_var rfl) I6.at_.ob T.cl_BlockBuilder T.n_BlockBuilder_awaits (bF_len _ _ _ _ _) (bF_put_awaits _ _ _ _ _ _) fun H8 f8 h8 => ?_
        exact kY _ eB' _ _ (by rfl) (I6.setAwaits f8 h8)
end VP
set_option Elab.async false
set_option linter.all false
set_option maxRecDepth 100000
set_option maxHeartbeats 4000000
namespace VP
open Vaslca (Text Name Code Atom isName isSmall isDigit isAtom atomText isExpr isCond exprWords condWords linesOf deepOf areStatements isDone isProgram programText programOf linesIn line indent ascii spaced gluedBy decimal Op Rel opText relText)
open VO (Head Item itemOf itemOk itemText itemsOf Frame Z ZInv unwind frameLines zstep zrun zend zparse readItems)
/-! # Signs of a program -/
def inS (b : UInt8) : Bool := signs.contains b
def AllS (t : Text) : Prop := ∀ b ∈ t, inS b = true
theorem small_sign : ∀ n : Fin 256, isSmall (UInt8.ofNat n.val) = true → inS (UInt8.ofNat n.val) = true := by decide +kernel
theorem digit_sign : ∀ n : Fin 256, isDigit (UInt8.ofNat n.val) = true → inS (UInt8.ofNat n.val) = true := by decide +kernel
theorem sign_low : ∀ n : Fin 256, inS (UInt8.ofNat n.val) = true → n.val < 128 := by decide +kernel
theorem u8_back (b : UInt8) : UInt8.ofNat b.toNat = b := by
  apply UInt8.toNat_inj.mp
  rw [UInt8.toNat_ofNat']
  have := b.toNat_lt
  omega
theorem small_inS {b : UInt8} (h : isSmall b = true) : inS b = true := by
  have := small_sign ⟨b.toNat, b.toNat_lt⟩
  simp only [u8_back] at this
  exact this h
theorem digit_inS {b : UInt8} (h : isDigit b = true) : inS b = true := by
  have := digit_sign ⟨b.toNat, b.toNat_lt⟩
  simp only [u8_back] at this
  exact this h
theorem inS_low {b : UInt8} (h : inS b = true) : b.toNat < 128 := by
  have := sign_low ⟨b.toNat, b.toNat_lt⟩
  simp only [u8_back] at this
  exact this h
theorem AllS.app {s t : Text} (h : AllS s) (k : AllS t) : AllS (s ++ t) := fun b hb => by
  rcases List.mem_append.mp hb with q | q
  · exact h b q
  · exact k b q
theorem name_S {v : Name} (h : isName v = true) : AllS v := by
  simp only [isName, Bool.and_eq_true] at h
  have := h.2.2.1
  rw [List.all_eq_true] at this
  exact fun b hb => small_inS (this b hb)
theorem atom_S {x : Atom} (h : isAtom x = true) : AllS (atomText x) := by
  cases x with
  | var v => exact name_S h
  | num n =>
    have h' : n ≤ 99 := of_decide_eq_true h
    obtain ⟨_, d, _, _⟩ := VO.decimal_fact ⟨n, by omega⟩
    rw [List.all_eq_true] at d
    exact fun b hb => digit_inS (d b hb)
theorem op_S (o : Op) : AllS (opText o) := by cases o <;> (unfold AllS; decide +kernel)
theorem rel_S (r : Rel) : AllS (relText r) := by cases r <;> (unfold AllS; decide +kernel)
theorem glued_S : ∀ {ws : List Text}, (∀ w ∈ ws, AllS w) → AllS (gluedBy [32] ws)
  | [], _ => fun b hb => by simp [gluedBy] at hb
  | [w], h => h w (by simp)
  | w :: u :: r, h => (h w (by simp)).app (AllS.app (by unfold AllS; decide +kernel) (glued_S (ws := u :: r) fun x hx => h x (by simp [List.mem_cons.mp hx])))
theorem cond_S {c : Vaslca.Cond} (h : isCond c = true) : ∀ w ∈ condWords c, AllS w := by
  simp only [isCond, Bool.and_eq_true] at h
  intro w hw
  simp [condWords] at hw
  rcases hw with e | e | e
  · rw [e]; exact atom_S h.1
  · rw [e]; exact rel_S _
  · rw [e]; exact (atom_S h.2).app (by unfold AllS; decide +kernel)
theorem expr_S {e : Vaslca.Expr} (h : isExpr e = true) : ∀ w ∈ exprWords e, AllS w := by
  simp only [isExpr, Bool.and_eq_true] at h
  intro w hw
  unfold exprWords at hw
  split at hw
  · simp at hw
    rw [hw]; exact atom_S h.1
  · simp at hw
    rcases hw with e | e | e
    · rw [e]; exact atom_S h.1
    · rw [e]; exact op_S _
    · rw [e]; exact atom_S h.2.1
theorem lit_S (s : String) (h : (ascii s).all inS = true) : AllS (ascii s) := fun b hb => by
  rw [List.all_eq_true] at h
  exact h b hb
theorem head_S {h : Head} (k : h.ok = true) : AllS h.text := by
  refine glued_S fun w hw => ?_
  cases h with
  | set v e =>
    simp only [Head.ok, Bool.and_eq_true] at k
    simp only [Head.words, List.cons_append, List.nil_append, List.mem_cons] at hw
    rcases hw with e | e | e
    · rw [e]; exact name_S k.1
    · rw [e]; exact lit_S _ (by decide +kernel)
    · exact expr_S k.2 w e
  | read v =>
    simp only [Head.words, List.mem_cons, List.not_mem_nil, or_false] at hw
    rcases hw with e | e
    · rw [e]; exact lit_S _ (by decide +kernel)
    · rw [e]; exact name_S k
  | write x =>
    simp only [Head.words, List.mem_cons, List.not_mem_nil, or_false] at hw
    rcases hw with e | e
    · rw [e]; exact lit_S _ (by decide +kernel)
    · rw [e]; exact atom_S k
  | halt =>
    simp only [Head.words, List.mem_cons, List.not_mem_nil, or_false] at hw
    rw [hw]; exact lit_S _ (by decide +kernel)
  | ite c =>
    simp only [Head.words, List.mem_cons] at hw
    rcases hw with e | e
    · rw [e]; exact lit_S _ (by decide +kernel)
    · exact cond_S k w e
  | loop c =>
    simp only [Head.words, List.mem_cons] at hw
    rcases hw with e | e
    · rw [e]; exact lit_S _ (by decide +kernel)
    · exact cond_S k w e
theorem item_S {x : Item} (h : itemOk x = true) : AllS (line (itemText x)) := by
  refine AllS.app (AllS.app (fun b hb => ?_) ?_) (by unfold AllS; decide +kernel)
  · unfold indent at hb
    rw [List.mem_replicate] at hb
    rw [hb.2]; decide +kernel
  · obtain ⟨d, o⟩ := x
    cases o with
    | none => exact lit_S _ (by decide +kernel)
    | some k => exact head_S h
theorem program_S {t : Text} {c : Code} (h : programOf t = some c) : t.all signs.contains = true := by
  obtain ⟨h1, h2⟩ := VO.programOf_some h
  have ok := VO.items_ok c 0 (VO.isProgram_iff.mp h1).1
  rw [← h2, VO.programText_items, List.all_eq_true]
  intro b hb
  obtain ⟨x, hx, hb⟩ := List.mem_flatMap.mp hb
  exact item_S (ok x hx) b hb
/-! # the machine, row by row -/
def rowsFrom : Z → List Text → Option Z
  | z, [] => some z
  | z, t :: r => (itemOf t).bind fun x => (zstep z x).bind fun y => rowsFrom y r
theorem rowsFrom_is : ∀ (l : List Text) (z : Z), rowsFrom z l = (readItems l).bind (zrun z)
  | [], _ => rfl
  | t :: r, z => by
    show ((itemOf t).bind fun x => (zstep z x).bind fun y => rowsFrom y r) = ((itemOf t).bind fun x => (readItems r).map (x :: ·)).bind (zrun z)
    cases itemOf t with
    | none => rfl
    | some x =>
      show (zstep z x).bind (fun y => rowsFrom y r) = ((readItems r).map (x :: ·)).bind (zrun z)
      cases h : readItems r with
      | none =>
        cases zstep z x with
        | none => rfl
        | some y =>
          show rowsFrom y r = none
          rw [rowsFrom_is r y, h]
          rfl
      | some l =>
        show _ = (zstep z x).bind fun y => zrun y l
        cases zstep z x with
        | none => rfl
        | some y =>
          show rowsFrom y r = zrun y l
          rw [rowsFrom_is r y, h]
          rfl
theorem programOf_rows {t : Text} : programOf t = (rowsIn t).bind fun ls => (rowsFrom VO.z0 ls).bind zend := by
  unfold rowsIn
  by_cases h : t.all signs.contains = true
  · rw [if_pos h, VO.programOf_machine]
    congr 1
    funext ls
    rw [rowsFrom_is]
    cases readItems ls <;> rfl
  · rw [if_neg h]
    cases q : programOf t with
    | none => rfl
    | some c => exact absurd (program_S q) h

/-! # what the builder's methods ask -/
theorem add_lines {z : Z} {items : List Item} (h : ZInv z items) : ∀ d, ¬ (z.frames.length < d ∨ (z.awaits = true ∧ d < z.frames.length)) → frameLines (unwind (z.frames.length - d) z.frames z.cur).1 ++ linesOf (unwind (z.frames.length - d) z.frames z.cur).2 = List.range' 0 z.num := by
  intro d q
  have g4 : z.frames.length - d = 0 ∨ z.frames = [] ∨ isDone z.cur = false := by
    rcases Nat.lt_or_ge d z.frames.length with w | w
    · right
      unfold Z.awaits at q
      cases e1 : z.frames with
      | nil => exact Or.inl rfl
      | cons a b =>
        right
        cases e2 : isDone z.cur with
        | false => rfl
        | true =>
          rw [e1] at q
          exact absurd (Or.inr ⟨by simp [e2], by rw [← e1]; exact w⟩) q
    · left; omega
  exact (VO.inv_unwind (z.frames.length - d) _ _ h.inv g4).1.lines
theorem els_lines {z : Z} {items : List Item} (h : ZInv z items) : ∀ d, ¬ (z.awaits = true ∨ z.frames.length ≤ d) → frameLines (unwind (z.frames.length - (d + 1)) z.frames z.cur).1 ++ linesOf (unwind (z.frames.length - (d + 1)) z.frames z.cur).2 = List.range' 0 z.num ∧ isDone (unwind (z.frames.length - (d + 1)) z.frames z.cur).2 = false := by
  intro d q
  have q1 : z.awaits = false := by
    cases w : z.awaits with
    | false => rfl
    | true => exact absurd (Or.inl w) q
  have q2 : d < z.frames.length := by
    rcases Nat.lt_or_ge d z.frames.length with w | w
    · exact w
    · exact absurd (Or.inr w) q
  have q3 : isDone z.cur = false := by
    unfold Z.awaits at q1
    cases e1 : z.frames with
    | nil => rw [e1] at q2; exact absurd q2 (Nat.not_lt_zero _)
    | cons a b =>
      rw [e1] at q1
      simpa using q1
  obtain ⟨v1, v2⟩ := VO.inv_unwind (z.frames.length - (d + 1)) _ _ h.inv (Or.inr (Or.inr q3))
  exact ⟨v1.lines, v2 q3⟩
theorem frames_le : ∀ fs : List Frame, fs.length ≤ (frameLines fs).length
  | [] => Nat.le_refl _
  | f :: fs => by
    have := frames_le fs
    cases f <;> simp [frameLines] <;> omega
theorem around_mem : ∀ fs : List Frame, ∀ n ∈ aroundF fs, n ∈ frameLines fs
  | [], n, h => by simp [aroundF] at h
  | f :: fs, n, h => by
    have ih := around_mem fs n
    simp only [aroundF, List.mem_append, List.mem_cons, List.not_mem_nil, or_false] at h
    cases f <;> simp [frameLines, fnum] at h ⊢ <;> rcases h with q | q <;> simp [ih, q]
theorem top_le : ∀ c : Code, (topLines c).length ≤ (linesOf c).length
  | .done => Nat.le_refl _
  | .set n v e r => by have := top_le r; simp [topLines, linesOf]; omega
  | .read n v r => by have := top_le r; simp [topLines, linesOf]; omega
  | .write n v r => by have := top_le r; simp [topLines, linesOf]; omega
  | .halt_ n r => by have := top_le r; simp [topLines, linesOf]; omega
  | .ite n c p q r => by have := top_le r; simp [topLines, linesOf]; omega
  | .loop n c p r => by have := top_le r; simp [topLines, linesOf]; omega
theorem blocks_le : ∀ (c : Code) (h : List Nat), ∀ s ∈ stmsOf h c, s.block.length ≤ (linesOf c).length ∧ s.otherwise.length ≤ (linesOf c).length
  | .done, _, s, hs => by simp [stmsOf] at hs
  | .set n v e r, h, s, hs => by
    have ih := blocks_le r h s
    simp only [stmsOf, List.mem_cons] at hs
    rcases hs with rfl | hs
    · simp [stmOf, rowStm]
    · have := ih hs; simp [linesOf]; omega
  | .read n v r, h, s, hs => by
    have ih := blocks_le r h s
    simp only [stmsOf, List.mem_cons] at hs
    rcases hs with rfl | hs
    · simp [stmOf, rowStm]
    · have := ih hs; simp [linesOf]; omega
  | .write n v r, h, s, hs => by
    have ih := blocks_le r h s
    simp only [stmsOf, List.mem_cons] at hs
    rcases hs with rfl | hs
    · simp [stmOf, rowStm]
    · have := ih hs; simp [linesOf]; omega
  | .halt_ n r, h, s, hs => by
    have ih := blocks_le r h s
    simp only [stmsOf, List.mem_cons] at hs
    rcases hs with rfl | hs
    · simp [stmOf, rowStm]
    · have := ih hs; simp [linesOf]; omega
  | .ite n c p q r, h, s, hs => by
    have i1 := blocks_le p (h ++ [n]) s
    have i2 := blocks_le q (h ++ [n]) s
    have i3 := blocks_le r h s
    have t1 := top_le p
    have t2 := top_le q
    simp only [stmsOf, List.mem_cons, List.mem_append] at hs
    rcases hs with rfl | hs | hs | hs
    · simp [linesOf]; omega
    · have := i1 hs; simp [linesOf]; omega
    · have := i2 hs; simp [linesOf]; omega
    · have := i3 hs; simp [linesOf]; omega
  | .loop n c p r, h, s, hs => by
    have i1 := blocks_le p (h ++ [n]) s
    have i3 := blocks_le r h s
    have t1 := top_le p
    simp only [stmsOf, List.mem_cons, List.mem_append] at hs
    rcases hs with rfl | hs | hs
    · simp [linesOf, stmOf, rowStm]; omega
    · have := i1 hs; simp [linesOf]; omega
    · have := i3 hs; simp [linesOf]; omega
theorem stmsZ_close (fs : List Frame) (x : Code) : stmsZ fs x = stmsOf [] (VO.close fs x) := by
  have q := stms_unwind fs.length fs x
  rw [VO.unwind_all] at q
  exact q.symm
theorem topZ_close (fs : List Frame) (x : Code) : topZ fs x = topLines (VO.close fs x) := by
  have q := top_unwind fs.length fs x
  rw [VO.unwind_all] at q
  exact q.symm
theorem repr_bounds {z : Z} {items : List Item} (h : ZInv z items) : (reprZ z).stms.length ≤ 14 ∧ (reprZ z).around.length ≤ 14 ∧ (reprZ z).fill.length = (reprZ z).around.length + 1 ∧ (∀ n ∈ (reprZ z).around, n < (reprZ z).stms.length) ∧
    ∀ s, (contS (reprZ z) s).length ≤ 14 := by
  have hl := h.inv.lines
  have e1 : (reprZ z).stms.length = z.num := stmsZ_len hl
  have hn := h.num
  have len : (frameLines z.frames).length + (linesOf z.cur).length = z.num := by
    have := congrArg List.length hl
    simpa using this
  refine ⟨by omega, ?_, ?_, fun n hn => ?_, fun s => ?_⟩
  · show (aroundF z.frames).length ≤ 14
    rw [around_len]
    have := frames_le z.frames
    omega
  · show (fillF z.frames).length = (aroundF z.frames).length + 1
    rw [fill_len, around_len]
  · have m := around_mem z.frames n hn
    have : n ∈ List.range' 0 z.num := by rw [← hl]; exact List.mem_append_left _ m
    rw [List.mem_range'_1] at this
    omega
  · have ec : (stmsOf [] (VO.close z.frames z.cur)).length = (linesOf (VO.close z.frames z.cur)).length := stms_len _ _
    have ez : (linesOf (VO.close z.frames z.cur)).length = z.num := by rw [← ec, ← stmsZ_close]; exact e1
    cases s with
    | top =>
      show (topZ z.frames z.cur).length ≤ 14
      rw [topZ_close]
      have := top_le (VO.close z.frames z.cur)
      omega
    | blk n =>
      show (match (stmsZ z.frames z.cur)[n]? with | some s => s.block | none => []).length ≤ 14
      rw [stmsZ_close]
      cases q : (stmsOf [] (VO.close z.frames z.cur))[n]? with
      | none => simp
      | some s =>
        have := (blocks_le _ _ s (List.mem_of_getElem? q)).1
        show s.block.length ≤ 14
        omega
    | els n =>
      show (match (stmsZ z.frames z.cur)[n]? with | some s => s.otherwise | none => []).length ≤ 14
      rw [stmsZ_close]
      cases q : (stmsOf [] (VO.close z.frames z.cur))[n]? with
      | none => simp
      | some s =>
        have := (blocks_le _ _ s (List.mem_of_getElem? q)).2
        show s.otherwise.length ≤ 14
        omega
end VP
set_option Elab.async false
set_option linter.all false
set_option maxRecDepth 100000
set_option maxHeartbeats 4000000
namespace VP
open PySem PySem.Spec PyProof.Rows L2 TL
open Vaslca (Text Name cutAt gluedBy ascii isName isSmall isDigit numberOf decimal atomOf Atom atomText isAtom linesIn programOf linesOf isDone)
open VO (Head headOf Item itemOf Z ZInv zstep zend)
open Evl (Ex Ev EvT EvA EvL EvU)
variable {P : Program} {w : World} {K : PySem.W.Frag} {mg : Str → Option Value} {base : Heap} {a : Ad}

/-! # rows of statements -/
def isRow (t : Text) : Bool := !(t.drop (VO.blanks t) == ascii "else:")
def wordsS (s : Stm) : List Text := if s.kind = 1 then s.sets :: ascii "=" :: (match s.atoms with
    | [x, y] => [x, s.sign, y]
    | l => l)
  else if s.kind = 2 then [ascii "read", s.sets] else if s.kind = 3 then ascii "write" :: s.atoms else if s.kind = 4 then [ascii "stop"]
  else (if s.kind = 5 then ascii "if" else ascii "while") :: (match s.atoms with
    | [x, y] => [x, s.sign, y ++ [58]]
    | l => l)
theorem wordsS_of (h : Head) : wordsS (stmOf h) = h.words := by
  cases h with
  | set v e =>
    show v :: ascii "=" :: (match exprAtoms e with
      | [x, y] => [x, Vaslca.opText e.op, y]
      | l => l) = [v, ascii "="] ++ Vaslca.exprWords e
    unfold exprAtoms Vaslca.exprWords
    by_cases q : e.op = .alone
    · rw [if_pos q, if_pos q]; rfl
    · rw [if_neg q, if_neg q]; rfl
  | _ => rfl
def rowTx (s : Stm) : Text := Vaslca.indent s.headers.length ++ Vaslca.spaced (wordsS s)
theorem wordsS_eq {s u : Stm} (h1 : s.kind = u.kind) (h2 : s.sets = u.sets) (h3 : s.atoms = u.atoms) (h4 : s.sign = u.sign) : wordsS s = wordsS u := by
  unfold wordsS
  rw [h1, h2, h3, h4]
theorem rowTx_of {h : Head} {s : Stm} (h1 : s.kind = (stmOf h).kind) (h2 : s.sets = (stmOf h).sets) (h3 : s.atoms = (stmOf h).atoms) (h4 : s.sign = (stmOf h).sign) : rowTx s = VO.itemText (s.headers.length, some h) := by
  unfold rowTx
  rw [wordsS_eq h1 h2 h3 h4, wordsS_of]
  rfl
theorem rows_stms : ∀ (c : Vaslca.Code) (h : List Nat), ((VO.itemsOf h.length c).filter fun x => x.2.isSome).map VO.itemText = (stmsOf h c).map rowTx
  | .done, _ => rfl
  | .set n v e r, h => by
    have ih := rows_stms r h
    simp only [VO.itemsOf, stmsOf, List.map_cons, List.filter_cons, Option.isSome_some, if_true, ih]
    congr 1
    exact (rowTx_of (h := Head.set v e) (s := { stmOf (Head.set v e) with headers := h }) rfl rfl rfl rfl).symm
  | .read n v r, h => by
    have ih := rows_stms r h
    simp only [VO.itemsOf, stmsOf, List.map_cons, List.filter_cons, Option.isSome_some, if_true, ih]
    congr 1
  | .write n t r, h => by
    have ih := rows_stms r h
    simp only [VO.itemsOf, stmsOf, List.map_cons, List.filter_cons, Option.isSome_some, if_true, ih]
    congr 1
  | .halt_ n r, h => by
    have ih := rows_stms r h
    simp only [VO.itemsOf, stmsOf, List.map_cons, List.filter_cons, Option.isSome_some, if_true, ih]
    congr 1
  | .ite n c p q r, h => by
    have i1 := rows_stms p (h ++ [n])
    have i2 := rows_stms q (h ++ [n])
    have i3 := rows_stms r h
    rw [List.length_append, List.length_singleton] at i1 i2
    have e2 : ((if Vaslca.isDone q = true then [] else (h.length, none) :: VO.itemsOf (h.length + 1) q).filter fun x => x.2.isSome).map VO.itemText = (stmsOf (h ++ [n]) q).map rowTx := by
      by_cases d : Vaslca.isDone q = true
      · rw [if_pos d, VO.isDone_iff.mp d]
        rfl
      · rw [if_neg d, List.filter_cons, if_neg (by simp), i2]
    simp only [VO.itemsOf, stmsOf, List.map_cons, List.filter_cons, Option.isSome_some, if_true, List.filter_append, List.map_append, i1, e2, i3]
    congr 1
  | .loop n c p r, h => by
    have i1 := rows_stms p (h ++ [n])
    have i3 := rows_stms r h
    rw [List.length_append, List.length_singleton] at i1
    simp only [VO.itemsOf, stmsOf, List.map_cons, List.filter_cons, Option.isSome_some, if_true, List.filter_append, List.map_append, i1, i3]
    congr 1
theorem row_item {x : Item} (h : VO.itemOk x = true) : isRow (VO.itemText x) = x.2.isSome := by
  obtain ⟨_, e⟩ := VO.itemText_blanks h
  unfold isRow
  rw [e]
  obtain ⟨d, o⟩ := x
  cases o with
  | none =>
    show (!(ascii "else:" == ascii "else:")) = false
    decide
  | some k =>
    show (!(k.text == ascii "else:")) = true
    have : (k.text == ascii "else:") = false := by
      rw [beq_eq_false_iff_ne]
      intro z
      have w := VO.headOf_text (h := k) h
      rw [z, VO.else_no_head] at w
      cases w
    rw [this]
    rfl
theorem rows_program {t : Text} {c : Vaslca.Code} {ls : List Text} (h : programOf t = some c) (hl : rowsIn t = some ls) : ls.filter isRow = (stmsOf [] c).map rowTx := by
  obtain ⟨h1, h2⟩ := VO.programOf_some h
  have ok := VO.items_ok c 0 (VO.isProgram_iff.mp h1).1
  have el : ls = (VO.itemsOf 0 c).map VO.itemText := by
    unfold rowsIn at hl
    rw [if_pos (program_S h)] at hl
    have e : t = ((VO.itemsOf 0 c).map VO.itemText).flatMap Vaslca.line := by rw [← h2, VO.programText_items, List.flatMap_map]
    have e2 : linesIn t = some ((VO.itemsOf 0 c).map VO.itemText) := by
      rw [e]
      exact VO.linesIn_of fun w hw => by
        obtain ⟨x, hx, rfl⟩ := List.mem_map.mp hw
        exact VO.text_no_end (ok x hx)
    rw [e2] at hl
    exact (Option.some.inj hl).symm
  rw [el, List.filter_map, ← rows_stms c []]
  congr 1
  exact List.filter_congr fun x hx => row_item (ok x hx)
theorem take_row {ls : List Text} {i : Nat} {t : Text} (h : ls[i]? = some t) : (ls.take (i + 1)).filter isRow = (ls.take i).filter isRow ++ (if isRow t = true then [t] else []) := by
  rw [List.take_add_one, h, List.filter_append]
  congr 1
  show List.filter isRow [t] = _
  by_cases q : isRow t = true <;> simp [q]

/-! # A program in the heap -/
structure PA where
  p : Addr
  dx : Addr
  tx : Addr
  rw : Addr
  sl : Addr
  tl : Addr
  rs : List SA
def pF (tx rw sl tl : Addr) : List (Str × V) := [("text", .ref tx), ("rows", .ref rw), ("statements", .ref sl), ("top", .ref tl)]
section
variable (tx rw sl tl : Addr)
theorem pF_text : (pF tx rw sl tl).lookup ("text" : Str) = some (.ref tx) := by kernel_rfl
theorem pF_rows : (pF tx rw sl tl).lookup ("rows" : Str) = some (.ref rw) := by kernel_rfl
theorem pF_statements : (pF tx rw sl tl).lookup ("statements" : Str) = some (.ref sl) := by kernel_rfl
theorem pF_top : (pF tx rw sl tl).lookup ("top" : Str) = some (.ref tl) := by kernel_rfl
theorem pF_depth : (pF tx rw sl tl).lookup ("depth" : Str) = none := by kernel_rfl
theorem pF_no1 : (pF tx rw sl tl).lookup ("all_lines" : Str) = none := by kernel_rfl
theorem pF_no2 : (pF tx rw sl tl).lookup ("text_alone" : Str) = none := by kernel_rfl
theorem pF_no3 : (pF tx rw sl tl).lookup ("rows_alone" : Str) = none := by kernel_rfl
end
structure PAt (a : Ad) (H : Hp) (R : PA) (t : Text) (c : Vaslca.Code) : Prop where
  ob : H R.p = some (.ins a.C_Program R.dx (pF R.tx R.rw R.sl R.tl))
  tx : H R.tx = some (.lst (bytV t))
  rw : H R.rw = some (.lst (wdV ((stmsOf [] c).map rowTx)))
  sl : H R.sl = some (.lst (R.rs.map fun r => V.ref r.o))
  tl : H R.tl = some (.lst (natV (topLines c)))
  len : R.rs.length = (linesOf c).length
  st : ∀ (i : Nat) (r : SA) (s : Stm), R.rs[i]? = some r → (stmsOf [] c)[i]? = some s → StmAt a H r s
theorem PAt.mono {H H' : Hp} {R : PA} {t : Text} {c : Vaslca.Code} (h : PAt a H R t c) (e : Ex H H') : PAt a H' R t c :=
  ⟨e _ _ h.ob, e _ _ h.tx, e _ _ h.rw, e _ _ h.sl, e _ _ h.tl, h.len, fun i r s hr hs => (h.st i r s hr hs).mono e⟩

def InP (R : PA) (x : Addr) : Prop := x ∈ [R.p, R.tx, R.rw, R.sl, R.tl] ∨ ∃ r ∈ R.rs, x ∈ r.all
theorem PAt.at_ {H : Hp} {R : PA} {t : Text} {c : Vaslca.Code} (h : PAt a H R t c) {r : SA} (hr : r ∈ R.rs) : ∃ s, StmAt a H r s := by
  obtain ⟨i, lt, rfl⟩ := List.getElem_of_mem hr
  have l2 : i < (stmsOf [] c).length := by rw [stms_len, ← h.len]; exact lt
  exact ⟨_, h.st i _ _ (List.getElem?_eq_getElem lt) (List.getElem?_eq_getElem l2)⟩
theorem PAt.foot {H : Hp} {R : PA} {t : Text} {c : Vaslca.Code} (h : PAt a H R t c) {x : Addr} (hx : InP R x) : ∃ o, H x = some o := by
  rcases hx with hx | ⟨r, hr, hx⟩
  · simp only [List.mem_cons, List.not_mem_nil, or_false] at hx
    rcases hx with rfl | rfl | rfl | rfl | rfl
    · exact ⟨_, h.ob⟩
    · exact ⟨_, h.tx⟩
    · exact ⟨_, h.rw⟩
    · exact ⟨_, h.sl⟩
    · exact ⟨_, h.tl⟩
  · obtain ⟨s, hs⟩ := h.at_ hr
    exact hs.some_all x hx
theorem PAt.keep {H H' : Hp} {R : PA} {t : Text} {c : Vaslca.Code} {q : Addr} (h : PAt a H R t c) (f : Fr q H H') (n : ¬ InP R q) : PAt a H' R t c := by
  have ne : ∀ x, InP R x → x ≠ q := fun x hx e => n (e ▸ hx)
  refine ⟨f _ _ h.ob (ne _ (Or.inl (by simp))), f _ _ h.tx (ne _ (Or.inl (by simp))), f _ _ h.rw (ne _ (Or.inl (by simp))), f _ _ h.sl (ne _ (Or.inl (by simp))), f _ _ h.tl (ne _ (Or.inl (by simp))), h.len, fun i r s hr hs => ?_⟩
  have w := h.st i r s hr hs
  have mem : r ∈ R.rs := List.mem_of_getElem? hr
  have ne2 : ∀ x ∈ r.all, x ≠ q := fun x hx => ne x (Or.inr ⟨r, mem, hx⟩)
  exact ⟨f _ _ w.o (ne2 _ (by simp [SA.all])), f _ _ w.at_ (ne2 _ (by simp [SA.all])), f _ _ w.nm (ne2 _ (by simp [SA.all])), f _ _ w.hd (ne2 _ (by simp [SA.all])), f _ _ w.bl (ne2 _ (by simp [SA.all])), f _ _ w.ot (ne2 _ (by simp [SA.all]))⟩

def sp_Program_init (a : Ad) : Sp := fun vs H Q _ => ∃ (p dx tx rw sl tl : Addr), vs = [.ref p, .ref tx, .ref rw, .ref sl, .ref tl] ∧ H p = some (.ins a.C_Program dx []) ∧ ∀ H', Fr p H H' → H' p = some (.ins a.C_Program dx (pF tx rw sl tl)) → Q .non H'
theorem ok_Program_init (T : Facts K mg a) : FnOk P w K mg base CX0 1 a.f_Program_init a.d_Program_init ["self", "text", "rows", "statements", "top"] (sp_Program_init a) := by
  refine T.F_Program_init.ok sc_Program_init (fun vs H Q E h => ?_) (fun cdv A outer s H vs Q E hr h => ?_)
  · obtain ⟨p, dx, tx, rw, sl, tl, rfl, _⟩ := h
    rfl
  · refine ⟨_, (pss_cons (ps_fld (pv 0) (pv 1) rfl)
    (pss_cons (ps_fld (pv 0) (pv 2) rfl)
    (pss_cons (ps_fld (pv 0) (pv 3) rfl)
    (pss_one (ps_fld (pv 0) (pv 4) rfl))))), ?_⟩
    obtain ⟨p, dx, tx, rw, sl, tl, rfl, hp, q⟩ := h
    refine q_fld (Evl.ev_var rfl) (Evl.ev_var rfl) hp T.cl_Program T.n_Program_text (by simp) (fs' := [("text", .ref tx)]) (by kernel_rfl) fun H1 f1 h1 => ?_
    refine q_fld (Evl.ev_var rfl) (Evl.ev_var rfl) h1 T.cl_Program T.n_Program_rows (by simp) (fs' := [("text", .ref tx), ("rows", .ref rw)]) (by kernel_rfl) fun H2 f2 h2 => ?_
    refine q_fld (Evl.ev_var rfl) (Evl.ev_var rfl) h2 T.cl_Program T.n_Program_statements (by simp) (fs' := [("text", .ref tx), ("rows", .ref rw), ("statements", .ref sl)]) (by kernel_rfl) fun H3 f3 h3 => ?_
    refine s_fld (Evl.ev_var rfl) (Evl.ev_var rfl) h3 T.cl_Program T.n_Program_top (by simp) (fs' := pF tx rw sl tl) (by kernel_rfl) fun H4 f4 h4 => ?_
    exact q H4 (((f1.trans f2).trans f3).trans f4) h4

theorem BI.rebase {H0 H : Hp} {A : BA} {Y : B} {q : Addr} {o : HO} (h : BI a H0 H A Y) (hq : H q = some o) (n : ¬ InFoot A q) : BI a (upd H0 q o) H A Y := by
  refine ⟨fun b u hb => ?_, fun x hx => ?_, h.at_⟩
  · by_cases e : b = q
    · subst e
      rw [upd_same] at hb
      rw [hq, hb]
    · rw [upd_ne e] at hb
      exact h.ex b u hb
  · have e : x ≠ q := fun e => n (e ▸ hx)
    rw [upd_ne e]
    exact h.fr x hx
theorem BAt.off {H H' : Hp} {A : BA} {Y : B} {q : Addr} (h : BAt a H A Y) (f : Fr q H H') (n : ¬ InFoot A q) : BAt a H' A Y := by
  have ne : ∀ x, InFoot A x → x ≠ q := fun x hx e => n (e ▸ hx)
  exact ⟨f _ _ h.ob (ne _ (foot_b A)), f _ _ h.sl (ne _ (foot_sl A)), f _ _ h.tl (ne _ (foot_tl A)), f _ _ h.al (ne _ (foot_al A)), f _ _ h.fl (ne _ (foot_fl A)), h.len,
    fun i r s hr hs => (h.st i r s hr hs).keep f fun hm => ne q (Or.inr ⟨r, List.mem_of_getElem? hr, hm⟩) rfl, h.ok, h.nd, h.out, h.each, h.apart⟩
/-- a list that stood before is changed -/
theorem BI.put {H0 H : Hp} {A : BA} {Y : B} {q : Addr} {o o' : HO} (h : BI a (upd H0 q o) H A Y) : BI a (upd H0 q o') (upd H q o') A Y := by
  have n : ¬ InFoot A q := fun z => by
    have := h.fr q z
    rw [upd_same] at this
    cases this
  refine ⟨fun b u hb => ?_, fun x hx => ?_, h.at_.off (fun b u hb hne => by rw [upd_ne hne]; exact hb) n⟩
  · by_cases e : b = q
    · subst e
      rw [upd_same] at hb ⊢
      exact hb
    · rw [upd_ne e] at hb ⊢
      exact h.ex b u (by rw [upd_ne e]; exact hb)
  · have e : x ≠ q := fun e => n (e ▸ hx)
    have := h.fr x hx
    rw [upd_ne e] at this ⊢
    exact this
theorem lit_else : (("else:" : Str)) = S (ascii "else:") := by decide +kernel
theorem ev_lstrip {σ : L2.St} {H : Hp} {to te : TE} {t : Text} (h : Ev to σ H (.str (S t))) (h2 : Ev te σ H (.str (S [32]))) (hz : t.length ≤ 5000) :
    Ev (tM1 (fun x xs H Q => ∃ a b, x = .str a ∧ xs = [.str b] ∧ a.length ≤ sizeLine ∧ Q (.str (Txt.lstripChars a b)) H) to te) σ H (.str (S (t.drop (VO.blanks t)))) :=
  fun H1 e Q q => h H1 e _ fun H2 e2 => ⟨⟨_, rfl⟩, h2 H2 (e.trans e2) _ fun H3 e3 => ⟨_, _, rfl, rfl, by rw [len_S]; exact Evl.sz_of (by omega), by rw [lstrip_S]; exact q H3 (e2.trans e3)⟩⟩
theorem blanks_le (t : Text) : VO.blanks t ≤ t.length := by
  unfold VO.blanks
  exact (List.takeWhile_sublist _).length_le
theorem word_drop' {t : Text} (n : Nat) (h : Word t) : Word (t.drop n) := ⟨fun b hb => h.1 b (List.mem_of_mem_drop hb), by have := h.2; simp; omega⟩
theorem rows_words {t : Text} {ls : List Text} (hz : t.length ≤ 1000) (h : rowsIn t = some ls) : (∀ x ∈ ls, Word x) ∧ ls.length ≤ 1000 := by
  unfold rowsIn at h
  split at h
  · rename_i hs
    obtain ⟨e, _⟩ := VO.linesIn_some h
    rw [List.all_eq_true] at hs
    have lens : ∀ l : List Text, l.length ≤ (l.flatMap Vaslca.line).length ∧ ∀ x ∈ l, x.length ≤ (l.flatMap Vaslca.line).length := by
      intro l
      induction l with
      | nil => simp
      | cons y r ih =>
        simp only [List.flatMap_cons, List.length_append, List.length_cons, Vaslca.line, List.length_nil]
        refine ⟨by have := ih.1; omega, fun x hx => ?_⟩
        rcases List.mem_cons.mp hx with rfl | q
        · omega
        · have := ih.2 x q; omega
    have l2 := lens ls
    rw [← e] at l2
    refine ⟨fun x hx => ⟨fun b hb => ?_, by have := l2.2 x hx; omega⟩, by have := l2.1; omega⟩
    refine inS_low (hs b ?_)
    rw [e]
    exact List.mem_flatMap.mpr ⟨x, hx, List.mem_append_left _ hb⟩
  · cases h

def RetP (a : Ad) (t : Text) (c : Vaslca.Code) (H : Hp) (Q : VK) : Prop := ∀ (R : PA) (H' : Hp), Ex H H' → PAt a H' R t c → (∀ x, InP R x → H x = none) → Q (.ref R.p) H'
def sp_read_program (a : Ad) : Sp := fun vs H Q E => ∃ (l : Addr) (t : Text), vs = [.ref l] ∧ H l = some (.lst (bytV t)) ∧ t.length ≤ 1000 ∧
  (∀ c, programOf t = some c → RetP a t c H Q) ∧ (programOf t = none → ∀ H', Ex H H' → E (.ref a.C_NotAProgram) none H')
theorem ok_read_program (T : Facts K mg a) : FnOk P w K mg base (L2.CX P w) 7 a.f_read_program a.d_read_program ["text"] (sp_read_program a) := by
  refine T.F_read_program.okX sc_read_program (fun vs H Q E h => ?_) (fun cdv A outer s H vs Q E hr h => ?_)
  · obtain ⟨l, t, rfl, _⟩ := h
    rfl
  · refine ⟨_, (pss_cons (ps_set (i := 1) sc_read_program.nd rfl (Or.inl rfl) (pe_make0 T.K_BlockBuilder (ok_BlockBuilder_init T) (hr.mono (by decide)) rfl T.g_BlockBuilder T.B_BlockBuilder_init .nil pass0))
    (pss_cons (ps_set (i := 2) sc_read_program.nd rfl (Or.inl rfl) (pe_lst pa_nil))
    (pss_cons (ps_for (passes_of rfl) rfl (pi_list (pe_call (ok_rows_of T) (hr.mono (by decide)) rfl T.g_rows_of T.F_rows_of.kp T.B_rows_of .nil (passes_call (takes_of rfl rfl rfl rfl) (fun _ _ _ _ h => h)) (pa_cons (pv 0) pa_nil))) (pg_name (i := 3) sc_read_program.nd rfl (Or.inl rfl))
    (pss_cons (ps_set (i := 4) sc_read_program.nd rfl (Or.inl rfl) (pe_m1 PySem.F.slot_str_lstrip PySem.F.type_str_lstrip mt_lstripChars (pv 3) pe_str))
    (pss_cons (ps_set (i := 5) sc_read_program.nd rfl (Or.inl rfl) (pe_op op_sub (pe_callB call_len_str (by rfl) T.b_len (by decide +kernel) (pa_cons (pv 3) pa_nil)) (pe_callB call_len_str (by rfl) T.b_len (by decide +kernel) (pa_cons (pv 4) pa_nil))))
    (pss_cons (ps_if (pt_cmpR op_eq (pe_op op_mod (pv 5) pe_int) pe_int (nomark _))
    (pss_one (ps_raise rfl (takes_of rfl rfl rfl rfl) (pmk_own0 PySem.F.excBase_Exception T.x_NotAProgram.x T.x_NotAProgram.g T.x_NotAProgram.k (raises_own T.x_NotAProgram.b T.x_NotAProgram.t) (by exact rfl))))
    pss_nil)
    (pss_one (ps_if (pt_cmpR op_eq (pv 4) (pe_gs rfl T.c_ELSE.choose_spec) (nomark _))
    (pss_one (ps_expr (pe_meth (pv 1) T.cl_BlockBuilder T.M_BlockBuilder_add_else (ok_BlockBuilder_add_else T) (hr.mono (by decide)) T.B_BlockBuilder_add_else .nil (passes_call (takes_of rfl rfl rfl rfl) (fun _ _ _ _ h => h)) (pa_cons (pe_op op_fdiv (pv 5) pe_int) pa_nil))))
    (pss_cons (ps_expr (pe_meth (pv 1) T.cl_BlockBuilder T.M_BlockBuilder_add_statement (ok_BlockBuilder_add_statement T) (hr.mono (by decide)) T.B_BlockBuilder_add_statement .nil (passes_call (takes_of rfl rfl rfl rfl) (fun _ _ _ _ h => h)) (pa_cons (pe_op op_fdiv (pv 5) pe_int) (pa_cons (pe_call (ok_read_statement T) (hr.mono (by decide)) rfl T.g_read_statement T.F_read_statement.kp T.B_read_statement .nil (passes_call (takes_of rfl rfl rfl rfl) (fun _ _ _ _ h => h)) (pa_cons (pv 4) pa_nil)) pa_nil))))
    (pss_one (ps_expr (pe_bm PySem.F.plainAttrs_list PySem.F.slot_list_append PySem.F.type_list_append mt_append (pv 2) (pa_cons (pv 3) pa_nil)))))))))))
    (pss_cons (ps_if (pt_val (pe_fld (pv 1) rfl))
    (pss_one (ps_raise rfl (takes_of rfl rfl rfl rfl) (pmk_own0 PySem.F.excBase_Exception T.x_NotAProgram.x T.x_NotAProgram.g T.x_NotAProgram.k (raises_own T.x_NotAProgram.b T.x_NotAProgram.t) (by exact rfl))))
    pss_nil)
    (pss_one (ps_ret (pe_make T.K_Program (ok_Program_init T) (hr.mono (by decide)) rfl T.g_Program T.B_Program_init .nil pass0 (pa_cons (pe_callTy call_list_of (by rfl) T.b_list (by decide +kernel) (pa_cons (pv 0) pa_nil)) (pa_cons (pv 2) (pa_cons (pe_fld (pv 1) rfl) (pa_cons (pe_fld (pv 1) rfl) pa_nil))))))))))), ?_⟩
    obtain ⟨l, t, rfl, hl, hz, kY, kN⟩ := h
    rw [programOf_rows] at kY kN
    intro x dx nx nd ne
    refine ⟨x, dx, rfl, upd_same, fun A H1 ab adx afr ars fr bat => ⟨rfl, ?_⟩⟩
    subst ab
    have e1 : Ex H H1 := fun b o hb => by
      have bx := ne_some hb nx
      have bd := ne_some hb nd
      exact fr b o (by rw [upd_ne bx, upd_ne bd]; exact hb) bx
    have back : ∀ y, (upd (upd H dx (.own A.b)) A.b (.ins a.C_BlockBuilder dx [])) y = none → H y = none := by
      intro y hy
      have yx : y ≠ A.b := by
        rintro rfl
        rw [upd_same] at hy
        cases hy
      rw [upd_ne yx] at hy
      have yd : y ≠ dx := by
        rintro rfl
        rw [upd_same] at hy
        cases hy
      rw [upd_ne yd] at hy
      exact hy
    have I1 : BI a H H1 A (reprZ VO.z0) := by
      refine ⟨e1, fun y hy => ?_, bat⟩
      rcases hy with hy | ⟨r, hr, _⟩
      · simp only [five, List.mem_cons, List.not_mem_nil, or_false] at hy
        rcases hy with rfl | rfl | rfl | rfl | rfl
        · exact nx
        · exact back _ (afr _ (by simp))
        · exact back _ (afr _ (by simp))
        · exact back _ (afr _ (by simp))
        · exact back _ (afr _ (by simp))
      · rw [ars] at hr
        simp at hr
    refine Evl.q_asgL (xs := []) (Evl.el_lst Evl.ea_nil (by decide)) fun ra H1b nra e1b hra => ?_
    have nraf : ¬ InFoot A ra := I1.at_.new nra
    have nra0 : H ra = none := Evl.fresh_back e1 nra
    have I1 := I1.mono e1b
    have e1 := e1.trans e1b
    refine ⟨_, rfl, l, t, rfl, e1 l _ hl, hz, fun ls hls q H2 nq e2 hq => ⟨q, rfl, ⟨_, Evl.sq_of hq⟩, ?_⟩, fun hn H2 e2 => kN (by rw [hn]; rfl) H2 (e1.trans e2)⟩
    have hprog : programOf t = (rowsFrom VO.z0 ls).bind zend := by rw [programOf_rows, hls]; rfl
    rw [hls] at kY kN
    obtain ⟨hw, hwl⟩ := rows_words hz hls
    have nqf : ¬ InFoot A q := I1.at_.new nq
    have nqra : q ≠ ra := by
      rintro rfl
      rw [hra] at nq
      cases nq
    have nq0 : H q = none := Evl.fresh_back e1 nq
    have I2 := ((I1.mono e2).rebase hq nqf).rebase (e2 _ _ hra) nraf
    have hl0 : H l = some (.lst (bytV t)) := hl
    refine for_list (K := K) (a := q) (xs := wdV ls) (fun i σ' H' => ∃ (A' : BA) (z : Z) (items : List Item) (v2 v3 v4 : Option V), σ' = [some (.ref l), some (.ref A.b), some (.ref ra), v2, v3, v4] ∧ A'.b = A.b ∧ ZInv z items ∧ rowsFrom VO.z0 ls = rowsFrom z (ls.drop i) ∧ BI a (upd (upd H q (.lst (wdV ls))) ra (.lst (wdV ((ls.take i).filter isRow)))) H' A' (reprZ z))
      ⟨A, VO.z0, [], _, _, _, rfl, rfl, VO.zinv0, by rw [List.drop_zero], I2⟩ (fun i σ' H' _ ⟨_, _, _, _, _, _, _, _, _, _, I⟩ => Evl.sq_of (I.ex q _ (by rw [upd_ne nqra]; exact upd_same))) (fun i x σ' H' hi ⟨A', z, items, v2, v3, v4, es, eb, hzi, hrun, I⟩ => ?_) (fun σ' H' ⟨A', z, items, v2, v3, v4, es, eb, hzi, hrun, I⟩ => ?_)
    · subst es
      obtain ⟨row, hrow, rfl⟩ := wdV_at hi
      have mrow : row ∈ ls := List.mem_of_getElem? hrow
      have wrow := hw row mrow
      have edrop : ls.drop i = row :: ls.drop (i + 1) := by
        obtain ⟨lt, e⟩ := List.getElem?_eq_some_iff.mp hrow
        rw [List.drop_eq_getElem_cons lt, e]
      rw [edrop] at hrun
      have hrun' : rowsFrom VO.z0 ls = (itemOf row).bind fun x => (zstep z x).bind fun y => rowsFrom y (ls.drop (i + 1)) := hrun
      have wbare := word_drop' (VO.blanks row) wrow
      have hbl := blanks_le row
      have exl : Ex H H' := fun b o hb => I.ex b o (by rw [upd_ne (ne_some hb nra0), upd_ne (ne_some hb nq0)]; exact hb)
      refine Evl.q_asg (v := .str (S (row.drop (VO.blanks row)))) (ev_lstrip (Evl.ev_var rfl) (Evl.ev_is Evl.ev_c (by rw [lit_blank])) (by have := wrow.2; omega)) fun H3 e3 => ?_
      have I3 := I.mono e3
      refine Evl.q_asg (v := .int (VO.blanks row : Int)) (Evl.ev_is (Evl.ev_op (ev_lenS (Evl.ev_var rfl) (by rw [len_S]; have := wrow.2; omega)) (ev_lenS (Evl.ev_var rfl) (by rw [len_S]; have := wbare.2; omega)) Evl.rv_I0) (by
        rw [len_S, len_S, List.length_drop]
        congr 1
        omega)) fun H4 e4 => ?_
      have I4 := I3.mono e4
      refine Evl.q_when (b := decide (V.int ((VO.blanks row : Int) % 2) = V.int 1)) (Evl.et_test (Evl.ev_op (Evl.ev_op (Evl.ev_var rfl) Evl.ev_c (Evl.rv_I (by decide))) Evl.ev_c (Evl.rv_eq rfl))) (fun hb H5 e5 => ?_) (fun hb H5 e5 => ?_)
      · refine kN ?_ H5 (((exl.trans e3).trans e4).trans e5)
        have odd : VO.blanks row % 2 = 1 := by
          have := V.int.inj (of_decide_eq_true hb)
          omega
        have : itemOf row = none := by
          unfold itemOf
          rw [if_pos odd]
        show (rowsFrom VO.z0 ls).bind zend = none
        rw [hrun', this]
        rfl
      · have even : ¬ VO.blanks row % 2 = 1 := fun q => by
          have h2 : ((VO.blanks row : Int) % 2) = 1 := by omega
          rw [h2] at hb
          simp at hb
        have I5 := I4.mono e5
        have bounds := repr_bounds hzi
        obtain ⟨b1, b2, b3, b4, b5⟩ := bounds
        have dle : VO.blanks row / 2 ≤ 1000 := by have := wrow.2; omega
        have evd : ∀ {σ : L2.St} {Hx : Hp}, Ev (tVar 4) σ Hx (.int (VO.blanks row : Int)) → Ev (tOp (rI CDiv fun i j => .int (i / j)) (tVar 4) (tC (.int 2))) σ Hx (.int ((VO.blanks row / 2 : Nat) : Int)) := by
          intro σ Hx hv
          refine Evl.ev_is (Evl.ev_op hv Evl.ev_c (Evl.rv_I ⟨by decide, by decide⟩)) ?_
          congr 1
        have exl5 := ((exl.trans e3).trans e4).trans e5
        refine Evl.s_if (b := decide (V.str (S (row.drop (VO.blanks row))) = V.str "else:")) (Evl.et_test (Evl.ev_op (Evl.ev_var rfl) Evl.ev_c (Evl.rv_eq rfl))) (fun hc H6 e6 => ?_) (fun hc H6 e6 => ?_)
        · rw [lit_else, dec_S, beq_iff_eq] at hc
          have hitem : itemOf row = some (VO.blanks row / 2, none) := by
            unfold itemOf
            rw [if_neg even, if_pos hc]
          rw [hitem] at hrun'
          have hrun2 : rowsFrom VO.z0 ls = (VO.zels z (VO.blanks row / 2)).bind fun y => rowsFrom y (ls.drop (i + 1)) := hrun'
          have I6 := I5.mono e6
          have hB := bEls_repr (els_lines hzi) (VO.blanks row / 2)
          refine ⟨_, rfl, A.b, A'.dx, _, rfl, by rw [← eb]; exact I6.at_.ob, bF_add_else _ _ _ _ _, ?_⟩
          refine (evd (Evl.ev_var rfl)) H6 (Ex.refl H6) _ fun H7 e7 => ?_
          have tk : (ls.take (i + 1)).filter isRow = (ls.take i).filter isRow := by
            rw [take_row hrow, if_neg, List.append_nil]
            unfold isRow
            rw [hc]
            decide
          refine ⟨_, A', reprZ z, VO.blanks row / 2, by rw [eb]; rfl, I6.mono e7, dle, b1, by omega, b3, b4, fun Y' hY A2 H8 eb2 I8 => ?_, fun hnone H8 e8 => ?_⟩
          · rw [hB] at hY
            cases hz : VO.zels z (VO.blanks row / 2) with
            | none => rw [hz] at hY; cases hY
            | some z' =>
              rw [hz] at hY
              cases Option.some.inj hY
              rw [hz] at hrun2
              have zi := VO.zstep_inv (x := (VO.blanks row / 2, none)) hzi rfl hz
              exact ⟨A2, z', _, _, _, _, rfl, by rw [eb2, eb], zi, hrun2, by rw [tk]; exact I8⟩
          · rw [hB] at hnone
            refine kN ?_ H8 ((exl5.trans e6).trans (e7.trans e8))
            show (rowsFrom VO.z0 ls).bind zend = none
            cases hz : VO.zels z (VO.blanks row / 2) with
            | some z' => rw [hz] at hnone; cases hnone
            | none =>
              rw [hrun2, hz]
              rfl
        · rw [lit_else, dec_S, beq_eq_false_iff_ne] at hc
          have hitem : itemOf row = (headOf (row.drop (VO.blanks row))).map fun h => (VO.blanks row / 2, some h) := by
            unfold itemOf
            rw [if_neg even, if_neg hc]
          have I6 := I5.mono e6
          refine ⟨_, rfl, A.b, A'.dx, _, rfl, by rw [← eb]; exact I6.at_.ob, bF_add_statement _ _ _ _ _, ?_⟩
          refine (evd (Evl.ev_var rfl)) H6 (Ex.refl H6) _ fun H7 e7 => ?_
          have I7 := I6.mono e7
          refine ⟨_, rfl, row.drop (VO.blanks row), rfl, wbare, fun hd hhd r H8 rfr rnd e8 rst => ?_, fun hn H8 e8 => ?_⟩
          · rw [hhd] at hitem
            rw [hitem] at hrun'
            have hrun2 : rowsFrom VO.z0 ls = (VO.zadd z (VO.blanks row / 2) hd).bind fun y => rowsFrom y (ls.drop (i + 1)) := hrun'
            have I8 := I7.mono e8
            have hB := bAdd_repr hzi.inv.lines (add_lines hzi) (VO.blanks row / 2) hd
            have hok : hd.ok = true := (VO.headOf_some hhd).1
            refine ⟨_, A', reprZ z, VO.blanks row / 2, r, hd, by rw [eb]; rfl, I8, rst, rnd, fun y hy hf => ?_, fun y hy => ?_, dle, b1, by omega, b3, fun s _ => by have := b5 s; omega, fun Y' hY A2 H9 eb2 I9 => ?_, fun hnone H9 e9 => ?_⟩
            · obtain ⟨o, ho⟩ := I7.at_.foot hf
              rw [rfr y hy] at ho
              cases ho
            · exact Evl.fresh_back I7.ex (rfr y hy)
            · rw [hB] at hY
              cases hz : VO.zadd z (VO.blanks row / 2) hd with
              | none => rw [hz] at hY; cases hY
              | some z' =>
                rw [hz] at hY
                cases Option.some.inj hY
                rw [hz] at hrun2
                have zi := VO.zstep_inv (x := (VO.blanks row / 2, some hd)) hzi hok hz
                have tk : (ls.take (i + 1)).filter isRow = (ls.take i).filter isRow ++ [row] := by
                  rw [take_row hrow, if_pos]
                  unfold isRow
                  rw [show (row.drop (VO.blanks row) == ascii "else:") = false from beq_eq_false_iff_ne.mpr hc]
                  rfl
                have ll : ((ls.take i).filter isRow).length ≤ 1000 := Nat.le_trans (List.length_filter_le _ _) (by rw [List.length_take]; omega)
                refine Evl.s_app (I9.ex ra _ upd_same) (Evl.ev_var rfl) (Evl.ev_var rfl) (by rw [wdV_len]; omega) fun H10 e10 => ?_
                refine ⟨A2, z', _, _, _, _, rfl, by rw [eb2, eb], zi, hrun2, ?_⟩
                rw [tk, wdV_app]
                exact (I9.mono e10).put
            · rw [hB] at hnone
              refine kN ?_ H9 ((exl5.trans e6).trans ((e7.trans e8).trans e9))
              show (rowsFrom VO.z0 ls).bind zend = none
              cases hz : VO.zadd z (VO.blanks row / 2) hd with
              | some z' => rw [hz] at hnone; cases hnone
              | none =>
                rw [hrun2, hz]
                rfl
          · refine kN ?_ H8 ((exl5.trans e6).trans (e7.trans e8))
            show (rowsFrom VO.z0 ls).bind zend = none
            rw [hn] at hitem
            rw [hrun', hitem]
            rfl
    · subst es
      have lenw : (wdV ls).length = ls.length := wdV_len ls
      rw [lenw, List.drop_length] at hrun
      have hrun' : rowsFrom VO.z0 ls = some z := hrun
      rw [lenw, List.take_length] at I
      have exl : Ex H H' := fun b o hb => I.ex b o (by rw [upd_ne (ne_some hb nra0), upd_ne (ne_some hb nq0)]; exact hb)
      have fin : (rowsFrom VO.z0 ls).bind zend = zend z := by rw [hrun']; rfl
      have kY' : ∀ c, zend z = some c → RetP a t c H Q := fun c hc => kY c (fin.trans hc)
      have obI : H' A.b = some (.ins a.C_BlockBuilder A'.dx (bF A'.sl A'.tl A'.al A'.fl (reprZ z).awaits)) := by rw [← eb]; exact I.at_.ob
      dsimp only
      refine Evl.q_when (b := z.awaits) (by exact Evl.et_B (ev_fld (Evl.ev_var rfl) obI T.cl_BlockBuilder T.n_BlockBuilder_awaits (bF_awaits _ _ _ _ _))) (fun hb H3 e3 => ?_) (fun hb H3 e3 => ?_)
      · refine kN ?_ H3 (exl.trans e3)
        refine fin.trans ?_
        unfold zend
        rw [if_pos hb]
      · have hend : zend z = some (VO.close z.frames z.cur) := by
          unfold zend
          rw [if_neg (by rw [hb]; decide)]
        have kk := kY' _ hend
        have I3 := I.mono e3
        have ob3 := e3 _ _ obI
        refine s_retMakeL (pre := []) (xs := bytV t) (post := [.ref ra, .ref A'.sl, .ref A'.tl]) (by exact eal_here (Evl.el_list (Evl.ev_var rfl) (Evl.sq_of ((exl.trans e3) l _ hl))) (Evl.ea_cons (Evl.ev_var rfl) (Evl.ea_cons (ev_fld (Evl.ev_var rfl) ob3 T.cl_BlockBuilder T.n_BlockBuilder_statements (bF_statements _ _ _ _ _)) (Evl.ea_cons (ev_fld (Evl.ev_var rfl) ob3 T.cl_BlockBuilder T.n_BlockBuilder_top (bF_top _ _ _ _ _)) Evl.ea_nil)))) fun tx H4 n4 e4 h4 => ?_
        intro p dp np ndp nep
        refine ⟨p, dp, tx, ra, A'.sl, A'.tl, rfl, upd_same, fun H5 f5 h5 => ⟨rfl, ?_⟩⟩
        have e5 : Ex H4 H5 := fun b o hb => f5 b o (by rw [upd_ne (ne_some hb np), upd_ne (ne_some hb ndp)]; exact hb) (ne_some hb np)
        have I5 := (I3.mono e4).mono e5
        have ec : ∀ (st : List Stm), st = stmsZ z.frames z.cur → st = stmsOf [] (VO.close z.frames z.cur) := fun st h => h.trans (stmsZ_close _ _)
        refine kk ⟨p, dp, tx, ra, A'.sl, A'.tl, A'.rs⟩ H5 (((exl.trans e3).trans e4).trans e5) ⟨h5, e5 tx _ h4, by rw [← rows_program (hprog.trans (fin.trans hend)) hls]; exact I5.ex ra _ upd_same, I5.at_.sl, ?_, ?_, fun i r s hr hs => ?_⟩ fun y hy => ?_
        · have := I5.at_.tl
          rw [← topZ_close]
          exact this
        · have := I5.at_.len
          rw [this]
          show (stmsZ z.frames z.cur).length = _
          rw [stmsZ_close, stms_len]
        · refine I5.at_.st i r s hr ?_
          show (stmsZ z.frames z.cur)[i]? = some s
          rw [stmsZ_close]
          exact hs
        · have low : ∀ z, InFoot A' z → H z = none := fun z hz => by
            have w := I.fr z hz
            have ne0 : z ≠ ra := by
              rintro rfl
              rw [upd_same] at w
              cases w
            rw [upd_ne ne0] at w
            have ne : z ≠ q := by
              rintro rfl
              rw [upd_same] at w
              cases w
            rw [upd_ne ne] at w
            exact w
          rcases hy with hy | ⟨r, hr, hy⟩
          · simp only [List.mem_cons, List.not_mem_nil, or_false] at hy
            rcases hy with rfl | rfl | rfl | rfl | rfl
            · exact Evl.fresh_back ((exl.trans e3).trans e4) np
            · exact Evl.fresh_back (exl.trans e3) n4
            · exact nra0
            · exact low _ (foot_sl A')
            · exact low _ (foot_tl A')
          · exact low y (Or.inr ⟨r, hr, hy⟩)
end VP
set_option Elab.async false
set_option linter.all false
set_option maxRecDepth 100000
set_option maxHeartbeats 4000000
namespace VP
open PySem PySem.Spec PyProof.Rows L2 TL
open Vaslca (Text Name ascii isName isSmall isDigit decimal Atom atomText isAtom opText relText toldOption findVar atomValue atomUses exprValue exprUses condValue condUses statusNumber reckoned related isExpr isCond)
open VO (Head)
open Evl (Ex Ev EvT EvA EvL EvU)
variable {P : Program} {w : World} {K : PySem.W.Frag} {mg : Str → Option Value} {base : Heap} {a : Ad}

/-! # A run in the heap -/
structure RA where
  o : Addr
  dx : Addr
  sl : Addr
  ll : Addr
  lf : Addr
  sp : Addr
  hl : Addr
  se : Addr
  lt : Addr
def rF (sl ll lf sp hl se lt : Addr) (oc lr : Nat) : List (Str × V) := [("statements", .ref sl), ("lines", .ref ll), ("left", .ref lf), ("outcome", .int (oc : Int)), ("steps", .ref sp), ("held", .ref hl), ("setters", .ref se), ("last_tests", .ref lt), ("last_read", .int (lr : Int))]
section
variable (sl ll lf sp hl se lt : Addr) (oc lr : Nat)
theorem rF_statements : (rF sl ll lf sp hl se lt oc lr).lookup ("statements" : Str) = some (.ref sl) := by kernel_rfl
theorem rF_lines : (rF sl ll lf sp hl se lt oc lr).lookup ("lines" : Str) = some (.ref ll) := by kernel_rfl
theorem rF_left : (rF sl ll lf sp hl se lt oc lr).lookup ("left" : Str) = some (.ref lf) := by kernel_rfl
theorem rF_outcome : (rF sl ll lf sp hl se lt oc lr).lookup ("outcome" : Str) = some (.int (oc : Int)) := by kernel_rfl
theorem rF_steps : (rF sl ll lf sp hl se lt oc lr).lookup ("steps" : Str) = some (.ref sp) := by kernel_rfl
theorem rF_held : (rF sl ll lf sp hl se lt oc lr).lookup ("held" : Str) = some (.ref hl) := by kernel_rfl
theorem rF_setters : (rF sl ll lf sp hl se lt oc lr).lookup ("setters" : Str) = some (.ref se) := by kernel_rfl
theorem rF_last_tests : (rF sl ll lf sp hl se lt oc lr).lookup ("last_tests" : Str) = some (.ref lt) := by kernel_rfl
theorem rF_last_read : (rF sl ll lf sp hl se lt oc lr).lookup ("last_read" : Str) = some (.int (lr : Int)) := by kernel_rfl
theorem rF_put_outcome (n : Nat) : putF "outcome" (.int (n : Int)) (rF sl ll lf sp hl se lt oc lr) = rF sl ll lf sp hl se lt n lr := by kernel_rfl
theorem rF_put_last_read (n : Nat) : putF "last_read" (.int (n : Int)) (rF sl ll lf sp hl se lt oc lr) = rF sl ll lf sp hl se lt oc n := by kernel_rfl
theorem rF_len : (rF sl ll lf sp hl se lt oc lr).length < 1000 := by simp [rF]
theorem rF_no1 : (rF sl ll lf sp hl se lt oc lr).lookup ("number_of" : Str) = none := by kernel_rfl
theorem rF_no2 : (rF sl ll lf sp hl se lt oc lr).lookup ("origins_of" : Str) = none := by kernel_rfl
theorem rF_no3 : (rF sl ll lf sp hl se lt oc lr).lookup ("take_value" : Str) = none := by kernel_rfl
theorem rF_no4 : (rF sl ll lf sp hl se lt oc lr).lookup ("note_effects" : Str) = none := by kernel_rfl
theorem rF_no5 : (rF sl ll lf sp hl se lt oc lr).lookup ("test_around" : Str) = none := by kernel_rfl
theorem rF_no6 : (rF sl ll lf sp hl se lt oc lr).lookup ("make_step" : Str) = none := by kernel_rfl
theorem rF_no7 : (rF sl ll lf sp hl se lt oc lr).lookup ("do_rounds" : Str) = none := by kernel_rfl
theorem rF_no8 : (rF sl ll lf sp hl se lt oc lr).lookup ("do_block" : Str) = none := by kernel_rfl
theorem rF_no9 : (rF sl ll lf sp hl se lt oc lr).lookup ("do_line" : Str) = none := by kernel_rfl
theorem rF_no10 : (rF sl ll lf sp hl se lt oc lr).lookup ("output" : Str) = none := by kernel_rfl
theorem rF_no12 : (rF sl ll lf sp hl se lt oc lr).lookup ("uses_of" : Str) = none := by kernel_rfl
theorem rF_no11 : (rF sl ll lf sp hl se lt oc lr).lookup ("row_at" : Str) = none := by kernel_rfl
end
def sF (n v k : Nat) (og : Addr) : List (Str × V) := [("line", .int (n : Int)), ("value", .int (v : Int)), ("let_by", .int (k : Int)), ("origins", .ref og)]
theorem sF_line (n v k : Nat) (og : Addr) : (sF n v k og).lookup ("line" : Str) = some (.int (n : Int)) := by kernel_rfl
theorem sF_value (n v k : Nat) (og : Addr) : (sF n v k og).lookup ("value" : Str) = some (.int (v : Int)) := by kernel_rfl
theorem sF_let_by (n v k : Nat) (og : Addr) : (sF n v k og).lookup ("let_by" : Str) = some (.int (k : Int)) := by kernel_rfl
theorem sF_origins (n v k : Nat) (og : Addr) : (sF n v k og).lookup ("origins" : Str) = some (.ref og) := by kernel_rfl
def six (M : RA) : List Addr := [M.o, M.lf, M.sp, M.hl, M.se, M.lt]
def srcs (s : Vaslca.Step) : List Nat := s.uses.map fun u => toldOption u.src
structure StepOk (a : Ad) (H : Hp) (M : RA) (p : Addr) (s : Vaslca.Step) : Prop where
  at_ : ∃ dx og, H p = some (.ins a.C_Step dx (sF s.line s.value (toldOption s.ctrl) og)) ∧ H og = some (.lst (natV (srcs s))) ∧ og ∉ six M
  out : p ∉ six M
structure RunAt (a : Ad) (H0 H : Hp) (M : RA) (x : Vaslca.Run) (L : Nat → Option Nat) (b : Nat) : Prop where
  ex : Ex H0 H
  fr : ∀ y ∈ six M, H0 y = none
  nd : (six M).Nodup
  ob : H M.o = some (.ins a.C_Run M.dx (rF M.sl M.ll M.lf M.sp M.hl M.se M.lt (statusNumber x.status) (toldOption x.read)))
  lf : H M.lf = some (.lst (natV x.input))
  sp : ∃ ps : List Addr, H M.sp = some (.lst (ps.map V.ref)) ∧ ps.length = x.steps.length ∧ ∀ (i : Nat) (p : Addr) (s : Vaslca.Step), ps[i]? = some p → x.steps[i]? = some s → StepOk a H M p s
  hl : ∃ kvs : List (Key × V), H M.hl = some (.dK kvs) ∧ kvs.length ≤ b ∧ ∀ v : Text, valV kvs (Sum.inr (S v)) = (findVar x v).map fun y => V.int (y.value : Int)
  se : ∃ kvs : List (Key × V), H M.se = some (.dK kvs) ∧ kvs.length ≤ b ∧ ∀ v : Text, valV kvs (Sum.inr (S v)) = (findVar x v).map fun y => V.int ((y.src + 1 : Nat) : Int)
  lt : ∃ kvs : List (Key × V), H M.lt = some (.dK kvs) ∧ kvs.length ≤ b ∧ ∀ n : Nat, valV kvs (Sum.inl (n : Int)) = (L n).map fun m => V.int ((m + 1 : Nat) : Int)
  small : (∀ y ∈ x.vars, y.value < 1000) ∧ (∀ v ∈ x.input, v < 1000)
  few : x.steps.length ≤ 120
  fewb : b ≤ 1000
theorem StepOk.mono {H H' : Hp} {M : RA} {p : Addr} {s : Vaslca.Step} (h : StepOk a H M p s) (e : Ex H H') : StepOk a H' M p s := by
  obtain ⟨⟨dx, og, h1, h2, h3⟩, h4⟩ := h
  exact ⟨⟨dx, og, e _ _ h1, e _ _ h2, h3⟩, h4⟩
theorem StepOk.keep {H H' : Hp} {M : RA} {p q : Addr} {s : Vaslca.Step} (h : StepOk a H M p s) (f : Fr q H H') (hq : q ∈ six M) : StepOk a H' M p s := by
  obtain ⟨⟨dx, og, h1, h2, h3⟩, h4⟩ := h
  exact ⟨⟨dx, og, f _ _ h1 (fun e => h4 (e ▸ hq)), f _ _ h2 (fun e => h3 (e ▸ hq)), h3⟩, h4⟩
section
variable {H0 H H' : Hp} {M : RA} {x : Vaslca.Run} {L : Nat → Option Nat} {b : Nat}
theorem RunAt.mono (h : RunAt a H0 H M x L b) (e : Ex H H') : RunAt a H0 H' M x L b := by
  obtain ⟨ps, s1, s2, s3⟩ := h.sp
  obtain ⟨k1, a1, a2, a3⟩ := h.hl
  obtain ⟨k2, b1, b2, b3⟩ := h.se
  obtain ⟨k3, c1, c2, c3⟩ := h.lt
  exact ⟨h.ex.trans e, h.fr, h.nd, e _ _ h.ob, e _ _ h.lf, ⟨ps, e _ _ s1, s2, fun i p s hp hs => (s3 i p s hp hs).mono e⟩, ⟨k1, e _ _ a1, a2, a3⟩, ⟨k2, e _ _ b1, b2, b3⟩, ⟨k3, e _ _ c1, c2, c3⟩, h.small, h.few, h.fewb⟩
theorem six_ne (nd : (six M).Nodup) : M.o ≠ M.lf ∧ M.o ≠ M.sp ∧ M.o ≠ M.hl ∧ M.o ≠ M.se ∧ M.o ≠ M.lt ∧ M.lf ≠ M.sp ∧ M.lf ≠ M.hl ∧ M.lf ≠ M.se ∧ M.lf ≠ M.lt ∧ M.sp ≠ M.hl ∧ M.sp ≠ M.se ∧ M.sp ≠ M.lt ∧ M.hl ≠ M.se ∧ M.hl ≠ M.lt ∧ M.se ≠ M.lt := by
  simp only [six, List.nodup_cons, List.mem_cons, List.not_mem_nil, or_false, not_or, List.nodup_nil, not_false_eq_true, and_true] at nd
  obtain ⟨⟨a1, a2, a3, a4, a5⟩, ⟨b1, b2, b3, b4⟩, ⟨c1, c2, c3⟩, ⟨d1, d2⟩, e⟩ := nd
  exact ⟨a1, a2, a3, a4, a5, b1, b2, b3, b4, c1, c2, c3, d1, d2, e⟩
theorem RunAt.go (h : RunAt a H0 H M x L b) {p : Addr} (hp : p ∈ six M) (f : Fr p H H') : Ex H0 H' := fun q o hb => f q o (h.ex q o hb) (by
  rintro rfl
  rw [h.fr q hp] at hb
  cases hb)
end
/-- the statements that a run reads -/
structure PS (a : Ad) (H : Hp) (sl : Addr) (st : List Stm) : Prop where
  ex : ∃ rs : List SA, H sl = some (.lst (rs.map fun r => V.ref r.o)) ∧ rs.length = st.length ∧ ∀ (i : Nat) (r : SA) (s : Stm), rs[i]? = some r → st[i]? = some s → StmAt a H r s
theorem PS.mono {H H' : Hp} {sl : Addr} {st : List Stm} (h : PS a H sl st) (e : Ex H H') : PS a H' sl st := by
  obtain ⟨rs, h1, h2, h3⟩ := h.ex
  exact ⟨rs, e _ _ h1, h2, fun i r s hr hs => (h3 i r s hr hs).mono e⟩

/-! # small defs -/
def sgn (t : Text) (x y : Nat) : Nat :=
  if t = ascii "+" then (x + y) % 1000 else if t = ascii "-" then (x + (1000 - y % 1000)) % 1000 else if t = ascii "*" then x * y % 1000
  else if t = ascii "<" then (if x < y then 1 else 0) else if t = ascii "==" then (if x = y then 1 else 0) else (if x = y then 0 else 1)
theorem lit_plus : (("+" : Str)) = S (ascii "+") := by decide +kernel
theorem lit_minus : (("-" : Str)) = S (ascii "-") := by decide +kernel
theorem lit_times : (("*" : Str)) = S (ascii "*") := by decide +kernel
theorem lit_less : (("<" : Str)) = S (ascii "<") := by decide +kernel
theorem lit_same : (("==" : Str)) = S (ascii "==") := by decide +kernel
theorem ev_intB {σ : L2.St} {H : Hp} {ta : TE} {b : Bool} (h : Ev ta σ H (.bl b)) : Ev (tCB (fun xs H Q => (∃ i, xs = [.int i] ∧ Q (.int i) H) ∨ ∃ k, xs = [.bl k] ∧ Q (.int (if k then 1 else 0)) H) (tCons ta tNil)) σ H (.int (if b then 1 else 0)) := fun H1 e Q q =>
  h H1 e _ fun H2 e2 => .inr ⟨b, rfl, q H2 e2⟩
def sp_reckon (_ : Ad) : Sp := fun vs H Q _ => ∃ (x y : Nat) (t : Text), vs = [.int (x : Int), .str (S t), .int (y : Int)] ∧ x < 1000 ∧ y < 1000 ∧ ∀ H', Ex H H' → Q (.int (sgn t x y : Int)) H'
theorem ok_reckon (T : Facts K mg a) : FnOk P w K mg base CX0 1 a.f_reckon a.d_reckon ["left", "sign", "right"] (sp_reckon a) := by
  refine T.F_reckon.ok sc_reckon (fun vs H Q E h => ?_) (fun cdv A outer s H vs Q E hr h => ?_)
  · obtain ⟨x, y, t, rfl, _⟩ := h
    rfl
  · refine ⟨_, (pss_cons (ps_if (pt_cmpR op_eq (pv 1) pe_str (nomark _))
    (pss_one (ps_ret (pe_op op_mod (pe_op op_add (pv 0) (pv 2)) (pe_gi rfl T.c_MODULUS.choose_spec))))
    pss_nil)
    (pss_cons (ps_if (pt_cmpR op_eq (pv 1) pe_str (nomark _))
    (pss_one (ps_ret (pe_op op_mod (pe_op op_sub (pv 0) (pv 2)) (pe_gi rfl T.c_MODULUS.choose_spec))))
    pss_nil)
    (pss_cons (ps_if (pt_cmpR op_eq (pv 1) pe_str (nomark _))
    (pss_one (ps_ret (pe_op op_mod (pe_op op_mul (pv 0) (pv 2)) (pe_gi rfl T.c_MODULUS.choose_spec))))
    pss_nil)
    (pss_cons (ps_if (pt_cmpR op_eq (pv 1) pe_str (nomark _))
    (pss_one (ps_ret (pe_callTy call_int1 (by rfl) T.b_int (by decide +kernel) (pa_cons (pe_cmpR op_lt (pv 0) (pv 2) (nomark _)) pa_nil))))
    pss_nil)
    (pss_cons (ps_if (pt_cmpR op_eq (pv 1) pe_str (nomark _))
    (pss_one (ps_ret (pe_callTy call_int1 (by rfl) T.b_int (by decide +kernel) (pa_cons (pe_cmpR op_eq (pv 0) (pv 2) (nomark _)) pa_nil))))
    pss_nil)
    (pss_one (ps_ret (pe_callTy call_int1 (by rfl) T.b_int (by decide +kernel) (pa_cons (pe_cmpR op_ne (pv 0) (pv 2) (nomark _)) pa_nil))))))))), ?_⟩
    obtain ⟨x, y, t, rfl, hx, hy, k⟩ := h
    unfold sgn at k
    refine Evl.q_when (b := t == ascii "+") (Evl.et_is (Evl.et_test (Evl.ev_op (Evl.ev_var rfl) Evl.ev_c (Evl.rv_eq rfl))) (by rw [lit_plus, dec_S])) (fun hb H1 e1 => ?_) (fun hb H1 e1 => ?_)
    · rw [if_pos (by simpa using hb)] at k
      refine Evl.s_ret (Evl.ev_is (Evl.ev_op (Evl.ev_op (Evl.ev_var rfl) (Evl.ev_var rfl) Evl.rv_I0) Evl.ev_c (Evl.rv_I (by decide))) ?_) fun H2 e2 => k H2 (e1.trans e2)
      congr 1
    · rw [if_neg (by simpa using hb)] at k
      refine Evl.q_when (b := t == ascii "-") (Evl.et_is (Evl.et_test (Evl.ev_op (Evl.ev_var rfl) Evl.ev_c (Evl.rv_eq rfl))) (by rw [lit_minus, dec_S])) (fun hb H2 e2 => ?_) (fun hb H2 e2 => ?_)
      · rw [if_pos (by simpa using hb)] at k
        refine Evl.s_ret (Evl.ev_is (Evl.ev_op (Evl.ev_op (Evl.ev_var rfl) (Evl.ev_var rfl) Evl.rv_I0) Evl.ev_c (Evl.rv_I (by decide))) ?_) fun H3 e3 => k H3 ((e1.trans e2).trans e3)
        congr 1
        omega
      · rw [if_neg (by simpa using hb)] at k
        refine Evl.q_when (b := t == ascii "*") (Evl.et_is (Evl.et_test (Evl.ev_op (Evl.ev_var rfl) Evl.ev_c (Evl.rv_eq rfl))) (by rw [lit_times, dec_S])) (fun hb H3 e3 => ?_) (fun hb H3 e3 => ?_)
        · rw [if_pos (by simpa using hb)] at k
          refine Evl.s_ret (Evl.ev_is (Evl.ev_op (Evl.ev_op (Evl.ev_var rfl) (Evl.ev_var rfl) (Evl.rv_I (Or.inl ⟨by omega, by omega⟩))) Evl.ev_c (Evl.rv_I (by decide))) ?_) fun H4 e4 => k H4 (((e1.trans e2).trans e3).trans e4)
          congr 1
        · rw [if_neg (by simpa using hb)] at k
          have e03 := (e1.trans e2).trans e3
          refine Evl.q_when (b := t == ascii "<") (Evl.et_is (Evl.et_test (Evl.ev_op (Evl.ev_var rfl) Evl.ev_c (Evl.rv_eq rfl))) (by rw [lit_less, dec_S])) (fun hb H4 e4 => ?_) (fun hb H4 e4 => ?_)
          · rw [if_pos (by simpa using hb)] at k
            refine Evl.s_ret (Evl.ev_is (ev_intB (Evl.ev_op (Evl.ev_var rfl) (Evl.ev_var rfl) Evl.rv_I0)) ?_) fun H5 e5 => k H5 ((e03.trans e4).trans e5)
            congr 1
            by_cases c : x < y
            · rw [if_pos (by simp; omega), if_pos c]; rfl
            · rw [if_neg (by simp; omega), if_neg c]; rfl
          · rw [if_neg (by simpa using hb)] at k
            refine Evl.q_when (b := t == ascii "==") (Evl.et_is (Evl.et_test (Evl.ev_op (Evl.ev_var rfl) Evl.ev_c (Evl.rv_eq rfl))) (by rw [lit_same, dec_S])) (fun hb H5 e5 => ?_) (fun hb H5 e5 => ?_)
            · rw [if_pos (by simpa using hb)] at k
              refine Evl.s_ret (Evl.ev_is (ev_intB (Evl.ev_op (Evl.ev_var rfl) (Evl.ev_var rfl) (Evl.rv_eq rfl))) ?_) fun H6 e6 => k H6 (((e03.trans e4).trans e5).trans e6)
              congr 1
              by_cases c : x = y
              · rw [if_pos (by rw [c]; simp), if_pos c]; rfl
              · rw [if_neg (by simp; omega), if_neg c]; rfl
            · rw [if_neg (by simpa using hb)] at k
              refine Evl.s_ret (Evl.ev_is (ev_intB (Evl.ev_op (Evl.ev_var rfl) (Evl.ev_var rfl) (Evl.rv_ne rfl))) ?_) fun H6 e6 => k H6 (((e03.trans e4).trans e5).trans e6)
              congr 1
              by_cases c : x = y
              · rw [if_neg (by rw [c]; simp), if_pos c]; rfl
              · rw [if_pos (by simp; omega), if_neg c]; rfl

theorem digits_decimal : ∀ n : Fin 100, (!(decimal n.val).isEmpty && (decimal n.val).all isDigit) = true := by decide +kernel
theorem low_digits {t : Text} (h : t.all isDigit = true) : Low t := fun b hb => by
  rw [List.all_eq_true] at h
  have := h b hb
  simp only [isDigit, Bool.and_eq_true, decide_eq_true_eq, UInt8.le_iff_toNat_le] at this
  have h2 : b.toNat ≤ 57 := this.2
  omega
theorem name_low {v : Text} (h : isName v = true) : Low v := fun b hb => inS_low (name_S h b hb)
theorem name_nodigit {v : Text} (h : isName v = true) : (!v.isEmpty && v.all isDigit) = false := by
  simp only [isName, Bool.and_eq_true, Bool.not_eq_true'] at h
  obtain ⟨h1, _, h3, _⟩ := h
  cases v with
  | nil => simp at h1
  | cons b r =>
    rw [List.all_eq_true] at h3
    have s := h3 b (by simp)
    have : isDigit b = false := by
      cases q : isDigit b with
      | false => rfl
      | true =>
        simp only [isDigit, isSmall, Bool.and_eq_true, decide_eq_true_eq, UInt8.le_iff_toNat_le] at q s
        have a1 : b.toNat ≤ 57 := q.2
        have a2 : 97 ≤ b.toNat := s.1
        omega
    simp [this]
theorem ev_intS {σ : L2.St} {H : Hp} {ta : TE} {n : Nat} (hn : n ≤ 99) (h : Ev ta σ H (.str (S (decimal n)))) : Ev (tCB (fun xs H Q => ∃ a n, xs = [.str a] ∧ PySem.intText? a = some n ∧ a.length ≤ 640 ∧ Q (.int n) H) (tCons ta tNil)) σ H (.int (n : Int)) := fun H1 e Q q =>
  h H1 e _ fun H2 e2 => ⟨_, _, rfl, int_S ⟨n, by omega⟩, by rw [len_S]; have := (VO.decimal_fact ⟨n, by omega⟩).1; have z : (decimal n).length ≤ 2 := this; omega, q H2 e2⟩
def sp_Run_number_of (a : Ad) : Sp := fun vs H Q _ => ∃ (H0 : Hp) (M : RA) (x : Vaslca.Run) (L : Nat → Option Nat) (b : Nat) (t : Atom), vs = [.ref M.o, .str (S (atomText t))] ∧ RunAt a H0 H M x L b ∧ isAtom t = true ∧ ∀ H', Ex H H' → Q (.int (atomValue x t : Int)) H'
theorem ok_Run_number_of (T : Facts K mg a) : FnOk P w K mg base CX0 1 a.f_Run_number_of a.d_Run_number_of ["self", "atom"] (sp_Run_number_of a) := by
  refine T.F_Run_number_of.ok sc_Run_number_of (fun vs H Q E h => ?_) (fun cdv A outer s H vs Q E hr h => ?_)
  · obtain ⟨H0, M, x, L, b, t, rfl, _⟩ := h
    rfl
  · refine ⟨_, (pss_cons (ps_if (pt_val (pe_m0 PySem.F.slot_str_isdigit PySem.F.type_str_isdigit mt_isdigit (pv 1)))
    (pss_one (ps_ret (pe_callTy call_int_str (by rfl) T.b_int (by decide +kernel) (pa_cons (pv 1) pa_nil))))
    pss_nil)
    (pss_one (ps_ret (pe_dget2 (by exact hu_of hr) (pe_fld (pv 0) rfl) (pv 1) pe_int (by exact ⟨rfl, rfl, rfl, rfl⟩))))), ?_⟩
    obtain ⟨H0, M, x, L, b, t, rfl, hR, ht, k⟩ := h
    cases t with
    | num n =>
      have hn : n ≤ 99 := of_decide_eq_true ht
      have dg := digits_decimal ⟨n, by omega⟩
      have dg' : (decimal n).all isDigit = true := by
        rw [Bool.and_eq_true] at dg
        exact dg.2
      refine Evl.q_when (b := true) (Evl.et_B (Evl.ev_is (ev_isdigit (Evl.ev_var rfl)) (by rw [show atomText (.num n) = decimal n from rfl, digits_S (low_digits dg')]; exact congrArg V.bl dg))) (fun _ H1 e1 => ?_) (fun hb => by cases hb)
      exact Evl.s_ret (ev_intS hn (Evl.ev_var rfl)) fun H2 e2 => k H2 (e1.trans e2)
    | var v =>
      have hv : isName v = true := ht
      refine Evl.q_when (b := false) (Evl.et_B (Evl.ev_is (ev_isdigit (Evl.ev_var rfl)) (by rw [show atomText (.var v) = v from rfl, digits_S (name_low hv)]; exact congrArg V.bl (name_nodigit hv)))) (fun hb => by cases hb) (fun _ H1 e1 => ?_)
      have R1 := hR.mono e1
      obtain ⟨kvs, h1, h2, h3⟩ := R1.hl
      refine Evl.s_ret (Evl.ev_is (ev_dget2 (k := Sum.inr (S v)) (ev_fld (Evl.ev_var rfl) R1.ob T.cl_Run T.n_Run_held (rF_held _ _ _ _ _ _ _ _ _)) (Evl.ev_var rfl) Evl.ev_c h1) ?_) fun H2 e2 => k H2 (e1.trans e2)
      rw [h3 v]
      show _ = V.int ((((findVar x v).map fun y => y.value).getD 0 : Nat) : Int)
      cases findVar x v <;> rfl
end VP
set_option Elab.async false
set_option linter.all false
set_option maxRecDepth 100000
set_option maxHeartbeats 4000000
namespace VP
open PySem PySem.Spec PyProof.Rows L2 TL
open Vaslca (Text Name ascii isName isSmall isDigit decimal Atom atomText isAtom opText relText toldOption findVar atomValue atomUses exprValue exprUses condValue condUses statusNumber reckoned related isExpr isCond)
open VO (Head)
open Evl (Ex Ev EvT EvA EvL EvU)
variable {P : Program} {w : World} {K : PySem.W.Frag} {mg : Str → Option Value} {base : Heap} {a : Ad}

/-- a statement whose row tells h -/
structure IsOf (s : Stm) (h : Head) : Prop where
  kind : s.kind = (stmOf h).kind
  sets : s.sets = (stmOf h).sets
  atoms : s.atoms = (stmOf h).atoms
  sign : s.sign = (stmOf h).sign
  names : s.names = (stmOf h).names

def sp_Run_test_around (a : Ad) : Sp := fun vs H Q _ => ∃ (H0 : Hp) (M : RA) (x : Vaslca.Run) (L : Nat → Option Nat) (b : Nat) (r : SA) (s : Stm) (k : Option Nat), vs = [.ref M.o, .ref r.o] ∧ RunAt a H0 H M x L b ∧ StmAt a H r s ∧
  (s.headers = [] → k = none) ∧ (∀ h m, s.headers = h ++ [m] → ∃ j, k = some j ∧ L m = some j) ∧ ∀ H', Ex H H' → Q (.int (toldOption k : Int)) H'
theorem natV_last (h : List Nat) (m : Nat) : atI (natV (h ++ [m])) (-1) = some (.int (m : Int)) := by
  have : natV (h ++ [m]) = natV h ++ [.int (m : Int)] := by simp [natV]
  rw [this]
  exact atI_last _ _
theorem ok_Run_test_around (T : Facts K mg a) : FnOk P w K mg base CX0 1 a.f_Run_test_around a.d_Run_test_around ["self", "statement"] (sp_Run_test_around a) := by
  refine T.F_Run_test_around.ok sc_Run_test_around (fun vs H Q E h => ?_) (fun cdv A outer s H vs Q E hr h => ?_)
  · obtain ⟨H0, M, x, L, b, r, s, k, rfl, _⟩ := h
    rfl
  · refine ⟨_, (pss_cons (ps_if (pt_cmpR (op_eqD hr.units) (pe_fld (pv 1) rfl) (pe_lst pa_nil) (nomark _))
    (pss_one (ps_ret pe_int))
    pss_nil)
    (pss_one (ps_ret (pe_dget (by exact hu_of hr) (pe_fld (pv 0) rfl) (pe_ix ix_list (pe_fld (pv 1) rfl) (pe_un un_neg pe_int) (fun _ _ => rfl)) (fun _ _ => rfl))))), ?_⟩
    obtain ⟨H0, M, x, L, b, r, s', kk, rfl, hR, hs, h1, h2, k⟩ := h
    refine Evl.q_when (b := s'.headers.isEmpty) (Evl.et_test (Evl.ev_opL (xs := []) (ev_fld (Evl.ev_var rfl) hs.o T.cl_Statement T.n_Statement_headers (stF_headers _ _)) (Evl.el_lst Evl.ea_nil (by decide)) fun q H3 h3 e3 => rv_eqD_nil (e3 _ _ hs.hd) h3)) (fun hb H1 e1 => ?_) (fun hb H1 e1 => ?_)
    · have : s'.headers = [] := by simpa using hb
      rw [h1 this] at k
      exact Evl.s_ret Evl.ev_c fun H2 e2 => k H2 (e1.trans e2)
    · rcases List.eq_nil_or_concat s'.headers with q | ⟨h, m, q⟩
      · rw [q] at hb; cases hb
      · rw [List.concat_eq_append] at q
        obtain ⟨j, rfl, hj⟩ := h2 h m q
        have R1 := hR.mono e1
        have s1 := hs.mono e1
        obtain ⟨kvs, c1, c2, c3⟩ := R1.lt
        have hd1 := s1.hd
        rw [q] at hd1
        refine Evl.s_ret (ev_dget (k := Sum.inl (m : Int)) (ev_fld (Evl.ev_var rfl) R1.ob T.cl_Run T.n_Run_last_tests (rF_last_tests _ _ _ _ _ _ _ _ _)) (Evl.ev_op (ev_fld (Evl.ev_var rfl) s1.o T.cl_Statement T.n_Statement_headers (stF_headers _ _)) (Evl.ev_un Evl.ev_c Evl.ru_neg) (Evl.rv_ixL (Evl.sq_of hd1) (natV_last _ _))) c1 (by rw [c3 m, hj]; rfl)) fun H2 e2 => k H2 (e1.trans e2)

/-! # what a step uses -/
def usesOf (x : Vaslca.Run) : Head → List Vaslca.Use
  | .set _ e => exprUses x e
  | .read _ => [⟨[], x.read⟩]
  | .write t => atomUses x t
  | .halt => []
  | .ite c => condUses x c
  | .loop c => condUses x c
def mkU (x : Vaslca.Run) (v : Text) : Vaslca.Use := ⟨v, (findVar x v).map fun y => y.src⟩
theorem mkU_inj (x : Vaslca.Run) {u v : Text} : mkU x u = mkU x v ↔ u = v := ⟨fun h => (Vaslca.Use.mk.inj h).1, fun h => by rw [h]⟩
theorem atom_uses (x : Vaslca.Run) {t : Atom} (h : isAtom t = true) : atomUses x t = (namesIn [atomText t]).map (mkU x) := by
  cases t with
  | num n =>
    have h' : n ≤ 99 := of_decide_eq_true h
    obtain ⟨_, _, _, d⟩ := VO.decimal_fact ⟨n, by omega⟩
    dsimp only at d
    show [] = (namesIn [decimal n]).map (mkU x)
    unfold namesIn
    simp [d]
  | var v =>
    have h' : isName v = true := h
    show [mkU x v] = (namesIn [v]).map (mkU x)
    unfold namesIn
    simp [h']
theorem two_uses (x : Vaslca.Run) {s t : Atom} (h1 : isAtom s = true) (h2 : isAtom t = true) : (atomUses x s ++ atomUses x t).eraseDups = (namesIn [atomText s, atomText t]).map (mkU x) := by
  have n1 : ∀ {n : Nat}, isAtom (.num n) = true → isName (decimal n) = false := by
    intro n h
    have h' : n ≤ 99 := of_decide_eq_true h
    exact (VO.decimal_fact ⟨n, by omega⟩).2.2.2
  cases s with
  | num n =>
    have e1 := n1 h1
    cases t with
    | num m =>
      have e2 := n1 h2
      show ([] : List Vaslca.Use).eraseDups = (namesIn [decimal n, decimal m]).map (mkU x)
      unfold namesIn
      simp [e1, e2]
    | var v =>
      have e2 : isName v = true := h2
      show ([mkU x v] : List Vaslca.Use).eraseDups = (namesIn [decimal n, v]).map (mkU x)
      unfold namesIn
      simp [e1, e2, List.eraseDups_cons]
  | var u =>
    have e1 : isName u = true := h1
    cases t with
    | num m =>
      have e2 := n1 h2
      show ([mkU x u] : List Vaslca.Use).eraseDups = (namesIn [u, decimal m]).map (mkU x)
      unfold namesIn
      simp [e1, e2, List.eraseDups_cons]
    | var v =>
      have e2 : isName v = true := h2
      show ([mkU x u, mkU x v] : List Vaslca.Use).eraseDups = (namesIn [u, v]).map (mkU x)
      unfold namesIn
      by_cases q : u = v
      · subst q
        simp [e1, List.eraseDups_cons]
      · have q' : v ≠ u := fun z => q z.symm
        have q2 : mkU x v ≠ mkU x u := fun z => q' ((mkU_inj x).mp z)
        simp [e1, e2, List.eraseDups_cons, q', q2, List.filter_cons]
theorem one_uses (x : Vaslca.Run) {s : Atom} (h1 : isAtom s = true) : (atomUses x s).eraseDups = (namesIn [atomText s]).map (mkU x) := by
  have := atom_uses x h1
  rw [this]
  cases s with
  | num n =>
    have h' : n ≤ 99 := of_decide_eq_true h1
    have e := (VO.decimal_fact ⟨n, by omega⟩).2.2.2
    dsimp only at e
    show ((namesIn [decimal n]).map (mkU x)).eraseDups = _
    unfold namesIn
    simp [e, atomText]
  | var u =>
    have e1 : isName u = true := h1
    unfold namesIn
    simp [e1, atomText, List.eraseDups_cons]
theorem uses_names (x : Vaslca.Run) {h : Head} (k : h.ok = true) (hr : ∀ v, h ≠ .read v) : usesOf x h = (stmOf h).names.map (mkU x) := by
  cases h with
  | set v e =>
    simp only [Head.ok, Bool.and_eq_true, isExpr] at k
    show exprUses x e = (namesIn (exprAtoms e)).map (mkU x)
    unfold exprUses exprAtoms
    split
    · rw [List.append_nil]
      exact one_uses x k.2.1
    · exact two_uses x k.2.1 k.2.2.1
  | read v => exact absurd rfl (hr v)
  | write t => exact atom_uses x k
  | halt => rfl
  | ite c =>
    simp only [Head.ok, isCond, Bool.and_eq_true] at k
    exact two_uses x k.1 k.2
  | loop c =>
    simp only [Head.ok, isCond, Bool.and_eq_true] at k
    exact two_uses x k.1 k.2
def sp_Run_origins_of (a : Ad) : Sp := fun vs H Q _ => ∃ (H0 : Hp) (M : RA) (x : Vaslca.Run) (L : Nat → Option Nat) (b : Nat) (r : SA) (s : Stm) (h : Head), vs = [.ref M.o, .ref r.o] ∧ RunAt a H0 H M x L b ∧ StmAt a H r s ∧ IsOf s h ∧ h.ok = true ∧
  Evl.RetL (natV ((usesOf x h).map fun u => toldOption u.src)) H Q
theorem kind_read (h : Head) : (stmOf h).kind = 2 ↔ ∃ v, h = .read v := by
  cases h <;> simp [stmOf, rowStm]
theorem names_len (h : Head) : (stmOf h).names.length ≤ 2 := by
  have : ∀ l : List Text, l.length ≤ 2 → (namesIn l).length ≤ 2 := fun l hl => Nat.le_trans (namesIn_len l) hl
  cases h with
  | set v e => exact this _ (by unfold exprAtoms; split <;> simp)
  | _ => exact this _ (by simp)
theorem ok_Run_origins_of (T : Facts K mg a) : FnOk P w K mg base CX0 1 a.f_Run_origins_of a.d_Run_origins_of ["self", "statement"] (sp_Run_origins_of a) := by
  refine T.F_Run_origins_of.ok sc_Run_origins_of (fun vs H Q E h => ?_) (fun cdv A outer s H vs Q E hr h => ?_)
  · obtain ⟨H0, M, x, L, b, r, s, k, rfl, _⟩ := h
    rfl
  · refine ⟨_, (pss_cons (ps_if (pt_cmpR op_eq (pe_fld (pv 1) rfl) (pe_gi rfl T.c_READ.choose_spec) (nomark _))
    (pss_one (ps_ret (pe_lst (pa_cons (pe_fld (pv 0) rfl) pa_nil))))
    pss_nil)
    (pss_one (ps_ret (pe_lc (own := [("name", 2)]) (g := gName 2) (tt := tYes) (by rfl) sc_Run_origins_of.nd (pi_list (pe_fld (pv 1) rfl)) (blkOk_by (own := [("name", 2)]) (N := ["self", "statement", "name"]) (sc := defScope st_Run_origins_of) (by decide +kernel)) (fun _ _ _ _ _ => pg_name (i := 2) sc_Run_origins_of.nd rfl (Or.inl rfl)) (fun _ _ _ _ _ => pts_nil) (fun _ _ _ _ _ => (pe_dget2 (by exact hu_of hr) (pe_fldB (K2 := K) rfl (pv 0) rfl) (pv 2) pe_int (by exact ⟨rfl, rfl, rfl, rfl⟩))))))), ?_⟩
    obtain ⟨H0, M, x, L, b, r, s', hd, rfl, hR, hs, ho, hk, k⟩ := h
    refine Evl.q_when (b := decide (V.int (s'.kind : Int) = V.int 2)) (Evl.et_test (Evl.ev_op (ev_fld (Evl.ev_var rfl) hs.o T.cl_Statement T.n_Statement_kind (stF_kind _ _)) Evl.ev_c (Evl.rv_eq rfl))) (fun hb H1 e1 => ?_) (fun hb H1 e1 => ?_)
    · have k2 : (stmOf hd).kind = 2 := by
        rw [← ho.kind]
        have := V.int.inj (of_decide_eq_true hb)
        omega
      obtain ⟨v, rfl⟩ := (kind_read hd).mp k2
      have R1 := hR.mono e1
      exact Evl.s_retL (Evl.el_lst (Evl.ea_cons (ev_fld (Evl.ev_var rfl) R1.ob T.cl_Run T.n_Run_last_read (rF_last_read _ _ _ _ _ _ _ _ _)) Evl.ea_nil) (by simp)) fun p H2 n2 e2 h2 => k p H2 (Evl.fresh_back e1 n2) (e1.trans e2) h2
    · have hr : ∀ v, hd ≠ .read v := by
        rintro v rfl
        rw [ho.kind] at hb
        revert hb
        show decide (V.int ((2 : Nat) : Int) = V.int 2) = false → False
        decide
      have R1 := hR.mono e1
      have s1 := hs.mono e1
      obtain ⟨kvs, c1, c2, c3⟩ := R1.se
      rw [uses_names x hk hr] at k
      have nm : s'.names = (stmOf hd).names := ho.names
      have l2 := names_len hd
      refine Evl.s_retL (el_is (Evl.el_lcL (fun _ => true) (fun i => V.int (toldOption (mkU x ((stmOf hd).names.getD i [])).src : Int)) (ev_fld (Evl.ev_var rfl) s1.o T.cl_Statement T.n_Statement_names (stF_names _ _)) (Evl.sq_of s1.nm) (by rw [wdV_len, nm]; omega) (fun _ => rfl)
        (fun i y H2 e2 hi H3 _ Q q => q H3 (Ex.refl H3)) (fun i y H2 e2 hi _ => ?_)) ?_) fun p H2 n2 e2 h2 => k p H2 (Evl.fresh_back e1 n2) (e1.trans e2) h2
      · obtain ⟨t, ht, rfl⟩ := wdV_at hi
        rw [nm] at ht
        refine Evl.ev_is (ev_dget2 (k := Sum.inr (S t)) (ev_fld (Evl.ev_var rfl) (e2 _ _ R1.ob) T.cl_Run T.n_Run_setters (rF_setters _ _ _ _ _ _ _ _ _)) (Evl.ev_var rfl) Evl.ev_c (e2 _ _ c1)) ?_
        rw [c3 t]
        have : (stmOf hd).names.getD i [] = t := by rw [List.getD_eq_getElem?_getD, ht]; rfl
        rw [this]
        show _ = V.int (toldOption ((findVar x t).map fun y => y.src) : Int)
        cases findVar x t <;> rfl
      · unfold Evl.given
        rw [List.filter_eq_self.mpr (fun _ _ => rfl), wdV_len, nm]
        unfold natV
        rw [List.map_map, List.map_map]
        refine List.ext_getElem (by simp) fun i h1 h2 => ?_
        simp at h1
        simp [List.getD_eq_getElem?_getD, h1]

/-! # its value -/
def valOf (x : Vaslca.Run) : Head → Nat
  | .set _ e => exprValue x e
  | .read _ => x.input.headD 0
  | .write t => atomValue x t
  | .halt => 0
  | .ite c => if condValue x c = true then 1 else 0
  | .loop c => if condValue x c = true then 1 else 0
def leftOf (x : Vaslca.Run) : Head → List Nat
  | .read _ => x.input.drop 1
  | _ => x.input
theorem atom_small {x : Vaslca.Run} (hx : ∀ y ∈ x.vars, y.value < 1000) {t : Atom} (h : isAtom t = true) : atomValue x t < 1000 := by
  cases t with
  | num n =>
    have h' : n ≤ 99 := of_decide_eq_true h
    show n < 1000
    omega
  | var v =>
    show ((findVar x v).map fun y => y.value).getD 0 < 1000
    cases q : findVar x v with
    | none => show 0 < 1000; omega
    | some y => exact hx y (List.mem_of_find?_eq_some q)
theorem sgn_op (o : Vaslca.Op) (h : o ≠ .alone) (x y : Nat) : sgn (opText o) x y = reckoned o x y := by
  cases o with
  | alone => exact absurd rfl h
  | add =>
    show sgn (ascii "+") x y = _
    unfold sgn
    rw [if_pos rfl]
    rfl
  | sub =>
    show sgn (ascii "-") x y = _
    unfold sgn
    rw [if_neg (by decide), if_pos rfl]
    rfl
  | mul =>
    show sgn (ascii "*") x y = _
    unfold sgn
    rw [if_neg (by decide), if_neg (by decide), if_pos rfl]
    rfl
theorem sgn_rel (r : Vaslca.Rel) (x y : Nat) : sgn (relText r) x y = if related r x y = true then 1 else 0 := by
  cases r with
  | lt =>
    show sgn (ascii "<") x y = if decide (x < y) = true then 1 else 0
    unfold sgn
    rw [if_neg (by decide), if_neg (by decide), if_neg (by decide), if_pos rfl]
    simp
  | eq =>
    show sgn (ascii "==") x y = if (x == y) = true then 1 else 0
    unfold sgn
    rw [if_neg (by decide), if_neg (by decide), if_neg (by decide), if_neg (by decide), if_pos rfl]
    simp
  | ne =>
    show sgn (ascii "!=") x y = if (x != y) = true then 1 else 0
    unfold sgn
    rw [if_neg (by decide), if_neg (by decide), if_neg (by decide), if_neg (by decide), if_neg (by decide)]
    by_cases h : x = y
    · simp [h]
    · simp [h]
end VP
set_option Elab.async false
set_option linter.all false
set_option maxRecDepth 100000
set_option maxHeartbeats 4000000
namespace VP
open PySem PySem.Spec PyProof.Rows L2 TL
open Vaslca (Text Name ascii isName isSmall isDigit decimal Atom atomText isAtom opText relText toldOption findVar atomValue atomUses exprValue exprUses condValue condUses statusNumber reckoned related isExpr isCond)
open VO (Head)
open Evl (Ex Ev EvT EvA EvL EvU)
variable {P : Program} {w : World} {K : PySem.W.Frag} {mg : Str → Option Value} {base : Heap} {a : Ad}

/-! # what changes in a run -/
section
variable {H0 H H1 H' : Hp} {M : RA} {x : Vaslca.Run} {L : Nat → Option Nat} {b : Nat}
theorem mem_o (M : RA) : M.o ∈ six M := by simp [six]
theorem mem_lf (M : RA) : M.lf ∈ six M := by simp [six]
theorem mem_sp (M : RA) : M.sp ∈ six M := by simp [six]
theorem mem_hl (M : RA) : M.hl ∈ six M := by simp [six]
theorem mem_se (M : RA) : M.se ∈ six M := by simp [six]
theorem mem_lt (M : RA) : M.lt ∈ six M := by simp [six]
theorem RunAt.setLeft (h : RunAt a H0 H M x L b) {l : List Nat} (f : Fr M.lf H H') (hl : H' M.lf = some (.lst (natV l))) (hs : ∀ v ∈ l, v < 1000) : RunAt a H0 H' M { x with input := l } L b := by
  obtain ⟨n1, n2, n3, n4, n5, n6, n7, n8, n9, n10, n11, n12, n13, n14, n15⟩ := six_ne h.nd
  obtain ⟨ps, s1, s2, s3⟩ := h.sp
  obtain ⟨k1, a1, a2, a3⟩ := h.hl
  obtain ⟨k2, b1, b2, b3⟩ := h.se
  obtain ⟨k3, c1, c2, c3⟩ := h.lt
  exact ⟨h.go (mem_lf M) f, h.fr, h.nd, f _ _ h.ob n1, hl, ⟨ps, f _ _ s1 n6.symm, s2, fun i p s hp hs => (s3 i p s hp hs).keep f (mem_lf M)⟩, ⟨k1, f _ _ a1 n7.symm, a2, a3⟩, ⟨k2, f _ _ b1 n8.symm, b2, b3⟩, ⟨k3, f _ _ c1 n9.symm, c2, c3⟩, ⟨h.small.1, hs⟩, h.few, h.fewb⟩
theorem RunAt.setOb (h : RunAt a H0 H M x L b) {st : Vaslca.Status} {rd : Option Nat} (f : Fr M.o H H') (ho : H' M.o = some (.ins a.C_Run M.dx (rF M.sl M.ll M.lf M.sp M.hl M.se M.lt (statusNumber st) (toldOption rd)))) : RunAt a H0 H' M { x with status := st, read := rd } L b := by
  obtain ⟨n1, n2, n3, n4, n5, n6, n7, n8, n9, n10, n11, n12, n13, n14, n15⟩ := six_ne h.nd
  obtain ⟨ps, s1, s2, s3⟩ := h.sp
  obtain ⟨k1, a1, a2, a3⟩ := h.hl
  obtain ⟨k2, b1, b2, b3⟩ := h.se
  obtain ⟨k3, c1, c2, c3⟩ := h.lt
  exact ⟨h.go (mem_o M) f, h.fr, h.nd, ho, f _ _ h.lf n1.symm, ⟨ps, f _ _ s1 n2.symm, s2, fun i p s hp hs => (s3 i p s hp hs).keep f (mem_o M)⟩, ⟨k1, f _ _ a1 n3.symm, a2, a3⟩, ⟨k2, f _ _ b1 n4.symm, b2, b3⟩, ⟨k3, f _ _ c1 n5.symm, c2, c3⟩, h.small, h.few, h.fewb⟩
theorem RunAt.appStep (h : RunAt a H0 H M x L b) {s : Vaslca.Step} {p : Addr} {ps : List Addr} (f : Fr M.sp H H') (h0 : H M.sp = some (.lst (ps.map V.ref))) (hl : H' M.sp = some (.lst ((ps ++ [p]).map V.ref))) (hs : StepOk a H' M p s) (hx : x.steps.length < 120) : RunAt a H0 H' M { x with steps := x.steps ++ [s] } L b := by
  obtain ⟨n1, n2, n3, n4, n5, n6, n7, n8, n9, n10, n11, n12, n13, n14, n15⟩ := six_ne h.nd
  obtain ⟨ps', s1, s2, s3⟩ := h.sp
  have e : ps' = ps := by
    rw [h0] at s1
    have := HO.lst.inj (Option.some.inj s1)
    have inj : ∀ l m : List Addr, l.map V.ref = m.map V.ref → l = m := by
      intro l
      induction l with
      | nil => intro m hm; cases m with
        | nil => rfl
        | cons _ _ => simp at hm
      | cons y r ih => intro m hm; cases m with
        | nil => simp at hm
        | cons z q =>
          simp only [List.map_cons, List.cons.injEq] at hm
          rw [V.ref.inj hm.1, ih q hm.2]
    exact (inj _ _ this).symm
  subst e
  obtain ⟨k1, a1, a2, a3⟩ := h.hl
  obtain ⟨k2, b1, b2, b3⟩ := h.se
  obtain ⟨k3, c1, c2, c3⟩ := h.lt
  refine ⟨h.go (mem_sp M) f, h.fr, h.nd, f _ _ h.ob n2, f _ _ h.lf n6, ⟨ps' ++ [p], hl, by simp [s2], fun i q t hq ht => ?_⟩, ⟨k1, f _ _ a1 n10.symm, a2, a3⟩, ⟨k2, f _ _ b1 n11.symm, b2, b3⟩, ⟨k3, f _ _ c1 n12.symm, c2, c3⟩, h.small, by simp; omega, h.fewb⟩
  have ht' : (x.steps ++ [s])[i]? = some t := ht
  rcases Nat.lt_or_ge i ps'.length with lt | ge
  · rw [List.getElem?_append_left lt] at hq
    rw [List.getElem?_append_left (by omega)] at ht'
    exact (s3 i q t hq ht').keep f (mem_sp M)
  · rw [List.getElem?_append_right ge] at hq
    rw [List.getElem?_append_right (by omega), ← s2] at ht'
    cases e : i - ps'.length with
    | zero =>
      rw [e] at hq ht'
      cases Option.some.inj hq
      cases Option.some.inj ht'
      exact hs
    | succ n => rw [e] at hq; simp at hq
theorem findVar_with (x : Vaslca.Run) (v : Name) (k m : Nat) (u : Name) : findVar { x with vars := ⟨v, k, m⟩ :: x.vars.filter fun y => y.name != v } u = if u = v then some ⟨v, k, m⟩ else findVar x u := by
  unfold findVar
  show List.find? (fun y => y.name == u) (⟨v, k, m⟩ :: x.vars.filter fun y => y.name != v) = _
  by_cases h : u = v
  · subst h
    rw [if_pos rfl]
    exact List.find?_cons_of_pos (by simp)
  · rw [if_neg h, List.find?_cons_of_neg (by simpa using fun e => h e.symm)]
    rw [List.find?_filter]
    congr 1
    funext y
    by_cases q : y.name = u
    · simp [q, h]
    · simp [q]
theorem putK_len (kvs : List (Key × V)) (k : Key) (v : V) : (putK kvs k v).length ≤ kvs.length + 1 := by
  unfold putK
  split
  · simp
  · simp
theorem inr_S {u v : Text} : (Sum.inr (S u) : Key) = Sum.inr (S v) ↔ u = v := ⟨fun h => S_inj (Sum.inr.inj h), fun h => by rw [h]⟩
theorem RunAt.setVar (h : RunAt a H0 H M x L b) {v : Name} {k m : Nat} {k1 k2 : List (Key × V)} (hk : k < 1000) (hb : b + 1 ≤ 1000) (g1 : H M.hl = some (.dK k1)) (f1 : Fr M.hl H H1) (h1 : H1 M.hl = some (.dK (putK k1 (Sum.inr (S v)) (.int (k : Int)))))
    (g2 : H1 M.se = some (.dK k2)) (f2 : Fr M.se H1 H') (h2 : H' M.se = some (.dK (putK k2 (Sum.inr (S v)) (.int ((m + 1 : Nat) : Int))))) :
    RunAt a H0 H' M { x with vars := ⟨v, k, m⟩ :: x.vars.filter fun y => y.name != v } L (b + 1) := by
  obtain ⟨n1, n2, n3, n4, n5, n6, n7, n8, n9, n10, n11, n12, n13, n14, n15⟩ := six_ne h.nd
  obtain ⟨ps, s1, s2, s3⟩ := h.sp
  obtain ⟨k1', a1, a2, a3⟩ := h.hl
  obtain ⟨k2', b1, b2, b3⟩ := h.se
  obtain ⟨k3, c1, c2, c3⟩ := h.lt
  have e1 : k1' = k1 := by
    rw [g1] at a1
    exact (HO.dK.inj (Option.some.inj a1)).symm
  have e2 : k2' = k2 := by
    rw [f1 _ _ b1 n13.symm] at g2
    exact HO.dK.inj (Option.some.inj g2)
  subst e1 e2
  have f : ∀ q o, H q = some o → q ≠ M.hl → q ≠ M.se → H' q = some o := fun q o hq x1 x2 => f2 q o (f1 q o hq x1) x2
  refine ⟨fun q o hq => ?_, h.fr, h.nd, f _ _ h.ob n3 n4, f _ _ h.lf n7 n8, ⟨ps, f _ _ s1 n10 n11, s2, fun i p s hp hs => ((s3 i p s hp hs).keep f1 (mem_hl M)).keep f2 (mem_se M)⟩,
    ⟨_, f2 _ _ h1 n13, Nat.le_trans (putK_len _ _ _) (by omega), fun u => ?_⟩, ⟨_, h2, Nat.le_trans (putK_len _ _ _) (by omega), fun u => ?_⟩, ⟨k3, f _ _ c1 n14.symm n15.symm, by omega, c3⟩, ⟨fun y hy => ?_, h.small.2⟩, h.few, by omega⟩
  · refine f q o (h.ex q o hq) ?_ ?_
    · rintro rfl
      rw [h.fr _ (mem_hl M)] at hq
      cases hq
    · rintro rfl
      rw [h.fr _ (mem_se M)] at hq
      cases hq
  · rw [valV_put, findVar_with, a3 u]
    by_cases e : u = v
    · rw [if_pos (inr_S.mpr e), if_pos e]
      rfl
    · rw [if_neg (fun z => e (inr_S.mp z)), if_neg e]
  · rw [valV_put, findVar_with, b3 u]
    by_cases e : u = v
    · rw [if_pos (inr_S.mpr e), if_pos e]
      rfl
    · rw [if_neg (fun z => e (inr_S.mp z)), if_neg e]
  · have hy' : y ∈ (⟨v, k, m⟩ : Vaslca.Var) :: x.vars.filter fun y => y.name != v := hy
    rcases List.mem_cons.mp hy' with rfl | q
    · exact hk
    · exact h.small.1 y (List.mem_filter.mp q).1
theorem RunAt.setTest (h : RunAt a H0 H M x L b) {n m : Nat} {k3 : List (Key × V)} (hb : b + 1 ≤ 1000) (g : H M.lt = some (.dK k3)) (f : Fr M.lt H H') (h3 : H' M.lt = some (.dK (putK k3 (Sum.inl (n : Int)) (.int ((m + 1 : Nat) : Int))))) :
    RunAt a H0 H' M x (fun j => if j = n then some m else L j) (b + 1) := by
  obtain ⟨n1, n2, n3, n4, n5, n6, n7, n8, n9, n10, n11, n12, n13, n14, n15⟩ := six_ne h.nd
  obtain ⟨ps, s1, s2, s3⟩ := h.sp
  obtain ⟨k1, a1, a2, a3⟩ := h.hl
  obtain ⟨k2, b1, b2, b3⟩ := h.se
  obtain ⟨k3', c1, c2, c3⟩ := h.lt
  have e : k3' = k3 := by
    rw [g] at c1
    exact (HO.dK.inj (Option.some.inj c1)).symm
  subst e
  refine ⟨h.go (mem_lt M) f, h.fr, h.nd, f _ _ h.ob n5, f _ _ h.lf n9, ⟨ps, f _ _ s1 n12, s2, fun i p s hp hs => (s3 i p s hp hs).keep f (mem_lt M)⟩, ⟨k1, f _ _ a1 n14, by omega, a3⟩, ⟨k2, f _ _ b1 n15, by omega, b3⟩, ⟨_, h3, Nat.le_trans (putK_len _ _ _) (by omega), fun j => ?_⟩, h.small, h.few, by omega⟩
  rw [valV_put, c3 j]
  by_cases e : j = n
  · subst e
    rw [if_pos rfl, if_pos rfl]
    rfl
  · have e' : ¬ (Sum.inl (j : Int) : Key) = Sum.inl (n : Int) := fun z => e (by have := Sum.inl.inj z; omega)
    rw [if_neg e', if_neg e]
theorem RunAt.more (h : RunAt a H0 H M x L b) {c : Nat} (hc : b ≤ c) (h2 : c ≤ 1000) : RunAt a H0 H M x L c := by
  obtain ⟨k1, a1, a2, a3⟩ := h.hl
  obtain ⟨k2, b1, b2, b3⟩ := h.se
  obtain ⟨k3, c1, c2, c3⟩ := h.lt
  exact ⟨h.ex, h.fr, h.nd, h.ob, h.lf, h.sp, ⟨k1, a1, by omega, a3⟩, ⟨k2, b1, by omega, b3⟩, ⟨k3, c1, by omega, c3⟩, h.small, h.few, h2⟩
end
theorem ev_meth {σ : L2.St} {H : Hp} {te : TE} {t : TA} {p C dx : Addr} {m : Str} {sp : Sp} {dvs vs : List V} {E : XK} {fs : List (Str × V)} {z : V} (ha : Ev te σ H (.ref p)) (hp : H p = some (.ins C dx fs)) (hl : fs.lookup m = none) (h : EvA t σ H vs)
    (hs : Evl.SpV sp (.ref p :: (vs ++ dvs)) H z) : Ev (tMeth C m sp dvs E te t) σ H z := fun H1 e Q q =>
  ha H1 e _ fun H2 e2 => ⟨p, dx, fs, rfl, (e.trans e2) p _ hp, hl, h H2 (e.trans e2) _ fun H3 e3 => hs H3 ((e.trans e2).trans e3) Q (fun H4 e4 => q H4 ((e2.trans e3).trans e4)) E⟩
theorem el_meth {σ : L2.St} {H : Hp} {te : TE} {t : TA} {p C dx : Addr} {m : Str} {sp : Sp} {dvs vs xs : List V} {E : XK} {fs : List (Str × V)} (ha : Ev te σ H (.ref p)) (hp : H p = some (.ins C dx fs)) (hl : fs.lookup m = none) (h : EvA t σ H vs)
    (hs : Evl.SpL sp (.ref p :: (vs ++ dvs)) H xs) : EvL (tMeth C m sp dvs E te t) σ H xs := fun H1 e Q q =>
  ha H1 e _ fun H2 e2 => ⟨p, dx, fs, rfl, (e.trans e2) p _ hp, hl, h H2 (e.trans e2) _ fun H3 e3 => hs H3 ((e.trans e2).trans e3) Q (fun r H4 hr e4 h4 => q r H4 (Evl.fresh_back (e2.trans e3) hr) ((e2.trans e3).trans e4) h4) E⟩

def sp_Run_take_value (a : Ad) : Sp := fun vs H Q _ => ∃ (H0 : Hp) (M : RA) (x : Vaslca.Run) (L : Nat → Option Nat) (b : Nat) (r : SA) (s : Stm) (h : Head), vs = [.ref M.o, .ref r.o] ∧ RunAt a H0 H M x L b ∧ StmAt a H r s ∧ IsOf s h ∧ h.ok = true ∧
  ∀ H', Fr M.lf H H' → RunAt a H0 H' M { x with input := leftOf x h } L b → Q (.int (valOf x h : Int)) H'
theorem kind_stop (h : Head) : (stmOf h).kind = 4 ↔ h = .halt := by
  cases h <;> simp [stmOf, rowStm]
/-- the atoms of a statement, and what is reckoned of them -/
theorem val_atoms (x : Vaslca.Run) {h : Head} (k : h.ok = true) (h1 : ∀ v, h ≠ .read v) (h2 : h ≠ .halt) :
    (∃ t, (stmOf h).atoms = [atomText t] ∧ isAtom t = true ∧ valOf x h = atomValue x t) ∨
    ∃ s t, (stmOf h).atoms = [atomText s, atomText t] ∧ isAtom s = true ∧ isAtom t = true ∧ valOf x h = sgn (stmOf h).sign (atomValue x s) (atomValue x t) := by
  cases h with
  | set v e =>
    obtain ⟨s, o, t⟩ := e
    simp only [Head.ok, Bool.and_eq_true, isExpr] at k
    by_cases ho : o = .alone
    · left
      refine ⟨s, ?_, k.2.1, ?_⟩
      · show exprAtoms ⟨s, o, t⟩ = _
        unfold exprAtoms
        rw [if_pos ho]
      · subst ho
        rfl
    · right
      refine ⟨s, t, ?_, k.2.1, k.2.2.1, ?_⟩
      · show exprAtoms ⟨s, o, t⟩ = _
        unfold exprAtoms
        rw [if_neg ho]
      · show exprValue x ⟨s, o, t⟩ = sgn (opText o) _ _
        rw [sgn_op o ho]
        rfl
  | read v => exact absurd rfl (h1 v)
  | write t => exact Or.inl ⟨t, rfl, k, rfl⟩
  | halt => exact absurd rfl h2
  | ite c =>
    obtain ⟨s, r, t⟩ := c
    simp only [Head.ok, isCond, Bool.and_eq_true] at k
    exact Or.inr ⟨s, t, rfl, k.1, k.2, (sgn_rel r _ _).symm⟩
  | loop c =>
    obtain ⟨s, r, t⟩ := c
    simp only [Head.ok, isCond, Bool.and_eq_true] at k
    exact Or.inr ⟨s, t, rfl, k.1, k.2, (sgn_rel r _ _).symm⟩
theorem left_same (x : Vaslca.Run) {h : Head} (h1 : ∀ v, h ≠ .read v) : leftOf x h = x.input := by
  cases h with
  | read v => exact absurd rfl (h1 v)
  | _ => rfl
theorem ok_Run_take_value (T : Facts K mg a) : FnOk P w K mg base CX0 2 a.f_Run_take_value a.d_Run_take_value ["self", "statement"] (sp_Run_take_value a) := by
  refine T.F_Run_take_value.ok sc_Run_take_value (fun vs H Q E h => ?_) (fun cdv A outer s H vs Q E hr h => ?_)
  · obtain ⟨H0, M, x, L, b, r, s, k, rfl, _⟩ := h
    rfl
  · refine ⟨_, (pss_cons (ps_if (pt_cmpR op_eq (pe_fld (pv 1) rfl) (pe_gi rfl T.c_READ.choose_spec) (nomark _))
    (pss_one (ps_ret (pe_ifExp (pt_cmpR (op_neD hr.units) (pe_fld (pv 0) rfl) (pe_lst pa_nil) (nomark _)) (pe_bm PySem.F.plainAttrs_list PySem.F.slot_list_pop PySem.F.type_list_pop mt_popAt (pe_fld (pv 0) rfl) (pa_cons pe_int pa_nil)) pe_int)))
    pss_nil)
    (pss_cons (ps_if (pt_cmpR op_eq (pe_fld (pv 1) rfl) (pe_gi rfl T.c_STOP.choose_spec) (nomark _))
    (pss_one (ps_ret pe_int))
    pss_nil)
    (pss_cons (ps_setLc (i := 2) (own := [("atom", 3)]) (g := gName 3) (tt := tYes) (by rfl) sc_Run_take_value.nd rfl rfl (sw_true rfl rfl rfl (by decide +kernel)) (pi_list (pe_fld (pv 1) rfl)) (blkOk_by (own := [("atom", 3)]) (N := ["self", "statement", "numbers", "atom"]) (sc := defScope st_Run_take_value) (by decide +kernel)) (fun _ _ _ _ _ => pg_name (i := 3) sc_Run_take_value.nd rfl (Or.inl rfl)) (fun _ _ _ _ _ => pts_nil) (fun _ _ _ _ _ => (pe_meth (pv 0) T.cl_Run T.M_Run_number_of (ok_Run_number_of T) (hr.mono (by decide)) T.B_Run_number_of .nil pass0 (pa_cons (pv 3) pa_nil))))
    (pss_cons (ps_if (pt_cmpR op_eq (pe_callB call_len_seq (by rfl) T.b_len (by decide +kernel) (pa_cons (pv 2) pa_nil)) pe_int (nomark _))
    (pss_one (ps_ret (pe_ix ix_list (pv 2) pe_int (fun _ _ => rfl))))
    pss_nil)
    (pss_one (ps_ret (pe_call (ok_reckon T) (hr.mono (by decide)) rfl T.g_reckon T.F_reckon.kp T.B_reckon .nil pass0 (pa_cons (pe_ix ix_list (pv 2) pe_int (fun _ _ => rfl)) (pa_cons (pe_fld (pv 1) rfl) (pa_cons (pe_ix ix_list (pv 2) pe_int (fun _ _ => rfl)) pa_nil)))))))))), ?_⟩
    obtain ⟨H0, M, x, L, b, r, s', hd, rfl, hR, hs, ho, hk, k⟩ := h
    refine Evl.q_when (b := decide (V.int (s'.kind : Int) = V.int 2)) (Evl.et_test (Evl.ev_op (ev_fld (Evl.ev_var rfl) hs.o T.cl_Statement T.n_Statement_kind (stF_kind _ _)) Evl.ev_c (Evl.rv_eq rfl))) (fun hb H1 e1 => ?_) (fun hb H1 e1 => ?_)
    · have k2 : (stmOf hd).kind = 2 := by
        rw [← ho.kind]
        have := V.int.inj (of_decide_eq_true hb)
        omega
      obtain ⟨v, rfl⟩ := (kind_read hd).mp k2
      have R1 := hR.mono e1
      have tt : EvT (tTest (tOp (rNeD K) (tFld K (tVar 0) "left") (tLst tNil))) [some (V.ref M.o), some (V.ref r.o), none, none] H1 (!x.input.isEmpty) := Evl.et_test (Evl.ev_opL (xs := []) (ev_fld (Evl.ev_var rfl) R1.ob T.cl_Run T.n_Run_left (rF_left _ _ _ _ _ _ _ _ _)) (Evl.el_lst Evl.ea_nil (by decide)) fun q H3 h3 e3 => rv_neD_nil (e3 _ _ R1.lf) h3)
      refine tt H1 (Ex.refl H1) _ fun H2 e2 => ?_
      have R2 := R1.mono e2
      cases hi : x.input with
      | nil =>
        refine iteF ?_
        have e : ({ x with input := leftOf x (.read v) } : Vaslca.Run) = x := by
          show ({ x with input := x.input.drop 1 } : Vaslca.Run) = x
          rw [hi]
          show ({ x with input := [] } : Vaslca.Run) = x
          rw [← hi]
        have z := k H2 (Fr.of (e1.trans e2)) (by rw [e]; exact R2)
        have ev : valOf x (.read v) = 0 := by
          show x.input.headD 0 = 0
          rw [hi]
          rfl
        rw [ev] at z
        exact z
      | cons n rest =>
        refine iteT ?_
        have lf2 := R2.lf
        rw [hi] at lf2
        refine (ev_fld (Evl.ev_var rfl) R2.ob T.cl_Run T.n_Run_left (rF_left _ _ _ _ _ _ _ _ _)) H2 (Ex.refl H2) _ fun H3 e3 => ?_
        have lf3 := e3 _ _ lf2
        refine ⟨.inl ⟨rfl, _, Evl.sq_of lf3⟩, M.lf, _, 0, 0, _, rfl, rfl, lf3, by decide, by decide, ?_, rfl, ?_⟩
        · rw [natV_len]
          unfold seqIndex?
          simp
        · have R3 := R2.mono e3
          have hsm := R3.small.2
          rw [hi] at hsm
          have fr : Fr M.lf H (upd H3 M.lf (.lst ((natV (n :: rest)).eraseIdx 0))) := (Fr.of ((e1.trans e2).trans e3)).put
          have z := k _ fr (by
            have := R3.setLeft (l := rest) (H' := upd H3 M.lf (.lst ((natV (n :: rest)).eraseIdx 0))) ((Fr.refl _ _).put) (by rw [upd_same]; rfl) (fun u hu => hsm u (by simp [hu]))
            show RunAt a H0 _ M { x with input := x.input.drop 1 } L b
            rw [hi]
            exact this)
          have ev : valOf x (.read v) = n := by
            show x.input.headD 0 = n
            rw [hi]
            rfl
          rw [ev] at z
          exact z
    · have hr : ∀ v, hd ≠ .read v := by
        rintro v rfl
        rw [ho.kind] at hb
        revert hb
        show decide (V.int ((2 : Nat) : Int) = V.int 2) = false → False
        decide
      have R1 := hR.mono e1
      have s1 := hs.mono e1
      have eI : ({ x with input := leftOf x hd } : Vaslca.Run) = x := by rw [left_same x hr]
      rw [eI] at k
      refine Evl.q_when (b := decide (V.int (s'.kind : Int) = V.int 4)) (Evl.et_test (Evl.ev_op (ev_fld (Evl.ev_var rfl) s1.o T.cl_Statement T.n_Statement_kind (stF_kind _ _)) Evl.ev_c (Evl.rv_eq rfl))) (fun hb2 H2 e2 => ?_) (fun hb2 H2 e2 => ?_)
      · have k4 : (stmOf hd).kind = 4 := by
          rw [← ho.kind]
          have := V.int.inj (of_decide_eq_true hb2)
          omega
        have := (kind_stop hd).mp k4
        subst this
        exact Evl.s_ret Evl.ev_c fun H3 e3 => k H3 (Fr.of ((e1.trans e2).trans e3)) ((R1.mono e2).mono e3)
      · have hh : hd ≠ .halt := by
          rintro rfl
          rw [ho.kind] at hb2
          revert hb2
          show decide (V.int ((4 : Nat) : Int) = V.int 4) = false → False
          decide
        have R2 := R1.mono e2
        have s2 := s1.mono e2
        have at2 := s2.at_
        rw [ho.atoms] at at2
        rcases val_atoms x hk hr hh with ⟨t, ea, ht, ev⟩ | ⟨t, u, ea, ht, hu, ev⟩
        · rw [ea] at at2
          refine Evl.q_asgL (xs := [.int (atomValue x t : Int)]) (el_is (Evl.el_lcL (fun _ => true) (fun _ => V.int (atomValue x t : Int)) (ev_fld (Evl.ev_var rfl) s2.o T.cl_Statement T.n_Statement_atoms (stF_atoms _ _)) (Evl.sq_of at2) (by simp [wdV]) (fun _ => rfl)
            (fun i y H3 e3 hi H4 _ Q q => q H4 (Ex.refl H4)) (fun i y H3 e3 hi _ => ?_)) rfl) fun p H3 n3 e3 h3 => ?_
          · obtain ⟨t', ht', rfl⟩ := wdV_at hi
            have : t' = atomText t := by
              cases i with
              | zero => simpa using ht'.symm
              | succ n => simp at ht'
            subst this
            exact ev_meth (Evl.ev_var rfl) (e3 _ _ R2.ob) (rF_no1 _ _ _ _ _ _ _ _ _) (Evl.ea_cons (Evl.ev_var rfl) Evl.ea_nil) fun H4 e4 Q q E => ⟨H0, M, x, L, b, t, rfl, (R2.mono e3).mono e4, ht, q⟩
          · refine Evl.q_when (b := true) (Evl.et_test (Evl.ev_is (Evl.ev_op (Evl.ev_len (Evl.ev_var rfl) (Evl.sq_of h3)) Evl.ev_c (Evl.rv_eq rfl)) (by rfl))) (fun _ H4 e4 => ?_) (fun z => by cases z)
            refine Evl.s_ret (Evl.ev_op (Evl.ev_var rfl) Evl.ev_c (Evl.rv_ixL (Evl.sq_of (e4 _ _ h3)) (atI_nat (j := 0) rfl))) fun H5 e5 => ?_
            rw [ev] at k
            exact k H5 (Fr.of ((((e1.trans e2).trans e3).trans e4).trans e5)) (((R2.mono e3).mono e4).mono e5)
        · rw [ea] at at2
          refine Evl.q_asgL (xs := [.int (atomValue x t : Int), .int (atomValue x u : Int)]) (el_is (Evl.el_lcL (fun _ => true) (fun i => V.int ((if i = 0 then atomValue x t else atomValue x u : Nat) : Int)) (ev_fld (Evl.ev_var rfl) s2.o T.cl_Statement T.n_Statement_atoms (stF_atoms _ _)) (Evl.sq_of at2) (by simp [wdV]) (fun _ => rfl)
            (fun i y H3 e3 hi H4 _ Q q => q H4 (Ex.refl H4)) (fun i y H3 e3 hi _ => ?_)) rfl) fun p H3 n3 e3 h3 => ?_
          · obtain ⟨t', ht', rfl⟩ := wdV_at hi
            match i, ht' with
            | 0, ht' =>
              have : t' = atomText t := by simpa using ht'.symm
              subst this
              exact ev_meth (Evl.ev_var rfl) (e3 _ _ R2.ob) (rF_no1 _ _ _ _ _ _ _ _ _) (Evl.ea_cons (Evl.ev_var rfl) Evl.ea_nil) fun H4 e4 Q q E => ⟨H0, M, x, L, b, t, rfl, (R2.mono e3).mono e4, ht, q⟩
            | 1, ht' =>
              have : t' = atomText u := by simpa using ht'.symm
              subst this
              exact ev_meth (Evl.ev_var rfl) (e3 _ _ R2.ob) (rF_no1 _ _ _ _ _ _ _ _ _) (Evl.ea_cons (Evl.ev_var rfl) Evl.ea_nil) fun H4 e4 Q q E => ⟨H0, M, x, L, b, u, rfl, (R2.mono e3).mono e4, hu, q⟩
            | n + 2, ht' => simp at ht'
          · refine Evl.q_when (b := false) (Evl.et_test (Evl.ev_is (Evl.ev_op (Evl.ev_len (Evl.ev_var rfl) (Evl.sq_of h3)) Evl.ev_c (Evl.rv_eq rfl)) (by rfl))) (fun z => by cases z) (fun _ H4 e4 => ?_)
            have h4 := e4 _ _ h3
            have s4 := (s2.mono e3).mono e4
            have sx := R2.small.1
            refine Evl.s_ret (Evl.ev_call (vs := [.int (atomValue x t : Int), .str (S s'.sign), .int (atomValue x u : Int)]) (Evl.ea_cons (Evl.ev_op (Evl.ev_var rfl) Evl.ev_c (Evl.rv_ixL (Evl.sq_of h4) (atI_nat (j := 0) rfl))) (Evl.ea_cons (ev_fld (Evl.ev_var rfl) s4.o T.cl_Statement T.n_Statement_sign (stF_sign _ _)) (Evl.ea_cons (Evl.ev_op (Evl.ev_var rfl) Evl.ev_c (Evl.rv_ixL (Evl.sq_of h4) (atI_nat (j := 1) rfl))) Evl.ea_nil)))
              fun H5 e5 Q q E => ⟨_, _, _, rfl, atom_small sx ht, atom_small sx hu, q⟩) fun H5 e5 => ?_
            rw [ev, ← ho.sign] at k
            exact k H5 (Fr.of ((((e1.trans e2).trans e3).trans e4).trans e5)) (((R2.mono e3).mono e4).mono e5)

def sp_Step_init (a : Ad) : Sp := fun vs H Q _ => ∃ (p dx og : Addr) (n v k : Nat), vs = [.ref p, .int (n : Int), .int (v : Int), .int (k : Int), .ref og] ∧ H p = some (.ins a.C_Step dx []) ∧ ∀ H', Fr p H H' → H' p = some (.ins a.C_Step dx (sF n v k og)) → Q .non H'
theorem ok_Step_init (T : Facts K mg a) : FnOk P w K mg base CX0 1 a.f_Step_init a.d_Step_init ["self", "line", "value", "let_by", "origins"] (sp_Step_init a) := by
  refine T.F_Step_init.ok sc_Step_init (fun vs H Q E h => ?_) (fun cdv A outer s H vs Q E hr h => ?_)
  · obtain ⟨p, dx, og, n, v, k, rfl, _⟩ := h
    rfl
  · refine ⟨_, (pss_cons (ps_fld (pv 0) (pv 1) rfl)
    (pss_cons (ps_fld (pv 0) (pv 2) rfl)
    (pss_cons (ps_fld (pv 0) (pv 3) rfl)
    (pss_one (ps_fld (pv 0) (pv 4) rfl))))), ?_⟩
    obtain ⟨p, dx, og, n, v, k, rfl, hp, q⟩ := h
    refine q_fld (Evl.ev_var rfl) (Evl.ev_var rfl) hp T.cl_Step T.n_Step_line (by simp) (fs' := [("line", .int (n : Int))]) (by kernel_rfl) fun H1 f1 h1 => ?_
    refine q_fld (Evl.ev_var rfl) (Evl.ev_var rfl) h1 T.cl_Step T.n_Step_value (by simp) (fs' := [("line", .int (n : Int)), ("value", .int (v : Int))]) (by kernel_rfl) fun H2 f2 h2 => ?_
    refine q_fld (Evl.ev_var rfl) (Evl.ev_var rfl) h2 T.cl_Step T.n_Step_let_by (by simp) (fs' := [("line", .int (n : Int)), ("value", .int (v : Int)), ("let_by", .int (k : Int))]) (by kernel_rfl) fun H3 f3 h3 => ?_
    refine s_fld (Evl.ev_var rfl) (Evl.ev_var rfl) h3 T.cl_Step T.n_Step_origins (by simp) (fs' := sF n v k og) (by kernel_rfl) fun H4 f4 h4 => ?_
    exact q H4 (((f1.trans f2).trans f3).trans f4) h4
end VP
set_option Elab.async false
set_option linter.all false
set_option maxRecDepth 100000
set_option maxHeartbeats 4000000
namespace VP
open PySem PySem.Spec PyProof.Rows L2 TL
open Vaslca (Text Name ascii isName isSmall isDigit decimal Atom atomText isAtom opText relText toldOption findVar atomValue atomUses exprValue exprUses condValue condUses statusNumber reckoned related isExpr isCond)
open VO (Head)
open Evl (Ex Ev EvT EvA EvL EvU)
variable {P : Program} {w : World} {K : PySem.W.Frag} {mg : Str → Option Value} {base : Heap} {a : Ad}

section
variable {σ : L2.St} {H : Hp} {td ty tv : TE} {D : Ends} {tz : TS} {d : Addr} {k : Key} {kvs : List (Key × V)} {v : V}
theorem s_dput (hv : Ev tv σ H v) (hd : Ev td σ H (.ref d)) (hy : Ev ty σ H (kV k)) (h : H d = some (.dK kvs)) (hl : kvs.length < 100000) (q : ∀ H2, Fr d H H2 → H2 d = some (.dK (putK kvs k v)) → D.nx σ H2) : sDPut td ty tv D σ H :=
  hv H (Ex.refl H) _ fun H1 e1 => hd H1 e1 _ fun H2 e2 => hy H2 (e1.trans e2) _ fun H3 e3 => ⟨d, _, rfl, DPut.k (((e1.trans e2).trans e3) d _ h) (Evl.sz_lt hl), q _ (Fr.of ((e1.trans e2).trans e3)).put upd_same⟩
theorem q_dput (hv : Ev tv σ H v) (hd : Ev td σ H (.ref d)) (hy : Ev ty σ H (kV k)) (h : H d = some (.dK kvs)) (hl : kvs.length < 100000) (q : ∀ H2, Fr d H H2 → H2 d = some (.dK (putK kvs k v)) → tz D σ H2) : tSeq (sDPut td ty tv) tz D σ H := s_dput (D := { D with nx := tz D }) hv hd hy h hl q
end
theorem name_ne {v : Text} (h : isName v = true) : (v == []) = false := by
  cases v with
  | nil => simp [isName] at h
  | cons b r => rfl
def withVar' (u : Name) (v m : Nat) (x : Vaslca.Run) : Vaslca.Run := { x with vars := ⟨u, v, m⟩ :: x.vars.filter fun y => y.name != u }
def noted (v m : Nat) (x : Vaslca.Run) : Head → Vaslca.Run
  | .set u _ => withVar' u v m x
  | .read u => { withVar' u v m x with read := some m }
  | .halt => { x with status := .stopped }
  | _ => x
def lastT (h : Head) (n m : Nat) (L : Nat → Option Nat) : Nat → Option Nat := if isHdr h = true then (fun j => if j = n then some m else L j) else L
def sp_Run_note_effects (a : Ad) : Sp := fun vs H Q _ => ∃ (H0 : Hp) (M : RA) (x : Vaslca.Run) (L : Nat → Option Nat) (b : Nat) (st : List Stm) (s : Stm) (h : Head) (n v m : Nat), vs = [.ref M.o, .int (n : Int), .int (v : Int)] ∧ RunAt a H0 H M x L b ∧ PS a H0 M.sl st ∧ st[n]? = some s ∧ IsOf s h ∧ h.ok = true ∧
  x.steps.length = m + 1 ∧ v < 1000 ∧ b + 1 ≤ 1000 ∧ ∀ H', RunAt a H0 H' M (noted v m x h) (lastT h n m L) (b + 1) → Q .non H'
theorem ok_Run_note_effects (T : Facts K mg a) : FnOk P w K mg base CX0 2 a.f_Run_note_effects a.d_Run_note_effects ["self", "line", "value"] (sp_Run_note_effects a) := by
  refine T.F_Run_note_effects.ok sc_Run_note_effects (fun vs H Q E h => ?_) (fun cdv A outer s H vs Q E hr h => ?_)
  · obtain ⟨H0, M, x, L, b, st, s, h, n, v, m, rfl, _⟩ := h
    rfl
  · refine ⟨_, (pss_cons (ps_set (i := 3) sc_Run_note_effects.nd rfl (Or.inl rfl) (pe_ix ix_list (pe_fld (pv 0) rfl) (pv 1) (fun _ _ => rfl)))
    (pss_cons (ps_set (i := 4) sc_Run_note_effects.nd rfl (Or.inl rfl) (pe_callB call_len_seq (by rfl) T.b_len (by decide +kernel) (pa_cons (pe_fld (pv 0) rfl) pa_nil)))
    (pss_cons (ps_if (pt_cmpR op_ne (pe_fld (pv 3) rfl) pe_str (nomark _))
    (pss_cons (ps_dput (by exact hu_of hr) (pe_fld (pv 0) rfl) (pe_fld (pv 3) rfl) (pv 2) rfl)
    (pss_one (ps_dput (by exact hu_of hr) (pe_fld (pv 0) rfl) (pe_fld (pv 3) rfl) (pv 4) rfl)))
    pss_nil)
    (pss_cons (ps_if (pt_cmpR op_eq (pe_fld (pv 3) rfl) (pe_gi rfl T.c_READ.choose_spec) (nomark _))
    (pss_one (ps_fld (pv 0) (pv 4) rfl))
    pss_nil)
    (pss_cons (ps_if (pt_val (pe_call (ok_is_header T) (hr.mono (by decide)) rfl T.g_is_header T.F_is_header.kp T.B_is_header .nil pass0 (pa_cons (pv 3) pa_nil)))
    (pss_one (ps_dput (by exact hu_of hr) (pe_fld (pv 0) rfl) (pv 1) (pv 4) rfl))
    pss_nil)
    (pss_one (ps_if (pt_cmpR op_eq (pe_fld (pv 3) rfl) (pe_gi rfl T.c_STOP.choose_spec) (nomark _))
    (pss_one (ps_fld (pv 0) (pe_gi rfl T.c_STOPPED.choose_spec) rfl))
    pss_nil))))))), ?_⟩
    obtain ⟨H0, M, x, L, b, st, s', hd, n, v, m, rfl, hR, hP, hst, ho, hk, hm, hv, hb1, k⟩ := h
    obtain ⟨rs, p1, p2, p3⟩ := hP.ex
    have hn : n < st.length := (List.getElem?_eq_some_iff.mp hst).1
    obtain ⟨r, hr⟩ : ∃ r, rs[n]? = some r := ⟨_, List.getElem?_eq_getElem (by omega)⟩
    have s0 : StmAt a H0 r s' := p3 n r s' hr hst
    obtain ⟨ps, q1, q2, q3⟩ := hR.sp
    refine Evl.q_asg (v := .ref r.o) (Evl.ev_op (ev_fld (Evl.ev_var rfl) hR.ob T.cl_Run T.n_Run_statements (rF_statements _ _ _ _ _ _ _ _ _)) (Evl.ev_var rfl) (Evl.rv_ixL (Evl.sq_of (hR.ex _ _ p1)) (atI_nat (by rw [List.getElem?_map, hr]; rfl)))) fun H1 e1 => ?_
    have R1 := hR.mono e1
    refine Evl.q_asg (v := .int ((m + 1 : Nat) : Int)) (ev_lenL (ev_fld (Evl.ev_var rfl) R1.ob T.cl_Run T.n_Run_steps (rF_steps _ _ _ _ _ _ _ _ _)) (e1 _ _ q1) (by rw [List.length_map, q2, hm])) fun H2 e2 => ?_
    have R2 := R1.mono e2
    have kind : ∀ {H' : Hp} {σ : L2.St} {c : Nat} {bb : Bool}, Ex H0 H' → σ[3]? = some (some (.ref r.o)) → (decide (V.int (((stmOf hd).kind : Nat) : Int) = V.int (c : Int)) = bb) → EvT (tTest (tOp rEq (tFld K (tVar 3) "kind") (tC (.int (c : Int))))) σ H' bb := by
      intro H' σ c bb e hσ hh
      refine Evl.et_test (Evl.ev_is (Evl.ev_op (ev_fld (Evl.ev_var hσ) (s0.mono e).o T.cl_Statement T.n_Statement_kind (stF_kind _ _)) Evl.ev_c (Evl.rv_eq rfl)) ?_)
      rw [ho.kind, hh]
    have hdr : ∀ {H' : Hp} {σ : L2.St} {bb : Bool}, Ex H0 H' → σ[3]? = some (some (.ref r.o)) → isHdr hd = bb → EvT (tB (tCall (sp_is_header a) [] E0 (tCons (tVar 3) tNil))) σ H' bb := by
      intro H' σ bb e hσ hh
      refine Evl.et_B (Evl.ev_call (Evl.ea_cons (Evl.ev_var hσ) Evl.ea_nil) fun H3 e3 Q q E => ⟨r, s', rfl, (s0.mono e).mono e3, fun H4 e4 => ?_⟩)
      have : decide (s'.kind = 5 ∨ s'.kind = 6) = bb := by rw [ho.kind, isHdr_kind, hh]
      rw [this]
      exact q H4 e4
    have sets : ∀ {H' : Hp} {σ : L2.St} {bb : Bool}, Ex H0 H' → σ[3]? = some (some (.ref r.o)) → (!((stmOf hd).sets == [])) = bb → EvT (tTest (tOp rNe (tFld K (tVar 3) "sets") (tC (.str "")))) σ H' bb := by
      intro H' σ bb e hσ hh
      refine Evl.et_test (Evl.ev_is (Evl.ev_op (ev_fld (Evl.ev_var hσ) (s0.mono e).o T.cl_Statement T.n_Statement_sets (stF_sets _ _)) Evl.ev_c (Evl.rv_ne rfl)) ?_)
      rw [lit_empty, dec_S, ho.sets, hh]
    have setv : ∀ {H' : Hp} {σ : L2.St}, Ex H0 H' → σ[3]? = some (some (.ref r.o)) → Ev (tFld K (tVar 3) "sets") σ H' (.str (S (stmOf hd).sets)) := by
      intro H' σ e hσ
      refine Evl.ev_is (ev_fld (Evl.ev_var hσ) (s0.mono e).o T.cl_Statement T.n_Statement_sets (stF_sets _ _)) ?_
      rw [ho.sets]
    cases hd with
    | set u e =>
      have hnm : isName u = true := by simp only [Head.ok, Bool.and_eq_true] at hk; exact hk.1
      skip
      refine Evl.q_when (b := true) (sets R2.ex rfl (by show (!(u == [])) = true; rw [name_ne hnm]; rfl)) (fun _ H3 e3 => ?_) (fun z => by cases z)
      have R3 := R2.mono e3
      obtain ⟨k1, a1, a2, a3⟩ := R3.hl
      obtain ⟨k2, b1, b2, b3⟩ := R3.se
      have nhs : M.hl ≠ M.se := (six_ne R3.nd).2.2.2.2.2.2.2.2.2.2.2.2.1
      refine q_dput (k := Sum.inr (S u)) (v := .int (v : Int)) (Evl.ev_var rfl) (ev_fld (Evl.ev_var rfl) R3.ob T.cl_Run T.n_Run_held (rF_held _ _ _ _ _ _ _ _ _)) (setv R3.ex rfl) a1 (by omega) fun H4 f4 h4 => ?_
      have ob4 := f4 _ _ R3.ob (six_ne R3.nd).2.2.1
      have ex4 : Ex H0 H4 := R3.go (mem_hl M) f4
      refine s_dput (k := Sum.inr (S u)) (v := .int ((m + 1 : Nat) : Int)) (Evl.ev_var rfl) (ev_fld (Evl.ev_var rfl) ob4 T.cl_Run T.n_Run_setters (rF_setters _ _ _ _ _ _ _ _ _)) (setv ex4 rfl) (f4 _ _ b1 nhs.symm) (by omega) fun H5 f5 h5 => ?_
      have R5 := R3.setVar (m := m) hv hb1 a1 f4 h4 (f4 _ _ b1 nhs.symm) f5 h5
      refine Evl.q_when (b := false) (kind R5.ex rfl (by rfl)) (fun z => by cases z) (fun _ H7 e7 => ?_)
      have R7 := R5.mono e7
      refine Evl.q_when (b := false) (hdr R7.ex rfl rfl) (fun z => by cases z) (fun _ H9 e9 => ?_)
      have R9 := R7.mono e9
      refine Evl.s_when (b := false) (kind R9.ex rfl (by rfl)) (fun z => by cases z) (fun _ H10 e10 => ?_)
      exact k H10 ((R9.mono e10).more (by omega) (by omega))
    | read u =>
      have hnm : isName u = true := hk
      skip
      refine Evl.q_when (b := true) (sets R2.ex rfl (by show (!(u == [])) = true; rw [name_ne hnm]; rfl)) (fun _ H3 e3 => ?_) (fun z => by cases z)
      have R3 := R2.mono e3
      obtain ⟨k1, a1, a2, a3⟩ := R3.hl
      obtain ⟨k2, b1, b2, b3⟩ := R3.se
      have nhs : M.hl ≠ M.se := (six_ne R3.nd).2.2.2.2.2.2.2.2.2.2.2.2.1
      refine q_dput (k := Sum.inr (S u)) (v := .int (v : Int)) (Evl.ev_var rfl) (ev_fld (Evl.ev_var rfl) R3.ob T.cl_Run T.n_Run_held (rF_held _ _ _ _ _ _ _ _ _)) (setv R3.ex rfl) a1 (by omega) fun H4 f4 h4 => ?_
      have ob4 := f4 _ _ R3.ob (six_ne R3.nd).2.2.1
      have ex4 : Ex H0 H4 := R3.go (mem_hl M) f4
      refine s_dput (k := Sum.inr (S u)) (v := .int ((m + 1 : Nat) : Int)) (Evl.ev_var rfl) (ev_fld (Evl.ev_var rfl) ob4 T.cl_Run T.n_Run_setters (rF_setters _ _ _ _ _ _ _ _ _)) (setv ex4 rfl) (f4 _ _ b1 nhs.symm) (by omega) fun H5 f5 h5 => ?_
      have R5 := R3.setVar (m := m) hv hb1 a1 f4 h4 (f4 _ _ b1 nhs.symm) f5 h5
      refine Evl.q_when (b := true) (kind R5.ex rfl (by rfl)) (fun _ H6 e6 => ?_) (fun z => by cases z)
      have R6 := R5.mono e6
      refine s_fld (y := .int ((m + 1 : Nat) : Int)) (Evl.ev_var rfl) (Evl.ev_var rfl) R6.ob T.cl_Run T.n_Run_last_read (rF_len _ _ _ _ _ _ _ _ _) (rF_put_last_read _ _ _ _ _ _ _ _ _ _) fun H7 f7 h7 => ?_
      have R7 := R6.setOb (st := x.status) (rd := some m) f7 h7
      refine Evl.q_when (b := false) (hdr R7.ex rfl rfl) (fun z => by cases z) (fun _ H9 e9 => ?_)
      have R9 := R7.mono e9
      refine Evl.s_when (b := false) (kind R9.ex rfl (by rfl)) (fun z => by cases z) (fun _ H10 e10 => ?_)
      exact k H10 ((R9.mono e10).more (by omega) (by omega))
    | write t =>
      skip
      refine Evl.q_when (b := false) (sets R2.ex rfl rfl) (fun z => by cases z) (fun _ H5 e5 => ?_)
      have R5 := R2.mono e5
      refine Evl.q_when (b := false) (kind R5.ex rfl (by rfl)) (fun z => by cases z) (fun _ H7 e7 => ?_)
      have R7 := R5.mono e7
      refine Evl.q_when (b := false) (hdr R7.ex rfl rfl) (fun z => by cases z) (fun _ H9 e9 => ?_)
      have R9 := R7.mono e9
      refine Evl.s_when (b := false) (kind R9.ex rfl (by rfl)) (fun z => by cases z) (fun _ H10 e10 => ?_)
      exact k H10 ((R9.mono e10).more (by omega) (by omega))
    | halt  =>
      skip
      refine Evl.q_when (b := false) (sets R2.ex rfl rfl) (fun z => by cases z) (fun _ H5 e5 => ?_)
      have R5 := R2.mono e5
      refine Evl.q_when (b := false) (kind R5.ex rfl (by rfl)) (fun z => by cases z) (fun _ H7 e7 => ?_)
      have R7 := R5.mono e7
      refine Evl.q_when (b := false) (hdr R7.ex rfl rfl) (fun z => by cases z) (fun _ H9 e9 => ?_)
      have R9 := R7.mono e9
      refine Evl.s_when (b := true) (kind R9.ex rfl (by rfl)) (fun _ H10 e10 => ?_) (fun z => by cases z)
      have R10 := R9.mono e10
      refine s_fld (y := .int ((1 : Nat) : Int)) Evl.ev_c (Evl.ev_var rfl) R10.ob T.cl_Run T.n_Run_outcome (rF_len _ _ _ _ _ _ _ _ _) (rF_put_outcome _ _ _ _ _ _ _ _ _ _) fun H11 f11 h11 => ?_
      exact k H11 ((R10.setOb (st := .stopped) (rd := x.read) f11 h11).more (by omega) (by omega))
    | ite c =>
      skip
      refine Evl.q_when (b := false) (sets R2.ex rfl rfl) (fun z => by cases z) (fun _ H5 e5 => ?_)
      have R5 := R2.mono e5
      refine Evl.q_when (b := false) (kind R5.ex rfl (by rfl)) (fun z => by cases z) (fun _ H7 e7 => ?_)
      have R7 := R5.mono e7
      refine Evl.q_when (b := true) (hdr R7.ex rfl rfl) (fun _ H8 e8 => ?_) (fun z => by cases z)
      have R8 := R7.mono e8
      obtain ⟨k3, c1, c2, c3⟩ := R8.lt
      refine s_dput (k := Sum.inl (n : Int)) (v := .int ((m + 1 : Nat) : Int)) (Evl.ev_var rfl) (ev_fld (Evl.ev_var rfl) R8.ob T.cl_Run T.n_Run_last_tests (rF_last_tests _ _ _ _ _ _ _ _ _)) (Evl.ev_var rfl) c1 (by omega) fun H9 f9 h9 => ?_
      have R9 := R8.setTest (n := n) (m := m) hb1 c1 f9 h9
      refine Evl.s_when (b := false) (kind R9.ex rfl (by rfl)) (fun z => by cases z) (fun _ H10 e10 => ?_)
      exact k H10 ((R9.mono e10).more (by omega) (by omega))
    | loop c =>
      skip
      refine Evl.q_when (b := false) (sets R2.ex rfl rfl) (fun z => by cases z) (fun _ H5 e5 => ?_)
      have R5 := R2.mono e5
      refine Evl.q_when (b := false) (kind R5.ex rfl (by rfl)) (fun z => by cases z) (fun _ H7 e7 => ?_)
      have R7 := R5.mono e7
      refine Evl.q_when (b := true) (hdr R7.ex rfl rfl) (fun _ H8 e8 => ?_) (fun z => by cases z)
      have R8 := R7.mono e8
      obtain ⟨k3, c1, c2, c3⟩ := R8.lt
      refine s_dput (k := Sum.inl (n : Int)) (v := .int ((m + 1 : Nat) : Int)) (Evl.ev_var rfl) (ev_fld (Evl.ev_var rfl) R8.ob T.cl_Run T.n_Run_last_tests (rF_last_tests _ _ _ _ _ _ _ _ _)) (Evl.ev_var rfl) c1 (by omega) fun H9 f9 h9 => ?_
      have R9 := R8.setTest (n := n) (m := m) hb1 c1 f9 h9
      refine Evl.s_when (b := false) (kind R9.ex rfl (by rfl)) (fun z => by cases z) (fun _ H10 e10 => ?_)
      exact k H10 ((R9.mono e10).more (by omega) (by omega))
end VP
set_option Elab.async false
set_option linter.all false
set_option maxRecDepth 100000
set_option maxHeartbeats 4000000
namespace VP
open PySem PySem.Spec PyProof.Rows L2 TL
open Vaslca (Text Name ascii isName isSmall isDigit decimal Atom atomText isAtom opText relText toldOption findVar atomValue atomUses exprValue exprUses condValue condUses statusNumber reckoned related isExpr isCond)
open VO (Head)
open Evl (Ex Ev EvT EvA EvL EvU)
variable {P : Program} {w : World} {K : PySem.W.Frag} {mg : Str → Option Value} {base : Heap} {a : Ad}

def stepOf (n : Nat) (k : Option Nat) (x : Vaslca.Run) : Head → Vaslca.Run
  | .set v e => Vaslca.doSet k n v e x
  | .read v => Vaslca.doRead k n v x
  | .write t => Vaslca.doWrite k n t x
  | .halt => Vaslca.doStop k n x
  | .ite c => Vaslca.doTest k n c x
  | .loop c => Vaslca.doTest k n c x
theorem step_going {n : Nat} {k : Option Nat} {x : Vaslca.Run} (h : Head) (g : x.status = .going) (l : x.steps.length < 120) :
    stepOf n k x h = noted (valOf x h) x.steps.length { x with input := leftOf x h, steps := x.steps ++ [⟨n, valOf x h, usesOf x h, k⟩] } h := by
  have e : ∀ f, Vaslca.step1 x f = f x := by
    intro f
    unfold Vaslca.step1
    rw [if_neg (by rw [g]; simp), if_neg (by show ¬ 120 ≤ _; omega)]
  cases h with
  | set v e' =>
    unfold stepOf Vaslca.doSet
    dsimp only
    rw [e]
    rfl
  | read v =>
    unfold stepOf Vaslca.doRead
    dsimp only
    rw [e]
    rfl
  | write t =>
    unfold stepOf Vaslca.doWrite
    dsimp only
    rw [e]
    rfl
  | halt =>
    unfold stepOf Vaslca.doStop
    dsimp only
    rw [e]
    rfl
  | ite c =>
    unfold stepOf Vaslca.doTest
    dsimp only
    rw [e]
    rfl
  | loop c =>
    unfold stepOf Vaslca.doTest
    dsimp only
    rw [e]
    rfl
theorem step_long {n : Nat} {k : Option Nat} {x : Vaslca.Run} (h : Head) (g : x.status = .going) (l : 120 ≤ x.steps.length) : stepOf n k x h = { x with status := .long } := by
  have e : ∀ f, Vaslca.step1 x f = { x with status := .long } := by
    intro f
    unfold Vaslca.step1
    rw [if_neg (by rw [g]; simp), if_pos (by show 120 ≤ _; omega)]
  cases h with
  | set v e' =>
    unfold stepOf Vaslca.doSet
    dsimp only
    exact e _
  | read v =>
    unfold stepOf Vaslca.doRead
    dsimp only
    exact e _
  | write t =>
    unfold stepOf Vaslca.doWrite
    dsimp only
    exact e _
  | halt =>
    unfold stepOf Vaslca.doStop
    dsimp only
    exact e _
  | ite c =>
    unfold stepOf Vaslca.doTest
    dsimp only
    exact e _
  | loop c =>
    unfold stepOf Vaslca.doTest
    dsimp only
    exact e _
theorem val_small {x : Vaslca.Run} (hx : ∀ y ∈ x.vars, y.value < 1000) (hi : ∀ v ∈ x.input, v < 1000) {h : Head} (k : h.ok = true) : valOf x h < 1000 := by
  cases h with
  | set v e =>
    obtain ⟨s, o, t⟩ := e
    simp only [Head.ok, Bool.and_eq_true, isExpr] at k
    have h1 := atom_small hx k.2.1
    show reckoned o (atomValue x s) (atomValue x t) < 1000
    cases o with
    | alone => exact h1
    | add => exact Nat.mod_lt _ (by decide)
    | sub => exact Nat.mod_lt _ (by decide)
    | mul => exact Nat.mod_lt _ (by decide)
  | read v =>
    show x.input.headD 0 < 1000
    cases q : x.input with
    | nil => show 0 < 1000; omega
    | cons n r => exact hi n (by rw [q]; simp)
  | write t => exact atom_small hx k
  | halt => show 0 < 1000; omega
  | ite c => show (if condValue x c = true then 1 else 0) < 1000; split <;> omega
  | loop c => show (if condValue x c = true then 1 else 0) < 1000; split <;> omega

theorem q_appMake {σ : L2.St} {H : Hp} {D : Ends} {tz : TS} {ta : TE} {ts : TA} {C l : Addr} {sp : Sp} {dvs vs xs : List V} {E : XK} (hl : H l = some (.lst xs)) (ha : Ev ta σ H (.ref l)) (h : EvA ts σ H vs)
    (k : ∀ H1, Ex H H1 → ∀ x dx, H1 x = none → H1 dx = none → dx ≠ x → sp (.ref x :: (vs ++ dvs)) (upd (upd H1 dx (.own x)) x (.ins C dx [])) (fun v H2 => v = .non ∧ rAppend (.ref l) [.ref x] H2 (fun _ H3 => tz D σ H3)) E) :
    tSeq (tDrop (tBM K "list" rAppend ta (tCons (tMake C sp dvs E ts) tNil))) tz D σ H :=
  ha H (Ex.refl H) _ fun H1 e1 => ⟨Or.inl ⟨rfl, xs, Evl.sq_of (e1 l _ hl)⟩, h H1 e1 _ fun H2 e2 => k H2 (e1.trans e2)⟩
def lastL (h : Head) (n : Nat) (x : Vaslca.Run) (L : Nat → Option Nat) : Nat → Option Nat := if x.steps.length < 120 then lastT h n x.steps.length L else L
def gave (x : Vaslca.Run) (h : Head) : Nat := if x.steps.length = 120 then 0 else valOf x h
theorem noted_steps (v m : Nat) (x : Vaslca.Run) (h : Head) : (noted v m x h).steps = x.steps := by cases h <;> rfl
def sp_Run_make_step (a : Ad) : Sp := fun vs H Q _ => ∃ (H0 : Hp) (M : RA) (x : Vaslca.Run) (L : Nat → Option Nat) (st : List Stm) (s : Stm) (h : Head) (n : Nat) (k : Option Nat), vs = [.ref M.o, .int (n : Int), .int (toldOption k : Int)] ∧ RunAt a H0 H M x L x.steps.length ∧ PS a H0 M.sl st ∧ st[n]? = some s ∧ IsOf s h ∧ h.ok = true ∧
  x.status = .going ∧ ∀ H', RunAt a H0 H' M (stepOf n k x h) (lastL h n x L) (stepOf n k x h).steps.length → Q (.int (gave x h : Int)) H'
theorem ok_Run_make_step (T : Facts K mg a) : FnOk P w K mg base CX0 3 a.f_Run_make_step a.d_Run_make_step ["self", "line", "let_by"] (sp_Run_make_step a) := by
  refine T.F_Run_make_step.ok sc_Run_make_step (fun vs H Q E h => ?_) (fun cdv A outer s H vs Q E hr h => ?_)
  · obtain ⟨H0, M, x, L, st, s, h, n, k, rfl, _⟩ := h
    rfl
  · refine ⟨_, (pss_cons (ps_if (pt_cmpR op_eq (pe_callB call_len_seq (by rfl) T.b_len (by decide +kernel) (pa_cons (pe_fld (pv 0) rfl) pa_nil)) (pe_gi rfl T.c_MOST_STEPS.choose_spec) (nomark _))
    (pss_cons (ps_fld (pv 0) (pe_gi rfl T.c_LONG.choose_spec) rfl)
    (pss_one (ps_ret pe_int)))
    pss_nil)
    (pss_cons (ps_set (i := 3) sc_Run_make_step.nd rfl (Or.inl rfl) (pe_ix ix_list (pe_fld (pv 0) rfl) (pv 1) (fun _ _ => rfl)))
    (pss_cons (ps_set (i := 4) sc_Run_make_step.nd rfl (Or.inl rfl) (pe_meth (pv 0) T.cl_Run T.M_Run_origins_of (ok_Run_origins_of T) (hr.mono (by decide)) T.B_Run_origins_of .nil pass0 (pa_cons (pv 3) pa_nil)))
    (pss_cons (ps_set (i := 5) sc_Run_make_step.nd rfl (Or.inl rfl) (pe_meth (pv 0) T.cl_Run T.M_Run_take_value (ok_Run_take_value T) (hr.mono (by decide)) T.B_Run_take_value .nil pass0 (pa_cons (pv 3) pa_nil)))
    (pss_cons (ps_expr (pe_bm PySem.F.plainAttrs_list PySem.F.slot_list_append PySem.F.type_list_append mt_append (pe_fld (pv 0) rfl) (pa_cons (pe_make T.K_Step (ok_Step_init T) (hr.mono (by decide)) rfl T.g_Step T.B_Step_init .nil pass0 (pa_cons (pv 1) (pa_cons (pv 5) (pa_cons (pv 2) (pa_cons (pv 4) pa_nil))))) pa_nil)))
    (pss_cons (ps_expr (pe_meth (pv 0) T.cl_Run T.M_Run_note_effects (ok_Run_note_effects T) (hr.mono (by decide)) T.B_Run_note_effects .nil pass0 (pa_cons (pv 1) (pa_cons (pv 5) pa_nil))))
    (pss_one (ps_ret (pv 5))))))))), ?_⟩
    obtain ⟨H0, M, x, L, st, s', hd, n, kk, rfl, hR, hP, hst, ho, hk, hg, k⟩ := h
    obtain ⟨rs, p1, p2, p3⟩ := hP.ex
    have hn : n < st.length := (List.getElem?_eq_some_iff.mp hst).1
    obtain ⟨r, hr⟩ : ∃ r, rs[n]? = some r := ⟨_, List.getElem?_eq_getElem (by omega)⟩
    have s0 : StmAt a H0 r s' := p3 n r s' hr hst
    obtain ⟨ps, q1, q2, q3⟩ := hR.sp
    have few := hR.few
    refine Evl.q_when (b := decide (V.int (x.steps.length : Int) = V.int 120)) (Evl.et_test (Evl.ev_op (ev_lenL (ev_fld (Evl.ev_var rfl) hR.ob T.cl_Run T.n_Run_steps (rF_steps _ _ _ _ _ _ _ _ _)) q1 (by rw [List.length_map, q2])) Evl.ev_c (Evl.rv_eq rfl))) (fun hb H1 e1 => ?_) (fun hb H1 e1 => ?_)
    · have hl : x.steps.length = 120 := by
        have := V.int.inj (of_decide_eq_true hb)
        omega
      have R1 := hR.mono e1
      refine q_fld (y := .int ((2 : Nat) : Int)) Evl.ev_c (Evl.ev_var rfl) R1.ob T.cl_Run T.n_Run_outcome (rF_len _ _ _ _ _ _ _ _ _) (rF_put_outcome _ _ _ _ _ _ _ _ _ _) fun H2 f2 h2 => ?_
      have R2 := R1.setOb (st := .long) (rd := x.read) f2 h2
      rw [step_long hd hg (by omega)] at k
      have eL : lastL hd n x L = L := by unfold lastL; rw [if_neg (by omega)]
      have eg : gave x hd = 0 := by unfold gave; rw [if_pos hl]
      rw [eL, eg] at k
      exact Evl.s_ret Evl.ev_c fun H3 e3 => k H3 (R2.mono e3)
    · have hl : ¬ x.steps.length = 120 := fun q => by
        rw [q] at hb
        simp at hb
      have lt : x.steps.length < 120 := by omega
      rw [step_going hd hg lt] at k
      have eL : lastL hd n x L = lastT hd n x.steps.length L := by unfold lastL; rw [if_pos lt]
      have eg : gave x hd = valOf x hd := by unfold gave; rw [if_neg hl]
      rw [eL, eg, noted_steps] at k
      have R1 := hR.mono e1
      refine Evl.q_asg (v := .ref r.o) (Evl.ev_op (ev_fld (Evl.ev_var rfl) R1.ob T.cl_Run T.n_Run_statements (rF_statements _ _ _ _ _ _ _ _ _)) (Evl.ev_var rfl) (Evl.rv_ixL (Evl.sq_of (R1.ex _ _ p1)) (atI_nat (by rw [List.getElem?_map, hr]; rfl)))) fun H2 e2 => ?_
      have R2 := R1.mono e2
      refine Evl.q_asgL (xs := natV ((usesOf x hd).map fun (u : Vaslca.Use) => toldOption u.src)) (el_meth (Evl.ev_var rfl) R2.ob (rF_no2 _ _ _ _ _ _ _ _ _) (Evl.ea_cons (Evl.ev_var rfl) Evl.ea_nil) fun H3 e3 Q q E => ⟨H0, M, x, L, _, r, s', hd, rfl, R2.mono e3, s0.mono (R2.mono e3).ex, ho, hk, q⟩) fun og H3 n3 e3 h3 => ?_
      have R3 := R2.mono e3
      have ogs : og ∉ six M := fun hm => by
        simp only [six, List.mem_cons, List.not_mem_nil, or_false] at hm
        obtain ⟨ps', w1, _⟩ := R2.sp
        obtain ⟨_, w2, _⟩ := R2.hl
        obtain ⟨_, w3, _⟩ := R2.se
        obtain ⟨_, w4, _⟩ := R2.lt
        rcases hm with rfl | rfl | rfl | rfl | rfl | rfl
        · rw [R2.ob] at n3; cases n3
        · rw [R2.lf] at n3; cases n3
        · rw [w1] at n3; cases n3
        · rw [w2] at n3; cases n3
        · rw [w3] at n3; cases n3
        · rw [w4] at n3; cases n3
      refine ⟨_, rfl, M.o, M.dx, _, rfl, R3.ob, rF_no3 _ _ _ _ _ _ _ _ _, _, rfl, H0, M, x, L, _, r, s', hd, rfl, R3, s0.mono R3.ex, ho, hk, fun H4 f4 R4 => ?_⟩
      have h4 := f4 og _ h3 (fun e => ogs (e ▸ mem_lf M))
      obtain ⟨ps4, w1, w2, w3⟩ := R4.sp
      have w2' : ps4.length = x.steps.length := w2
      refine q_appMake (vs := [.int (n : Int), .int (valOf x hd : Int), .int (toldOption kk : Int), .ref og]) w1 (ev_fld (Evl.ev_var rfl) R4.ob T.cl_Run T.n_Run_steps (rF_steps _ _ _ _ _ _ _ _ _)) (Evl.ea_cons (Evl.ev_var rfl) (Evl.ea_cons (Evl.ev_var rfl) (Evl.ea_cons (Evl.ev_var rfl) (Evl.ea_cons (Evl.ev_var rfl) Evl.ea_nil)))) fun H6 e6 => ?_
      intro p dp np ndp nep
      refine ⟨p, dp, og, n, valOf x hd, toldOption kk, rfl, upd_same, fun H7 f7 h7 => ⟨rfl, ?_⟩⟩
      have R6 := R4.mono e6
      have e7 : Ex H6 H7 := fun b o hb => f7 b o (by rw [upd_ne (ne_some hb np), upd_ne (ne_some hb ndp)]; exact hb) (ne_some hb np)
      have R7 := R6.mono e7
      have w7 := e7 _ _ (e6 _ _ w1)
      have og7 := e7 _ _ (e6 _ _ h4)
      have psix : p ∉ six M := fun hm => by
        simp only [six, List.mem_cons, List.not_mem_nil, or_false] at hm
        obtain ⟨_, z1, _⟩ := R6.sp
        obtain ⟨_, z2, _⟩ := R6.hl
        obtain ⟨_, z3, _⟩ := R6.se
        obtain ⟨_, z4, _⟩ := R6.lt
        rcases hm with rfl | rfl | rfl | rfl | rfl | rfl
        · rw [R6.ob] at np; cases np
        · rw [R6.lf] at np; cases np
        · rw [z1] at np; cases np
        · rw [z2] at np; cases np
        · rw [z3] at np; cases np
        · rw [z4] at np; cases np
      refine ⟨M.sp, _, .ref p, rfl, rfl, w7, Evl.sz_lt (by rw [List.length_map]; omega), ?_⟩
      have fr8 : Fr M.sp H7 (upd H7 M.sp (.lst (ps4.map V.ref ++ [.ref p]))) := (Fr.refl _ _).put
      have sok : StepOk a (upd H7 M.sp (.lst (ps4.map V.ref ++ [.ref p]))) M p ⟨n, valOf x hd, usesOf x hd, kk⟩ :=
        ⟨⟨dp, og, fr8 p _ h7 (fun e => psix (e ▸ mem_sp M)), fr8 og _ og7 (fun e => ogs (e ▸ mem_sp M)), ogs⟩, psix⟩
      have R8 := R7.appStep (s := ⟨n, valOf x hd, usesOf x hd, kk⟩) fr8 w7 (by rw [upd_same]; simp) sok lt
      generalize upd H7 M.sp (.lst (ps4.map V.ref ++ [.ref p])) = H8 at R8 ⊢
      refine ⟨_, rfl, M.o, M.dx, _, rfl, R8.ob, rF_no4 _ _ _ _ _ _ _ _ _, _, rfl, _, rfl, H0, M, _, L, _, st, s', hd, n, valOf x hd, x.steps.length, rfl, R8, hP, hst, ho, hk, by simp, val_small hR.small.1 hR.small.2 hk, by omega, fun H9 R9 => ?_⟩
      refine Evl.s_ret (Evl.ev_var rfl) fun H10 e10 => k H10 ?_
      have z := R9.mono e10
      have e : x.steps.length + 1 = ({ x with input := leftOf x hd, steps := x.steps ++ [⟨n, valOf x hd, usesOf x hd, kk⟩] } : Vaslca.Run).steps.length := by simp
      rw [← e]
      exact z
end VP
set_option Elab.async false
set_option linter.all false
set_option maxRecDepth 100000
set_option maxHeartbeats 4000000
namespace VP
open Vaslca (Text Name Code Cond linesOf areStatements isDone deepOf exec rounds doTest doSet doRead doWrite doStop held lastOf step1 condValue)
open VO (Head Numbered)
/-! # Blocks, purely -/
def first : Code → Code
  | .done => .done
  | .set n v e _ => .set n v e .done
  | .read n v _ => .read n v .done
  | .write n t _ => .write n t .done
  | .halt_ n _ => .halt_ n .done
  | .ite n c p q _ => .ite n c p q .done
  | .loop n c p _ => .loop n c p .done
def rest : Code → Code
  | .done => .done
  | .set _ _ _ r => r
  | .read _ _ r => r
  | .write _ _ r => r
  | .halt_ _ r => r
  | .ite _ _ _ _ r => r
  | .loop _ _ _ r => r
def numC : Code → Nat
  | .done => 0
  | .set n _ _ _ => n
  | .read n _ _ => n
  | .write n _ _ => n
  | .halt_ n _ => n
  | .ite n _ _ _ _ => n
  | .loop n _ _ _ => n
def headC : Code → Head
  | .done => .halt
  | .set _ v e _ => .set v e
  | .read _ v _ => .read v
  | .write _ t _ => .write t
  | .halt_ _ _ => .halt
  | .ite _ c _ _ _ => .ite c
  | .loop _ c _ _ => .loop c
theorem exec_first {c : Code} (k : Option Nat) (x : Vaslca.Run) : exec c k x = exec (rest c) k (exec (first c) k x) := by
  cases c <;> rfl
theorem top_first {c : Code} (h : isDone c = false) : topLines c = numC c :: topLines (rest c) := by
  cases c <;> first | rfl | cases h
theorem lines_first {c : Code} : linesOf c = linesOf (first c) ++ linesOf (rest c) := by
  cases c <;> simp [linesOf, first, rest]
theorem num_mem {c : Code} (h : isDone c = false) : numC c ∈ linesOf (first c) := by
  cases c <;> first | (simp [numC, linesOf, first]; done) | cases h
/-- statements in order, whether or not a block is empty -/
def okC : Code → Bool
  | .done => true
  | .set _ v e r => Head.ok (.set v e) && okC r
  | .read _ v r => Head.ok (.read v) && okC r
  | .write _ t r => Head.ok (.write t) && okC r
  | .halt_ _ r => Head.ok .halt && okC r
  | .ite _ c p q r => Head.ok (.ite c) && (okC p && (okC q && okC r))
  | .loop _ c p r => Head.ok (.loop c) && (okC p && okC r)
theorem okC_of : ∀ {c : Code}, areStatements c = true → okC c = true
  | .done, _ => rfl
  | .set _ v e r, h => by
    simp only [areStatements, Bool.and_eq_true] at h
    simp only [okC, Head.ok, Bool.and_eq_true]
    exact ⟨⟨h.1, h.2.1⟩, okC_of h.2.2⟩
  | .read _ v r, h => by
    simp only [areStatements, Bool.and_eq_true] at h
    simp only [okC, Head.ok, Bool.and_eq_true]
    exact ⟨h.1, okC_of h.2⟩
  | .write _ t r, h => by
    simp only [areStatements, Bool.and_eq_true] at h
    simp only [okC, Head.ok, Bool.and_eq_true]
    exact ⟨h.1, okC_of h.2⟩
  | .halt_ _ r, h => by
    simp only [areStatements] at h
    simp only [okC, Head.ok, Bool.and_eq_true]
    exact ⟨trivial, okC_of h⟩
  | .ite _ c p q r, h => by
    simp only [areStatements, Bool.and_eq_true] at h
    simp only [okC, Head.ok, Bool.and_eq_true]
    exact ⟨h.1, okC_of h.2.2.1, okC_of h.2.2.2.1, okC_of h.2.2.2.2⟩
  | .loop _ c p r, h => by
    simp only [areStatements, Bool.and_eq_true] at h
    simp only [okC, Head.ok, Bool.and_eq_true]
    exact ⟨h.1, okC_of h.2.2.1, okC_of h.2.2.2⟩
theorem are_first {c : Code} (h : okC c = true) : okC (first c) = true ∧ okC (rest c) = true := by
  cases c <;> simp_all [okC, first, rest]
theorem deep_first (c : Code) : deepOf (first c) ≤ deepOf c ∧ deepOf (rest c) ≤ deepOf c := by
  cases c <;> simp [deepOf, first, rest] <;> omega
theorem head_ok {c : Code} (h : okC c = true) : (headC c).ok = true := by
  cases c <;> simp_all [okC, headC, Head.ok]

def Fits (st : List Stm) (h : List Nat) : Code → Prop
  | .done => True
  | .set n v e r => (∃ s, st[n]? = some s ∧ IsOf s (.set v e) ∧ s.headers = h ∧ s.block = [] ∧ s.otherwise = []) ∧ Fits st h r
  | .read n v r => (∃ s, st[n]? = some s ∧ IsOf s (.read v) ∧ s.headers = h ∧ s.block = [] ∧ s.otherwise = []) ∧ Fits st h r
  | .write n t r => (∃ s, st[n]? = some s ∧ IsOf s (.write t) ∧ s.headers = h ∧ s.block = [] ∧ s.otherwise = []) ∧ Fits st h r
  | .halt_ n r => (∃ s, st[n]? = some s ∧ IsOf s .halt ∧ s.headers = h ∧ s.block = [] ∧ s.otherwise = []) ∧ Fits st h r
  | .ite n c p q r => (∃ s, st[n]? = some s ∧ IsOf s (.ite c) ∧ s.headers = h ∧ s.block = topLines p ∧ s.otherwise = topLines q) ∧ Fits st (h ++ [n]) p ∧ Fits st (h ++ [n]) q ∧ Fits st h r
  | .loop n c p r => (∃ s, st[n]? = some s ∧ IsOf s (.loop c) ∧ s.headers = h ∧ s.block = topLines p ∧ s.otherwise = []) ∧ Fits st (h ++ [n]) p ∧ Fits st h r
/-- some lines alone: blocks hold the kept lines, and others, which are passed over -/
def FitsK (ls : List Nat) (st : List Stm) (h : List Nat) : Code → Prop
  | .done => True
  | .set n v e r => (∃ s, st[n]? = some s ∧ IsOf s (.set v e) ∧ s.headers = h ∧ s.block = [] ∧ s.otherwise = []) ∧ FitsK ls st h r
  | .read n v r => (∃ s, st[n]? = some s ∧ IsOf s (.read v) ∧ s.headers = h ∧ s.block = [] ∧ s.otherwise = []) ∧ FitsK ls st h r
  | .write n t r => (∃ s, st[n]? = some s ∧ IsOf s (.write t) ∧ s.headers = h ∧ s.block = [] ∧ s.otherwise = []) ∧ FitsK ls st h r
  | .halt_ n r => (∃ s, st[n]? = some s ∧ IsOf s .halt ∧ s.headers = h ∧ s.block = [] ∧ s.otherwise = []) ∧ FitsK ls st h r
  | .ite n c p q r => (∃ s, st[n]? = some s ∧ IsOf s (.ite c) ∧ s.headers = h ∧ s.block.filter ls.contains = topLines p ∧ s.otherwise.filter ls.contains = topLines q) ∧ FitsK ls st (h ++ [n]) p ∧ FitsK ls st (h ++ [n]) q ∧ FitsK ls st h r
  | .loop n c p r => (∃ s, st[n]? = some s ∧ IsOf s (.loop c) ∧ s.headers = h ∧ s.block.filter ls.contains = topLines p ∧ s.otherwise = []) ∧ FitsK ls st (h ++ [n]) p ∧ FitsK ls st h r
theorem fits_first {ls : List Nat} {st : List Stm} {h : List Nat} {c : Code} (f : FitsK ls st h c) : FitsK ls st h (first c) ∧ FitsK ls st h (rest c) := by
  cases c <;> simp_all [FitsK, first, rest]
theorem fits_head {ls : List Nat} {st : List Stm} {h : List Nat} {c : Code} (f : FitsK ls st h c) (hd : isDone c = false) : ∃ s, st[numC c]? = some s ∧ IsOf s (headC c) ∧ s.headers = h := by
  cases c with
  | done => cases hd
  | _ =>
    obtain ⟨s, a, b, c, _⟩ := f.1
    exact ⟨s, a, b, c⟩
/-- the blocks below the first statement -/
def blkC : Code → Code
  | .ite _ _ p _ _ => p
  | .loop _ _ p _ => p
  | _ => .done
def othC : Code → Code
  | .ite _ _ _ q _ => q
  | _ => .done
theorem fits_blocks {ls : List Nat} {st : List Stm} {h : List Nat} {c : Code} (f : FitsK ls st h c) (hd : isDone c = false) : ∃ s, st[numC c]? = some s ∧ IsOf s (headC c) ∧ s.headers = h ∧
    s.block.filter ls.contains = topLines (blkC c) ∧ s.otherwise.filter ls.contains = topLines (othC c) ∧ FitsK ls st (h ++ [numC c]) (blkC c) ∧ FitsK ls st (h ++ [numC c]) (othC c) := by
  cases c with
  | done => cases hd
  | ite n c p q r =>
    obtain ⟨⟨s, a, b, c, d, e⟩, f1, f2, _⟩ := f
    exact ⟨s, a, b, c, d, e, f1, f2⟩
  | loop n c p r =>
    obtain ⟨⟨s, a, b, c, d, e⟩, f1, _⟩ := f
    exact ⟨s, a, b, c, d, by rw [e]; rfl, f1, trivial⟩
  | _ =>
    obtain ⟨s, a, b, c, d, e⟩ := f.1
    exact ⟨s, a, b, c, by rw [d]; rfl, by rw [e]; rfl, trivial, trivial⟩
theorem deep_blocks {c : Code} (hd : isDone c = false) : (isDone (blkC c) = true ∨ deepOf (blkC c) < deepOf c) ∧ (isDone (othC c) = true ∨ deepOf (othC c) < deepOf c) := by
  cases c with
  | done => cases hd
  | ite n c p q r =>
    refine ⟨Or.inr ?_, Or.inr ?_⟩ <;> simp only [blkC, othC, deepOf] <;> omega
  | loop n c p r =>
    refine ⟨Or.inr ?_, Or.inl rfl⟩
    simp only [blkC, deepOf]
    omega
  | _ => exact ⟨Or.inl rfl, Or.inl rfl⟩
theorem items_first {c : Code} (hd : isDone c = false) (d : Nat) : VO.itemsOf d c = (d, some (headC c)) :: (VO.itemsOf (d + 1) (blkC c) ++ ((if isDone (othC c) = true then [] else (d, none) :: VO.itemsOf (d + 1) (othC c)) ++ VO.itemsOf d (rest c))) := by
  cases c with
  | done => cases hd
  | _ => rfl
theorem isOf_with (h : Head) (hs bl ot : List Nat) : IsOf { stmOf h with headers := hs, block := bl, otherwise := ot } h := ⟨rfl, rfl, rfl, rfl, rfl⟩
/-- the whole list of statements fits -/
theorem fits_all (st : List Stm) : ∀ (c : Code) (h : List Nat) (n0 : Nat), Numbered n0 c → (∀ (i : Nat) (s : Stm), (stmsOf h c)[i]? = some s → st[n0 + i]? = some s) → Fits st h c
  | .done, _, _, _, _ => trivial
  | .set m v e r, h, n0, hn, hs => by
    obtain ⟨rfl, h2, _⟩ := VO.numbered_simple (r := r) (m := m) rfl hn
    exact ⟨⟨_, hs 0 _ rfl, ⟨rfl, rfl, rfl, rfl, rfl⟩, rfl, rfl, rfl⟩, fits_all st r h (m + 1) h2 fun i s q => by have := hs (i + 1) s q; rw [show m + (i + 1) = m + 1 + i by omega] at this; exact this⟩
  | .read m v r, h, n0, hn, hs => by
    obtain ⟨rfl, h2, _⟩ := VO.numbered_simple (r := r) (m := m) rfl hn
    exact ⟨⟨_, hs 0 _ rfl, ⟨rfl, rfl, rfl, rfl, rfl⟩, rfl, rfl, rfl⟩, fits_all st r h (m + 1) h2 fun i s q => by have := hs (i + 1) s q; rw [show m + (i + 1) = m + 1 + i by omega] at this; exact this⟩
  | .write m v r, h, n0, hn, hs => by
    obtain ⟨rfl, h2, _⟩ := VO.numbered_simple (r := r) (m := m) rfl hn
    exact ⟨⟨_, hs 0 _ rfl, ⟨rfl, rfl, rfl, rfl, rfl⟩, rfl, rfl, rfl⟩, fits_all st r h (m + 1) h2 fun i s q => by have := hs (i + 1) s q; rw [show m + (i + 1) = m + 1 + i by omega] at this; exact this⟩
  | .halt_ m r, h, n0, hn, hs => by
    obtain ⟨rfl, h2, _⟩ := VO.numbered_simple (r := r) (m := m) rfl hn
    exact ⟨⟨_, hs 0 _ rfl, ⟨rfl, rfl, rfl, rfl, rfl⟩, rfl, rfl, rfl⟩, fits_all st r h (m + 1) h2 fun i s q => by have := hs (i + 1) s q; rw [show m + (i + 1) = m + 1 + i by omega] at this; exact this⟩
  | .loop m c p r, h, n0, hn, hs => by
    obtain ⟨rfl, h2, h3, _⟩ := VO.numbered_two (b := p) (r := r) (m := m) rfl hn
    refine ⟨⟨_, hs 0 _ rfl, ⟨rfl, rfl, rfl, rfl, rfl⟩, rfl, rfl, rfl⟩, fits_all st p (h ++ [m]) (m + 1) h2 fun i s q => ?_, fits_all st r h _ h3 fun i s q => ?_⟩
    · have lt := (List.getElem?_eq_some_iff.mp q).1
      have := hs (i + 1) s (by
        show (_ :: (stmsOf (h ++ [m]) p ++ stmsOf h r))[i + 1]? = some s
        rw [List.getElem?_cons_succ, List.getElem?_append_left lt]
        exact q)
      rw [show m + (i + 1) = m + 1 + i by omega] at this
      exact this
    · have := hs ((linesOf p).length + i + 1) s (by
        show (_ :: (stmsOf (h ++ [m]) p ++ stmsOf h r))[(linesOf p).length + i + 1]? = some s
        rw [List.getElem?_cons_succ, List.getElem?_append_right (by rw [stms_len]; omega), stms_len]
        rw [show (linesOf p).length + i - (linesOf p).length = i by omega]
        exact q)
      rw [show m + ((linesOf p).length + i + 1) = m + 1 + (linesOf p).length + i by omega] at this
      exact this
  | .ite m c p t r, h, n0, hn, hs => by
    obtain ⟨rfl, h2, h3, h4, _⟩ := VO.numbered_three (a := p) (b := t) (r := r) (m := m) rfl hn
    refine ⟨⟨_, hs 0 _ rfl, ⟨rfl, rfl, rfl, rfl, rfl⟩, rfl, rfl, rfl⟩, fits_all st p (h ++ [m]) (m + 1) h2 fun i s q => ?_, fits_all st t (h ++ [m]) _ h3 fun i s q => ?_, fits_all st r h _ h4 fun i s q => ?_⟩
    · have lt := (List.getElem?_eq_some_iff.mp q).1
      have := hs (i + 1) s (by
        show (_ :: (stmsOf (h ++ [m]) p ++ (stmsOf (h ++ [m]) t ++ stmsOf h r)))[i + 1]? = some s
        rw [List.getElem?_cons_succ, List.getElem?_append_left lt]
        exact q)
      rw [show m + (i + 1) = m + 1 + i by omega] at this
      exact this
    · have lt := (List.getElem?_eq_some_iff.mp q).1
      have := hs ((linesOf p).length + i + 1) s (by
        show (_ :: (stmsOf (h ++ [m]) p ++ (stmsOf (h ++ [m]) t ++ stmsOf h r)))[(linesOf p).length + i + 1]? = some s
        rw [List.getElem?_cons_succ, List.getElem?_append_right (by rw [stms_len]; omega), stms_len]
        rw [show (linesOf p).length + i - (linesOf p).length = i by omega, List.getElem?_append_left lt]
        exact q)
      rw [show m + ((linesOf p).length + i + 1) = m + 1 + (linesOf p).length + i by omega] at this
      exact this
    · have := hs ((linesOf p).length + (linesOf t).length + i + 1) s (by
        show (_ :: (stmsOf (h ++ [m]) p ++ (stmsOf (h ++ [m]) t ++ stmsOf h r)))[(linesOf p).length + (linesOf t).length + i + 1]? = some s
        rw [List.getElem?_cons_succ, List.getElem?_append_right (by rw [stms_len]; omega), stms_len]
        rw [show (linesOf p).length + (linesOf t).length + i - (linesOf p).length = (linesOf t).length + i by omega, List.getElem?_append_right (by rw [stms_len]; omega), stms_len]
        rw [show (linesOf t).length + i - (linesOf t).length = i by omega]
        exact q)
      rw [show m + ((linesOf p).length + (linesOf t).length + i + 1) = m + 1 + (linesOf p).length + (linesOf t).length + i by omega] at this
      exact this

/-! # runs that stand still, runs that go on -/
theorem step1_stop {x : Vaslca.Run} {f : Vaslca.Run → Vaslca.Run} (h : x.status ≠ .going) : step1 x f = x := by
  unfold step1
  rw [if_pos h]
theorem held_stop {x : Vaslca.Run} (h : x.status ≠ .going) : held x = false := by
  unfold held
  have : (x.status == Vaslca.Status.going) = false := by simpa using h
  rw [this]
  rfl
theorem test_stop {k : Option Nat} {n : Nat} {c : Cond} {x : Vaslca.Run} (h : x.status ≠ .going) : doTest k n c x = x := step1_stop h
theorem rounds_stop (body : Option Nat → Vaslca.Run → Vaslca.Run) (n : Nat) (c : Cond) : ∀ (f : Nat) (k : Option Nat) (x : Vaslca.Run), x.status ≠ .going → rounds body n c f k x = x
  | 0, _, _, _ => rfl
  | f + 1, k, x, h => by
    show (if held (doTest k n c x) = true then rounds body n c f (lastOf (doTest k n c x)) (body (lastOf (doTest k n c x)) (doTest k n c x)) else doTest k n c x) = x
    rw [test_stop h, held_stop h, if_neg (by decide)]
theorem exec_stop : ∀ (c : Code) (k : Option Nat) (x : Vaslca.Run), x.status ≠ .going → exec c k x = x
  | .done, _, _, _ => rfl
  | .set n v e r, k, x, h => by
    show exec r k (doSet k n v e x) = x
    rw [show doSet k n v e x = x from step1_stop h, exec_stop r k x h]
  | .read n v r, k, x, h => by
    show exec r k (doRead k n v x) = x
    rw [show doRead k n v x = x from step1_stop h, exec_stop r k x h]
  | .write n t r, k, x, h => by
    show exec r k (doWrite k n t x) = x
    rw [show doWrite k n t x = x from step1_stop h, exec_stop r k x h]
  | .halt_ n r, k, x, h => by
    show exec r k (doStop k n x) = x
    rw [show doStop k n x = x from step1_stop h, exec_stop r k x h]
  | .ite n c p q r, k, x, h => by
    show exec r k (if held (doTest k n c x) = true then exec p (lastOf (doTest k n c x)) (doTest k n c x) else if (doTest k n c x).status = .going then exec q (lastOf (doTest k n c x)) (doTest k n c x) else doTest k n c x) = x
    rw [test_stop h, held_stop h, if_neg (by decide), if_neg h, exec_stop r k x h]
  | .loop n c p r, k, x, h => by
    show exec r k (rounds (exec p) n c (Vaslca.STEPS + 1) k x) = x
    rw [rounds_stop _ _ _ _ _ _ h, exec_stop r k x h]
theorem step1_le {x : Vaslca.Run} {f : Vaslca.Run → Vaslca.Run} (h : x.steps.length ≤ (f x).steps.length) : x.steps.length ≤ (step1 x f).steps.length := by
  unfold step1
  split
  · exact Nat.le_refl _
  · split
    · exact Nat.le_refl _
    · exact h
theorem test_le (k : Option Nat) (n : Nat) (c : Cond) (x : Vaslca.Run) : x.steps.length ≤ (doTest k n c x).steps.length := step1_le (by simp [Vaslca.withStep])
theorem rounds_le {body : Option Nat → Vaslca.Run → Vaslca.Run} (hb : ∀ k x, x.steps.length ≤ (body k x).steps.length) (n : Nat) (c : Cond) : ∀ (f : Nat) (k : Option Nat) (x : Vaslca.Run), x.steps.length ≤ (rounds body n c f k x).steps.length
  | 0, _, _ => Nat.le_refl _
  | f + 1, k, x => by
    show _ ≤ (if held (doTest k n c x) = true then rounds body n c f (lastOf (doTest k n c x)) (body (lastOf (doTest k n c x)) (doTest k n c x)) else doTest k n c x).steps.length
    split
    · exact Nat.le_trans (test_le k n c x) (Nat.le_trans (hb _ _) (rounds_le hb n c f _ _))
    · exact test_le k n c x
theorem exec_le : ∀ (c : Code) (k : Option Nat) (x : Vaslca.Run), x.steps.length ≤ (exec c k x).steps.length
  | .done, _, _ => Nat.le_refl _
  | .set n v e r, k, x => Nat.le_trans (step1_le (by simp [Vaslca.withStep, Vaslca.withVar])) (exec_le r k (doSet k n v e x))
  | .read n v r, k, x => Nat.le_trans (step1_le (by simp [Vaslca.withStep, Vaslca.withVar])) (exec_le r k (doRead k n v x))
  | .write n t r, k, x => Nat.le_trans (step1_le (by simp [Vaslca.withStep])) (exec_le r k (doWrite k n t x))
  | .halt_ n r, k, x => Nat.le_trans (step1_le (by simp [Vaslca.withStep])) (exec_le r k (doStop k n x))
  | .ite n c p q r, k, x => by
    refine Nat.le_trans ?_ (exec_le r k _)
    refine Nat.le_trans (test_le k n c x) ?_
    split
    · exact exec_le p _ _
    · split
      · exact exec_le q _ _
      · exact Nat.le_refl _
  | .loop n c p r, k, x => Nat.le_trans (rounds_le (fun k x => exec_le p k x) n c _ k x) (exec_le r k _)
/-- a test, made -/
theorem test_held {k : Option Nat} {n : Nat} {c : Cond} {x : Vaslca.Run} (g : x.status = .going) (l : x.steps.length ≤ 120) (h : Head) (hh : h = .ite c ∨ h = .loop c) :
    (gave x h = if held (doTest k n c x) = true then 1 else 0) ∧ (held (doTest k n c x) = true → (doTest k n c x).steps.length = x.steps.length + 1) ∧
    (x.steps.length < 120 → lastOf (doTest k n c x) = some x.steps.length ∧ (doTest k n c x).status = .going) ∧ (¬ x.steps.length < 120 → (doTest k n c x).status ≠ .going) := by
  have es : stepOf n k x h = doTest k n c x := by rcases hh with rfl | rfl <;> rfl
  by_cases q : x.steps.length < 120
  · have e := step_going (n := n) (k := k) h g q
    rw [es] at e
    have e' : doTest k n c x = { x with steps := x.steps ++ [⟨n, valOf x h, usesOf x h, k⟩] } := by
      rw [e]
      rcases hh with rfl | rfl <;> rfl
    rw [e']
    have hv : valOf x h = if condValue x c = true then 1 else 0 := by rcases hh with rfl | rfl <;> rfl
    have hheld : held ({ x with steps := x.steps ++ [⟨n, valOf x h, usesOf x h, k⟩] } : Vaslca.Run) = (valOf x h != 0) := by
      unfold held
      show (x.status == Vaslca.Status.going && ((x.steps ++ [(⟨n, valOf x h, usesOf x h, k⟩ : Vaslca.Step)]).getLast?).any fun (s : Vaslca.Step) => s.value != 0) = _
      rw [g, List.getLast?_append]
      rfl
    refine ⟨?_, fun _ => by simp, fun _ => ⟨?_, g⟩, fun z => absurd q z⟩
    · rw [hheld]
      unfold gave
      rw [if_neg (by omega), hv]
      by_cases c1 : condValue x c = true
      · simp [c1]
      · simp [c1]
    · unfold lastOf
      show (if (x.steps ++ [_]).isEmpty = true then none else some ((x.steps ++ [_]).length - 1)) = _
      rw [if_neg (by simp)]
      simp
  · have e := step_long (n := n) (k := k) h g (by omega)
    rw [es] at e
    rw [e]
    have hs : ({ x with status := .long } : Vaslca.Run).status ≠ .going := by simp
    refine ⟨?_, fun z => ?_, fun z => absurd z q, fun _ => hs⟩
    · rw [held_stop hs, if_neg (by decide)]
      unfold gave
      rw [if_pos (by omega)]
    · rw [held_stop hs] at z
      cases z
end VP
set_option Elab.async false
set_option linter.all false
set_option maxRecDepth 100000
set_option maxHeartbeats 4000000
namespace VP
open PySem PySem.Spec PyProof.Rows L2 TL
open Vaslca (Text Name linesOf areStatements isDone deepOf exec rounds doTest held lastOf toldOption)
open VO (Head Numbered)
open Evl (Ex Ev EvT EvA EvL EvU)
variable {P : Program} {w : World} {K : PySem.W.Frag} {mg : Str → Option Value} {base : Heap} {a : Ad}

/-- the test of the innermost header around -/
def Around (h : List Nat) (k : Option Nat) (L : Nat → Option Nat) : Prop := (h = [] → k = none) ∧ ∀ h' m, h = h' ++ [m] → ∃ i, k = some i ∧ L m = some i
/-- what a block, a line, rounds are asked with -/
structure Ask (a : Ad) (H0 H : Hp) (M : RA) (x : Vaslca.Run) (L : Nat → Option Nat) (ls : List Nat) (st : List Stm) (h : List Nat) (k : Option Nat) (c : Vaslca.Code) (j : Nat) : Prop where
  run : RunAt a H0 H M x L x.steps.length
  ps : PS a H0 M.sl st
  ll : H0 M.ll = some (.lst (natV ls))
  fits : FitsK ls st h c
  are : okC c = true
  nd : (linesOf c).Nodup
  deep : deepOf c ≤ j
  apart : ∀ m ∈ h, m ∉ linesOf c
  around : x.status = .going → Around h k L
def Outside (c : List Nat) (L L' : Nat → Option Nat) : Prop := ∀ m, m ∉ c → L' m = L m
def sp_Run_do_block (j : Nat) (a : Ad) : Sp := fun vs H Q _ => ∃ (H0 : Hp) (M : RA) (x : Vaslca.Run) (L : Nat → Option Nat) (ls : List Nat) (st : List Stm) (h : List Nat) (k : Option Nat) (c : Vaslca.Code) (bl : Addr) (bs : List Nat), vs = [.ref M.o, .ref bl] ∧ H0 bl = some (.lst (natV bs)) ∧ bs.filter ls.contains = topLines c ∧ Ask a H0 H M x L ls st h k c j ∧
  ∀ (L' : Nat → Option Nat) (H' : Hp), Outside (linesOf c) L L' → RunAt a H0 H' M (exec c k x) L' (exec c k x).steps.length → Q .non H'
def sp_Run_do_line (j : Nat) (a : Ad) : Sp := fun vs H Q _ => ∃ (H0 : Hp) (M : RA) (x : Vaslca.Run) (L : Nat → Option Nat) (ls : List Nat) (st : List Stm) (h : List Nat) (k : Option Nat) (c : Vaslca.Code), vs = [.ref M.o, .int (numC c : Int)] ∧ isDone c = false ∧ x.status = .going ∧ Ask a H0 H M x L ls st h k (first c) j ∧
  ∀ (L' : Nat → Option Nat) (H' : Hp), Outside (linesOf (first c)) L L' → RunAt a H0 H' M (exec (first c) k x) L' (exec (first c) k x).steps.length → Q .non H'
/-- rounds of a loop behind its test; y: the run behind the test -/
def roundsT (p : Vaslca.Code) (n : Nat) (c : Vaslca.Cond) (f : Nat) (y : Vaslca.Run) : Vaslca.Run := if held y = true then rounds (exec p) n c f (lastOf y) (exec p (lastOf y) y) else y
def sp_Run_do_rounds (j : Nat) (a : Ad) : Sp := fun vs H Q _ => ∃ (H0 : Hp) (M : RA) (y : Vaslca.Run) (L : Nat → Option Nat) (ls : List Nat) (st : List Stm) (h : List Nat) (n : Nat) (c : Vaslca.Cond) (p : Vaslca.Code) (f v : Nat), vs = [.ref M.o, .int (n : Int), .int (v : Int)] ∧
  RunAt a H0 H M y L y.steps.length ∧ PS a H0 M.sl st ∧ H0 M.ll = some (.lst (natV ls)) ∧ FitsK ls st h (.loop n c p .done) ∧ okC (.loop n c p .done) = true ∧ (linesOf (.loop n c p .done)).Nodup ∧ deepOf p ≤ j ∧ (∀ m ∈ h, m ∉ n :: linesOf p) ∧
  v = (if held y = true then 1 else 0) ∧ (held y = true → ∃ i, lastOf y = some i ∧ L n = some i) ∧ (held y = true → 121 ≤ f + y.steps.length) ∧
  ∀ (L' : Nat → Option Nat) (H' : Hp), Outside (n :: linesOf p) L L' → RunAt a H0 H' M (roundsT p n c f y) L' (roundsT p n c f y).steps.length → Q .non H'
theorem fn_never {k : Nat} {f : Addr} {fd : FuncData} {ps : List Str} : FnOk P w K mg base CX0 k f fd ps (fun _ _ _ _ => False) := ⟨fun _ _ _ _ h => h.elim, fun _ _ _ _ _ _ _ _ _ _ _ _ _ h => h.elim⟩

theorem in_nats (n : Nat) : ∀ l : List Nat, inV (.int (n : Int)) (natV l) = l.contains n
  | [] => rfl
  | m :: r => by
    have ih := in_nats n r
    show (decide ((m : Int) = (n : Int)) || inV (.int (n : Int)) (natV r)) = _
    rw [ih, List.contains_cons]
    congr 1
    rw [Bool.eq_iff_iff, decide_eq_true_eq, beq_iff_eq]
    omega
theorem natV_flat (l : List Nat) : (natV l).all flatV = true := by
  rw [List.all_eq_true]
  intro x hx
  obtain ⟨t, _, rfl⟩ := List.mem_map.mp hx
  rfl

/-- a block, from a line -/
theorem ok_block (T : Facts K mg a) (j kL : Nat) (GL : FnOk P w K mg base CX0 kL a.f_Run_do_line a.d_Run_do_line ["self", "line"] (sp_Run_do_line j a)) : FnOk P w K mg base CX0 (kL + 1) a.f_Run_do_block a.d_Run_do_block ["self", "block"] (sp_Run_do_block j a) := by
  refine T.F_Run_do_block.ok sc_Run_do_block (fun vs H Q E h => ?_) (fun cdv A outer s H vs Q E hr h => ?_)
  · obtain ⟨H0, M, x, L, ls, st, h, k, c, bl, bs, rfl, _⟩ := h
    rfl
  · refine ⟨_, (pss_one (ps_for PassesOwn.never rfl (pi_list (pv 1)) (pg_name (i := 2) sc_Run_do_block.nd rfl (Or.inl rfl))
    (pss_cons (ps_if (pt_cmpR op_ne (pe_fld (pv 0) rfl) (pe_gi rfl T.c_ENDED.choose_spec) (nomark _))
    (pss_one ps_retN)
    pss_nil)
    (pss_one (ps_if (pt_cmpR op_in_seq (pv 2) (pe_fld (pv 0) rfl) (by rfl))
    (pss_one (ps_expr (pe_meth (pv 0) T.cl_Run T.M_Run_do_line GL hr T.B_Run_do_line .nil pass0 (pa_cons (pv 2) pa_nil))))
    pss_nil))))), ?_⟩
    obtain ⟨H0, M, x, L, ls, st, h, k, c, bl, bs, rfl, hbl, hbs, hA, q⟩ := h
    have ex0 := hA.run.ex
    refine Evl.s_forLn (Evl.ev_var rfl) (Evl.sq_of (ex0 _ _ hbl)) (fun i σ' H' => ∃ (v : Option V) (c' : Vaslca.Code) (x' : Vaslca.Run) (L' : Nat → Option Nat), σ' = [some (.ref M.o), some (.ref bl), v] ∧ topLines c' = (bs.drop i).filter ls.contains ∧ Ask a H0 H' M x' L' ls st h k c' j ∧
        (∀ (L2 : Nat → Option Nat) (H2 : Hp), Outside (linesOf c') L' L2 → RunAt a H0 H2 M (exec c' k x') L2 (exec c' k x').steps.length → Q .non H2))
      (fun H1 e1 => ⟨none, c, x, L, rfl, by rw [List.drop_zero]; exact hbs.symm, ⟨hA.run.mono e1, hA.ps, hA.ll, hA.fits, hA.are, hA.nd, hA.deep, hA.apart, hA.around⟩, q⟩)
      (fun i σ' H' _ ⟨_, _, _, _, _, _, hA', _⟩ => Evl.sq_of (hA'.run.ex _ _ hbl)) (fun i y σ' H' hi ⟨v, c', x', L', es, et, hA', q'⟩ => ?_) (fun σ' H' ⟨v, c', x', L', es, et, hA', q'⟩ => ?_)
    · subst es
      unfold natV at hi
      rw [List.getElem?_map] at hi
      cases hm : bs[i]? with
      | none => rw [hm] at hi; cases hi
      | some m =>
        rw [hm] at hi
        cases Option.some.inj hi
        obtain ⟨lt, em⟩ := List.getElem?_eq_some_iff.mp hm
        rw [List.drop_eq_getElem_cons lt, em, List.filter_cons] at et
        refine Evl.q_when (b := !decide (V.int (Vaslca.statusNumber x'.status : Int) = V.int 0)) (Evl.et_test (Evl.ev_op (ev_fld (Evl.ev_var rfl) hA'.run.ob T.cl_Run T.n_Run_outcome (rF_outcome _ _ _ _ _ _ _ _ _)) Evl.ev_c (Evl.rv_ne rfl))) (fun hb H1 e1' => ?_) (fun hb H1 e1' => ?_)
        · have ng : x'.status ≠ .going := by
            intro g
            rw [g] at hb
            revert hb
            show (!decide (V.int ((0 : Nat) : Int) = V.int 0)) = true → False
            decide
          have es := exec_stop c' k x' ng
          rw [es] at q'
          exact q' L' H1 (fun _ _ => rfl) (hA'.run.mono e1')
        · have g : x'.status = .going := by
            cases z : x'.status with
            | going => rfl
            | stopped => rw [z] at hb; revert hb; show (!decide (V.int ((1 : Nat) : Int) = V.int 0)) = false → _; decide
            | long => rw [z] at hb; revert hb; show (!decide (V.int ((2 : Nat) : Int) = V.int 0)) = false → _; decide
          have R1 := hA'.run.mono e1'
          refine Evl.s_when (b := ls.contains m) (Evl.et_is (Evl.et_test (Evl.ev_op (Evl.ev_var rfl) (ev_fld (Evl.ev_var rfl) R1.ob T.cl_Run T.n_Run_lines (rF_lines _ _ _ _ _ _ _ _ _)) (Evl.rv_isL (Evl.sq_of (R1.ex _ _ hA'.ll)) rfl (natV_flat _)))) (in_nats m ls)) (fun hb2 H1b e1b => ?_) (fun hb2 H1b e1b => ?_)
          · rw [if_pos hb2] at et
            have R1 := R1.mono e1b
            have nd' : isDone c' = false := by
              cases z : isDone c' with
              | false => rfl
              | true =>
                rw [VO.isDone_iff.mp z] at et
                cases et
            rw [top_first nd'] at et
            obtain ⟨e1, e2⟩ := List.cons.inj et
            have ff := fits_first hA'.fits
            have aa := are_first hA'.are
            have dd := deep_first c'
            have hnd := hA'.nd
            rw [lines_first] at hnd
            obtain ⟨nd1, nd2, nd3⟩ := List.nodup_append.mp hnd
            have lf := @lines_first c'
            refine ⟨_, rfl, M.o, M.dx, _, rfl, R1.ob, rF_no9 _ _ _ _ _ _ _ _ _, _, rfl, H0, M, x', L', ls, st, h, k, c', by rw [← e1]; rfl, nd', g, ⟨R1, hA'.ps, hA'.ll, ff.1, aa.1, nd1, Nat.le_trans dd.1 hA'.deep, fun m hm hmem => hA'.apart m hm (by rw [lf]; exact List.mem_append_left _ hmem), hA'.around⟩, fun L2 H2 o2 R2 => ?_⟩
            refine ⟨_, rest c', exec (first c') k x', L2, rfl, e2, ⟨R2, hA'.ps, hA'.ll, ff.2, aa.2, nd2, Nat.le_trans dd.2 hA'.deep, fun m hm hmem => hA'.apart m hm (by rw [lf]; exact List.mem_append_right _ hmem), fun g2 => ?_⟩, fun L3 H3 o3 R3 => ?_⟩
            · obtain ⟨a1, a2⟩ := hA'.around g
              refine ⟨a1, fun h' m hm => ?_⟩
              obtain ⟨i', b1, b2⟩ := a2 h' m hm
              refine ⟨i', b1, ?_⟩
              rw [o2 m (fun hmem => hA'.apart m (by rw [hm]; simp) (by rw [lf]; exact List.mem_append_left _ hmem))]
              exact b2
            · refine q' L3 H3 (fun m hm => ?_) (by rw [exec_first]; exact R3)
              rw [lf] at hm
              rw [o3 m (fun z => hm (List.mem_append_right _ z)), o2 m (fun z => hm (List.mem_append_left _ z))]
          · rw [if_neg (by rw [hb2]; decide)] at et
            exact ⟨_, c', x', L', rfl, et, ⟨R1.mono e1b, hA'.ps, hA'.ll, hA'.fits, hA'.are, hA'.nd, hA'.deep, hA'.apart, hA'.around⟩, q'⟩
    · have len : (natV bs).length = bs.length := natV_len _
      rw [len, List.drop_length] at et
      have dn : c' = .done := VO.isDone_iff.mp (top_nil.mp et)
      subst dn
      exact q' L' H' (fun _ _ => rfl) hA'.run
end VP
set_option Elab.async false
set_option linter.all false
set_option maxRecDepth 100000
set_option maxHeartbeats 4000000
namespace VP
open PySem PySem.Spec PyProof.Rows L2 TL
open Vaslca (Text Name linesOf areStatements isDone deepOf exec rounds doTest held lastOf toldOption)
open VO (Head Numbered)
open Evl (Ex Ev EvT EvA EvL EvU)
variable {P : Program} {w : World} {K : PySem.W.Frag} {mg : Str → Option Value} {base : Heap} {a : Ad}

section
variable {σ : L2.St} {H : Hp} {te : TE} {t : TA} {p C dx : Addr} {m : Str} {sp : Sp} {dvs vs : List V} {E : XK} {fs : List (Str × V)} {D : Ends} {tz : TS} {i : Nat}
theorem q_asgMeth (ha : Ev te σ H (.ref p)) (hp : H p = some (.ins C dx fs)) (hl : fs.lookup m = none) (h : EvA t σ H vs) (k : ∀ H1, Ex H H1 → sp (.ref p :: (vs ++ dvs)) H1 (fun v H2 => tz D (σ.set i (some v)) H2) E) :
    tSeq (tAsg (tMeth C m sp dvs E te t) (gName i)) tz D σ H :=
  ha H (Ex.refl H) _ fun H1 e1 => ⟨p, dx, fs, rfl, e1 p _ hp, hl, h H1 e1 _ fun H2 e2 => k H2 (e1.trans e2)⟩
theorem s_asgMeth (ha : Ev te σ H (.ref p)) (hp : H p = some (.ins C dx fs)) (hl : fs.lookup m = none) (h : EvA t σ H vs) (k : ∀ H1, Ex H H1 → sp (.ref p :: (vs ++ dvs)) H1 (fun v H2 => D.nx (σ.set i (some v)) H2) E) :
    tAsg (tMeth C m sp dvs E te t) (gName i) D σ H :=
  ha H (Ex.refl H) _ fun H1 e1 => ⟨p, dx, fs, rfl, e1 p _ hp, hl, h H1 e1 _ fun H2 e2 => k H2 (e1.trans e2)⟩
theorem s_dropMeth (ha : Ev te σ H (.ref p)) (hp : H p = some (.ins C dx fs)) (hl : fs.lookup m = none) (h : EvA t σ H vs) (k : ∀ H1, Ex H H1 → sp (.ref p :: (vs ++ dvs)) H1 (fun _ H2 => D.nx σ H2) E) : tDrop (tMeth C m sp dvs E te t) D σ H :=
  ha H (Ex.refl H) _ fun H1 e1 => ⟨p, dx, fs, rfl, e1 p _ hp, hl, h H1 e1 _ fun H2 e2 => k H2 (e1.trans e2)⟩
theorem q_dropMeth (ha : Ev te σ H (.ref p)) (hp : H p = some (.ins C dx fs)) (hl : fs.lookup m = none) (h : EvA t σ H vs) (k : ∀ H1, Ex H H1 → sp (.ref p :: (vs ++ dvs)) H1 (fun _ H2 => tz D σ H2) E) : tSeq (tDrop (tMeth C m sp dvs E te t)) tz D σ H := s_dropMeth (D := { D with nx := tz D }) ha hp hl h k
end
def spB : Nat → Ad → Sp
  | 0, _ => fun _ _ _ _ => False
  | j + 1, a => sp_Run_do_block j a
def spR : Nat → Ad → Sp
  | 0, _ => fun _ _ _ _ => False
  | j + 1, a => sp_Run_do_rounds j a
theorem lastL_no {h : Head} {n : Nat} {x : Vaslca.Run} {L : Nat → Option Nat} (hh : isHdr h = false) : lastL h n x L = L := by
  unfold lastL lastT
  rw [hh]
  split <;> rfl
theorem lastL_out {h : Head} {n : Nat} {x : Vaslca.Run} {L : Nat → Option Nat} {c : List Nat} (hn : n ∈ c) : Outside c L (lastL h n x L) := by
  intro m hm
  have e : m ≠ n := fun e => hm (e ▸ hn)
  unfold lastL lastT
  split
  · split
    · show (if m = n then _ else L m) = L m
      rw [if_neg e]
    · rfl
  · rfl
theorem lastL_at {h : Head} {n : Nat} {x : Vaslca.Run} {L : Nat → Option Nat} (hh : isHdr h = true) (l : x.steps.length < 120) : lastL h n x L n = some x.steps.length := by
  unfold lastL lastT
  rw [if_pos l, if_pos hh]
  show (if n = n then _ else _) = _
  rw [if_pos rfl]

theorem ok_line (T : Facts K mg a) (j kB : Nat) (h3 : 3 ≤ kB) (GB : FnOk P w K mg base CX0 kB a.f_Run_do_block a.d_Run_do_block ["self", "block"] (spB j a)) (GR : FnOk P w K mg base CX0 kB a.f_Run_do_rounds a.d_Run_do_rounds ["self", "line", "value"] (spR j a)) :
    FnOk P w K mg base CX0 (kB + 1) a.f_Run_do_line a.d_Run_do_line ["self", "line"] (sp_Run_do_line j a) := by
  refine T.F_Run_do_line.ok sc_Run_do_line (fun vs H Q E h => ?_) (fun cdv A outer s H vs Q E hr h => ?_)
  · obtain ⟨H0, M, x, L, ls, st, h, k, c, rfl, _⟩ := h
    rfl
  · refine ⟨_, (pss_cons (ps_set (i := 2) sc_Run_do_line.nd rfl (Or.inl rfl) (pe_ix ix_list (pe_fld (pv 0) rfl) (pv 1) (fun _ _ => rfl)))
    (pss_cons (ps_set (i := 3) sc_Run_do_line.nd rfl (Or.inl rfl) (pe_meth (pv 0) T.cl_Run T.M_Run_make_step (ok_Run_make_step T) (hr.mono h3) T.B_Run_make_step .nil pass0 (pa_cons (pv 1) (pa_cons (pe_meth (pv 0) T.cl_Run T.M_Run_test_around (ok_Run_test_around T) (hr.mono (by omega)) T.B_Run_test_around .nil pass0 (pa_cons (pv 2) pa_nil)) pa_nil))))
    (pss_one (ps_if (pt_cmpR op_eq (pe_fld (pv 2) rfl) (pe_gi rfl T.c_WHILE.choose_spec) (nomark _))
    (pss_one (ps_expr (pe_meth (pv 0) T.cl_Run T.M_Run_do_rounds GR hr T.B_Run_do_rounds .nil pass0 (pa_cons (pv 1) (pa_cons (pv 3) pa_nil)))))
    (pss_one (ps_if (PW.pt (pw_and (pt_cmpR op_eq (pe_fld (pv 2) rfl) (pe_gi rfl T.c_IF.choose_spec) (nomark _)) (pw_and1 (pt_cmpR op_eq (pv 3) pe_int (nomark _)))))
    (pss_one (ps_expr (pe_meth (pv 0) T.cl_Run T.M_Run_do_block GB hr T.B_Run_do_block .nil pass0 (pa_cons (pe_fld (pv 2) rfl) pa_nil))))
    (pss_one (ps_if (pt_cmpR op_eq (pe_fld (pv 2) rfl) (pe_gi rfl T.c_IF.choose_spec) (nomark _))
    (pss_one (ps_expr (pe_meth (pv 0) T.cl_Run T.M_Run_do_block GB hr T.B_Run_do_block .nil pass0 (pa_cons (pe_fld (pv 2) rfl) pa_nil))))
    pss_nil)))))))), ?_⟩
    obtain ⟨H0, M, x, L, ls, st, h, k, c, rfl, nd', g, hA, q⟩ := h
    have ok1 : (headC c).ok = true := by
      have := head_ok hA.are
      cases c <;> exact this
    have nd1 : isDone (first c) = false := by cases c <;> first | rfl | cases nd'
    have hnum : numC (first c) = numC c := by cases c <;> rfl
    have hhead : headC (first c) = headC c := by cases c <;> rfl
    obtain ⟨s', hst, ho, hh⟩ := fits_head hA.fits nd1
    rw [hnum] at hst
    rw [hhead] at ho
    obtain ⟨rs, p1, p2, p3⟩ := hA.ps.ex
    have hn : numC c < st.length := (List.getElem?_eq_some_iff.mp hst).1
    obtain ⟨r, hr'⟩ : ∃ r, rs[numC c]? = some r := ⟨_, List.getElem?_eq_getElem (by omega)⟩
    have s0 : StmAt a H0 r s' := p3 _ r s' hr' hst
    refine Evl.q_asg (v := .ref r.o) (Evl.ev_op (ev_fld (Evl.ev_var rfl) hA.run.ob T.cl_Run T.n_Run_statements (rF_statements _ _ _ _ _ _ _ _ _)) (Evl.ev_var rfl) (Evl.rv_ixL (Evl.sq_of (hA.run.ex _ _ p1)) (atI_nat (by rw [List.getElem?_map, hr']; rfl)))) fun H1 e1 => ?_
    have R1 := hA.run.mono e1
    obtain ⟨ar1, ar2⟩ := hA.around g
    refine q_asgMeth (Evl.ev_var rfl) R1.ob (rF_no6 _ _ _ _ _ _ _ _ _) (Evl.ea_cons (Evl.ev_var rfl) (Evl.ea_cons (ev_meth (z := .int (toldOption k : Int)) (Evl.ev_var rfl) R1.ob (rF_no5 _ _ _ _ _ _ _ _ _) (Evl.ea_cons (Evl.ev_var rfl) Evl.ea_nil) fun H2 e2 Q q E => ⟨H0, M, x, L, _, r, s', k, rfl, R1.mono e2, s0.mono (R1.mono e2).ex, by rw [hh]; exact ar1, by rw [hh]; exact ar2, q⟩) Evl.ea_nil)) fun H2 e2 => ?_
    have R2 := R1.mono e2
    refine ⟨H0, M, x, L, st, s', headC c, numC c, k, rfl, R2, hA.ps, hst, ho, ok1, g, fun H3 R3 => ?_⟩
    have few := hA.run.few
    have kind : ∀ {H' : Hp} {σ : L2.St} {n : Nat} {bb : Bool}, Ex H0 H' → σ[2]? = some (some (.ref r.o)) → (decide (V.int (((stmOf (headC c)).kind : Nat) : Int) = V.int (n : Int)) = bb) → EvT (tTest (tOp rEq (tFld K (tVar 2) "kind") (tC (.int (n : Int))))) σ H' bb := by
      intro H' σ n bb e hσ hh
      refine Evl.et_test (Evl.ev_is (Evl.ev_op (ev_fld (Evl.ev_var hσ) (s0.mono e).o T.cl_Statement T.n_Statement_kind (stF_kind _ _)) Evl.ev_c (Evl.rv_eq rfl)) ?_)
      rw [ho.kind, hh]
    have plain : isHdr (headC c) = false → (∀ n, (n = 6 ∨ n = 5) → decide (V.int (((stmOf (headC c)).kind : Nat) : Int) = V.int (n : Int)) = false) → exec (first c) k x = stepOf (numC c) k x (headC c) →
        tIfS (tTest (tOp rEq (tFld K (tVar 2) "kind") (tC (.int 6)))) (tDrop (tMeth a.C_Run "do_rounds" (spR j a) [] E0 (tVar 0) (tCons (tVar 1) (tCons (tVar 3) tNil))))
          (tIfS (tAnd (tTest (tOp rEq (tFld K (tVar 2) "kind") (tC (.int 5)))) (tTest (tOp rEq (tVar 3) (tC (.int 1))))) (tDrop (tMeth a.C_Run "do_block" (spB j a) [] E0 (tVar 0) (tCons (tFld K (tVar 2) "block") tNil)))
            (tIfS (tTest (tOp rEq (tFld K (tVar 2) "kind") (tC (.int 5)))) (tDrop (tMeth a.C_Run "do_block" (spB j a) [] E0 (tVar 0) (tCons (tFld K (tVar 2) "otherwise") tNil))) tNext))
          { nx := fun _ H' => Q .non H', rt := Q } [some (.ref M.o), some (.int (numC c : Int)), some (.ref r.o), some (.int (gave x (headC c) : Int))] H3 := by
      intro w1 w2 w3
      rw [lastL_no w1] at R3
      refine Evl.s_if (b := false) (kind R3.ex rfl (w2 6 (Or.inl rfl))) (fun z => by cases z) (fun _ H4 e4 => ?_)
      have R4 := R3.mono e4
      refine Evl.s_if (b := false && decide (V.int (gave x (headC c) : Int) = V.int 1)) (Evl.et_and (kind R4.ex rfl (w2 5 (Or.inr rfl))) fun z => by cases z) (fun z => by cases z) (fun _ H5 e5 => ?_)
      have R5 := R4.mono e5
      refine Evl.s_when (b := false) (kind R5.ex rfl (w2 5 (Or.inr rfl))) (fun z => by cases z) (fun _ H6 e6 => ?_)
      exact q L H6 (fun _ _ => rfl) (by rw [w3]; exact R5.mono e6)
    cases c with
    | done => cases nd'
    | set n v e r' => exact plain rfl (by rintro n (rfl | rfl) <;> rfl) rfl
    | read n v r' => exact plain rfl (by rintro n (rfl | rfl) <;> rfl) rfl
    | write n t r' => exact plain rfl (by rintro n (rfl | rfl) <;> rfl) rfl
    | halt_ n r' => exact plain rfl (by rintro n (rfl | rfl) <;> rfl) rfl
    | loop n cc p r' =>
      have hd1 := hA.deep
      simp only [first, deepOf] at hd1
      cases j with
      | zero => omega
      | succ j =>
        have R3' : RunAt a H0 H3 M (doTest k n cc x) (lastL (.loop cc) n x L) (doTest k n cc x).steps.length := R3
        obtain ⟨t1, t2, t3, t4⟩ := test_held (k := k) (n := n) (c := cc) g few (.loop cc) (Or.inr rfl)
        have hfit : FitsK ls st h (.loop n cc p .done) := hA.fits
        have hare : okC (.loop n cc p .done) = true := hA.are
        have hnod : (linesOf (.loop n cc p .done)).Nodup := hA.nd
        refine Evl.s_if (b := true) (kind R3'.ex rfl (by rfl)) (fun _ H4 e4 => ?_) (fun z => by cases z)
        have R4 := R3'.mono e4
        have hz : held (doTest k n cc x) = true → x.steps.length < 120 := fun z => by
          rcases Nat.lt_or_ge x.steps.length 120 with q1 | q1
          · exact q1
          · rw [held_stop (t4 (by omega))] at z
            cases z
        refine s_dropMeth (Evl.ev_var rfl) R4.ob (rF_no7 _ _ _ _ _ _ _ _ _) (Evl.ea_cons (Evl.ev_var rfl) (Evl.ea_cons (Evl.ev_var rfl) Evl.ea_nil)) fun H5 e5 => ⟨H0, M, doTest k n cc x, _, ls, st, h, n, cc, p, 120, gave x (.loop cc), rfl, R4.mono e5, hA.ps, hA.ll, hfit, hare, hnod, by omega, fun m hm => ?_, t1, fun z => ?_, fun z => ?_, fun L2 H6 o2 R6 => ?_⟩
        · have := hA.apart m hm
          simpa [first, Vaslca.linesOf] using this
        · have l := hz z
          exact ⟨x.steps.length, (t3 l).1, lastL_at rfl l⟩
        · rw [t2 z]
          omega
        · refine q L2 H6 (fun m hm => ?_) ?_
          · have hm' : m ∉ n :: linesOf p := by simpa [first, Vaslca.linesOf] using hm
            rw [o2 m hm', lastL_out (c := n :: linesOf p) (by simp) m hm']
          · have e : exec (first (.loop n cc p r')) k x = roundsT p n cc 120 (doTest k n cc x) := rfl
            rw [e]
            exact R6
    | ite n cc p t r' =>
      have hd1 := hA.deep
      simp only [first, deepOf] at hd1
      cases j with
      | zero => omega
      | succ j =>
        have R3' : RunAt a H0 H3 M (doTest k n cc x) (lastL (.ite cc) n x L) (doTest k n cc x).steps.length := R3
        obtain ⟨t1, t2, t3, t4⟩ := test_held (k := k) (n := n) (c := cc) g few (.ite cc) (Or.inl rfl)
        have hfit : FitsK ls st h (.ite n cc p t .done) := hA.fits
        have hare : okC (.ite n cc p t .done) = true := hA.are
        simp only [okC, Bool.and_eq_true] at hare
        have hnod : (linesOf (.ite n cc p t .done)).Nodup := hA.nd
        have hnod' : (n :: (linesOf p ++ linesOf t)).Nodup := by simpa [Vaslca.linesOf] using hnod
        obtain ⟨nd1, nd2⟩ := List.nodup_cons.mp hnod'
        obtain ⟨nd3, nd4, nd5⟩ := List.nodup_append.mp nd2
        obtain ⟨⟨sq, sq1, sq2, sq3, sq4, sq5⟩, fp, ft, _⟩ := hfit
        have esq : sq = s' := by
          have : some sq = some s' := by rw [← sq1, ← hst]; rfl
          exact Option.some.inj this
        rw [esq] at sq4 sq5
        have e : exec (first (.ite n cc p t r')) k x = if held (doTest k n cc x) = true then exec p (lastOf (doTest k n cc x)) (doTest k n cc x) else if (doTest k n cc x).status = .going then exec t (lastOf (doTest k n cc x)) (doTest k n cc x) else doTest k n cc x := rfl
        rw [e] at q
        have hz : held (doTest k n cc x) = true → x.steps.length < 120 := fun z => by
          rcases Nat.lt_or_ge x.steps.length 120 with q1 | q1
          · exact q1
          · rw [held_stop (t4 (by omega))] at z
            cases z
        have arr : x.steps.length < 120 → Around (h ++ [n]) (lastOf (doTest k n cc x)) (lastL (.ite cc) n x L) := fun l => ⟨fun z => by simp at z, fun h' m z => by
          obtain ⟨_, z2⟩ := List.append_inj' z rfl
          cases z2
          exact ⟨x.steps.length, (t3 l).1, lastL_at rfl l⟩⟩
        have apt : ∀ m ∈ h ++ [n], m ∉ n :: (linesOf p ++ linesOf t) ∨ m = n := fun m hm => by
          rcases List.mem_append.mp hm with z | z
          · have := hA.apart m z
            left
            simpa [first, Vaslca.linesOf] using this
          · right
            simpa using z
        refine Evl.s_if (b := false) (kind R3'.ex rfl (by rfl)) (fun z => by cases z) (fun _ H4 e4 => ?_)
        have R4 := R3'.mono e4
        refine Evl.s_if (b := true && decide (V.int (gave x (.ite cc) : Int) = V.int 1)) (Evl.et_and (kind R4.ex rfl (by rfl)) fun _ => Evl.et_test (Evl.ev_op (Evl.ev_var rfl) Evl.ev_c (Evl.rv_eq rfl))) (fun hb H5 e5 => ?_) (fun hb H5 e5 => ?_)
        · have R5 := R4.mono e5
          have hh : held (doTest k n cc x) = true := by
            cases z : held (doTest k n cc x) with
            | true => rfl
            | false =>
              rw [t1, z] at hb
              revert hb
              decide
          have l := hz hh
          rw [if_pos hh] at q
          refine s_dropMeth (Evl.ev_var rfl) R5.ob (rF_no8 _ _ _ _ _ _ _ _ _) (Evl.ea_cons (ev_fld (Evl.ev_var rfl) (s0.mono R5.ex).o T.cl_Statement T.n_Statement_block (stF_block _ _)) Evl.ea_nil) fun H6 e6 => ⟨H0, M, doTest k n cc x, _, ls, st, h ++ [n], lastOf (doTest k n cc x), p, r.bl, s'.block, rfl, s0.bl, sq4, ⟨R5.mono e6, hA.ps, hA.ll, fp, hare.2.1, nd3, by omega, fun m hm hmem => ?_, fun _ => arr l⟩, fun L2 H7 o2 R7 => ?_⟩
          · rcases apt m hm with z | rfl
            · exact z (by simp [hmem])
            · exact nd1 (by simp [hmem])
          · refine q L2 H7 (fun m hm => ?_) R7
            have hm' : m ∉ n :: (linesOf p ++ linesOf t) := by simpa [first, Vaslca.linesOf] using hm
            rw [o2 m (fun z => hm' (by simp [z])), lastL_out (c := n :: (linesOf p ++ linesOf t)) (by simp) m hm']
        · have R5 := R4.mono e5
          have hh : held (doTest k n cc x) = false := by
            cases z : held (doTest k n cc x) with
            | false => rfl
            | true =>
              rw [t1, z] at hb
              revert hb
              decide
          rw [if_neg (by rw [hh]; decide)] at q
          refine Evl.s_when (b := true) (kind R5.ex rfl (by rfl)) (fun _ H6 e6 => ?_) (fun z => by cases z)
          have R6 := R5.mono e6
          refine s_dropMeth (Evl.ev_var rfl) R6.ob (rF_no8 _ _ _ _ _ _ _ _ _) (Evl.ea_cons (ev_fld (Evl.ev_var rfl) (s0.mono R6.ex).o T.cl_Statement T.n_Statement_otherwise (stF_otherwise _ _)) Evl.ea_nil) fun H7 e7 => ⟨H0, M, doTest k n cc x, _, ls, st, h ++ [n], lastOf (doTest k n cc x), t, r.ot, s'.otherwise, rfl, s0.ot, sq5, ⟨R6.mono e7, hA.ps, hA.ll, ft, hare.2.2.1, nd4, by omega, fun m hm hmem => ?_, fun gg => ?_⟩, fun L2 H8 o2 R8 => ?_⟩
          · rcases apt m hm with z | rfl
            · exact z (by simp [hmem])
            · exact nd1 (by simp [hmem])
          · rcases Nat.lt_or_ge x.steps.length 120 with q1 | q1
            · exact arr q1
            · exact absurd gg (t4 (by omega))
          · refine q L2 H8 (fun m hm => ?_) ?_
            · have hm' : m ∉ n :: (linesOf p ++ linesOf t) := by simpa [first, Vaslca.linesOf] using hm
              rw [o2 m (fun z => hm' (by simp [z])), lastL_out (c := n :: (linesOf p ++ linesOf t)) (by simp) m hm']
            · by_cases gg : (doTest k n cc x).status = .going
              · rw [if_pos gg]
                exact R8
              · rw [if_neg gg]
                rw [exec_stop _ _ _ gg] at R8
                exact R8
end VP
set_option Elab.async false
set_option linter.all false
set_option maxRecDepth 100000
set_option maxHeartbeats 4000000
namespace VP
open PySem PySem.Spec PyProof.Rows L2 TL
open Vaslca (Text Name areStatements isDone deepOf exec rounds doTest held lastOf toldOption)
open VO (Head Numbered)
open Evl (Ex Ev EvT EvA EvL EvU)
variable {P : Program} {w : World} {K : PySem.W.Frag} {mg : Str → Option Value} {base : Heap} {a : Ad}

theorem ok_rounds (T : Facts K mg a) (j kB : Nat) (h3 : 3 ≤ kB) (GB : FnOk P w K mg base CX0 kB a.f_Run_do_block a.d_Run_do_block ["self", "block"] (sp_Run_do_block j a)) :
    FnOk P w K mg base CX0 (kB + 1) a.f_Run_do_rounds a.d_Run_do_rounds ["self", "line", "value"] (sp_Run_do_rounds j a) := by
  refine T.F_Run_do_rounds.ok sc_Run_do_rounds (fun vs H Q E h => ?_) (fun cdv A outer s H vs Q E hr h => ?_)
  · obtain ⟨H0, M, y, L, ls, st, h, n, c, p, f, v, rfl, _⟩ := h
    rfl
  · refine ⟨_, (pss_one (ps_while PassesOwn.never (pt_cmpR op_eq (pv 2) pe_int (nomark _))
    (pss_cons (ps_expr (pe_meth (pv 0) T.cl_Run T.M_Run_do_block GB hr T.B_Run_do_block .nil pass0 (pa_cons (pe_fld (pe_ix ix_list (pe_fld (pv 0) rfl) (pv 1) (fun _ _ => rfl)) rfl) pa_nil)))
    (pss_cons (ps_if (pt_cmpR op_ne (pe_fld (pv 0) rfl) (pe_gi rfl T.c_ENDED.choose_spec) (nomark _))
    (pss_one ps_retN)
    pss_nil)
    (pss_one (ps_set (i := 2) sc_Run_do_rounds.nd rfl (Or.inl rfl) (pe_meth (pv 0) T.cl_Run T.M_Run_make_step (ok_Run_make_step T) (hr.mono h3) T.B_Run_make_step .nil pass0 (pa_cons (pv 1) (pa_cons (pe_dget (by exact hu_of hr) (pe_fld (pv 0) rfl) (pv 1) (fun _ _ => rfl)) pa_nil))))))))), ?_⟩
    obtain ⟨H0, M, y, L, ls, st, h, n, c, p, f, v, rfl, hR, hP, hll, hfit, hok, hnod, hdp, hap, hv, hheld, hfuel, q⟩ := h
    have hok' := hok
    simp only [okC, Bool.and_eq_true] at hok'
    have hnod' : (n :: Vaslca.linesOf p).Nodup := by simpa [Vaslca.linesOf] using hnod
    obtain ⟨nd1, nd2⟩ := List.nodup_cons.mp hnod'
    obtain ⟨⟨sq, sq1, sq2, sq3, sq4, _⟩, fp, _⟩ := hfit
    obtain ⟨rs, p1, p2, p3⟩ := hP.ex
    have hn : n < st.length := (List.getElem?_eq_some_iff.mp sq1).1
    obtain ⟨r, hr'⟩ : ∃ r, rs[n]? = some r := ⟨_, List.getElem?_eq_getElem (by omega)⟩
    have s0 : StmAt a H0 r sq := p3 _ r sq hr' sq1
    refine Evl.s_while (fun m σ' H' => ∃ (y' : Vaslca.Run) (L' : Nat → Option Nat) (f' v' : Nat), m = f' ∧ σ' = [some (.ref M.o), some (.int (n : Int)), some (.int (v' : Int))] ∧ RunAt a H0 H' M y' L' y'.steps.length ∧ v' = (if held y' = true then 1 else 0) ∧ (held y' = true → ∃ i, lastOf y' = some i ∧ L' n = some i) ∧ (held y' = true → 121 ≤ f' + y'.steps.length) ∧
        ∀ (L2 : Nat → Option Nat) (H2 : Hp), Outside (n :: Vaslca.linesOf p) L' L2 → RunAt a H0 H2 M (roundsT p n c f' y') L2 (roundsT p n c f' y').steps.length → Q .non H2) f
      ⟨y, L, f, v, rfl, rfl, hR, hv, hheld, hfuel, q⟩ ?_
    rintro m σ' H' ⟨y', L', f', v', rfl, rfl, R', hv', hheld', hfuel', q'⟩
    refine ⟨decide (V.int (v' : Int) = V.int 1), Evl.et_test (Evl.ev_op (Evl.ev_var rfl) Evl.ev_c (Evl.rv_eq rfl)), fun hb H1 e1 => ?_, fun hb H1 e1 => ?_⟩
    · have hh : held y' = true := by
        cases z : held y' with
        | true => rfl
        | false =>
          rw [hv', z] at hb
          revert hb
          decide
      obtain ⟨i, li, Li⟩ := hheld' hh
      have fu := hfuel' hh
      have R1 := R'.mono e1
      refine ⟨fun σ2 H2 => ∃ m', m' < m ∧ ∃ (y' : Vaslca.Run) (L' : Nat → Option Nat) (f' v' : Nat), m' = f' ∧ σ2 = [some (.ref M.o), some (.int (n : Int)), some (.int (v' : Int))] ∧ RunAt a H0 H2 M y' L' y'.steps.length ∧ v' = (if held y' = true then 1 else 0) ∧ (held y' = true → ∃ i, lastOf y' = some i ∧ L' n = some i) ∧ (held y' = true → 121 ≤ f' + y'.steps.length) ∧
        ∀ (L2 : Nat → Option Nat) (H2 : Hp), Outside (n :: Vaslca.linesOf p) L' L2 → RunAt a H0 H2 M (roundsT p n c f' y') L2 (roundsT p n c f' y').steps.length → Q .non H2, fun _ _ z => z, ?_⟩
      refine q_dropMeth (Evl.ev_var rfl) R1.ob (rF_no8 _ _ _ _ _ _ _ _ _) (Evl.ea_cons (ev_fld (Evl.ev_op (ev_fld (Evl.ev_var rfl) R1.ob T.cl_Run T.n_Run_statements (rF_statements _ _ _ _ _ _ _ _ _)) (Evl.ev_var rfl) (Evl.rv_ixL (Evl.sq_of (R1.ex _ _ p1)) (atI_nat (by rw [List.getElem?_map, hr']; rfl)))) (s0.mono R1.ex).o T.cl_Statement T.n_Statement_block (stF_block _ _)) Evl.ea_nil) fun H2 e2 => ⟨H0, M, y', L', ls, st, h ++ [n], lastOf y', p, r.bl, sq.block, rfl, s0.bl, sq4, ⟨R1.mono e2, hP, hll, fp, hok'.2.1, nd2, hdp, fun x hx hmem => ?_, fun _ => ⟨fun z => by simp at z, fun h' x z => ?_⟩⟩, fun L2 H3 o2 R3 => ?_⟩
      · rcases List.mem_append.mp hx with z | z
        · exact hap x z (by simp [hmem])
        · simp at z
          subst z
          exact nd1 hmem
      · obtain ⟨_, z2⟩ := List.append_inj' z rfl
        cases z2
        exact ⟨i, li, Li⟩
      · have er : roundsT p n c m y' = rounds (exec p) n c m (lastOf y') (exec p (lastOf y') y') := by
          unfold roundsT
          rw [if_pos hh]
        rw [er] at q'
        generalize hz : exec p (lastOf y') y' = z at R3 q'
        have hzl : y'.steps.length ≤ z.steps.length := by
          rw [← hz]
          exact exec_le p _ _
        refine Evl.q_when (b := !decide (V.int (Vaslca.statusNumber z.status : Int) = V.int 0)) (Evl.et_test (Evl.ev_op (ev_fld (Evl.ev_var rfl) R3.ob T.cl_Run T.n_Run_outcome (rF_outcome _ _ _ _ _ _ _ _ _)) Evl.ev_c (Evl.rv_ne rfl))) (fun hb4 H4 e4 => ?_) (fun hb4 H4 e4 => ?_)
        · have ng : z.status ≠ .going := by
            intro g
            rw [g] at hb4
            revert hb4
            show (!decide (V.int ((0 : Nat) : Int) = V.int 0)) = true → False
            decide
          rw [rounds_stop _ _ _ _ _ _ ng] at q'
          exact q' L2 H4 (fun x hx => o2 x (fun w => hx (by simp [w]))) (R3.mono e4)
        · have g : z.status = .going := by
            cases w : z.status with
            | going => rfl
            | stopped => rw [w] at hb4; revert hb4; show (!decide (V.int ((1 : Nat) : Int) = V.int 0)) = false → _; decide
            | long => rw [w] at hb4; revert hb4; show (!decide (V.int ((2 : Nat) : Int) = V.int 0)) = false → _; decide
          have R4 := R3.mono e4
          have few := R3.few
          obtain ⟨f1, rfl⟩ : ∃ f1, m = f1 + 1 := ⟨m - 1, by have := R'.few; omega⟩
          have er2 : rounds (exec p) n c (f1 + 1) (lastOf y') z = roundsT p n c f1 (doTest (lastOf y') n c z) := rfl
          rw [er2] at q'
          obtain ⟨t1, t2, t3, t4⟩ := test_held (k := lastOf y') (n := n) (c := c) g few (.loop c) (Or.inr rfl)
          have hlt : held (doTest (lastOf y') n c z) = true → z.steps.length < 120 := fun w => by
            rcases Nat.lt_or_ge z.steps.length 120 with q1 | q1
            · exact q1
            · rw [held_stop (t4 (by omega))] at w
              cases w
          have L2n : L2 n = some i := by rw [o2 n nd1]; exact Li
          obtain ⟨kvs, c1, c2, c3⟩ := R4.lt
          refine s_asgMeth (Evl.ev_var rfl) R4.ob (rF_no6 _ _ _ _ _ _ _ _ _) (Evl.ea_cons (Evl.ev_var rfl) (Evl.ea_cons (ev_dget (k := Sum.inl (n : Int)) (ev_fld (Evl.ev_var rfl) R4.ob T.cl_Run T.n_Run_last_tests (rF_last_tests _ _ _ _ _ _ _ _ _)) (Evl.ev_var rfl) c1 (by rw [c3 n, L2n]; rfl)) Evl.ea_nil)) fun H5 e5 => ?_
          refine ⟨H0, M, z, L2, st, sq, .loop c, n, lastOf y', by rw [li]; rfl, R4.mono e5, hP, sq1, sq2, hok'.1, g, fun H6 R6 => ?_⟩
          have R6' : RunAt a H0 H6 M (doTest (lastOf y') n c z) (lastL (.loop c) n z L2) (doTest (lastOf y') n c z).steps.length := R6
          refine ⟨f1, by omega, doTest (lastOf y') n c z, _, f1, _, rfl, rfl, R6', t1, fun w => ?_, fun w => ?_, fun L3 H7 o3 R7 => ?_⟩
          · have l := hlt w
            exact ⟨z.steps.length, (t3 l).1, lastL_at rfl l⟩
          · rw [t2 w]
            omega
          · refine q' L3 H7 (fun x hx => ?_) R7
            rw [o3 x hx, lastL_out (c := n :: Vaslca.linesOf p) (by simp) x hx, o2 x (fun w => hx (by simp [w]))]
    · have hh : held y' = false := by
        cases z : held y' with
        | false => rfl
        | true =>
          rw [hv', z] at hb
          revert hb
          decide
      have er : roundsT p n c m y' = y' := by
        unfold roundsT
        rw [if_neg (by rw [hh]; decide)]
      rw [er] at q'
      exact q' L' H1 (fun _ _ => rfl) (R'.mono e1)

/-- the three together, however deep -/
def lvB (j : Nat) : Nat := 3 * j + 5
theorem ok_walk (T : Facts K mg a) : ∀ j : Nat, FnOk P w K mg base CX0 (lvB j) a.f_Run_do_block a.d_Run_do_block ["self", "block"] (sp_Run_do_block j a)
  | 0 => ok_block T 0 4 (ok_line T 0 3 (Nat.le_refl _) fn_never fn_never)
  | j + 1 => by
    have B := ok_walk T j
    have R := ok_rounds T j (lvB j) (by unfold lvB; omega) B
    have L := ok_line T (j + 1) (lvB j + 1) (by unfold lvB; omega) (B.mono (by omega)) R
    exact ok_block T (j + 1) (lvB j + 2) L
theorem ok_Run_do_block (T : Facts K mg a) : FnOk P w K mg base CX0 14 a.f_Run_do_block a.d_Run_do_block ["self", "block"] (sp_Run_do_block 3 a) := ok_walk T 3
end VP
set_option Elab.async false
set_option linter.all false
set_option maxRecDepth 100000
set_option maxHeartbeats 4000000
namespace VP
open PySem PySem.Spec PyProof.Rows L2 TL
open Vaslca (Text Name areStatements isDone deepOf exec rounds doTest held lastOf toldOption begin_ runOf valuesAt)
open VO (Head Numbered)
open Evl (Ex Ev EvT EvA EvL EvU)
variable {P : Program} {w : World} {K : PySem.W.Frag} {mg : Str → Option Value} {base : Heap} {a : Ad}

section
variable {σ : L2.St} {H : Hp} {ta : TE} {D : Ends} {tz : TS} {p C dx : Addr} {f : Str} {fs : List (Str × V)} {fs' : Addr → List (Str × V)}
theorem q_fldD (ha : Ev ta σ H (.ref p)) (hp : H p = some (.ins C dx fs)) (hc : Cls K C) (hn : NoAttr K C f) (hl : fs.length < 1000) (hf : ∀ q, putF f (.ref q) fs = fs' q)
    (k : ∀ q H2, H q = none → q ≠ p → Fr p H H2 → H2 p = some (.ins C dx (fs' q)) → H2 q = some (.dK []) → tz D σ H2) : tSeq (sFld K ta tDNewK f) tz D σ H := fun q hq =>
  ha (upd H q (.dK [])) (Ex.new hq) _ fun H2 e2 => by
    have n : q ≠ p := fun e => by
      rw [e, hp] at hq
      cases hq
    have e1 : Ex H (upd H q (.dK [])) := Ex.new hq
    exact ⟨p, C, dx, fs, rfl, (e1.trans e2) p _ hp, hc, hn, hl, k q _ hq n (Fr.of (e1.trans e2)).put (by rw [hf]; exact upd_same) (by rw [upd_ne n]; exact e2 q _ upd_same)⟩
end
def sp_Run_init (a : Ad) : Sp := fun vs H Q _ => ∃ (H0 : Hp) (p dx sl ll l : Addr) (ns : List Nat), vs = [.ref p, .ref sl, .ref ll, .ref l] ∧ Ex H0 H ∧ H0 p = none ∧ H p = some (.ins a.C_Run dx []) ∧ H l = some (.lst (natV ns)) ∧ (∀ v ∈ ns, v < 1000) ∧
  ∀ (M : RA) (H' : Hp), M.o = p → M.dx = dx → M.sl = sl → M.ll = ll → RunAt a H0 H' M (begin_ ns) (fun _ => none) 0 → Q .non H'
theorem ok_Run_init (T : Facts K mg a) : FnOk P w K mg base CX0 1 a.f_Run_init a.d_Run_init ["self", "statements", "lines", "numbers"] (sp_Run_init a) := by
  refine T.F_Run_init.ok sc_Run_init (fun vs H Q E h => ?_) (fun cdv A outer s H vs Q E hr h => ?_)
  · obtain ⟨H0, p, dx, sl, ll, l, ns, rfl, _⟩ := h
    rfl
  · refine ⟨_, (pss_cons (ps_fld (pv 0) (pv 1) rfl)
    (pss_cons (ps_fld (pv 0) (pv 2) rfl)
    (pss_cons (ps_fld (pv 0) (pe_callTy call_list_of (by rfl) T.b_list (by decide +kernel) (pa_cons (pv 3) pa_nil)) rfl)
    (pss_cons (ps_fld (pv 0) (pe_gi rfl T.c_ENDED.choose_spec) rfl)
    (pss_cons (ps_fld (pv 0) (pe_lst pa_nil) rfl)
    (pss_cons (ps_fld (pv 0) pe_dnewK rfl)
    (pss_cons (ps_fld (pv 0) pe_dnewK rfl)
    (pss_cons (ps_fld (pv 0) pe_dnewK rfl)
    (pss_one (ps_fld (pv 0) pe_int rfl)))))))))), ?_⟩
    obtain ⟨H0, p, dx, sl, ll, l, ns, rfl, ex0, np, hp, hl, hs, q⟩ := h
    have npl : l ≠ p := ne_of hl hp (by intro z; cases z)
    refine q_fld (Evl.ev_var rfl) (Evl.ev_var rfl) hp T.cl_Run T.n_Run_statements (by simp) (fs' := [("statements", .ref sl)]) (by kernel_rfl) fun H0b f0b h0b => ?_
    refine q_fld (Evl.ev_var rfl) (Evl.ev_var rfl) h0b T.cl_Run T.n_Run_lines (by simp) (fs' := [("statements", .ref sl), ("lines", .ref ll)]) (by kernel_rfl) fun H1 f1b h1 => ?_
    have f1 := f0b.trans f1b
    have l1 := f1 l _ hl npl
    refine q_fldL (xs := natV ns) (Evl.el_list (Evl.ev_var rfl) (Evl.sq_of l1)) (Evl.ev_var rfl) h1 T.cl_Run T.n_Run_left (by simp)
      (fs' := fun lf => [("statements", .ref sl), ("lines", .ref ll), ("left", .ref lf)]) (fun _ => by kernel_rfl) fun lf H2 n2 np2 f2 h2 g2 => ?_
    refine q_fld (y := .int ((0 : Nat) : Int)) Evl.ev_c (Evl.ev_var rfl) h2 T.cl_Run T.n_Run_outcome (by simp) (fs' := [("statements", .ref sl), ("lines", .ref ll), ("left", .ref lf), ("outcome", .int ((0 : Nat) : Int))]) (by kernel_rfl) fun H3 f3 h3 => ?_
    refine q_fldL (xs := []) (Evl.el_lst Evl.ea_nil (by decide)) (Evl.ev_var rfl) h3 T.cl_Run T.n_Run_steps (by simp)
      (fs' := fun sp => [("statements", .ref sl), ("lines", .ref ll), ("left", .ref lf), ("outcome", .int ((0 : Nat) : Int)), ("steps", .ref sp)]) (fun _ => by kernel_rfl) fun sp H4 n4 np4 f4 h4 g4 => ?_
    refine q_fldD (Evl.ev_var rfl) h4 T.cl_Run T.n_Run_held (by simp)
      (fs' := fun hl => [("statements", .ref sl), ("lines", .ref ll), ("left", .ref lf), ("outcome", .int ((0 : Nat) : Int)), ("steps", .ref sp), ("held", .ref hl)]) (fun _ => by kernel_rfl) fun hd H5 n5 np5 f5 h5 g5 => ?_
    refine q_fldD (Evl.ev_var rfl) h5 T.cl_Run T.n_Run_setters (by simp)
      (fs' := fun se => [("statements", .ref sl), ("lines", .ref ll), ("left", .ref lf), ("outcome", .int ((0 : Nat) : Int)), ("steps", .ref sp), ("held", .ref hd), ("setters", .ref se)]) (fun _ => by kernel_rfl) fun se H6 n6 np6 f6 h6 g6 => ?_
    refine q_fldD (Evl.ev_var rfl) h6 T.cl_Run T.n_Run_last_tests (by simp)
      (fs' := fun lt => [("statements", .ref sl), ("lines", .ref ll), ("left", .ref lf), ("outcome", .int ((0 : Nat) : Int)), ("steps", .ref sp), ("held", .ref hd), ("setters", .ref se), ("last_tests", .ref lt)]) (fun _ => by kernel_rfl) fun lt H7 n7 np7 f7 h7 g7 => ?_
    refine s_fld (y := .int ((0 : Nat) : Int)) Evl.ev_c (Evl.ev_var rfl) h7 T.cl_Run T.n_Run_last_read (by simp) (fs' := rF sl ll lf sp hd se lt 0 0) (by kernel_rfl) fun H8 f8 h8 => ?_
    have F12 := f1.trans f2
    have F13 := F12.trans f3
    have F14 := F13.trans f4
    have F15 := F14.trans f5
    have F16 := F15.trans f6
    have F17 := F16.trans f7
    have F18 := F17.trans f8
    have lf3 := f3 lf _ g2 np2
    have lf4 := f4 lf _ lf3 np2
    have lf5 := f5 lf _ lf4 np2
    have lf6 := f6 lf _ lf5 np2
    have lf7 := f7 lf _ lf6 np2
    have lf8 := f8 lf _ lf7 np2
    have sp5 := f5 sp _ g4 np4
    have sp6 := f6 sp _ sp5 np4
    have sp7 := f7 sp _ sp6 np4
    have sp8 := f8 sp _ sp7 np4
    have hd6 := f6 hd _ g5 np5
    have hd7 := f7 hd _ hd6 np5
    have hd8 := f8 hd _ hd7 np5
    have se7 := f7 se _ g6 np6
    have se8 := f8 se _ se7 np6
    have lt8 := f8 lt _ g7 np7
    have z : ∀ {y : Addr} {Hx : Hp}, Fr p H Hx → Hx y = none → y ≠ p → H0 y = none := by
      intro y Hx fx hx hy
      cases c : H0 y with
      | none => rfl
      | some o =>
        rw [fx y o (ex0 y o c) hy] at hx
        cases hx
    refine q ⟨p, dx, sl, ll, lf, sp, hd, se, lt⟩ H8 rfl rfl rfl rfl ⟨?_, ?_, ?_, h8, lf8, ⟨[], sp8, rfl, ?_⟩, ⟨[], hd8, Nat.le_refl _, fun v => rfl⟩, ⟨[], se8, Nat.le_refl _, fun v => rfl⟩, ⟨[], lt8, Nat.le_refl _, fun v => rfl⟩, ⟨?_, hs⟩, Nat.zero_le _, Nat.zero_le _⟩
    · intro b o hb
      exact F18 b o (ex0 b o hb) (ne_some hb np)
    · intro y hy
      simp only [six, List.mem_cons, List.not_mem_nil, or_false] at hy
      rcases hy with rfl | rfl | rfl | rfl | rfl | rfl
      · exact np
      · exact z f1 n2 np2
      · exact z F13 n4 np4
      · exact z F14 n5 np5
      · exact z F15 n6 np6
      · exact z F16 n7 np7
    · simp only [six, List.nodup_cons, List.mem_cons, List.not_mem_nil, or_false, not_or, List.nodup_nil, not_false_eq_true, and_true]
      exact ⟨⟨np2.symm, np4.symm, np5.symm, np6.symm, np7.symm⟩, ⟨ne_of_none lf3 n4, ne_of_none lf4 n5, ne_of_none lf5 n6, ne_of_none lf6 n7⟩, ⟨ne_of_none g4 n5, ne_of_none sp5 n6, ne_of_none sp6 n7⟩, ⟨ne_of_none g5 n6, ne_of_none hd6 n7⟩, ne_of_none g6 n7⟩
    · intro i p s hi
      simp at hi
    · intro y hy
      cases hy

/-! # lists of what some steps gave -/
theorem given_list {α : Type} [Inhabited α] (l : List α) (f : α → Bool) (g : α → V) : Evl.given l.length (fun i => f (l.getD i default)) (fun i => g (l.getD i default)) = (l.filter f).map g := by
  have e : l = (List.range l.length).map fun i => l.getD i default := by
    refine List.ext_getElem (by simp) fun i h1 h2 => ?_
    simp [List.getD_eq_getElem?_getD, h1]
  unfold Evl.given
  generalize hn : l.length = n at e
  have e2 : (l.filter f).map g = (((List.range n).map fun i => l.getD i default).filter f).map g := by rw [← e]
  rw [e2, List.filter_map, List.map_map]
  rfl
instance : Inhabited Vaslca.Step := ⟨⟨0, 0, [], none⟩⟩
def rowV (x : Vaslca.Run) (f : Vaslca.Step → Bool) : List Nat := (x.steps.filter f).map fun s => s.value
def RetNew (xs : List V) (H : Hp) (Q : VK) : Prop := ∀ p H', H p = none → Ex H H' → H' p = some (.lst xs) → Q (.ref p) H'
def kindAt (st : List Stm) (n : Nat) : Nat := ((st[n]?).map fun s => s.kind).getD 0
def sp_Run_output (a : Ad) : Sp := fun vs H Q _ => ∃ (H0 : Hp) (M : RA) (x : Vaslca.Run) (L : Nat → Option Nat) (b : Nat) (st : List Stm), vs = [.ref M.o] ∧ RunAt a H0 H M x L b ∧ PS a H0 M.sl st ∧ (∀ s ∈ x.steps, s.line < st.length) ∧
  RetNew (natV (rowV x fun s => kindAt st s.line == 3)) H Q
def sp_Run_row_at (a : Ad) : Sp := fun vs H Q _ => ∃ (H0 : Hp) (M : RA) (x : Vaslca.Run) (L : Nat → Option Nat) (b : Nat) (n : Nat), vs = [.ref M.o, .int (n : Int)] ∧ RunAt a H0 H M x L b ∧
  RetNew (natV (rowV x fun s => s.line == n)) H Q
theorem step_of {H0 H : Hp} {M : RA} {x : Vaslca.Run} {L : Nat → Option Nat} {b i : Nat} {y : V} {ps : List Addr} (h2 : ps.length = x.steps.length) (h3 : ∀ (i : Nat) (p : Addr) (s : Vaslca.Step), ps[i]? = some p → x.steps[i]? = some s → StepOk a H M p s) (hi : (ps.map V.ref)[i]? = some y) :
    ∃ (p : Addr) (s : Vaslca.Step), y = .ref p ∧ x.steps[i]? = some s ∧ x.steps.getD i default = s ∧ s ∈ x.steps ∧ StepOk a H M p s := by
  rw [List.getElem?_map] at hi
  cases hp : ps[i]? with
  | none => rw [hp] at hi; cases hi
  | some p =>
    rw [hp] at hi
    cases Option.some.inj hi
    have lt := (List.getElem?_eq_some_iff.mp hp).1
    have hs : x.steps[i]? = some (x.steps[i]'(by omega)) := List.getElem?_eq_getElem (by omega)
    refine ⟨p, _, rfl, hs, ?_, List.getElem_mem _, h3 i p _ hp hs⟩
    rw [List.getD_eq_getElem?_getD, hs]
    rfl
theorem ok_Run_row_at (T : Facts K mg a) : FnOk P w K mg base CX0 1 a.f_Run_row_at a.d_Run_row_at ["self", "line"] (sp_Run_row_at a) := by
  refine T.F_Run_row_at.ok sc_Run_row_at (fun vs H Q E h => ?_) (fun cdv A outer s H vs Q E hr h => ?_)
  · obtain ⟨H0, M, x, L, b, n, rfl, _⟩ := h
    rfl
  · refine ⟨_, (pss_one (ps_ret (pe_lc (own := [("step", 2)]) (g := gName 2) (by rfl) sc_Run_row_at.nd (pi_list (pe_fld (pv 0) rfl)) (blkOk_by (own := [("step", 2)]) (N := ["self", "line", "step"]) (sc := defScope st_Run_row_at) (by decide +kernel)) (fun _ _ _ _ _ => pg_name (i := 2) sc_Run_row_at.nd rfl (Or.inl rfl)) (fun _ _ _ _ _ => (pts_one (pt_cmpR op_eq (pe_fldB (K2 := K) rfl (pv 2) rfl) (pv 1) (nomark _)))) (fun _ _ _ _ _ => (pe_fldB (K2 := K) rfl (pv 2) rfl))))), ?_⟩
    obtain ⟨H0, M, x, L, b, n, rfl, hR, q⟩ := h
    obtain ⟨ps, s1, s2, s3⟩ := hR.sp
    have few := hR.few
    refine Evl.s_retL (el_is (Evl.el_lcL (fun i => (x.steps.getD i default).line == n) (fun i => V.int ((x.steps.getD i default).value : Int)) (ev_fld (Evl.ev_var rfl) hR.ob T.cl_Run T.n_Run_steps (rF_steps _ _ _ _ _ _ _ _ _)) (Evl.sq_of s1) (by rw [List.length_map]; omega) (fun _ => rfl)
        (fun i y H2 e2 hi => ?_) (fun i y H2 e2 hi _ => ?_)) ?_) q
    · obtain ⟨p, s, rfl, hs, hg, hm, so⟩ := step_of (H0 := H0) (L := L) (b := b) s2 s3 hi
      obtain ⟨⟨dx, og, z1, z2, z3⟩, _⟩ := so
      refine Evl.et_is (Evl.et_test (Evl.ev_op (ev_fld (Evl.ev_var rfl) (e2 _ _ z1) T.cl_Step T.n_Step_line (sF_line _ _ _ _)) (Evl.ev_var rfl) (Evl.rv_eq rfl))) ?_
      rw [hg, Bool.eq_iff_iff]
      simp
      omega
    · obtain ⟨p, s, rfl, hs, hg, hm, so⟩ := step_of (H0 := H0) (L := L) (b := b) s2 s3 hi
      obtain ⟨⟨dx, og, z1, z2, z3⟩, _⟩ := so
      exact Evl.ev_is (ev_fld (Evl.ev_var rfl) (e2 _ _ z1) T.cl_Step T.n_Step_value (sF_value _ _ _ _)) (by rw [hg])
    · rw [List.length_map, s2]
      rw [given_list x.steps (fun s => s.line == n) (fun s => V.int (s.value : Int))]
      unfold natV rowV
      rw [List.map_map]
      rfl
theorem ok_Run_output (T : Facts K mg a) : FnOk P w K mg base CX0 1 a.f_Run_output a.d_Run_output ["self"] (sp_Run_output a) := by
  refine T.F_Run_output.ok sc_Run_output (fun vs H Q E h => ?_) (fun cdv A outer s H vs Q E hr h => ?_)
  · obtain ⟨H0, M, x, L, b, n, rfl, _⟩ := h
    rfl
  · refine ⟨_, (pss_one (ps_ret (pe_lc (own := [("step", 1)]) (g := gName 1) (by rfl) sc_Run_output.nd (pi_list (pe_fld (pv 0) rfl)) (blkOk_by (own := [("step", 1)]) (N := ["self", "step"]) (sc := defScope st_Run_output) (by decide +kernel)) (fun _ _ _ _ _ => pg_name (i := 1) sc_Run_output.nd rfl (Or.inl rfl)) (fun _ _ _ _ _ => (pts_one (pt_cmpR op_eq (pe_fldB (K2 := K) rfl (pe_ix (ix_listB (K2 := K) rfl) (pe_fldB (K2 := K) rfl (pv 0) rfl) (pe_fldB (K2 := K) rfl (pv 1) rfl) (fun _ _ => rfl)) rfl) (pe_gi rfl T.c_WRITE.choose_spec) (nomark _)))) (fun _ _ _ _ _ => (pe_fldB (K2 := K) rfl (pv 1) rfl))))), ?_⟩
    obtain ⟨H0, M, x, L, b, st, rfl, hR, hP, hlt, q⟩ := h
    obtain ⟨ps, s1, s2, s3⟩ := hR.sp
    obtain ⟨rs, p1, p2, p3⟩ := hP.ex
    have few := hR.few
    refine Evl.s_retL (el_is (Evl.el_lcL (fun i => kindAt st (x.steps.getD i default).line == 3) (fun i => V.int ((x.steps.getD i default).value : Int)) (ev_fld (Evl.ev_var rfl) hR.ob T.cl_Run T.n_Run_steps (rF_steps _ _ _ _ _ _ _ _ _)) (Evl.sq_of s1) (by rw [List.length_map]; omega) (fun _ => rfl)
        (fun i y H2 e2 hi => ?_) (fun i y H2 e2 hi _ => ?_)) ?_) q
    · obtain ⟨p, s, rfl, hs, hg, hm, so⟩ := step_of (H0 := H0) (L := L) (b := b) s2 s3 hi
      obtain ⟨⟨dx, og, z1, z2, z3⟩, _⟩ := so
      have hn := hlt s hm
      have hst : st[s.line]? = some st[s.line] := List.getElem?_eq_getElem hn
      obtain ⟨r, hr'⟩ : ∃ r, rs[s.line]? = some r := ⟨_, List.getElem?_eq_getElem (by omega)⟩
      have s0 := (p3 _ r _ hr' hst).mono (hR.mono e2).ex
      refine Evl.et_is (Evl.et_test (Evl.ev_op (ev_fld (Evl.ev_op (ev_fld (Evl.ev_var rfl) (hR.mono e2).ob T.cl_Run T.n_Run_statements (rF_statements _ _ _ _ _ _ _ _ _)) (ev_fld (Evl.ev_var rfl) (e2 _ _ z1) T.cl_Step T.n_Step_line (sF_line _ _ _ _)) (Evl.rv_ixL (Evl.sq_of ((hR.mono e2).ex _ _ p1)) (atI_nat (by rw [List.getElem?_map, hr']; rfl)))) s0.o T.cl_Statement T.n_Statement_kind (stF_kind _ _)) Evl.ev_c (Evl.rv_eq rfl))) ?_
      rw [hg]
      unfold kindAt
      rw [hst, Bool.eq_iff_iff]
      simp
      omega
    · obtain ⟨p, s, rfl, hs, hg, hm, so⟩ := step_of (H0 := H0) (L := L) (b := b) s2 s3 hi
      obtain ⟨⟨dx, og, z1, z2, z3⟩, _⟩ := so
      exact Evl.ev_is (ev_fld (Evl.ev_var rfl) (e2 _ _ z1) T.cl_Step T.n_Step_value (sF_value _ _ _ _)) (by rw [hg])
    · rw [List.length_map, s2]
      rw [given_list x.steps (fun s => kindAt st s.line == 3) (fun s => V.int (s.value : Int))]
      unfold natV rowV
      rw [List.map_map]
      rfl
end VP
set_option Elab.async false
set_option linter.all false
set_option maxRecDepth 100000
set_option maxHeartbeats 4000000
namespace VP
open Vaslca (Text Name Code Cond Info linesOf areStatements isDone deepOf exec rounds doTest doSet doRead doWrite doStop held lastOf step1 infosIn infoAt exprNames condNames atomNames isName Atom isAtom atomText isExpr isCond)
open VO (Head Numbered)
/-! # what the statements tell -/
def setO : Text → Option Name
  | [] => none
  | b :: t => some (b :: t)
theorem setO_getD (t : Text) : (setO t).getD [] = t := by cases t <;> rfl
def infoS (n : Nat) (s : Stm) : Info := ⟨n, s.kind, setO s.sets, s.names, s.headers⟩
theorem setO_name {v : Text} (h : isName v = true) : setO v = some v := by
  cases v with
  | nil => cases h
  | cons b t => rfl
theorem atom_names {t : Atom} (h : isAtom t = true) : atomNames t = namesIn [atomText t] := by
  cases t with
  | num n =>
    have h' : n ≤ 99 := of_decide_eq_true h
    obtain ⟨_, _, _, d⟩ := VO.decimal_fact ⟨n, by omega⟩
    dsimp only at d
    show [] = namesIn [Vaslca.decimal n]
    unfold namesIn
    simp [d]
  | var v =>
    have h' : isName v = true := h
    show [v] = namesIn [v]
    unfold namesIn
    simp [h']
theorem one_names {s : Atom} (h : isAtom s = true) : (atomNames s).eraseDups = namesIn [atomText s] := by
  rw [← atom_names h]
  cases s with
  | num n => rfl
  | var v =>
    show [v].eraseDups = [v]
    simp [List.eraseDups_cons]
theorem two_names {s t : Atom} (h1 : isAtom s = true) (h2 : isAtom t = true) : (atomNames s ++ atomNames t).eraseDups = namesIn [atomText s, atomText t] := by
  have n1 : ∀ {n : Nat}, isAtom (.num n) = true → isName (Vaslca.decimal n) = false := by
    intro n h
    have h' : n ≤ 99 := of_decide_eq_true h
    exact (VO.decimal_fact ⟨n, by omega⟩).2.2.2
  cases s with
  | num n =>
    have e1 := n1 h1
    cases t with
    | num m =>
      have e2 := n1 h2
      show ([] : List Name).eraseDups = namesIn [Vaslca.decimal n, Vaslca.decimal m]
      unfold namesIn
      simp [e1, e2]
    | var v =>
      have e2 : isName v = true := h2
      show ([v] : List Name).eraseDups = namesIn [Vaslca.decimal n, v]
      unfold namesIn
      simp [e1, e2, List.eraseDups_cons]
  | var u =>
    have e1 : isName u = true := h1
    cases t with
    | num m =>
      have e2 := n1 h2
      show ([u] : List Name).eraseDups = namesIn [u, Vaslca.decimal m]
      unfold namesIn
      simp [e1, e2, List.eraseDups_cons]
    | var v =>
      have e2 : isName v = true := h2
      show ([u, v] : List Name).eraseDups = namesIn [u, v]
      unfold namesIn
      by_cases q : u = v
      · subst q
        simp [e1, List.eraseDups_cons]
      · have q' : v ≠ u := fun z => q z.symm
        simp [e1, e2, List.eraseDups_cons, q', List.filter_cons]
theorem expr_names {e : Vaslca.Expr} (h : isExpr e = true) : exprNames e = namesIn (exprAtoms e) := by
  simp only [isExpr, Bool.and_eq_true] at h
  unfold exprNames exprAtoms
  split
  · rw [List.append_nil]
    exact one_names h.1
  · exact two_names h.1 h.2.1
theorem cond_names {c : Cond} (h : isCond c = true) : condNames c = namesIn [atomText c.one, atomText c.two] := by
  simp only [isCond, Bool.and_eq_true] at h
  exact two_names h.1 h.2
theorem infos_at : ∀ (c : Code) (h : List Nat) (n0 : Nat), okC c = true → Numbered n0 c → ∀ i : Nat, (infosIn h c)[i]? = ((stmsOf h c)[i]?).map (infoS (n0 + i))
  | .done, _, _, _, _, i => rfl
  | .set m v e r, h, n0, ok, hn, i => by
    obtain ⟨rfl, h2, _⟩ := VO.numbered_simple (r := r) (m := m) rfl hn
    simp only [okC, Head.ok, Bool.and_eq_true] at ok
    cases i with
    | zero =>
      show some (⟨m, 1, some v, exprNames e, h⟩ : Info) = some ⟨m, 1, setO v, namesIn (exprAtoms e), h⟩
      rw [setO_name ok.1.1, expr_names ok.1.2]
    | succ i =>
      show (infosIn h r)[i]? = ((stmsOf h r)[i]?).map _
      rw [infos_at r h (m + 1) ok.2 h2 i, show m + 1 + i = m + (i + 1) by omega]
  | .read m v r, h, n0, ok, hn, i => by
    obtain ⟨rfl, h2, _⟩ := VO.numbered_simple (r := r) (m := m) rfl hn
    simp only [okC, Head.ok, Bool.and_eq_true] at ok
    cases i with
    | zero =>
      show some (⟨m, 2, some v, [], h⟩ : Info) = some ⟨m, 2, setO v, [], h⟩
      rw [setO_name ok.1]
    | succ i =>
      show (infosIn h r)[i]? = ((stmsOf h r)[i]?).map _
      rw [infos_at r h (m + 1) ok.2 h2 i, show m + 1 + i = m + (i + 1) by omega]
  | .write m t r, h, n0, ok, hn, i => by
    obtain ⟨rfl, h2, _⟩ := VO.numbered_simple (r := r) (m := m) rfl hn
    simp only [okC, Head.ok, Bool.and_eq_true] at ok
    cases i with
    | zero =>
      show some (⟨m, 3, none, atomNames t, h⟩ : Info) = some ⟨m, 3, none, namesIn [atomText t], h⟩
      rw [atom_names ok.1]
    | succ i =>
      show (infosIn h r)[i]? = ((stmsOf h r)[i]?).map _
      rw [infos_at r h (m + 1) ok.2 h2 i, show m + 1 + i = m + (i + 1) by omega]
  | .halt_ m r, h, n0, ok, hn, i => by
    obtain ⟨rfl, h2, _⟩ := VO.numbered_simple (r := r) (m := m) rfl hn
    simp only [okC, Head.ok, Bool.and_eq_true] at ok
    cases i with
    | zero => rfl
    | succ i =>
      show (infosIn h r)[i]? = ((stmsOf h r)[i]?).map _
      rw [infos_at r h (m + 1) ok.2 h2 i, show m + 1 + i = m + (i + 1) by omega]
  | .loop m c p r, h, n0, ok, hn, i => by
    obtain ⟨rfl, h2, h3, _⟩ := VO.numbered_two (b := p) (r := r) (m := m) rfl hn
    simp only [okC, Head.ok, Bool.and_eq_true] at ok
    cases i with
    | zero =>
      show some (⟨m, 6, none, condNames c, h⟩ : Info) = some ⟨m, 6, none, namesIn [atomText c.one, atomText c.two], h⟩
      rw [cond_names ok.1]
    | succ i =>
      show (infosIn (h ++ [m]) p ++ infosIn h r)[i]? = ((stmsOf (h ++ [m]) p ++ stmsOf h r)[i]?).map _
      have l1 : ∀ (x : Code) (k : List Nat), (infosIn k x).length = (linesOf x).length := infos_len
      rcases Nat.lt_or_ge i (linesOf p).length with lt | ge
      · rw [List.getElem?_append_left (by rw [l1]; exact lt), List.getElem?_append_left (by rw [stms_len]; exact lt), infos_at p _ (m + 1) ok.2.1 h2 i, show m + 1 + i = m + (i + 1) by omega]
      · rw [List.getElem?_append_right (by rw [l1]; exact ge), List.getElem?_append_right (by rw [stms_len]; exact ge), l1, stms_len, infos_at r _ _ ok.2.2 h3 _, show m + 1 + (linesOf p).length + (i - (linesOf p).length) = m + (i + 1) by omega]
  | .ite m c p t r, h, n0, ok, hn, i => by
    obtain ⟨rfl, h2, h3, h4, _⟩ := VO.numbered_three (a := p) (b := t) (r := r) (m := m) rfl hn
    simp only [okC, Head.ok, Bool.and_eq_true] at ok
    cases i with
    | zero =>
      show some (⟨m, 5, none, condNames c, h⟩ : Info) = some ⟨m, 5, none, namesIn [atomText c.one, atomText c.two], h⟩
      rw [cond_names ok.1]
    | succ i =>
      show (infosIn (h ++ [m]) p ++ (infosIn (h ++ [m]) t ++ infosIn h r))[i]? = ((stmsOf (h ++ [m]) p ++ (stmsOf (h ++ [m]) t ++ stmsOf h r))[i]?).map _
      have l1 : ∀ (x : Code) (k : List Nat), (infosIn k x).length = (linesOf x).length := infos_len
      rcases Nat.lt_or_ge i (linesOf p).length with lt | ge
      · rw [List.getElem?_append_left (by rw [l1]; exact lt), List.getElem?_append_left (by rw [stms_len]; exact lt), infos_at p _ (m + 1) ok.2.1 h2 i, show m + 1 + i = m + (i + 1) by omega]
      · rw [List.getElem?_append_right (show (infosIn (h ++ [m]) p).length ≤ i by rw [l1]; exact ge), List.getElem?_append_right (show (stmsOf (h ++ [m]) p).length ≤ i by rw [stms_len]; exact ge), l1, stms_len]
        rcases Nat.lt_or_ge (i - (linesOf p).length) (linesOf t).length with lt2 | ge2
        · rw [List.getElem?_append_left (show i - (linesOf p).length < (infosIn (h ++ [m]) t).length by rw [l1]; exact lt2), List.getElem?_append_left (show i - (linesOf p).length < (stmsOf (h ++ [m]) t).length by rw [stms_len]; exact lt2), infos_at t _ _ ok.2.2.1 h3 _, show m + 1 + (linesOf p).length + (i - (linesOf p).length) = m + (i + 1) by omega]
        · rw [List.getElem?_append_right (show (infosIn (h ++ [m]) t).length ≤ i - (linesOf p).length by rw [l1]; exact ge2), List.getElem?_append_right (show (stmsOf (h ++ [m]) t).length ≤ i - (linesOf p).length by rw [stms_len]; exact ge2), l1, stms_len, infos_at r _ _ ok.2.2.2 h4 _, show m + 1 + (linesOf p).length + (linesOf t).length + (i - (linesOf p).length - (linesOf t).length) = m + (i + 1) by omega]
where
  infos_len : ∀ (x : Code) (k : List Nat), (infosIn k x).length = (linesOf x).length
    | .done, _ => rfl
    | .set n v e r, h => by simp only [infosIn, linesOf, List.length_cons, infos_len r]
    | .read n v r, h => by simp only [infosIn, linesOf, List.length_cons, infos_len r]
    | .write n v r, h => by simp only [infosIn, linesOf, List.length_cons, infos_len r]
    | .halt_ n r, h => by simp only [infosIn, linesOf, List.length_cons, infos_len r]
    | .ite n c x y r, h => by simp only [infosIn, linesOf, List.length_cons, List.length_append, infos_len x, infos_len y, infos_len r]
    | .loop n c x r, h => by simp only [infosIn, linesOf, List.length_cons, List.length_append, infos_len x, infos_len r]
theorem find_at (l : List Info) : ∀ (n0 i : Nat), (∀ (j : Nat) (z : Info), l[j]? = some z → z.line = n0 + j) → l.find? (fun x => x.line == n0 + i) = l[i]? := by
  induction l with
  | nil => intro n0 i _; rfl
  | cons x r ih =>
    intro n0 i h
    have h0 : x.line = n0 := h 0 x rfl
    rw [List.find?_cons]
    cases i with
    | zero =>
      rw [h0]
      simp
    | succ i =>
      rw [h0]
      have : (n0 == n0 + (i + 1)) = false := by simp
      rw [this, show n0 + (i + 1) = n0 + 1 + i by omega]
      show r.find? _ = r[i]?
      exact ih (n0 + 1) i fun j z q => by
        have := h (j + 1) z q
        omega
theorem info_at {c : Code} (h1 : okC c = true) (h2 : Numbered 0 c) (n : Nat) : infoAt c n = ((stmsOf [] c)[n]?).map (infoS n) := by
  unfold infoAt Vaslca.infosOf
  have := find_at (infosIn [] c) 0 n fun j z q => by
    rw [infos_at c [] 0 h1 h2 j] at q
    cases w : (stmsOf [] c)[j]? with
    | none => rw [w] at q; cases q
    | some s =>
      rw [w] at q
      cases q
      rfl
  rw [Nat.zero_add] at this
  rw [this, infos_at c [] 0 h1 h2 n, Nat.zero_add]
/-- the steps of a run are of lines of the code -/
def Within (l : List Nat) (x y : Vaslca.Run) : Prop := ∀ s ∈ y.steps, s ∈ x.steps ∨ s.line ∈ l
theorem Within.refl (l : List Nat) (x : Vaslca.Run) : Within l x x := fun s h => Or.inl h
theorem Within.trans {l m : List Nat} {x y z : Vaslca.Run} (h : Within l x y) (k : Within m y z) (hl : ∀ n ∈ l, n ∈ m) : Within m x z := fun s hs => by
  rcases k s hs with q | q
  · rcases h s q with p | p
    · exact Or.inl p
    · exact Or.inr (hl _ p)
  · exact Or.inr q
theorem Within.more {l m : List Nat} {x y : Vaslca.Run} (h : Within l x y) (hl : ∀ n ∈ l, n ∈ m) : Within m x y := fun s hs => (h s hs).imp id (hl _)
theorem within_step {n : Nat} {x : Vaslca.Run} {f : Vaslca.Run → Vaslca.Run} (h : ∃ s : Vaslca.Step, (f x).steps = x.steps ++ [s] ∧ s.line = n) : Within [n] x (step1 x f) := by
  unfold step1
  split
  · exact Within.refl _ _
  · split
    · exact fun s hs => Or.inl hs
    · obtain ⟨s0, e, hl⟩ := h
      intro s hs
      rw [e] at hs
      rcases List.mem_append.mp hs with q | q
      · exact Or.inl q
      · simp at q
        subst q
        exact Or.inr (by simp [hl])
theorem within_set (k : Option Nat) (n : Nat) (v : Name) (e : Vaslca.Expr) (x : Vaslca.Run) : Within [n] x (doSet k n v e x) := within_step ⟨_, rfl, rfl⟩
theorem within_read (k : Option Nat) (n : Nat) (v : Name) (x : Vaslca.Run) : Within [n] x (doRead k n v x) := within_step ⟨_, rfl, rfl⟩
theorem within_write (k : Option Nat) (n : Nat) (t : Atom) (x : Vaslca.Run) : Within [n] x (doWrite k n t x) := within_step ⟨_, rfl, rfl⟩
theorem within_stop (k : Option Nat) (n : Nat) (x : Vaslca.Run) : Within [n] x (doStop k n x) := within_step ⟨_, rfl, rfl⟩
theorem within_test (k : Option Nat) (n : Nat) (c : Cond) (x : Vaslca.Run) : Within [n] x (doTest k n c x) := within_step ⟨_, rfl, rfl⟩
theorem within_rounds {l : List Nat} {body : Option Nat → Vaslca.Run → Vaslca.Run} (hb : ∀ k x, Within l x (body k x)) (n : Nat) (c : Cond) : ∀ (f : Nat) (k : Option Nat) (x : Vaslca.Run), Within (n :: l) x (rounds body n c f k x)
  | 0, _, x => Within.refl _ _
  | f + 1, k, x => by
    show Within _ x (if held (doTest k n c x) = true then rounds body n c f (lastOf (doTest k n c x)) (body (lastOf (doTest k n c x)) (doTest k n c x)) else doTest k n c x)
    have t : Within (n :: l) x (doTest k n c x) := (within_test k n c x).more (by simp)
    split
    · exact t.trans (((hb _ _).more (fun _ h => List.mem_cons_of_mem _ h)).trans (within_rounds hb n c f _ _) fun _ h => h) fun _ h => h
    · exact t
theorem within_exec : ∀ (c : Code) (k : Option Nat) (x : Vaslca.Run), Within (linesOf c) x (exec c k x)
  | .done, _, x => Within.refl _ _
  | .set n v e r, k, x => (within_set k n v e x).trans ((within_exec r k _).more fun _ h => List.mem_cons_of_mem _ h) (by simp [linesOf])
  | .read n v r, k, x => (within_read k n v x).trans ((within_exec r k _).more fun _ h => List.mem_cons_of_mem _ h) (by simp [linesOf])
  | .write n t r, k, x => (within_write k n t x).trans ((within_exec r k _).more fun _ h => List.mem_cons_of_mem _ h) (by simp [linesOf])
  | .halt_ n r, k, x => (within_stop k n x).trans ((within_exec r k _).more fun _ h => List.mem_cons_of_mem _ h) (by simp [linesOf])
  | .loop n c p r, k, x => (within_rounds (fun k x => within_exec p k x) n c _ k x).trans ((within_exec r k _).more (by simp [linesOf]; intros; simp_all)) (by simp [linesOf]; intros; simp_all)
  | .ite n c p q r, k, x => by
    refine Within.trans (y := if held (doTest k n c x) = true then exec p (lastOf (doTest k n c x)) (doTest k n c x) else if (doTest k n c x).status = .going then exec q (lastOf (doTest k n c x)) (doTest k n c x) else doTest k n c x) ?_ ((within_exec r k _).more (by simp [linesOf]; intros; simp_all)) (fun _ h => h)
    have t : Within (linesOf (.ite n c p q r)) x (doTest k n c x) := (within_test k n c x).more (by simp [linesOf])
    split
    · exact t.trans ((within_exec p _ _).more (by simp [linesOf]; intros; simp_all)) fun _ h => h
    · split
      · exact t.trans ((within_exec q _ _).more (by simp [linesOf]; intros; simp_all)) fun _ h => h
      · exact t
theorem run_lines (c : Code) (i : List Nat) : ∀ s ∈ (Vaslca.runOf c i).steps, s.line ∈ linesOf c := fun s hs => by
  rcases within_exec c none (Vaslca.begin_ i) s hs with q | q
  · cases q
  · exact q
/-- the rows of what is written -/
theorem written_is {c : Code} (h1 : okC c = true) (h2 : Numbered 0 c) (x : Vaslca.Run) : Vaslca.written c x = rowV x fun s => kindAt (stmsOf [] c) s.line == 3 := by
  unfold Vaslca.written rowV
  congr 1
  refine List.filter_congr fun s _ => ?_
  rw [info_at h1 h2]
  unfold kindAt
  cases (stmsOf [] c)[s.line]? <;> rfl
/-- how deep -/
theorem deep_stms : ∀ (c : Code) (h : List Nat), areStatements c = true → (∀ s ∈ stmsOf h c, s.headers.length ≤ h.length + deepOf c) ∧ (isDone c = false → ∃ s ∈ stmsOf h c, s.headers.length = h.length + deepOf c)
  | .done, h, _ => ⟨fun s hs => by simp [stmsOf] at hs, fun z => by cases z⟩
  | .set m v e r, h, ok => by
    simp only [areStatements, Bool.and_eq_true] at ok
    obtain ⟨a1, a2⟩ := deep_stms r h ok.2.2
    refine ⟨fun s hs => ?_, fun _ => ?_⟩
    · rcases List.mem_cons.mp hs with rfl | q
      · exact Nat.le_add_right _ _
      · exact a1 s q
    · cases d : isDone r with
      | true => rw [VO.isDone_iff.mp d]; exact ⟨_, List.mem_cons_self, rfl⟩
      | false =>
        obtain ⟨s, q1, q2⟩ := a2 d
        exact ⟨s, List.mem_cons_of_mem _ q1, q2⟩
  | .read m v r, h, ok => by
    simp only [areStatements, Bool.and_eq_true] at ok
    obtain ⟨a1, a2⟩ := deep_stms r h ok.2
    refine ⟨fun s hs => ?_, fun _ => ?_⟩
    · rcases List.mem_cons.mp hs with rfl | q
      · exact Nat.le_add_right _ _
      · exact a1 s q
    · cases d : isDone r with
      | true => rw [VO.isDone_iff.mp d]; exact ⟨_, List.mem_cons_self, rfl⟩
      | false =>
        obtain ⟨s, q1, q2⟩ := a2 d
        exact ⟨s, List.mem_cons_of_mem _ q1, q2⟩
  | .write m t r, h, ok => by
    simp only [areStatements, Bool.and_eq_true] at ok
    obtain ⟨a1, a2⟩ := deep_stms r h ok.2
    refine ⟨fun s hs => ?_, fun _ => ?_⟩
    · rcases List.mem_cons.mp hs with rfl | q
      · exact Nat.le_add_right _ _
      · exact a1 s q
    · cases d : isDone r with
      | true => rw [VO.isDone_iff.mp d]; exact ⟨_, List.mem_cons_self, rfl⟩
      | false =>
        obtain ⟨s, q1, q2⟩ := a2 d
        exact ⟨s, List.mem_cons_of_mem _ q1, q2⟩
  | .halt_ m r, h, ok => by
    simp only [areStatements, Bool.and_eq_true] at ok
    obtain ⟨a1, a2⟩ := deep_stms r h ok
    refine ⟨fun s hs => ?_, fun _ => ?_⟩
    · rcases List.mem_cons.mp hs with rfl | q
      · exact Nat.le_add_right _ _
      · exact a1 s q
    · cases d : isDone r with
      | true => rw [VO.isDone_iff.mp d]; exact ⟨_, List.mem_cons_self, rfl⟩
      | false =>
        obtain ⟨s, q1, q2⟩ := a2 d
        exact ⟨s, List.mem_cons_of_mem _ q1, q2⟩
  | .loop m c p r, h, ok => by
    simp only [areStatements, Bool.and_eq_true] at ok
    obtain ⟨a1, a2⟩ := deep_stms r h ok.2.2.2
    obtain ⟨b1, b2⟩ := deep_stms p (h ++ [m]) ok.2.2.1
    simp only [List.length_append, List.length_cons, List.length_nil] at b1 b2
    obtain ⟨s0, q1, q2⟩ := b2 (by simpa using ok.2.1)
    have e : deepOf (.loop m c p r) = max (deepOf p + 1) (deepOf r) := rfl
    rw [e]
    refine ⟨fun s hs => ?_, fun _ => ?_⟩
    · rcases List.mem_cons.mp hs with rfl | q
      · exact Nat.le_add_right _ _
      · rcases List.mem_append.mp q with q | q
        · have := b1 s q; omega
        · have := a1 s q; omega
    · rcases Nat.lt_or_ge (deepOf p + 1) (deepOf r) with l | l
      · have d : isDone r = false := by cases r <;> first | rfl | (simp [deepOf] at l)
        obtain ⟨s, w1, w2⟩ := a2 d
        exact ⟨s, List.mem_cons_of_mem _ (List.mem_append_right _ w1), by omega⟩
      · exact ⟨s0, List.mem_cons_of_mem _ (List.mem_append_left _ q1), by omega⟩
  | .ite m c p t r, h, ok => by
    simp only [areStatements, Bool.and_eq_true] at ok
    obtain ⟨a1, a2⟩ := deep_stms r h ok.2.2.2.2
    obtain ⟨b1, b2⟩ := deep_stms p (h ++ [m]) ok.2.2.1
    obtain ⟨c1, c2⟩ := deep_stms t (h ++ [m]) ok.2.2.2.1
    simp only [List.length_append, List.length_cons, List.length_nil] at b1 b2 c1 c2
    obtain ⟨s0, q1, q2⟩ := b2 (by simpa using ok.2.1)
    have e : deepOf (.ite m c p t r) = max (max (deepOf p) (deepOf t) + 1) (deepOf r) := rfl
    rw [e]
    refine ⟨fun s hs => ?_, fun _ => ?_⟩
    · rcases List.mem_cons.mp hs with rfl | q
      · exact Nat.le_add_right _ _
      · rcases List.mem_append.mp q with q | q
        · have := b1 s q; omega
        · rcases List.mem_append.mp q with q | q
          · have := c1 s q; omega
          · have := a1 s q; omega
    · rcases Nat.lt_or_ge (max (deepOf p) (deepOf t) + 1) (deepOf r) with l | l
      · have d : isDone r = false := by cases r <;> first | rfl | (simp [deepOf] at l)
        obtain ⟨s, w1, w2⟩ := a2 d
        exact ⟨s, List.mem_cons_of_mem _ (List.mem_append_right _ (List.mem_append_right _ w1)), by omega⟩
      · rcases Nat.lt_or_ge (deepOf p) (deepOf t) with l2 | l2
        · have d : isDone t = false := by cases t <;> first | rfl | (simp [deepOf] at l2)
          obtain ⟨s, w1, w2⟩ := c2 d
          exact ⟨s, List.mem_cons_of_mem _ (List.mem_append_right _ (List.mem_append_left _ w1)), by omega⟩
        · exact ⟨s0, List.mem_cons_of_mem _ (List.mem_append_left _ q1), by omega⟩
end VP
set_option Elab.async false
set_option linter.all false
set_option maxRecDepth 100000
set_option maxHeartbeats 4000000
namespace VP
open Vaslca (Text Name Code linesOf areStatements isDone deepOf only keptOf rising firstUnlike)
open VO (Head Numbered)
/-! # Some lines alone, purely -/
theorem okC_only (l : List Nat) : ∀ {c : Code}, okC c = true → okC (only l c) = true
  | .done, _ => rfl
  | .set n v e r, h => by
    simp only [okC, Bool.and_eq_true] at h
    simp only [only]
    split
    · simp only [okC, Bool.and_eq_true]
      exact ⟨h.1, okC_only l h.2⟩
    · exact okC_only l h.2
  | .read n v r, h => by
    simp only [okC, Bool.and_eq_true] at h
    simp only [only]
    split
    · simp only [okC, Bool.and_eq_true]
      exact ⟨h.1, okC_only l h.2⟩
    · exact okC_only l h.2
  | .write n t r, h => by
    simp only [okC, Bool.and_eq_true] at h
    simp only [only]
    split
    · simp only [okC, Bool.and_eq_true]
      exact ⟨h.1, okC_only l h.2⟩
    · exact okC_only l h.2
  | .halt_ n r, h => by
    simp only [okC, Bool.and_eq_true] at h
    simp only [only]
    split
    · simp only [okC, Bool.and_eq_true]
      exact ⟨h.1, okC_only l h.2⟩
    · exact okC_only l h.2
  | .ite n c p q r, h => by
    simp only [okC, Bool.and_eq_true] at h
    simp only [only]
    split
    · simp only [okC, Bool.and_eq_true]
      exact ⟨h.1, okC_only l h.2.1, okC_only l h.2.2.1, okC_only l h.2.2.2⟩
    · exact okC_only l h.2.2.2
  | .loop n c p r, h => by
    simp only [okC, Bool.and_eq_true] at h
    simp only [only]
    split
    · simp only [okC, Bool.and_eq_true]
      exact ⟨h.1, okC_only l h.2.1, okC_only l h.2.2⟩
    · exact okC_only l h.2.2
theorem top_only (l : List Nat) : ∀ c : Code, topLines (only l c) = (topLines c).filter l.contains
  | .done => rfl
  | .set n v e r => by
    simp only [only, topLines, List.filter_cons]
    split <;> simp_all [topLines, top_only l r]
  | .read n v r => by
    simp only [only, topLines, List.filter_cons]
    split <;> simp_all [topLines, top_only l r]
  | .write n t r => by
    simp only [only, topLines, List.filter_cons]
    split <;> simp_all [topLines, top_only l r]
  | .halt_ n r => by
    simp only [only, topLines, List.filter_cons]
    split <;> simp_all [topLines, top_only l r]
  | .ite n c p q r => by
    simp only [only, topLines, List.filter_cons]
    split <;> simp_all [topLines, top_only l r]
  | .loop n c p r => by
    simp only [only, topLines, List.filter_cons]
    split <;> simp_all [topLines, top_only l r]
theorem lines_only (l : List Nat) : ∀ c : Code, (linesOf (only l c)).Sublist (linesOf c)
  | .done => List.Sublist.refl _
  | .set n v e r => by
    simp only [only, linesOf]
    split
    · exact (lines_only l r).cons₂ n
    · exact (lines_only l r).cons n
  | .read n v r => by
    simp only [only, linesOf]
    split
    · exact (lines_only l r).cons₂ n
    · exact (lines_only l r).cons n
  | .write n t r => by
    simp only [only, linesOf]
    split
    · exact (lines_only l r).cons₂ n
    · exact (lines_only l r).cons n
  | .halt_ n r => by
    simp only [only, linesOf]
    split
    · exact (lines_only l r).cons₂ n
    · exact (lines_only l r).cons n
  | .ite n c p q r => by
    simp only [only, linesOf]
    split
    · exact ((lines_only l p).append ((lines_only l q).append (lines_only l r))).cons₂ n
    · exact (((lines_only l r).trans (List.sublist_append_right _ _)).trans (List.sublist_append_right _ _)).cons n
  | .loop n c p r => by
    simp only [only, linesOf]
    split
    · exact ((lines_only l p).append (lines_only l r)).cons₂ n
    · exact ((lines_only l r).trans (List.sublist_append_right _ _)).cons n
theorem deep_only (l : List Nat) : ∀ c : Code, deepOf (only l c) ≤ deepOf c
  | .done => Nat.le_refl _
  | .set n v e r => by
    simp only [only, deepOf]
    split <;> exact deep_only l r
  | .read n v r => by
    simp only [only, deepOf]
    split <;> exact deep_only l r
  | .write n t r => by
    simp only [only, deepOf]
    split <;> exact deep_only l r
  | .halt_ n r => by
    simp only [only, deepOf]
    split <;> exact deep_only l r
  | .ite n c p q r => by
    have h1 := deep_only l p
    have h2 := deep_only l q
    have h3 := deep_only l r
    simp only [only, deepOf]
    split
    · simp only [deepOf]
      omega
    · omega
  | .loop n c p r => by
    have h1 := deep_only l p
    have h3 := deep_only l r
    simp only [only, deepOf]
    split
    · simp only [deepOf]
      omega
    · omega
/-- the kept lines' code fits the list of all statements -/
theorem fits_only (l : List Nat) {st : List Stm} : ∀ {c : Code} {h : List Nat}, Fits st h c → FitsK l st h (only l c)
  | .done, _, _ => trivial
  | .set n v e r, h, f => by
    simp only [only]
    split
    · obtain ⟨⟨s, q1, q2, q3, z1, z2⟩, q4⟩ := f
      exact ⟨⟨s, q1, q2, q3, z1, z2⟩, fits_only l q4⟩
    · exact fits_only l f.2
  | .read n v r, h, f => by
    simp only [only]
    split
    · obtain ⟨⟨s, q1, q2, q3, z1, z2⟩, q4⟩ := f
      exact ⟨⟨s, q1, q2, q3, z1, z2⟩, fits_only l q4⟩
    · exact fits_only l f.2
  | .write n t r, h, f => by
    simp only [only]
    split
    · obtain ⟨⟨s, q1, q2, q3, z1, z2⟩, q4⟩ := f
      exact ⟨⟨s, q1, q2, q3, z1, z2⟩, fits_only l q4⟩
    · exact fits_only l f.2
  | .halt_ n r, h, f => by
    simp only [only]
    split
    · obtain ⟨⟨s, q1, q2, q3, z1, z2⟩, q4⟩ := f
      exact ⟨⟨s, q1, q2, q3, z1, z2⟩, fits_only l q4⟩
    · exact fits_only l f.2
  | .ite n c p q r, h, f => by
    simp only [only]
    split
    · obtain ⟨⟨s, q1, q2, q3, q4, q5⟩, q6, q7, q8⟩ := f
      exact ⟨⟨s, q1, q2, q3, by rw [top_only, q4], by rw [top_only, q5]⟩, fits_only l q6, fits_only l q7, fits_only l q8⟩
    · exact fits_only l f.2.2.2
  | .loop n c p r, h, f => by
    simp only [only]
    split
    · obtain ⟨⟨s, q1, q2, q3, q4, z2⟩, q6, q8⟩ := f
      exact ⟨⟨s, q1, q2, q3, by rw [top_only, q4], z2⟩, fits_only l q6, fits_only l q8⟩
    · exact fits_only l f.2.2
/-- all lines alone: the code itself -/
theorem only_all (l : List Nat) : ∀ {c : Code}, (∀ n ∈ linesOf c, l.contains n = true) → only l c = c
  | .done, _ => rfl
  | .set n v e r, h => by
    simp only [only, if_pos (h n (by simp [linesOf])), only_all l (c := r) fun m hm => h m (by simp [linesOf, hm])]
  | .read n v r, h => by
    simp only [only, if_pos (h n (by simp [linesOf])), only_all l (c := r) fun m hm => h m (by simp [linesOf, hm])]
  | .write n t r, h => by
    simp only [only, if_pos (h n (by simp [linesOf])), only_all l (c := r) fun m hm => h m (by simp [linesOf, hm])]
  | .halt_ n r, h => by
    simp only [only, if_pos (h n (by simp [linesOf])), only_all l (c := r) fun m hm => h m (by simp [linesOf, hm])]
  | .ite n c p q r, h => by
    simp only [only, if_pos (h n (by simp [linesOf])), only_all l (c := p) fun m hm => h m (by simp [linesOf, hm]), only_all l (c := q) fun m hm => h m (by simp [linesOf, hm]), only_all l (c := r) fun m hm => h m (by simp [linesOf, hm])]
  | .loop n c p r, h => by
    simp only [only, if_pos (h n (by simp [linesOf])), only_all l (c := p) fun m hm => h m (by simp [linesOf, hm]), only_all l (c := r) fun m hm => h m (by simp [linesOf, hm])]
theorem items_le : ∀ (c : Code) (d : Nat), (VO.itemsOf d c).length ≤ 2 * (linesOf c).length
  | .done, _ => Nat.le_refl _
  | .set n v e r, d => by have := items_le r d; simp only [VO.itemsOf, linesOf, List.length_cons]; omega
  | .read n v r, d => by have := items_le r d; simp only [VO.itemsOf, linesOf, List.length_cons]; omega
  | .write n t r, d => by have := items_le r d; simp only [VO.itemsOf, linesOf, List.length_cons]; omega
  | .halt_ n r, d => by have := items_le r d; simp only [VO.itemsOf, linesOf, List.length_cons]; omega
  | .ite n c p q r, d => by
    have h1 := items_le p (d + 1)
    have h2 := items_le q (d + 1)
    have h3 := items_le r d
    simp only [VO.itemsOf, linesOf, List.length_cons, List.length_append]
    split
    · simp only [List.length_nil]; omega
    · simp only [List.length_cons]; omega
  | .loop n c p r, d => by
    have h1 := items_le p (d + 1)
    have h3 := items_le r d
    simp only [VO.itemsOf, linesOf, List.length_cons, List.length_append]
    omega
end VP
set_option Elab.async false
set_option linter.all false
set_option maxRecDepth 100000
set_option maxHeartbeats 4000000
namespace VP
open PySem PySem.Spec PyProof.Rows L2 TL
open Vaslca (Text Name areStatements isDone deepOf exec rounds doTest held lastOf toldOption begin_ runOf valuesAt programOf)
open VO (Head Numbered)
open Evl (Ex Ev EvT EvA EvL EvU)
variable {P : Program} {w : World} {K : PySem.W.Frag} {mg : Str → Option Value} {base : Heap} {a : Ad}

theorem PAt.ps {H : Hp} {R : PA} {t : Text} {c : Vaslca.Code} (h : PAt a H R t c) : PS a H R.sl (stmsOf [] c) := ⟨⟨R.rs, h.sl, by rw [h.len, stms_len], fun i r s hr hs => h.st i r s hr hs⟩⟩
theorem is_prog {t : Text} {c : Vaslca.Code} (h : programOf t = some c) : areStatements c = true ∧ Numbered 0 c ∧ (Vaslca.linesOf c).length ≤ 14 ∧ deepOf c ≤ 3 ∧ Vaslca.programText c = t := by
  obtain ⟨h1, h2⟩ := VO.programOf_some h
  obtain ⟨a1, a2, a3, a4⟩ := VO.isProgram_iff.mp h1
  exact ⟨a1, a2, a3, a4, h2⟩
theorem numbered_nodup {c : Vaslca.Code} (h : Numbered 0 c) : (Vaslca.linesOf c).Nodup := by
  unfold Numbered at h
  rw [h]
  exact List.nodup_range' ..
theorem numbered_mem {c : Vaslca.Code} (h : Numbered 0 c) (n : Nat) : n ∈ Vaslca.linesOf c ↔ n < (Vaslca.linesOf c).length := by
  unfold Numbered at h
  rw [h, List.mem_range'_1]
  simp

def sp_counted (a : Ad) : Sp := fun vs H Q _ => ∃ (l : Addr) (xs : List V), vs = [.ref l] ∧ H l = some (.lst xs) ∧ xs.length ≤ 40000 ∧ RetNew (.int (xs.length : Int) :: xs) H Q
theorem el_catN {σ : L2.St} {H : Hp} {ta tb : TE} {xs ys : List V} {l : Addr} (h : EvL ta σ H xs) (hb : Ev tb σ H (.ref l)) (hl : H l = some (.lst ys)) (hz : xs.length + ys.length ≤ 50000) : EvL (tOp rCat ta tb) σ H (xs ++ ys) := fun H1 e Q q =>
  h H1 e _ fun p H2 n2 e2 h2 => hb H2 (e.trans e2) _ fun H3 e3 => ⟨p, l, xs, ys, rfl, rfl, e3 _ _ h2, ((e.trans e2).trans e3) _ _ hl, by rw [sizeLine_eq]; omega, fun r hr => q r _ (Evl.fresh_back (e2.trans e3) hr) ((e2.trans e3).trans (Ex.new hr)) upd_same⟩
theorem ok_counted (T : Facts K mg a) : FnOk P w K mg base CX0 1 a.f_counted a.d_counted ["row"] (sp_counted a) := by
  refine T.F_counted.ok sc_counted (fun vs H Q E h => ?_) (fun cdv A outer s H vs Q E hr h => ?_)
  · obtain ⟨l, xs, rfl, _⟩ := h
    rfl
  · refine ⟨_, (pss_one (ps_ret (pe_op op_cat (pe_lst (pa_cons (pe_callB call_len_seq (by rfl) T.b_len (by decide +kernel) (pa_cons (pv 0) pa_nil)) pa_nil)) (pv 0)))), ?_⟩
    obtain ⟨l, xs, rfl, hl, hz, q⟩ := h
    exact Evl.s_retL (el_catN (xs := [.int (xs.length : Int)]) (Evl.el_lst (Evl.ea_cons (ev_lenL (Evl.ev_var rfl) hl rfl) Evl.ea_nil) (by simp)) (Evl.ev_var rfl) hl (by simp; omega)) q

theorem s_retMaxD {σ : L2.St} {H : Hp} {D : Ends} {ta : TE} {ns : List Nat} {d : Int} (hl : EvL ta σ H (natV ns)) (k : ∀ (m : Int) H1, Ex H H1 → ((ns = [] ∧ m = d) ∨ ∃ n ∈ ns, m = (n : Int) ∧ ∀ y ∈ ns, y ≤ n) → D.rt (.int m) H1) :
    tRet (tCKw (rMaxD K) (tCons ta tNil) (tCons (tC (.int d)) tNil)) D σ H :=
  hl H (Ex.refl H) _ fun p H1 n1 e1 h1 => ⟨p, ns.map fun (n : Nat) => (n : Int), d, rfl, rfl, Evl.sq_of (by rw [h1]; unfold natV; rw [List.map_map]; rfl), fun m hm => k m H1 e1 (by
    rcases hm with ⟨hn, rfl⟩ | ⟨hm, hle⟩
    · exact Or.inl ⟨by simpa using hn, rfl⟩
    · obtain ⟨n, hn, rfl⟩ := List.mem_map.mp hm
      refine Or.inr ⟨n, hn, rfl, fun y hy => ?_⟩
      have := hle (y : Int) (List.mem_map.mpr ⟨y, hy, rfl⟩)
      omega)⟩
theorem q_asgMake {σ : L2.St} {H : Hp} {D : Ends} {tz : TS} {ts : TA} {C : Addr} {sp : Sp} {dvs vs : List V} {E : XK} {i : Nat} (h : EvA ts σ H vs)
    (k : ∀ H1, Ex H H1 → ∀ x dx, H1 x = none → H1 dx = none → dx ≠ x → sp (.ref x :: (vs ++ dvs)) (upd (upd H1 dx (.own x)) x (.ins C dx [])) (fun v H2 => v = .non ∧ tz D (σ.set i (some (.ref x))) H2) E) :
    tSeq (tAsg (tMake C sp dvs E ts) (gName i)) tz D σ H := h H (Ex.refl H) _ k
instance : Inhabited Stm := ⟨⟨0, [], [], [], [], [], [], []⟩⟩
def sp_Program_depth (a : Ad) : Sp := fun vs H Q _ => ∃ (R : PA) (t : Text) (c : Vaslca.Code), vs = [.ref R.p] ∧ PAt a H R t c ∧ programOf t = some c ∧ ∀ H', Ex H H' → Q (.int (deepOf c : Int)) H'
theorem ok_Program_depth (T : Facts K mg a) : FnOk P w K mg base CX0 1 a.f_Program_depth a.d_Program_depth ["self"] (sp_Program_depth a) := by
  refine T.F_Program_depth.ok sc_Program_depth (fun vs H Q E h => ?_) (fun cdv A outer s H vs Q E hr h => ?_)
  · obtain ⟨R, t, c, rfl, _⟩ := h
    rfl
  · refine ⟨_, (pss_one (ps_ret (pe_callBK (cr_maxD rfl) (by rfl) T.b_max (by decide +kernel) (pa_cons (pe_lc (own := [("statement", 1)]) (g := gName 1) (tt := tYes) (by rfl) sc_Program_depth.nd (pi_list (pe_fld (pv 0) rfl)) (blkOk_by (own := [("statement", 1)]) (N := ["self", "statement"]) (sc := defScope st_Program_depth) (by decide +kernel)) (fun _ _ _ _ _ => pg_name (i := 1) sc_Program_depth.nd rfl (Or.inl rfl)) (fun _ _ _ _ _ => pts_nil) (fun _ _ _ _ _ => (pe_callB (call_len_seqB (K2 := K) rfl) (by rfl) T.b_len (by decide +kernel) (pa_cons (pe_fldB (K2 := K) rfl (pv 1) rfl) pa_nil)))) pa_nil) (pk_cons pe_int pk_nil)))), ?_⟩
    obtain ⟨R, t, c, rfl, hP, hp, q⟩ := h
    obtain ⟨a1, a2, a3, a4, _⟩ := is_prog hp
    have lrs : R.rs.length = (stmsOf [] c).length := by rw [hP.len, stms_len]
    have ls := stms_len c []
    refine s_retMaxD (ns := (stmsOf [] c).map fun s => s.headers.length) (el_is (Evl.el_lcL (fun _ => true) (fun i => V.int (((stmsOf [] c).getD i default).headers.length : Int)) (ev_fld (Evl.ev_var rfl) hP.ob T.cl_Program T.n_Program_statements (pF_statements _ _ _ _)) (Evl.sq_of hP.sl) (by rw [List.length_map]; omega) (fun _ => rfl)
        (fun i y H2 e2 hi H3 _ Q q => q H3 (Ex.refl H3)) (fun i y H2 e2 hi _ => ?_)) ?_) fun m H1 e1 hm => ?_
    · rw [List.getElem?_map] at hi
      cases hr : R.rs[i]? with
      | none => rw [hr] at hi; cases hi
      | some r =>
        rw [hr] at hi
        cases Option.some.inj hi
        have lt := (List.getElem?_eq_some_iff.mp hr).1
        have hs : (stmsOf [] c)[i]? = some ((stmsOf [] c)[i]'(by omega)) := List.getElem?_eq_getElem (by omega)
        have s0 := (hP.st i r _ hr hs).mono e2
        refine Evl.ev_is (ev_lenL (ev_fld (Evl.ev_var rfl) s0.o T.cl_Statement T.n_Statement_headers (stF_headers _ _)) s0.hd (natV_len _)) ?_
        rw [List.getD_eq_getElem?_getD, hs]
        rfl
    · rw [List.length_map, lrs, given_list (stmsOf [] c) (fun _ => true) (fun s => V.int (s.headers.length : Int)), List.filter_eq_self.mpr (fun _ _ => rfl)]
      unfold natV
      rw [List.map_map]
      rfl
    · have em : m = (deepOf c : Int) := by
        obtain ⟨d1, d2⟩ := deep_stms c [] a1
        rcases hm with ⟨hn, rfl⟩ | ⟨n, hn, rfl, hle⟩
        · cases c <;> first | rfl | (simp [stmsOf] at hn)
        · have dn : isDone c = false := by
            cases c <;> first | rfl | (simp [stmsOf] at hn)
          obtain ⟨s0, q1, q2⟩ := d2 dn
          obtain ⟨s1, q3, rfl⟩ := List.mem_map.mp hn
          have u1 := d1 s1 q3
          have u2 := hle s0.headers.length (List.mem_map.mpr ⟨s0, q1, rfl⟩)
          simp at u1 q2
          omega
      rw [em]
      exact q H1 e1

/-! # a run of a program -/
def RetRun (a : Ad) (c : Vaslca.Code) (ns : List Nat) (sl : Addr) (H : Hp) (Q : VK) : Prop := ∀ (M : RA) (L : Nat → Option Nat) (H' : Hp), M.sl = sl → RunAt a H H' M (runOf c ns) L (runOf c ns).steps.length → Q (.ref M.o) H'
def sp_run_lines (a : Ad) : Sp := fun vs H Q _ => ∃ (R : PA) (t : Text) (c : Vaslca.Code) (ll l : Addr) (ls ns : List Nat), vs = [.ref R.p, .ref ll, .ref l] ∧ PAt a H R t c ∧ programOf t = some c ∧ H ll = some (.lst (natV ls)) ∧ H l = some (.lst (natV ns)) ∧ (∀ v ∈ ns, v < 1000) ∧ RetRun a (Vaslca.only ls c) ns R.sl H Q
theorem ok_run_lines (T : Facts K mg a) : FnOk P w K mg base CX0 15 a.f_run_lines a.d_run_lines ["program", "lines", "numbers"] (sp_run_lines a) := by
  refine T.F_run_lines.ok sc_run_lines (fun vs H Q E h => ?_) (fun cdv A outer s H vs Q E hr h => ?_)
  · obtain ⟨R, t, c, ll, l, ls, ns, rfl, _⟩ := h
    rfl
  · refine ⟨_, (pss_cons (ps_set (i := 3) sc_run_lines.nd rfl (Or.inl rfl) (pe_make T.K_Run (ok_Run_init T) (hr.mono (by decide)) rfl T.g_Run T.B_Run_init .nil pass0 (pa_cons (pe_fld (pv 0) rfl) (pa_cons (pv 1) (pa_cons (pv 2) pa_nil)))))
    (pss_cons (ps_expr (pe_meth (pv 3) T.cl_Run T.M_Run_do_block (ok_Run_do_block T) (hr.mono (by decide)) T.B_Run_do_block .nil pass0 (pa_cons (pe_fld (pv 0) rfl) pa_nil)))
    (pss_one (ps_ret (pv 3))))), ?_⟩
    obtain ⟨R, t, c, ll, l, ls, ns, rfl, hP, hp, hll, hl, hs, q⟩ := h
    obtain ⟨a1, a2, a3, a4, _⟩ := is_prog hp
    refine q_asgMake (vs := [.ref R.sl, .ref ll, .ref l]) (Evl.ea_cons (ev_fld (Evl.ev_var rfl) hP.ob T.cl_Program T.n_Program_statements (pF_statements _ _ _ _)) (Evl.ea_cons (Evl.ev_var rfl) (Evl.ea_cons (Evl.ev_var rfl) Evl.ea_nil))) fun H1 e1 x dx nx nd ne => ?_
    have e2 : Ex H1 (upd (upd H1 dx (.own x)) x (.ins a.C_Run dx [])) := fun b o hb => by rw [upd_ne (ne_some hb nx), upd_ne (ne_some hb nd)]; exact hb
    refine ⟨H, x, dx, R.sl, ll, l, ns, rfl, e1.trans e2, Evl.fresh_back e1 nx, upd_same, (e1.trans e2) _ _ hl, hs, fun M H3 hMo hMd hMs hMl hR => ⟨rfl, ?_⟩⟩
    subst hMo
    have hP3 := hP.mono hR.ex
    dsimp only
    refine q_dropMeth (Evl.ev_var rfl) hR.ob (rF_no8 _ _ _ _ _ _ _ _ _) (Evl.ea_cons (ev_fld (Evl.ev_var rfl) hP3.ob T.cl_Program T.n_Program_top (pF_top _ _ _ _)) Evl.ea_nil) fun H4 e4 => ?_
    refine ⟨H, M, begin_ ns, fun _ => none, ls, stmsOf [] c, [], none, Vaslca.only ls c, R.tl, topLines c, rfl, hP.tl, (top_only ls c).symm, ⟨hR.mono e4, by rw [hMs]; exact hP.ps, by rw [hMl]; exact hll, fits_only ls (fits_all _ c [] 0 a2 fun i s hs => by rw [Nat.zero_add]; exact hs), okC_only ls (okC_of a1), (lines_only ls c).nodup (numbered_nodup a2), Nat.le_trans (deep_only ls c) a4, fun m hm => by simp at hm, fun _ => ⟨fun _ => rfl, fun h' m z => by simp at z⟩⟩, fun L H5 _ hR5 => ?_⟩
    exact Evl.s_ret (Evl.ev_var rfl) fun H6 e6 => q M L H6 hMs (hR5.mono e6)

/-! # all lines -/
theorem rg_nat (n : Nat) : rgV 0 (n : Int) = natV (List.range n) := by
  unfold rgV natV
  rw [show ((n : Int) - 0).toNat = n by omega]
  refine List.map_congr_left fun i _ => ?_
  rw [Int.zero_add]
theorem el_rg {σ : L2.St} {H : Hp} {ta : TE} {n : Nat} (h : Ev ta σ H (.int (n : Int))) (hn : n ≤ 10000) : EvL (tLstRg (tRg1 ta)) σ H (natV (List.range n)) := fun H1 e Q q =>
  h H1 e _ fun H2 e2 => ⟨(n : Int), rfl, RgOk.of_le (by omega) (by omega) (by omega) (by omega), fun p hp => by
    rw [rg_nat]
    exact q p _ (Evl.fresh_back e2 hp) (e2.trans (Ex.new hp)) upd_same⟩
def sp_Program_all_lines (a : Ad) : Sp := fun vs H Q _ => ∃ (R : PA) (t : Text) (c : Vaslca.Code), vs = [.ref R.p] ∧ PAt a H R t c ∧ (Vaslca.linesOf c).length ≤ 14 ∧ RetNew (natV (List.range (Vaslca.linesOf c).length)) H Q
theorem ok_Program_all_lines (T : Facts K mg a) : FnOk P w K mg base CX0 1 a.f_Program_all_lines a.d_Program_all_lines ["self"] (sp_Program_all_lines a) := by
  refine T.F_Program_all_lines.ok sc_Program_all_lines (fun vs H Q E h => ?_) (fun cdv A outer s H vs Q E hr h => ?_)
  · obtain ⟨R, t, c, rfl, _⟩ := h
    rfl
  · refine ⟨_, (pss_one (ps_ret (pe_listRg rfl (by rfl) T.b_list (prg_1 (by rfl) T.b_range (pe_callB call_len_seq (by rfl) T.b_len (by decide +kernel) (pa_cons (pe_fld (pv 0) rfl) pa_nil)))))), ?_⟩
    obtain ⟨R, t, c, rfl, hP, hz, q⟩ := h
    exact Evl.s_retL (el_rg (ev_lenL (ev_fld (Evl.ev_var rfl) hP.ob T.cl_Program T.n_Program_statements (pF_statements _ _ _ _)) hP.sl (by rw [List.length_map]; exact hP.len)) (by omega)) q
end VP
set_option Elab.async false
set_option linter.all false
set_option maxRecDepth 100000
set_option maxHeartbeats 4000000
namespace VP
open PySem PySem.Spec PyProof.Rows L2 TL
open Vaslca (Text Name toldOption programOf toldText toldTexts toldNats)
open VO (Head Numbered)
open Evl (Ex Ev EvT EvA EvL EvU)
variable {P : Program} {w : World} {K : PySem.W.Frag} {mg : Str → Option Value} {base : Heap} {a : Ad}

/-! # texts and lists as they are told -/
theorem natV_told (t : Text) : natV (toldText t) = .int ((bytV t).length : Int) :: bytV t := by
  unfold natV toldText bytV
  rw [List.map_cons, List.map_map, List.length_map]
  rfl
theorem natV_app (l m : List Nat) : natV (l ++ m) = natV l ++ natV m := by
  unfold natV
  exact List.map_append ..
theorem natV_nats (l : List Nat) : natV (toldNats l) = .int ((natV l).length : Int) :: natV l := by
  unfold toldNats
  rw [natV_len]
  rfl
theorem sl_counted {a : Ad} {l : Addr} {xs : List V} {H : Hp} (h : H l = some (.lst xs)) (hz : xs.length ≤ 40000) : Evl.SpL (sp_counted a) [.ref l] H (.int (xs.length : Int) :: xs) := fun H1 e Q q E => ⟨l, xs, rfl, e _ _ h, hz, q⟩
theorem el_counted {σ : L2.St} {H : Hp} {tl : TE} {xs : List V} {E : XK} (h : EvL tl σ H xs) (hz : xs.length ≤ 40000) : EvL (tCall (sp_counted a) [] E (tCons tl tNil)) σ H (.int (xs.length : Int) :: xs) := fun H1 e Q q =>
  h H1 e _ fun l H2 n2 e2 h2 => ⟨l, xs, rfl, h2, hz, fun r H3 n3 e3 h3 => q r H3 (Evl.fresh_back e2 n3) (e2.trans e3) h3⟩
theorem el_catLL {σ : L2.St} {H : Hp} {ta tb : TE} {xs ys : List V} (h : EvL ta σ H xs) (hb : EvL tb σ H ys) (hz : xs.length + ys.length ≤ 50000) : EvL (tOp rCat ta tb) σ H (xs ++ ys) := fun H1 e Q q =>
  h H1 e _ fun p H2 n2 e2 h2 => hb H2 (e.trans e2) _ fun l H3 n3 e3 h3 => ⟨p, l, xs, ys, rfl, rfl, e3 _ _ h2, h3, by rw [sizeLine_eq]; omega, fun r hr => q r _ (Evl.fresh_back (e2.trans e3) hr) ((e2.trans e3).trans (Ex.new hr)) upd_same⟩
theorem el_catVL {σ : L2.St} {H : Hp} {ta tb : TE} {xs ys : List V} {p : Addr} (h : Ev ta σ H (.ref p)) (hp : H p = some (.lst xs)) (hb : EvL tb σ H ys) (hz : xs.length + ys.length ≤ 50000) : EvL (tOp rCat ta tb) σ H (xs ++ ys) := fun H1 e Q q =>
  h H1 e _ fun H2 e2 => hb H2 (e.trans e2) _ fun l H3 n3 e3 h3 => ⟨p, l, xs, ys, rfl, rfl, ((e.trans e2).trans e3) _ _ hp, h3, by rw [sizeLine_eq]; omega, fun r hr => q r _ (Evl.fresh_back (e2.trans e3) hr) ((e2.trans e3).trans (Ex.new hr)) upd_same⟩
section
variable {σ : L2.St} {H : Hp} {D : Ends} {tz : TS} {ta te : TE} {l : Addr} {xs ys : List V}
theorem s_extL (hl : H l = some (.lst xs)) (ha : Ev ta σ H (.ref l)) (h : EvL te σ H ys) (hz : xs.length + ys.length ≤ 100000) (k : ∀ p H1, H p = none → Ex H H1 → H1 p = some (.lst ys) → D.nx σ (upd H1 l (.lst (xs ++ ys)))) :
    tDrop (tBM K "list" rExtend ta (tCons te tNil)) D σ H := ha H (Ex.refl H) _ fun H1 e1 =>
  ⟨Or.inl ⟨rfl, xs, Evl.sq_of (e1 l _ hl)⟩, h H1 e1 _ fun p H2 hp e2 h2 => ⟨l, p, xs, ys, rfl, rfl, e2 l _ (e1 l _ hl), h2, by rw [sizeLine_eq]; omega, k p H2 (Evl.fresh_back e1 hp) (e1.trans e2) h2⟩⟩
theorem q_extL (hl : H l = some (.lst xs)) (ha : Ev ta σ H (.ref l)) (h : EvL te σ H ys) (hz : xs.length + ys.length ≤ 100000) (k : ∀ p H1, H p = none → Ex H H1 → H1 p = some (.lst ys) → tz D σ (upd H1 l (.lst (xs ++ ys)))) :
    tSeq (tDrop (tBM K "list" rExtend ta (tCons te tNil))) tz D σ H := s_extL (D := { D with nx := tz D }) hl ha h hz k
/-- by a list that is there already -/
theorem s_extV {p : Addr} (hl : H l = some (.lst xs)) (ha : Ev ta σ H (.ref l)) (h : Ev te σ H (.ref p)) (hp : H p = some (.lst ys)) (hz : xs.length + ys.length ≤ 2000000) (k : ∀ H1, Ex H H1 → D.nx σ (upd H1 l (.lst (xs ++ ys)))) :
    tDrop (tBM K "list" rExtend ta (tCons te tNil)) D σ H := ha H (Ex.refl H) _ fun H1 e1 =>
  ⟨Or.inl ⟨rfl, xs, Evl.sq_of (e1 l _ hl)⟩, h H1 e1 _ fun H2 e2 => ⟨l, p, xs, ys, rfl, rfl, e2 l _ (e1 l _ hl), (e1.trans e2) p _ hp, by rw [sizeLine_eq]; omega, k H2 (e1.trans e2)⟩⟩
theorem ev_ordC {c : Nat} (h : Ev te σ H (.str ⟨#[c]⟩)) : Ev (tCB (fun xs H Q => ∃ x, xs = [.str x] ∧ x.length = 1 ∧ Q (.int (x.cps.getD 0 0 : Nat)) H) (tCons te tNil)) σ H (.int ((c : Nat) : Int)) := fun H1 e Q q =>
  h H1 e _ fun H2 e2 => ⟨_, rfl, rfl, q H2 e2⟩
end
def sp_bytes_of (_ : Ad) : Sp := fun vs H Q _ => ∃ (t : Text), vs = [.str (S t)] ∧ t.length ≤ 40000 ∧ RetNew (bytV t) H Q
theorem ok_bytes_of (T : Facts K mg a) : FnOk P w K mg base CX0 1 a.f_bytes_of a.d_bytes_of ["signs"] (sp_bytes_of a) := by
  refine T.F_bytes_of.ok sc_bytes_of (fun vs H Q E h => ?_) (fun cdv A outer s H vs Q E hr h => ?_)
  · obtain ⟨t, rfl, _⟩ := h
    rfl
  · refine ⟨_, (pss_one (ps_ret (pe_lc (own := [("sign", 1)]) (g := gName 1) (tt := tYes) (by rfl) sc_bytes_of.nd (pi_str (pv 0)) (blkOk_by (own := [("sign", 1)]) (N := ["signs", "sign"]) (sc := defScope st_bytes_of) (by decide +kernel)) (fun _ _ _ _ _ => pg_name (i := 1) sc_bytes_of.nd rfl (Or.inl rfl)) (fun _ _ _ _ _ => pts_nil) (fun _ _ _ _ _ => (pe_callB call_ord (by rfl) T.b_ord (by decide +kernel) (pa_cons (pv 1) pa_nil)))))), ?_⟩
    obtain ⟨t, rfl, hz, q⟩ := h
    have sz : (S t).cps.size = t.length := len_S t
    refine Evl.s_retL (el_is (el_lcS (z := S t) (fun i => V.int ((t.getD i 0).toNat : Int)) (Evl.ev_var rfl) (by omega) (fun _ => rfl) (fun i c H1 e1 hc => Evl.ev_is (ev_ordC (c := c) (Evl.ev_var rfl)) ?_)) ?_) q
    · have hc' : (t.map UInt8.toNat)[i]? = some c := by
        have : (S t).cps[i]? = (tl (S t))[i]? := by simp [tl]
        rw [this] at hc
        exact hc
      rw [List.getElem?_map] at hc'
      cases hb : t[i]? with
      | none => rw [hb] at hc'; cases hc'
      | some b =>
        rw [hb] at hc'
        cases Option.some.inj hc'
        rw [List.getD_eq_getElem?_getD, hb]
        rfl
    · rw [sz]
      unfold bytV
      refine List.ext_getElem (by simp) fun i h1 h2 => ?_
      simp at h1
      simp [h1]
theorem sl_bytes {a : Ad} {t : Text} {H : Hp} (hz : t.length ≤ 40000) : Evl.SpL (sp_bytes_of a) [.str (S t)] H (bytV t) := fun H1 e Q q E => ⟨t, rfl, hz, q⟩
theorem bytV_len (t : Text) : (bytV t).length = t.length := List.length_map ..
def sp_counted_text (_ : Ad) : Sp := fun vs H Q _ => ∃ (t : Text), vs = [.str (S t)] ∧ t.length ≤ 40000 ∧ RetNew (natV (toldText t)) H Q
theorem ok_counted_text (T : Facts K mg a) : FnOk P w K mg base CX0 2 a.f_counted_text a.d_counted_text ["signs"] (sp_counted_text a) := by
  refine T.F_counted_text.ok sc_counted_text (fun vs H Q E h => ?_) (fun cdv A outer s H vs Q E hr h => ?_)
  · obtain ⟨t, rfl, _⟩ := h
    rfl
  · refine ⟨_, (pss_one (ps_ret (pe_call (ok_counted T) (hr.mono (by decide)) rfl T.g_counted T.F_counted.kp T.B_counted .nil pass0 (pa_cons (pe_call (ok_bytes_of T) (hr.mono (by decide)) rfl T.g_bytes_of T.F_bytes_of.kp T.B_bytes_of .nil pass0 (pa_cons (pv 0) pa_nil)) pa_nil)))), ?_⟩
    obtain ⟨t, rfl, hz, q⟩ := h
    rw [natV_told] at q
    exact Evl.s_retL (el_counted (Evl.el_call (Evl.ea_cons (Evl.ev_var rfl) Evl.ea_nil) (sl_bytes hz)) (by rw [bytV_len]; exact hz)) q
theorem sl_counted_text {a : Ad} {t : Text} {H : Hp} (hz : t.length ≤ 40000) : Evl.SpL (sp_counted_text a) [.str (S t)] H (natV (toldText t)) := fun H1 e Q q E => ⟨t, rfl, hz, q⟩
theorem texts_len {ws : List Text} (h : ∀ t ∈ ws, t.length ≤ 100) : (ws.flatMap toldText).length ≤ 101 * ws.length := by
  induction ws with
  | nil => simp
  | cons t r ih =>
    have h1 := ih fun u hu => h u (by simp [hu])
    have h2 := h t (by simp)
    rw [List.flatMap_cons, List.length_append, List.length_cons]
    unfold toldText at h1 ⊢
    simp only [List.length_cons, List.length_map] at h1 ⊢
    omega
def sp_counted_texts (_ : Ad) : Sp := fun vs H Q _ => ∃ (l : Addr) (ws : List Text), vs = [.ref l] ∧ H l = some (.lst (wdV ws)) ∧ ws.length ≤ 100 ∧ (∀ t ∈ ws, t.length ≤ 100) ∧ RetNew (natV (toldTexts ws)) H Q
theorem ok_counted_texts (T : Facts K mg a) : FnOk P w K mg base CX0 3 a.f_counted_texts a.d_counted_texts ["texts"] (sp_counted_texts a) := by
  refine T.F_counted_texts.ok sc_counted_texts (fun vs H Q E h => ?_) (fun cdv A outer s H vs Q E hr h => ?_)
  · obtain ⟨l, ws, rfl, _⟩ := h
    rfl
  · refine ⟨_, (pss_cons (ps_set (i := 1) sc_counted_texts.nd rfl (Or.inl rfl) (pe_lst (pa_cons (pe_callB call_len_seq (by rfl) T.b_len (by decide +kernel) (pa_cons (pv 0) pa_nil)) pa_nil)))
    (pss_cons (ps_for PassesOwn.never rfl (pi_list (pv 0)) (pg_name (i := 2) sc_counted_texts.nd rfl (Or.inl rfl))
    (pss_one (ps_expr (pe_bm PySem.F.plainAttrs_list PySem.F.slot_list_extend PySem.F.type_list_extend mt_extend (pv 1) (pa_cons (pe_call (ok_counted_text T) (hr.mono (by decide)) rfl T.g_counted_text T.F_counted_text.kp T.B_counted_text .nil pass0 (pa_cons (pv 2) pa_nil)) pa_nil)))))
    (pss_one (ps_ret (pv 1))))), ?_⟩
    obtain ⟨l, ws, rfl, hl, hz, hw, q⟩ := h
    refine Evl.q_asgL (xs := [.int (ws.length : Int)]) (Evl.el_lst (Evl.ea_cons (ev_lenL (Evl.ev_var rfl) hl (wdV_len _)) Evl.ea_nil) (by simp)) fun p H1 np e1 h1 => ?_
    refine Evl.q_forLn (Evl.ev_var rfl) (Evl.sq_of (e1 _ _ hl)) (fun i σ' H' => ∃ v : Option V, σ' = [some (.ref l), some (.ref p), v] ∧ Ex H H' ∧ H' p = some (.lst (natV (ws.length :: (ws.take i).flatMap toldText))))
      (fun H2 e2 => ⟨none, rfl, e1.trans e2, e2 _ _ h1⟩) (fun i σ' H' _ ⟨_, _, e, _⟩ => Evl.sq_of (e _ _ hl)) (fun i y σ' H' hi ⟨v, es, e, hp⟩ => ?_) (fun σ' H' ⟨v, es, e, hp⟩ => ?_)
    · subst es
      obtain ⟨t, ht, rfl⟩ := wdV_at hi
      have mt := List.mem_of_getElem? ht
      have lt := hw t mt
      have tm := texts_len (ws := ws.take i) fun u hu => hw u (List.mem_of_mem_take hu)
      have tl : (ws.take i).length ≤ 100 := by rw [List.length_take]; omega
      refine s_extL hp (Evl.ev_var rfl) (Evl.el_call (Evl.ea_cons (Evl.ev_var rfl) Evl.ea_nil) (sl_counted_text (t := t) (by omega))) (by
        rw [natV_len, natV_len, List.length_cons]
        unfold toldText
        simp only [List.length_cons, List.length_map]
        unfold toldText at tm
        omega) fun r H2 n2 e2 h2 => ?_
      refine ⟨_, rfl, Ex.mut (e.trans e2) np, ?_⟩
      rw [upd_same, List.take_add_one, ht, List.flatMap_append, ← natV_app]
      congr 2
      simp
    · subst es
      rw [wdV_len, List.take_length] at hp
      exact Evl.s_ret (Evl.ev_var rfl) fun H2 e2 => q p H2 np (e.trans e2) (e2 _ _ hp)
theorem sl_counted_texts {a : Ad} {l : Addr} {ws : List Text} {H : Hp} (hl : H l = some (.lst (wdV ws))) (h1 : ws.length ≤ 100) (h2 : ∀ t ∈ ws, t.length ≤ 100) : Evl.SpL (sp_counted_texts a) [.ref l] H (natV (toldTexts ws)) := fun H1 e Q q E => ⟨l, ws, rfl, e _ _ hl, h1, h2, q⟩
theorem el_counted_texts {σ : L2.St} {H : Hp} {tl : TE} {ws : List Text} {E : XK} (h : EvL tl σ H (wdV ws)) (h1 : ws.length ≤ 100) (h2 : ∀ t ∈ ws, t.length ≤ 100) : EvL (tCall (sp_counted_texts a) [] E (tCons tl tNil)) σ H (natV (toldTexts ws)) := fun H1 e Q q =>
  h H1 e _ fun l H2 n2 e2 hl => ⟨l, ws, rfl, hl, h1, h2, fun r H3 n3 e3 h3 => q r H3 (Evl.fresh_back e2 n3) (e2.trans e3) h3⟩
end VP
set_option Elab.async false
set_option linter.all false
set_option maxRecDepth 100000
set_option maxHeartbeats 4000000
namespace VP
open PySem PySem.Spec PyProof.Rows L2 TL
open Vaslca (Text Name toldOption programOf toldText toldTexts toldNats deepOf isDone isName isAtom isExpr isCond atomText opText relText exprWords condWords ascii gluedBy)
open VO (Head Numbered Item itemsOf itemText itemOk)
open Evl (Ex Ev EvT EvA EvL EvU)
variable {P : Program} {w : World} {K : PySem.W.Frag} {mg : Str → Option Value} {base : Heap} {a : Ad}

/-! # rows of some lines alone, purely -/
theorem items_okC : ∀ {c : Vaslca.Code} (d : Nat), okC c = true → ∀ x ∈ itemsOf d c, itemOk x = true
  | .done, _, _, x, hx => by simp [itemsOf] at hx
  | .set n v e r, d, h, x, hx => by
    simp only [okC, Bool.and_eq_true] at h
    simp only [itemsOf, List.mem_cons] at hx
    rcases hx with rfl | hx
    · exact h.1
    · exact items_okC d h.2 x hx
  | .read n v r, d, h, x, hx => by
    simp only [okC, Bool.and_eq_true] at h
    simp only [itemsOf, List.mem_cons] at hx
    rcases hx with rfl | hx
    · exact h.1
    · exact items_okC d h.2 x hx
  | .write n t r, d, h, x, hx => by
    simp only [okC, Bool.and_eq_true] at h
    simp only [itemsOf, List.mem_cons] at hx
    rcases hx with rfl | hx
    · exact h.1
    · exact items_okC d h.2 x hx
  | .halt_ n r, d, h, x, hx => by
    simp only [okC, Bool.and_eq_true] at h
    simp only [itemsOf, List.mem_cons] at hx
    rcases hx with rfl | hx
    · rfl
    · exact items_okC d h.2 x hx
  | .ite n c p q r, d, h, x, hx => by
    simp only [okC, Bool.and_eq_true] at h
    simp only [itemsOf, List.mem_cons, List.mem_append] at hx
    rcases hx with rfl | hx | hx | hx
    · exact h.1
    · exact items_okC (d + 1) h.2.1 x hx
    · split at hx
      · simp at hx
      · rcases List.mem_cons.mp hx with rfl | hx
        · rfl
        · exact items_okC (d + 1) h.2.2.1 x hx
    · exact items_okC d h.2.2.2 x hx
  | .loop n c p r, d, h, x, hx => by
    simp only [okC, Bool.and_eq_true] at h
    simp only [itemsOf, List.mem_cons, List.mem_append] at hx
    rcases hx with rfl | hx | hx
    · exact h.1
    · exact items_okC (d + 1) h.2.1 x hx
    · exact items_okC d h.2.2 x hx
theorem items_deep : ∀ (c : Vaslca.Code) (d : Nat), ∀ x ∈ itemsOf d c, x.1 ≤ d + deepOf c
  | .done, _, x, hx => by simp [itemsOf] at hx
  | .set n v e r, d, x, hx => by
    simp only [itemsOf, List.mem_cons] at hx
    rcases hx with rfl | hx
    · simp
    · exact items_deep r d x hx
  | .read n v r, d, x, hx => by
    simp only [itemsOf, List.mem_cons] at hx
    rcases hx with rfl | hx
    · simp
    · exact items_deep r d x hx
  | .write n t r, d, x, hx => by
    simp only [itemsOf, List.mem_cons] at hx
    rcases hx with rfl | hx
    · simp
    · exact items_deep r d x hx
  | .halt_ n r, d, x, hx => by
    simp only [itemsOf, List.mem_cons] at hx
    rcases hx with rfl | hx
    · simp
    · exact items_deep r d x hx
  | .ite n c p q r, d, x, hx => by
    simp only [itemsOf, List.mem_cons, List.mem_append] at hx
    simp only [deepOf]
    rcases hx with rfl | hx | hx | hx
    · simp
    · have := items_deep p (d + 1) x hx
      omega
    · split at hx
      · simp at hx
      · rcases List.mem_cons.mp hx with rfl | hx
        · simp
        · have := items_deep q (d + 1) x hx
          omega
    · have := items_deep r d x hx
      omega
  | .loop n c p r, d, x, hx => by
    simp only [itemsOf, List.mem_cons, List.mem_append] at hx
    simp only [deepOf]
    rcases hx with rfl | hx | hx
    · simp
    · have := items_deep p (d + 1) x hx
      omega
    · have := items_deep r d x hx
      omega
theorem glued_len : ∀ ws : List Text, (∀ u ∈ ws, u.length ≤ 5) → (gluedBy [32] ws).length ≤ 6 * ws.length
  | [], _ => by simp [gluedBy]
  | [u], h => by
    have := h u (by simp)
    simp only [gluedBy, List.length_cons, List.length_nil]
    omega
  | u :: v :: r, h => by
    have h1 := h u (by simp)
    have h2 := glued_len (v :: r) fun x hx => h x (by simp [List.mem_cons.mp hx])
    rw [VO.glued_cons]
    simp only [List.length_append, List.length_cons, List.length_nil] at h2 ⊢
    omega
theorem name_len {v : Text} (h : isName v = true) : v.length ≤ 4 := by
  simp only [isName, Bool.and_eq_true, Vaslca.NAME] at h
  exact of_decide_eq_true h.2.1
theorem atom_len {x : Vaslca.Atom} (h : isAtom x = true) : (atomText x).length ≤ 4 := by
  cases x with
  | num n =>
    have h' : n ≤ 99 := of_decide_eq_true h
    have := (VO.decimal_fact ⟨n, by omega⟩).1
    have z : (Vaslca.decimal n).length ≤ 2 := this
    show (Vaslca.decimal n).length ≤ 4
    omega
  | var v => exact name_len h
theorem op_len (o : Vaslca.Op) : (opText o).length ≤ 1 := by cases o <;> decide
theorem rel_len (r : Vaslca.Rel) : (relText r).length ≤ 2 := by cases r <;> decide
theorem cond_len {c : Vaslca.Cond} (h : isCond c = true) : (∀ u ∈ condWords c, u.length ≤ 5) ∧ (condWords c).length = 3 := by
  simp only [isCond, Bool.and_eq_true] at h
  refine ⟨fun u hu => ?_, rfl⟩
  have h1 := atom_len h.1
  have h2 := atom_len h.2
  have h3 := rel_len c.rel
  simp only [condWords, List.mem_cons, List.not_mem_nil, or_false] at hu
  rcases hu with rfl | rfl | rfl
  · omega
  · omega
  · simp; omega
theorem expr_len {e : Vaslca.Expr} (h : isExpr e = true) : (∀ u ∈ exprWords e, u.length ≤ 5) ∧ (exprWords e).length ≤ 3 := by
  simp only [isExpr, Bool.and_eq_true] at h
  have h1 := atom_len h.1
  have h2 := atom_len h.2.1
  have h3 := op_len e.op
  unfold exprWords
  split
  · refine ⟨fun u hu => ?_, by simp⟩
    simp at hu
    rw [hu]; omega
  · refine ⟨fun u hu => ?_, by simp⟩
    simp only [List.mem_cons, List.not_mem_nil, or_false] at hu
    rcases hu with rfl | rfl | rfl <;> omega
theorem head_len {h : Head} (k : h.ok = true) : h.text.length ≤ 30 := by
  have fin : ∀ ws : List Text, (∀ u ∈ ws, u.length ≤ 5) → ws.length ≤ 5 → (gluedBy [32] ws).length ≤ 30 := fun ws h1 h2 => by
    have := glued_len ws h1
    omega
  cases h with
  | set v e =>
    simp only [Head.ok, Bool.and_eq_true] at k
    obtain ⟨e1, e2⟩ := expr_len k.2
    have := name_len k.1
    refine fin (v :: ascii "=" :: exprWords e) (fun u hu => ?_) (by simp; omega)
    rcases List.mem_cons.mp hu with rfl | hu
    · omega
    · rcases List.mem_cons.mp hu with rfl | hu
      · decide
      · exact e1 u hu
  | read v =>
    have := name_len k
    refine fin [ascii "read", v] (fun u hu => ?_) (by simp)
    simp only [List.mem_cons, List.not_mem_nil, or_false] at hu
    rcases hu with rfl | rfl
    · decide
    · omega
  | write t =>
    have := atom_len k
    refine fin [ascii "write", atomText t] (fun u hu => ?_) (by simp)
    simp only [List.mem_cons, List.not_mem_nil, or_false] at hu
    rcases hu with rfl | rfl
    · decide
    · omega
  | halt => decide
  | ite c =>
    obtain ⟨e1, e2⟩ := cond_len k
    refine fin (ascii "if" :: condWords c) (fun u hu => ?_) (by simp [e2])
    rcases List.mem_cons.mp hu with rfl | hu
    · decide
    · exact e1 u hu
  | loop c =>
    obtain ⟨e1, e2⟩ := cond_len k
    refine fin (ascii "while" :: condWords c) (fun u hu => ?_) (by simp [e2])
    rcases List.mem_cons.mp hu with rfl | hu
    · decide
    · exact e1 u hu
theorem item_len {x : Item} (h : itemOk x = true) : (itemText x).length ≤ 2 * x.1 + 30 := by
  obtain ⟨d, o⟩ := x
  have hi : (Vaslca.indent d).length = 2 * d := by simp [Vaslca.indent]
  unfold itemText
  rw [List.length_append, hi]
  cases o with
  | none =>
    have : (ascii "else:").length = 5 := by decide
    show 2 * d + (ascii "else:").length ≤ _
    omega
  | some k =>
    have := head_len (h := k) h
    show 2 * d + k.text.length ≤ _
    omega
/-- the rows of a code: short, of few signs -/
theorem items_word {c : Vaslca.Code} {d : Nat} (ok : okC c = true) (hd : d + deepOf c ≤ 200) : ∀ u ∈ (itemsOf d c).map itemText, Word u ∧ u.length ≤ 430 := fun u hu => by
  obtain ⟨x, hx, rfl⟩ := List.mem_map.mp hu
  have k := items_okC d ok x hx
  have l := item_len k
  have e := items_deep c d x hx
  refine ⟨⟨fun b hb => inS_low (item_S k b (List.mem_append_left _ hb)), by omega⟩, by omega⟩

/-! # rows of some lines alone -/
theorem rv_neD_wd {H : Hp} {p q : Addr} {ws vs : List Text} (hp : H p = some (.lst (wdV ws))) (hq : H q = some (.lst (wdV vs))) (hw : ∀ t ∈ ws, Low t) (hv : ∀ t ∈ vs, Low t) : Evl.RV (rNeD K) (.ref p) (.ref q) H (.bl (!(ws == vs))) := fun H1 e Q k =>
  ⟨.list (wdD ws), .list (wdD vs), .lst (Evl.sq_of (e p _ hp)) (dp_wd ws), .lst (Evl.sq_of (e q _ hq)) (dp_wd vs), shaped_wd hw, shaped_wd hv, by
    have z : PyData.eqv (.list (wdD ws)) (.list (wdD vs)) = (ws == vs) := by simp only [PyData.eqv, eqv_wd]
    rw [z]
    exact k H1 (Ex.refl H1)⟩
theorem blank2 : (("  " : Str)) = S [32, 32] := by decide +kernel
theorem mul_indent (n : Nat) : Txt.mul ("  " : Str) (n : Int) = S (Vaslca.indent n) := by
  rw [blank2]
  unfold Txt.mul
  match n with
  | 0 => rfl
  | 1 => rfl
  | m + 2 =>
    rw [if_neg (by omega)]
    have h1 : (((m + 2 : Nat) : Int) == 1) = false := by
      rw [beq_eq_false_iff_ne]
      omega
    have h2 : ((S [32, 32]).length == 0) = false := rfl
    rw [h1, h2, if_neg (by decide)]
    have h3 : (((m + 2 : Nat) : Int)).toNat = m + 2 := by omega
    rw [h3]
    have h4 : (S [32, 32]).cps = ([32, 32] : List Nat).toArray := rfl
    rw [h4]
    have fr : ∀ (k : Nat) (acc : List Nat), (List.replicate k ([32, 32] : List Nat).toArray).foldl (· ++ ·) acc.toArray = (acc ++ List.replicate (2 * k) 32).toArray := by
      intro k
      induction k with
      | zero => intro acc; simp
      | succ k ih =>
        intro acc
        rw [List.replicate_succ, List.foldl_cons]
        have : acc.toArray ++ ([32, 32] : List Nat).toArray = (acc ++ [32, 32]).toArray := by simp
        rw [this, ih]
        congr 1
        rw [List.append_assoc]
        rfl
    have := fr (m + 2) []
    rw [List.nil_append] at this
    have e : S (Vaslca.indent (m + 2)) = ⟨(List.replicate (2 * (m + 2)) 32).toArray⟩ := by
      unfold S Vaslca.indent
      rw [List.map_replicate]
      rfl
    rw [e]
    exact congrArg Str.mk this
theorem ev_indent {σ : L2.St} {H : Hp} {ta : TE} {n : Nat} (hn : n ≤ 100) (h : Ev ta σ H (.int (n : Int))) :
    Ev (tOp (fun x y H Q => ∃ i j, x = .str i ∧ y = .str j ∧ i.length + j.length ≤ sizeLine ∧ Q (.str (i ++ j)) H) (tOp (fun x y H Q => ∃ i n, x = .str i ∧ y = .int n ∧ MulOk i n ∧ Q (.str (Txt.mul i n)) H) (tC (.str "  ")) ta) (tC (.str "else:"))) σ H (.str (S (Vaslca.indent n ++ ascii "else:"))) := fun H1 e Q q =>
  h H1 e _ fun H2 e2 => ⟨_, _, rfl, rfl, mulOk_of 2 100 (by decide) (by omega) (by omega) (by decide) (by decide), _, _, rfl, rfl, by
    rw [mul_indent n, lit_else, len_S, len_S]
    have : (Vaslca.indent n).length = 2 * n := by simp [Vaslca.indent]
    exact Evl.sz_of (by rw [this, show (ascii "else:").length = 5 by decide]; omega), by
    rw [mul_indent n, lit_else, ← S_app]
    exact q H2 e2⟩
def sp_rows (j : Nat) (a : Ad) : Sp := fun vs H Q _ => ∃ (R : PA) (t : Text) (cF : Vaslca.Code) (bl ll : Addr) (bs ls h : List Nat) (c : Vaslca.Code), vs = [.ref R.p, .ref bl, .ref ll] ∧ PAt a H R t cF ∧ H bl = some (.lst (natV bs)) ∧ H ll = some (.lst (natV ls)) ∧
  bs.filter ls.contains = topLines c ∧ FitsK ls (stmsOf [] cF) h c ∧ okC c = true ∧ (Vaslca.linesOf c).length ≤ 14 ∧ (isDone c = true ∨ deepOf c < j) ∧ h.length + j ≤ 100 ∧ RetNew (wdV ((itemsOf h.length c).map itemText)) H Q
def spRw : Nat → Ad → Sp
  | 0, _ => fun _ _ _ _ => False
  | j + 1, a => sp_rows j a
theorem parts_len {c : Vaslca.Code} (hd : isDone c = false) : (Vaslca.linesOf (blkC c)).length + (Vaslca.linesOf (othC c)).length + (Vaslca.linesOf (rest c)).length + 1 = (Vaslca.linesOf c).length := by
  cases c with
  | done => cases hd
  | ite n c p q r => simp only [blkC, othC, rest, Vaslca.linesOf, List.length_cons, List.length_append]; omega
  | loop n c p r => simp only [blkC, othC, rest, Vaslca.linesOf, List.length_cons, List.length_append, List.length_nil]; omega
  | _ => simp only [blkC, othC, rest, Vaslca.linesOf, List.length_cons, List.length_nil]; omega
theorem okC_parts {c : Vaslca.Code} (h : okC c = true) : okC (blkC c) = true ∧ okC (othC c) = true ∧ okC (rest c) = true ∧ (headC c).ok = true := by
  cases c with
  | ite n c p q r =>
    simp only [okC, Bool.and_eq_true] at h
    exact ⟨h.2.1, h.2.2.1, h.2.2.2, h.1⟩
  | loop n c p r =>
    simp only [okC, Bool.and_eq_true] at h
    exact ⟨h.2.1, rfl, h.2.2, h.1⟩
  | done => exact ⟨rfl, rfl, rfl, rfl⟩
  | _ =>
    simp only [okC, Bool.and_eq_true] at h
    exact ⟨rfl, rfl, h.2, h.1⟩
theorem items_nil {c : Vaslca.Code} {d : Nat} : itemsOf d c = [] ↔ isDone c = true := by
  cases c <;> simp [itemsOf, isDone]
theorem ok_rows_step (T : Facts K mg a) (j kB : Nat) (GB : FnOk P w K mg base CX0 kB a.f_Program_rows_alone a.d_Program_rows_alone ["self", "block", "lines"] (spRw j a)) : FnOk P w K mg base CX0 (kB + 1) a.f_Program_rows_alone a.d_Program_rows_alone ["self", "block", "lines"] (sp_rows j a) := by
  refine T.F_Program_rows_alone.ok sc_Program_rows_alone (fun vs H Q E h => ?_) (fun cdv A outer s H vs Q E hr h => ?_)
  · obtain ⟨R, t, cF, bl, ll, bs, ls, h, c, rfl, _⟩ := h
    rfl
  · refine ⟨_, (pss_cons (ps_set (i := 3) sc_Program_rows_alone.nd rfl (Or.inl rfl) (pe_lst pa_nil))
    (pss_cons (ps_for PassesOwn.never rfl (pi_list (pv 1)) (pg_name (i := 4) sc_Program_rows_alone.nd rfl (Or.inl rfl))
    (pss_one (ps_if (pt_cmpR op_in_seq (pv 4) (pv 2) (by rfl))
    (pss_cons (ps_set (i := 5) sc_Program_rows_alone.nd rfl (Or.inl rfl) (pe_ix ix_list (pe_fld (pv 0) rfl) (pv 4) (fun _ _ => rfl)))
    (pss_cons (ps_expr (pe_bm PySem.F.plainAttrs_list PySem.F.slot_list_append PySem.F.type_list_append mt_append (pv 3) (pa_cons (pe_ix ix_list (pe_fld (pv 0) rfl) (pv 4) (fun _ _ => rfl)) pa_nil)))
    (pss_cons (ps_expr (pe_bm PySem.F.plainAttrs_list PySem.F.slot_list_extend PySem.F.type_list_extend mt_extend (pv 3) (pa_cons (pe_meth (pv 0) T.cl_Program T.M_Program_rows_alone GB hr T.B_Program_rows_alone .nil pass0 (pa_cons (pe_fld (pv 5) rfl) (pa_cons (pv 2) pa_nil))) pa_nil)))
    (pss_cons (ps_set (i := 6) sc_Program_rows_alone.nd rfl (Or.inl rfl) (pe_meth (pv 0) T.cl_Program T.M_Program_rows_alone GB hr T.B_Program_rows_alone .nil pass0 (pa_cons (pe_fld (pv 5) rfl) (pa_cons (pv 2) pa_nil))))
    (pss_one (ps_if (pt_cmpR (op_neD hr.units) (pv 6) (pe_lst pa_nil) (nomark _))
    (pss_cons (ps_expr (pe_bm PySem.F.plainAttrs_list PySem.F.slot_list_append PySem.F.type_list_append mt_append (pv 3) (pa_cons (pe_op op_add_str (pe_op op_mul_str (pe_gs rfl T.c_INDENT.choose_spec) (pe_callB call_len_seq (by rfl) T.b_len (by decide +kernel) (pa_cons (pe_fld (pv 5) rfl) pa_nil))) (pe_gs rfl T.c_ELSE.choose_spec)) pa_nil)))
    (pss_one (ps_expr (pe_bm PySem.F.plainAttrs_list PySem.F.slot_list_extend PySem.F.type_list_extend mt_extend (pv 3) (pa_cons (pv 6) pa_nil)))))
    pss_nil))))))
    pss_nil)))
    (pss_one (ps_ret (pv 3))))), ?_⟩
    obtain ⟨R, t, cF, bl, ll, bs, ls, h, c, rfl, hP, hbl, hll, hbs, hfit, hok, hlen, hdeep, hhj, q⟩ := h
    refine Evl.q_asgL (xs := []) (Evl.el_lst Evl.ea_nil (by decide)) fun p H1 np e1 h1 => ?_
    have lenc := items_le c h.length
    have dj : deepOf c ≤ j := by
      rcases hdeep with z | z
      · rw [VO.isDone_iff.mp z]
        exact Nat.zero_le _
      · omega
    have words := items_word (d := h.length) hok (by omega)
    refine Evl.q_forLn (Evl.ev_var rfl) (Evl.sq_of (e1 _ _ hbl)) (fun i σ' H' => ∃ (v1 v2 v3 : Option V) (c' : Vaslca.Code) (done : List Text), σ' = [some (.ref R.p), some (.ref bl), some (.ref ll), some (.ref p), v1, v2, v3] ∧ Ex H H' ∧ topLines c' = (bs.drop i).filter ls.contains ∧ FitsK ls (stmsOf [] cF) h c' ∧ okC c' = true ∧
        (Vaslca.linesOf c').length ≤ 14 ∧ (isDone c' = true ∨ deepOf c' < j) ∧ H' p = some (.lst (wdV done)) ∧ done ++ (itemsOf h.length c').map itemText = (itemsOf h.length c).map itemText)
      (fun H2 e2 => ⟨none, none, none, c, [], rfl, e1.trans e2, by rw [List.drop_zero]; exact hbs.symm, hfit, hok, hlen, hdeep, e2 _ _ h1, rfl⟩) (fun i σ' H' _ ⟨_, _, _, _, _, _, e, _⟩ => Evl.sq_of (e _ _ hbl)) (fun i y σ' H' hi ⟨v1, v2, v3, c', done, es, e, et, hf, ok', len', dp', hp, tot⟩ => ?_) (fun σ' H' ⟨v1, v2, v3, c', done, es, e, et, hf, ok', len', dp', hp, tot⟩ => ?_)
    · subst es
      unfold natV at hi
      rw [List.getElem?_map] at hi
      cases hm : bs[i]? with
      | none => rw [hm] at hi; cases hi
      | some m =>
        rw [hm] at hi
        cases Option.some.inj hi
        obtain ⟨lt, em⟩ := List.getElem?_eq_some_iff.mp hm
        rw [List.drop_eq_getElem_cons lt, em, List.filter_cons] at et
        refine Evl.s_when (b := ls.contains m) (Evl.et_is (Evl.et_test (Evl.ev_op (Evl.ev_var rfl) (Evl.ev_var rfl) (Evl.rv_isL (Evl.sq_of (e _ _ hll)) rfl (natV_flat _)))) (in_nats m ls)) (fun hb H2 e2 => ?_) (fun hb H2 e2 => ?_)
        · rw [if_pos hb] at et
          have nd : isDone c' = false := by
            cases z : isDone c' with
            | false => rfl
            | true =>
              rw [VO.isDone_iff.mp z] at et
              cases et
          rw [top_first nd] at et
          obtain ⟨em1, et2⟩ := List.cons.inj et
          obtain ⟨s, st1, st2, st3, st4, st5, st6, st7⟩ := fits_blocks hf nd
          rw [em1] at st1 st6 st7
          obtain ⟨ok1, ok2, ok3, ok4⟩ := okC_parts ok'
          have plen := parts_len nd
          obtain ⟨dp1, dp2⟩ := deep_blocks nd
          have ifst := items_first nd h.length
          cases j with
          | zero =>
            rcases dp' with z | z
            · rw [nd] at z
              cases z
            · exact absurd z (Nat.not_lt_zero _)
          | succ j =>
            have dpc : deepOf c' < j + 1 := by
              rcases dp' with z | z
              · rw [nd] at z
                cases z
              · exact z
            have hn : m < (stmsOf [] cF).length := (List.getElem?_eq_some_iff.mp st1).1
            have hrl : R.rs.length = (stmsOf [] cF).length := by rw [hP.len, stms_len]
            obtain ⟨r, hr'⟩ : ∃ r, R.rs[m]? = some r := ⟨_, List.getElem?_eq_getElem (by omega)⟩
            have s0 : StmAt a H r s := hP.st m r s hr' st1
            have e02 := e.trans e2
            have P2 := hP.mono e02
            have totl : done.length + ((itemsOf h.length c').map itemText).length ≤ 28 := by
              have := congrArg List.length tot
              rw [List.length_append, List.length_map (as := itemsOf h.length c)] at this
              omega
            rw [ifst] at totl tot
            simp only [List.map_cons, List.map_append, List.length_cons, List.length_append] at totl
            refine Evl.q_asg (v := .ref r.o) (Evl.ev_op (ev_fld (Evl.ev_var rfl) P2.ob T.cl_Program T.n_Program_statements (pF_statements _ _ _ _)) (Evl.ev_var rfl) (Evl.rv_ixL (Evl.sq_of P2.sl) (atI_nat (by rw [List.getElem?_map, hr']; rfl)))) fun H3 e3 => ?_
            have P3 := P2.mono e3
            have e03 := e02.trans e3
            refine Evl.q_app (v := .str (S (rowTx s))) ((e2.trans e3) _ _ hp) (Evl.ev_var rfl) (Evl.ev_op (ev_fld (Evl.ev_var rfl) P3.ob T.cl_Program T.n_Program_rows (pF_rows _ _ _ _)) (Evl.ev_var rfl) (Evl.rv_ixL (Evl.sq_of P3.rw) (atI_nat (by unfold wdV; rw [List.getElem?_map, List.getElem?_map, st1]; rfl)))) (by rw [wdV_len]; omega) fun H4 e4 => ?_
            rw [← wdV_app]
            have e05 : Ex H (upd H4 p (.lst (wdV (done ++ [rowTx s])))) := Ex.mut (e03.trans e4) np
            have hp5 : (upd H4 p (.lst (wdV (done ++ [rowTx s])))) p = some (.lst (wdV (done ++ [rowTx s]))) := upd_same
            generalize upd H4 p (.lst (wdV (done ++ [rowTx s]))) = H5 at e05 hp5
            have P5 := hP.mono e05
            have s5 := s0.mono e05
            have hl1 : (h ++ [m]).length = h.length + 1 := by rw [List.length_append]; rfl
            refine q_extL (ys := wdV ((itemsOf (h.length + 1) (blkC c')).map itemText)) hp5 (Evl.ev_var rfl) (el_meth (Evl.ev_var rfl) P5.ob (pF_no3 _ _ _ _) (Evl.ea_cons (ev_fld (Evl.ev_var rfl) s5.o T.cl_Statement T.n_Statement_block (stF_block _ _)) (Evl.ea_cons (Evl.ev_var rfl) Evl.ea_nil)) fun H6 e6 Q q E => ⟨R, t, cF, r.bl, ll, s.block, ls, h ++ [m], blkC c', rfl, P5.mono e6, e6 _ _ s5.bl, e6 _ _ (e05 _ _ hll), st4, st6, ok1, by omega, dp1.imp id fun z => by omega, by omega, by rw [hl1]; exact q⟩) (by rw [wdV_len, wdV_len, List.length_append, List.length_singleton]; omega) fun p6 H6 n6 e6 h6 => ?_
            have wa : ∀ x y : List Text, wdV x ++ wdV y = wdV (x ++ y) := fun x y => (List.map_append ..).symm
            rw [wa]
            have e07 : Ex H (upd H6 p (.lst (wdV ((done ++ [rowTx s]) ++ (itemsOf (h.length + 1) (blkC c')).map itemText)))) := Ex.mut (e05.trans e6) np
            have hp7 : (upd H6 p (.lst (wdV ((done ++ [rowTx s]) ++ (itemsOf (h.length + 1) (blkC c')).map itemText)))) p = some (.lst (wdV ((done ++ [rowTx s]) ++ (itemsOf (h.length + 1) (blkC c')).map itemText))) := upd_same
            generalize upd H6 p (.lst (wdV ((done ++ [rowTx s]) ++ (itemsOf (h.length + 1) (blkC c')).map itemText))) = H7 at e07 hp7
            have P7 := hP.mono e07
            have s7 := s0.mono e07
            refine q_asgMeth (Evl.ev_var rfl) P7.ob (pF_no3 _ _ _ _) (Evl.ea_cons (ev_fld (Evl.ev_var rfl) s7.o T.cl_Statement T.n_Statement_otherwise (stF_otherwise _ _)) (Evl.ea_cons (Evl.ev_var rfl) Evl.ea_nil)) fun H8 e8 => ⟨R, t, cF, r.ot, ll, s.otherwise, ls, h ++ [m], othC c', rfl, P7.mono e8, e8 _ _ s7.ot, e8 _ _ (e07 _ _ hll), st5, st7, ok2, by omega, dp2.imp id fun z => by omega, by omega, fun p9 H9 n9 e9 h9 => ?_⟩
            rw [hl1] at h9
            have e79 := e8.trans e9
            have e09 := e07.trans e79
            have hp9 := e79 _ _ hp7
            have s9 := s0.mono e09
            have np9 : p9 ≠ p := by
              rintro rfl
              rw [e8 _ _ hp7] at n9
              cases n9
            have rowEq : rowTx s = itemText (h.length, some (headC c')) := by
              rw [rowTx_of (h := headC c') st2.kind st2.sets st2.atoms st2.sign, st3]
            have wo := items_word (d := h.length + 1) ok2 (by
              rcases dp2 with z | z
              · rw [VO.isDone_iff.mp z]
                show h.length + 1 + 0 ≤ 200
                omega
              · omega)
            refine Evl.s_when (b := !(((itemsOf (h.length + 1) (othC c')).map itemText) == [])) (Evl.et_test (Evl.ev_opL (Evl.ev_var rfl) (Evl.el_lst Evl.ea_nil (by decide)) fun r2 H10 h10 e10 => rv_neD_wd (vs := []) (e10 _ _ h9) h10 (fun u hu => (wo u hu).1.1) (fun u hu => by cases hu))) (fun hb2 H10 e10 => ?_) (fun hb2 H10 e10 => ?_)
            · have no : isDone (othC c') = false := by
                cases z : isDone (othC c') with
                | false => rfl
                | true =>
                  rw [items_nil.mpr z] at hb2
                  revert hb2
                  decide
              rw [if_neg (by rw [no]; decide)] at totl tot
              simp only [List.map_cons, List.length_cons, List.length_append] at totl
              have s10 := s9.mono e10
              refine Evl.q_app (v := .str (S (Vaslca.indent h.length ++ ascii "else:"))) (e10 _ _ hp9) (Evl.ev_var rfl) (ev_indent (by omega) (ev_lenL (ev_fld (Evl.ev_var rfl) s10.o T.cl_Statement T.n_Statement_headers (stF_headers _ _)) s10.hd (by rw [natV_len, st3]))) (by rw [wdV_len, List.length_append, List.length_append, List.length_singleton]; omega) fun H11 e11 => ?_
              rw [← wdV_app]
              have e9b : Ex H9 H11 := e10.trans e11
              have hp12 : (upd H11 p (.lst (wdV (((done ++ [rowTx s]) ++ (itemsOf (h.length + 1) (blkC c')).map itemText) ++ [Vaslca.indent h.length ++ ascii "else:"])))) p = some (.lst (wdV (((done ++ [rowTx s]) ++ (itemsOf (h.length + 1) (blkC c')).map itemText) ++ [Vaslca.indent h.length ++ ascii "else:"]))) := upd_same
              have e12 : Ex H (upd H11 p (.lst (wdV (((done ++ [rowTx s]) ++ (itemsOf (h.length + 1) (blkC c')).map itemText) ++ [Vaslca.indent h.length ++ ascii "else:"])))) := Ex.mut (e09.trans e9b) np
              have h12 : (upd H11 p (.lst (wdV (((done ++ [rowTx s]) ++ (itemsOf (h.length + 1) (blkC c')).map itemText) ++ [Vaslca.indent h.length ++ ascii "else:"])))) p9 = some (.lst (wdV ((itemsOf (h.length + 1) (othC c')).map itemText))) := by
                rw [upd_ne np9]
                exact e9b _ _ h9
              generalize upd H11 p (.lst (wdV (((done ++ [rowTx s]) ++ (itemsOf (h.length + 1) (blkC c')).map itemText) ++ [Vaslca.indent h.length ++ ascii "else:"]))) = H12 at e12 hp12 h12
              refine s_extV hp12 (Evl.ev_var rfl) (Evl.ev_var rfl) h12 (by simp only [wdV_len, List.length_append, List.length_singleton]; omega) fun H13 e13 => ?_
              rw [wa]
              refine ⟨_, _, _, rest c', _, rfl, Ex.mut (e12.trans e13) np, et2, (fits_first hf).2, ok3, by omega, ?_, upd_same, ?_⟩
              · exact Or.inr (Nat.lt_of_le_of_lt (deep_first c').2 dpc)
              · rw [← tot, rowEq]
                simp only [List.map_cons, List.map_append, List.append_assoc, List.cons_append, List.nil_append]
                rfl
            · have yo : isDone (othC c') = true := by
                cases z : isDone (othC c') with
                | true => rfl
                | false =>
                  have nn : itemsOf (h.length + 1) (othC c') ≠ [] := fun k => by
                    rw [items_nil.mp k] at z
                    cases z
                  have : ((itemsOf (h.length + 1) (othC c')).map itemText == []) = false := by
                    rw [beq_eq_false_iff_ne]
                    intro k
                    exact nn (List.map_eq_nil_iff.mp k)
                  rw [this] at hb2
                  cases hb2
              rw [if_pos yo] at tot
              refine ⟨_, _, _, rest c', _, rfl, e09.trans e10, et2, (fits_first hf).2, ok3, by omega, Or.inr (Nat.lt_of_le_of_lt (deep_first c').2 dpc), e10 _ _ hp9, ?_⟩
              rw [← tot, rowEq]
              simp only [List.map_cons, List.map_append, List.append_assoc, List.cons_append, List.nil_append]
        · rw [if_neg (by rw [hb]; decide)] at et
          exact ⟨_, v2, v3, c', done, rfl, e.trans e2, et, hf, ok', len', dp', e2 _ _ hp, tot⟩
    · subst es
      have len : (natV bs).length = bs.length := natV_len _
      rw [len, List.drop_length] at et
      have dn : c' = .done := VO.isDone_iff.mp (top_nil.mp et)
      subst dn
      have td : done = (itemsOf h.length c).map itemText := by
        rw [← tot]
        simp [itemsOf]
      rw [td] at hp
      exact Evl.s_ret (Evl.ev_var rfl) fun H2 e2 => q p H2 np (e.trans e2) (e2 _ _ hp)
theorem ok_rows_all (T : Facts K mg a) : ∀ j : Nat, FnOk P w K mg base CX0 (j + 1) a.f_Program_rows_alone a.d_Program_rows_alone ["self", "block", "lines"] (sp_rows j a)
  | 0 => ok_rows_step T 0 0 fn_never
  | j + 1 => ok_rows_step T (j + 1) (j + 1) (ok_rows_all T j)
def sp_Program_rows_alone (a : Ad) : Sp := sp_rows 4 a
theorem ok_Program_rows_alone (T : Facts K mg a) : FnOk P w K mg base CX0 5 a.f_Program_rows_alone a.d_Program_rows_alone ["self", "block", "lines"] (sp_Program_rows_alone a) := ok_rows_all T 4
end VP
set_option Elab.async false
set_option linter.all false
set_option maxRecDepth 100000
set_option maxHeartbeats 4000000
namespace VP
open PySem PySem.Spec PyProof.Rows L2 TL
open Vaslca (Text Name toldOption begin_ runOf valuesAt programOf toldText toldTexts toldNats toldStep statusNumber ascii)
open VO (Head Numbered itemsOf itemText)
open Evl (Ex Ev EvT EvA EvL EvU)
variable {P : Program} {w : World} {K : PySem.W.Frag} {mg : Str → Option Value} {base : Heap} {a : Ad}

/-! # how steps come about -/
theorem step_stop {n : Nat} {k : Option Nat} {x : Vaslca.Run} {h : Head} (g : x.status ≠ .going) : stepOf n k x h = x := by
  cases h with
  | set v e => exact (show Vaslca.doSet k n v e x = x from step1_stop g)
  | read v => exact (show Vaslca.doRead k n v x = x from step1_stop g)
  | write t => exact (show Vaslca.doWrite k n t x = x from step1_stop g)
  | halt => exact (show Vaslca.doStop k n x = x from step1_stop g)
  | ite c => exact (show Vaslca.doTest k n c x = x from step1_stop g)
  | loop c => exact (show Vaslca.doTest k n c x = x from step1_stop g)
/-! how many a step uses -/
def Gives (p : Vaslca.Step → Prop) (x y : Vaslca.Run) : Prop := ∀ s ∈ y.steps, s ∈ x.steps ∨ p s
theorem Gives.refl (p : Vaslca.Step → Prop) (x : Vaslca.Run) : Gives p x x := fun s h => Or.inl h
theorem Gives.trans {p : Vaslca.Step → Prop} {x y z : Vaslca.Run} (h : Gives p x y) (k : Gives p y z) : Gives p x z := fun s hs => (k s hs).elim (h s) Or.inr
theorem gives_step {p : Vaslca.Step → Prop} {n : Nat} {k : Option Nat} {h : Head} (hp : ∀ x v, p ⟨n, v, usesOf x h, k⟩) (x : Vaslca.Run) : Gives p x (stepOf n k x h) := by
  by_cases g : x.status = .going
  · rcases Nat.lt_or_ge x.steps.length 120 with l | l
    · rw [step_going h g l]
      intro s hs
      rw [noted_steps] at hs
      rcases List.mem_append.mp hs with q | q
      · exact Or.inl q
      · simp at q
        exact Or.inr (q ▸ hp x _)
    · rw [step_long h g l]
      exact fun s hs => Or.inl hs
  · rw [step_stop g]
    exact Gives.refl _ _
theorem gives_rounds {p : Vaslca.Step → Prop} {body : Option Nat → Vaslca.Run → Vaslca.Run} (hb : ∀ k x, Gives p x (body k x)) (n : Nat) (c : Vaslca.Cond) (ht : ∀ k x, Gives p x (Vaslca.doTest k n c x)) : ∀ (f : Nat) (k : Option Nat) (x : Vaslca.Run), Gives p x (Vaslca.rounds body n c f k x)
  | 0, _, x => Gives.refl _ _
  | f + 1, k, x => by
    show Gives p x (if Vaslca.held (Vaslca.doTest k n c x) = true then Vaslca.rounds body n c f (Vaslca.lastOf (Vaslca.doTest k n c x)) (body (Vaslca.lastOf (Vaslca.doTest k n c x)) (Vaslca.doTest k n c x)) else Vaslca.doTest k n c x)
    split
    · exact (ht k x).trans ((hb _ _).trans (gives_rounds hb n c ht f _ _))
    · exact ht k x
def few2 (s : Vaslca.Step) : Prop := s.uses.length ≤ 2
theorem uses_few (x : Vaslca.Run) {h : Head} (k : h.ok = true) : (usesOf x h).length ≤ 2 := by
  by_cases q : ∃ v, h = .read v
  · obtain ⟨v, rfl⟩ := q
    show 1 ≤ 2
    omega
  · rw [uses_names x k fun v e => q ⟨v, e⟩, List.length_map]
    exact names_len h
theorem gives_head {n : Nat} {k : Option Nat} {h : Head} (ok : h.ok = true) (x : Vaslca.Run) : Gives few2 x (stepOf n k x h) := gives_step (fun x v => uses_few x ok) x
theorem gives_exec : ∀ (c : Vaslca.Code) (k : Option Nat) (x : Vaslca.Run), okC c = true → Gives few2 x (Vaslca.exec c k x)
  | .done, _, x, _ => Gives.refl _ _
  | .set n v e r, k, x, ok => by
    simp only [okC, Bool.and_eq_true] at ok
    exact Gives.trans (gives_head (h := .set v e) ok.1 x) (gives_exec r k _ ok.2)
  | .read n v r, k, x, ok => by
    simp only [okC, Bool.and_eq_true] at ok
    exact Gives.trans (gives_head (h := .read v) ok.1 x) (gives_exec r k _ ok.2)
  | .write n t r, k, x, ok => by
    simp only [okC, Bool.and_eq_true] at ok
    exact Gives.trans (gives_head (h := .write t) ok.1 x) (gives_exec r k _ ok.2)
  | .halt_ n r, k, x, ok => by
    simp only [okC, Bool.and_eq_true] at ok
    exact Gives.trans (gives_head (h := .halt) ok.1 x) (gives_exec r k _ ok.2)
  | .loop n c p r, k, x, ok => by
    simp only [okC, Bool.and_eq_true] at ok
    exact Gives.trans (gives_rounds (fun k x => gives_exec p k x ok.2.1) n c (fun k x => gives_head (h := .loop c) ok.1 x) _ k x) (gives_exec r k _ ok.2.2)
  | .ite n c p q r, k, x, ok => by
    simp only [okC, Bool.and_eq_true] at ok
    refine Gives.trans (y := if Vaslca.held (Vaslca.doTest k n c x) = true then Vaslca.exec p (Vaslca.lastOf (Vaslca.doTest k n c x)) (Vaslca.doTest k n c x) else if (Vaslca.doTest k n c x).status = .going then Vaslca.exec q (Vaslca.lastOf (Vaslca.doTest k n c x)) (Vaslca.doTest k n c x) else Vaslca.doTest k n c x) ?_ (gives_exec r k _ ok.2.2.2)
    have t : Gives few2 x (Vaslca.doTest k n c x) := gives_head (h := .ite c) ok.1 x
    split
    · exact t.trans (gives_exec p _ _ ok.2.1)
    · split
      · exact t.trans (gives_exec q _ _ ok.2.2.1)
      · exact t
theorem steps_le {x : Vaslca.Run} {n : Nat} {k : Option Nat} {h : Head} (l : x.steps.length ≤ 120) : (stepOf n k x h).steps.length ≤ 120 := by
  by_cases g : x.status = .going
  · rcases Nat.lt_or_ge x.steps.length 120 with q | q
    · rw [step_going h g q, noted_steps]
      simp
      omega
    · rw [step_long h g q]
      exact l
  · rw [step_stop g]
    exact l
theorem rounds_few {body : Option Nat → Vaslca.Run → Vaslca.Run} (hb : ∀ k x, x.steps.length ≤ 120 → (body k x).steps.length ≤ 120) (n : Nat) (c : Vaslca.Cond) : ∀ (f : Nat) (k : Option Nat) (x : Vaslca.Run), x.steps.length ≤ 120 → (Vaslca.rounds body n c f k x).steps.length ≤ 120
  | 0, _, x, l => l
  | f + 1, k, x, l => by
    show (if Vaslca.held (Vaslca.doTest k n c x) = true then Vaslca.rounds body n c f (Vaslca.lastOf (Vaslca.doTest k n c x)) (body (Vaslca.lastOf (Vaslca.doTest k n c x)) (Vaslca.doTest k n c x)) else Vaslca.doTest k n c x).steps.length ≤ 120
    have t : (Vaslca.doTest k n c x).steps.length ≤ 120 := steps_le (h := .loop c) l
    split
    · exact rounds_few hb n c f _ _ (hb _ _ t)
    · exact t
theorem exec_few : ∀ (c : Vaslca.Code) (k : Option Nat) (x : Vaslca.Run), x.steps.length ≤ 120 → (Vaslca.exec c k x).steps.length ≤ 120
  | .done, _, x, l => l
  | .set n v e r, k, x, l => exec_few r k _ (steps_le (h := .set v e) l)
  | .read n v r, k, x, l => exec_few r k _ (steps_le (h := .read v) l)
  | .write n t r, k, x, l => exec_few r k _ (steps_le (h := .write t) l)
  | .halt_ n r, k, x, l => exec_few r k _ (steps_le (h := .halt) l)
  | .loop n c p r, k, x, l => exec_few r k _ (rounds_few (fun k x l => exec_few p k x l) n c _ k x l)
  | .ite n c p q r, k, x, l => by
    refine exec_few r k _ ?_
    have t : (Vaslca.doTest k n c x).steps.length ≤ 120 := steps_le (h := .ite c) l
    split
    · exact exec_few p _ _ t
    · split
      · exact exec_few q _ _ t
      · exact t
theorem step_bound (c : Vaslca.Code) (i : List Nat) : (runOf c i).steps.length ≤ 120 := exec_few c none (begin_ i) (Nat.zero_le _)
theorem run_few {c : Vaslca.Code} (ok : okC c = true) (i : List Nat) : ∀ s ∈ (runOf c i).steps, s.uses.length ≤ 2 := fun s hs => by
  rcases gives_exec c none (begin_ i) ok s hs with q | q
  · cases q
  · exact q

theorem row_len (x : Vaslca.Run) (f : Vaslca.Step → Bool) : (rowV x f).length ≤ x.steps.length := by
  unfold rowV
  rw [List.length_map]
  exact List.length_filter_le _ _
/-- what a step uses, by its statement -/
def usesS (u : Stm) : List Text := if u.kind = 2 then [[]] else u.names
def UseAt (st : List Stm) (s : Vaslca.Step) : Prop := ∃ u, st[s.line]? = some u ∧ s.uses.map (fun y => y.name) = usesS u
theorem uses_stm (x : Vaslca.Run) {h : Head} (k : h.ok = true) : (usesOf x h).map (fun y => y.name) = usesS (stmOf h) := by
  by_cases q : ∃ v, h = .read v
  · obtain ⟨v, rfl⟩ := q
    rfl
  · rw [uses_names x k fun v e => q ⟨v, e⟩, List.map_map]
    have e : ((fun (y : Vaslca.Use) => y.name) ∘ mkU x) = id := rfl
    rw [e, List.map_id]
    unfold usesS
    rw [if_neg]
    cases h with
    | read v => exact absurd ⟨v, rfl⟩ q
    | _ => simp [stmOf, rowStm]
theorem usesS_eq {s : Stm} {h : Head} (k : IsOf s h) : usesS s = usesS (stmOf h) := by
  unfold usesS
  rw [k.kind, k.names]
theorem gives_use {st : List Stm} {n : Nat} {k : Option Nat} {h : Head} (ok : h.ok = true) (hs : ∃ s, st[n]? = some s ∧ IsOf s h) (x : Vaslca.Run) : Gives (UseAt st) x (stepOf n k x h) := gives_step (fun x v => by
  obtain ⟨s, h1, h2⟩ := hs
  exact ⟨s, h1, by rw [usesS_eq h2]; exact uses_stm x ok⟩) x
theorem gives_line {ls : List Nat} {st : List Stm} : ∀ (c : Vaslca.Code) (h : List Nat) (k : Option Nat) (x : Vaslca.Run), okC c = true → FitsK ls st h c → Gives (UseAt st) x (Vaslca.exec c k x)
  | .done, _, _, x, _, _ => Gives.refl _ _
  | .set n v e r, h, k, x, ok, f => by
    simp only [okC, Bool.and_eq_true] at ok
    obtain ⟨⟨s, f1, f2, _⟩, f3⟩ := f
    exact Gives.trans (gives_use (h := .set v e) ok.1 ⟨s, f1, f2⟩ x) (gives_line r h k _ ok.2 f3)
  | .read n v r, h, k, x, ok, f => by
    simp only [okC, Bool.and_eq_true] at ok
    obtain ⟨⟨s, f1, f2, _⟩, f3⟩ := f
    exact Gives.trans (gives_use (h := .read v) ok.1 ⟨s, f1, f2⟩ x) (gives_line r h k _ ok.2 f3)
  | .write n t r, h, k, x, ok, f => by
    simp only [okC, Bool.and_eq_true] at ok
    obtain ⟨⟨s, f1, f2, _⟩, f3⟩ := f
    exact Gives.trans (gives_use (h := .write t) ok.1 ⟨s, f1, f2⟩ x) (gives_line r h k _ ok.2 f3)
  | .halt_ n r, h, k, x, ok, f => by
    simp only [okC, Bool.and_eq_true] at ok
    obtain ⟨⟨s, f1, f2, _⟩, f3⟩ := f
    exact Gives.trans (gives_use (h := .halt) ok.1 ⟨s, f1, f2⟩ x) (gives_line r h k _ ok.2 f3)
  | .loop n c p r, h, k, x, ok, f => by
    simp only [okC, Bool.and_eq_true] at ok
    obtain ⟨⟨s, f1, f2, _⟩, f3, f4⟩ := f
    exact Gives.trans (gives_rounds (fun k x => gives_line p _ k x ok.2.1 f3) n c (fun k x => gives_use (h := .loop c) ok.1 ⟨s, f1, f2⟩ x) _ k x) (gives_line r h k _ ok.2.2 f4)
  | .ite n c p q r, h, k, x, ok, f => by
    simp only [okC, Bool.and_eq_true] at ok
    obtain ⟨⟨s, f1, f2, _⟩, f3, f4, f5⟩ := f
    refine Gives.trans (y := if Vaslca.held (Vaslca.doTest k n c x) = true then Vaslca.exec p (Vaslca.lastOf (Vaslca.doTest k n c x)) (Vaslca.doTest k n c x) else if (Vaslca.doTest k n c x).status = .going then Vaslca.exec q (Vaslca.lastOf (Vaslca.doTest k n c x)) (Vaslca.doTest k n c x) else Vaslca.doTest k n c x) ?_ (gives_line r h k _ ok.2.2.2 f5)
    have t : Gives (UseAt st) x (Vaslca.doTest k n c x) := gives_use (h := .ite c) ok.1 ⟨s, f1, f2⟩ x
    split
    · exact t.trans (gives_line p _ _ _ ok.2.1 f3)
    · split
      · exact t.trans (gives_line q _ _ _ ok.2.2.1 f4)
      · exact t

/-! # what is told of a step, of a run -/
theorem natV_step (s : Vaslca.Step) : natV (toldStep s) = [V.int (s.line : Int), .int (s.value : Int), .int (toldOption s.ctrl : Int)] ++ (.int ((natV (srcs s)).length : Int) :: natV (srcs s)) := by
  unfold toldStep
  rw [natV_app, natV_nats]
  rfl
def sp_traced (a : Ad) : Sp := fun vs H Q _ => ∃ (M : RA) (p : Addr) (s : Vaslca.Step), vs = [.ref p] ∧ StepOk a H M p s ∧ s.uses.length ≤ 2 ∧ RetNew (natV (toldStep s)) H Q
theorem ok_traced (T : Facts K mg a) : FnOk P w K mg base CX0 2 a.f_traced a.d_traced ["step"] (sp_traced a) := by
  refine T.F_traced.ok sc_traced (fun vs H Q E h => ?_) (fun cdv A outer s H vs Q E hr h => ?_)
  · obtain ⟨M, p, s, rfl, _⟩ := h
    rfl
  · refine ⟨_, (pss_one (ps_ret (pe_op op_cat (pe_lst (pa_cons (pe_fld (pv 0) rfl) (pa_cons (pe_fld (pv 0) rfl) (pa_cons (pe_fld (pv 0) rfl) pa_nil)))) (pe_call (ok_counted T) (hr.mono (by decide)) rfl T.g_counted T.F_counted.kp T.B_counted .nil pass0 (pa_cons (pe_fld (pv 0) rfl) pa_nil))))), ?_⟩
    obtain ⟨M, p, s', rfl, so, u2, q⟩ := h
    obtain ⟨⟨dx, og, z1, z2, z3⟩, _⟩ := so
    rw [natV_step] at q
    have sl : (natV (srcs s')).length ≤ 2 := by rw [natV_len]; unfold srcs; rw [List.length_map]; exact u2
    exact Evl.s_retL (el_catLL (Evl.el_lst (Evl.ea_cons (ev_fld (Evl.ev_var rfl) z1 T.cl_Step T.n_Step_line (sF_line _ _ _ _)) (Evl.ea_cons (ev_fld (Evl.ev_var rfl) z1 T.cl_Step T.n_Step_value (sF_value _ _ _ _)) (Evl.ea_cons (ev_fld (Evl.ev_var rfl) z1 T.cl_Step T.n_Step_let_by (sF_let_by _ _ _ _)) Evl.ea_nil))) (by simp))
      (Evl.el_call (Evl.ea_cons (ev_fld (Evl.ev_var rfl) z1 T.cl_Step T.n_Step_origins (sF_origins _ _ _ _)) Evl.ea_nil) (sl_counted z2 (by omega))) (by simp only [List.length_cons, List.length_nil]; omega)) q
theorem sl_traced {a : Ad} {M : RA} {p : Addr} {s : Vaslca.Step} {H : Hp} (so : StepOk a H M p s) (u2 : s.uses.length ≤ 2) : Evl.SpL (sp_traced a) [.ref p] H (natV (toldStep s)) := fun H1 e Q q E => ⟨M, p, s, rfl, so.mono e, u2, q⟩
def sp_account_of (a : Ad) : Sp := fun vs H Q _ => ∃ (H0 : Hp) (M : RA) (x : Vaslca.Run) (L : Nat → Option Nat) (b : Nat) (st : List Stm), vs = [.ref M.o] ∧ RunAt a H0 H M x L b ∧ PS a H0 M.sl st ∧ (∀ s ∈ x.steps, s.line < st.length) ∧
  RetNew (natV ([statusNumber x.status, x.steps.length] ++ toldNats (rowV x fun s => kindAt st s.line == 3))) H Q
theorem ok_account_of (T : Facts K mg a) : FnOk P w K mg base CX0 2 a.f_account_of a.d_account_of ["run"] (sp_account_of a) := by
  refine T.F_account_of.ok sc_account_of (fun vs H Q E h => ?_) (fun cdv A outer s H vs Q E hr h => ?_)
  · obtain ⟨H0, M, x, L, b, st, rfl, _⟩ := h
    rfl
  · refine ⟨_, (pss_one (ps_ret (pe_op op_cat (pe_lst (pa_cons (pe_fld (pv 0) rfl) (pa_cons (pe_callB call_len_seq (by rfl) T.b_len (by decide +kernel) (pa_cons (pe_fld (pv 0) rfl) pa_nil)) pa_nil))) (pe_call (ok_counted T) (hr.mono (by decide)) rfl T.g_counted T.F_counted.kp T.B_counted .nil pass0 (pa_cons (pe_meth0 (pv 0) T.cl_Run T.M_Run_output (ok_Run_output T) (hr.mono (by decide)) T.B_Run_output .nil pass0) pa_nil))))), ?_⟩
    obtain ⟨H0, M, x, L, b, st, rfl, hR, hP, hlt, q⟩ := h
    have few := hR.few
    have rl := row_len x fun s => kindAt st s.line == 3
    rw [natV_app, natV_nats] at q
    obtain ⟨ps, s1, s2, s3⟩ := hR.sp
    exact Evl.s_retL (el_catLL (Evl.el_lst (Evl.ea_cons (ev_fld (Evl.ev_var rfl) hR.ob T.cl_Run T.n_Run_outcome (rF_outcome _ _ _ _ _ _ _ _ _)) (Evl.ea_cons (ev_lenL (ev_fld (Evl.ev_var rfl) hR.ob T.cl_Run T.n_Run_steps (rF_steps _ _ _ _ _ _ _ _ _)) s1 (by rw [List.length_map, s2])) Evl.ea_nil)) (by simp))
      (el_counted (el_meth (Evl.ev_var rfl) hR.ob (rF_no10 _ _ _ _ _ _ _ _ _) Evl.ea_nil fun H3 e3 Q q E => ⟨H0, M, _, L, _, st, rfl, hR.mono e3, hP, hlt, q⟩) (by rw [natV_len]; omega)) (by simp [natV_len]; omega)) q
def sp_Run_uses_of (a : Ad) : Sp := fun vs H Q _ => ∃ (H0 : Hp) (M : RA) (x : Vaslca.Run) (L : Nat → Option Nat) (b : Nat) (st : List Stm) (p : Addr) (s : Vaslca.Step), vs = [.ref M.o, .ref p] ∧ RunAt a H0 H M x L b ∧ PS a H0 M.sl st ∧ StepOk a H M p s ∧ UseAt st s ∧ RetNew (wdV (s.uses.map fun y => y.name)) H Q
theorem ok_Run_uses_of (T : Facts K mg a) : FnOk P w K mg base CX0 1 a.f_Run_uses_of a.d_Run_uses_of ["self", "step"] (sp_Run_uses_of a) := by
  refine T.F_Run_uses_of.ok sc_Run_uses_of (fun vs H Q E h => ?_) (fun cdv A outer s H vs Q E hr h => ?_)
  · obtain ⟨H0, M, x, L, b, st, p, s, rfl, _⟩ := h
    rfl
  · refine ⟨_, (pss_cons (ps_set (i := 2) sc_Run_uses_of.nd rfl (Or.inl rfl) (pe_ix ix_list (pe_fld (pv 0) rfl) (pe_fld (pv 1) rfl) (fun _ _ => rfl)))
    (pss_cons (ps_if (pt_cmpR op_eq (pe_fld (pv 2) rfl) (pe_gi rfl T.c_READ.choose_spec) (nomark _))
    (pss_one (ps_ret (pe_lst (pa_cons pe_str pa_nil))))
    pss_nil)
    (pss_one (ps_ret (pe_callTy call_list_of (by rfl) T.b_list (by decide +kernel) (pa_cons (pe_fld (pv 2) rfl) pa_nil)))))), ?_⟩
    obtain ⟨H0, M, x, L, b, st, p, s', rfl, hR, hP, so, ⟨u, hu, hun⟩, q⟩ := h
    rw [hun] at q
    obtain ⟨rs, p1, p2, p3⟩ := hP.ex
    have hn : s'.line < st.length := (List.getElem?_eq_some_iff.mp hu).1
    obtain ⟨r, hr'⟩ : ∃ r, rs[s'.line]? = some r := ⟨_, List.getElem?_eq_getElem (by omega)⟩
    have s0 : StmAt a H0 r u := p3 _ r u hr' hu
    obtain ⟨⟨dx, og, z1, z2, z3⟩, _⟩ := so
    refine Evl.q_asg (v := .ref r.o) (Evl.ev_op (ev_fld (Evl.ev_var rfl) hR.ob T.cl_Run T.n_Run_statements (rF_statements _ _ _ _ _ _ _ _ _)) (ev_fld (Evl.ev_var rfl) z1 T.cl_Step T.n_Step_line (sF_line _ _ _ _)) (Evl.rv_ixL (Evl.sq_of (hR.ex _ _ p1)) (atI_nat (by rw [List.getElem?_map, hr']; rfl)))) fun H1 e1 => ?_
    have s1 := s0.mono (hR.mono e1).ex
    refine Evl.q_when (b := decide (V.int (u.kind : Int) = V.int 2)) (Evl.et_test (Evl.ev_op (ev_fld (Evl.ev_var rfl) s1.o T.cl_Statement T.n_Statement_kind (stF_kind _ _)) Evl.ev_c (Evl.rv_eq rfl))) (fun hb H2 e2 => ?_) (fun hb H2 e2 => ?_)
    · have k2 : u.kind = 2 := by have := V.int.inj (of_decide_eq_true hb); omega
      unfold usesS at q
      rw [if_pos k2] at q
      exact Evl.s_retL (el_is (xs := [.str ""]) (Evl.el_lst (Evl.ea_cons Evl.ev_c Evl.ea_nil) (by simp)) (by rw [lit_empty]; rfl)) fun r2 H3 n3 e3 h3 => q r2 H3 (Evl.fresh_back (e1.trans e2) n3) ((e1.trans e2).trans e3) h3
    · have k2 : ¬ u.kind = 2 := fun z => by
        rw [z] at hb
        revert hb
        decide
      unfold usesS at q
      rw [if_neg k2] at q
      have s2 := s1.mono e2
      exact Evl.s_retL (Evl.el_list (ev_fld (Evl.ev_var rfl) s2.o T.cl_Statement T.n_Statement_names (stF_names _ _)) (Evl.sq_of s2.nm)) fun r2 H3 n3 e3 h3 => q r2 H3 (Evl.fresh_back (e1.trans e2) n3) ((e1.trans e2).trans e3) h3

/-! # the text of some lines alone -/
theorem join_flat (ws : List Text) : Txt.join (S []) (ws.map S) = S ws.flatten := by
  refine ext_tl ?_
  rw [join_eq, tl_join, tl_S, tl_S, List.map_map]
  have : ∀ ws : List Text, joinL (List.map UInt8.toNat []) (ws.map (tl ∘ S)) = ws.flatten.map UInt8.toNat := by
    intro ws
    induction ws with
    | nil => rfl
    | cons u r ih =>
      cases r with
      | nil =>
        show tl (S u) = _
        rw [tl_S]
        simp
      | cons v r =>
        show tl (S u) ++ ([] ++ joinL [] ((v :: r).map (tl ∘ S))) = _
        have ih' : joinL [] ((v :: r).map (tl ∘ S)) = (v :: r).flatten.map UInt8.toNat := ih
        rw [ih', tl_S, List.nil_append]
        simp
  exact this ws
theorem lens_le {ws : List Text} {n : Nat} (h : ∀ u ∈ ws, u.length ≤ n) : ((ws.map S).map (·.length)).sum ≤ n * ws.length ∧ ws.flatten.length ≤ n * ws.length := by
  induction ws with
  | nil => simp
  | cons u r ih =>
    obtain ⟨i1, i2⟩ := ih fun v hv => h v (by simp [hv])
    have hu := h u (by simp)
    have e : n * (u :: r).length = n * r.length + n := by rw [List.length_cons, Nat.mul_succ]
    rw [e]
    refine ⟨?_, ?_⟩
    · simp only [List.map_cons, List.sum_cons, len_S]
      omega
    · rw [List.flatten_cons, List.length_append]
      omega
theorem ev_join0 {σ : L2.St} {H : Hp} {te : TE} {ws : List Text} (h : EvL te σ H (wdV ws)) (hz : ((ws.map S).map (·.length)).sum ≤ 1000000) :
    Ev (tM1 (fun x xs H Q => ∃ a p, ∃ ys : List Str, x = .str a ∧ xs = [.ref p] ∧ (SqL K H p (ys.map V.str) ∨ SqT K H p (ys.map V.str)) ∧ (ys.map (·.length)).sum + ys.length * a.length ≤ 16777216 ∧ Q (.str (Txt.join a ys)) H) (tC (.str "")) te) σ H (.str (S ws.flatten)) := fun H1 e Q q =>
  ⟨⟨_, rfl⟩, h H1 e _ fun p H2 n2 e2 h2 => ⟨_, p, ws.map S, rfl, rfl, Or.inl (Evl.sq_of (by rw [List.map_map]; exact h2)), by
    have : (("" : Str)).length = 0 := rfl
    rw [this, Nat.mul_zero]
    omega, by
    rw [lit_empty, join_flat]
    exact q H2 e2⟩⟩
theorem lit_end : (("\n" : Str)) = S [10] := by decide +kernel
def sp_Program_text_alone (a : Ad) : Sp := fun vs H Q _ => ∃ (R : PA) (t : Text) (c : Vaslca.Code) (ll : Addr) (ls : List Nat), vs = [.ref R.p, .ref ll] ∧ PAt a H R t c ∧ programOf t = some c ∧ H ll = some (.lst (natV ls)) ∧
  ((Vaslca.programText (Vaslca.only ls c)).length ≤ 40000 → RetNew (bytV (Vaslca.programText (Vaslca.only ls c))) H Q)
theorem ok_Program_text_alone (T : Facts K mg a) : FnOk P w K mg base CX0 6 a.f_Program_text_alone a.d_Program_text_alone ["self", "lines"] (sp_Program_text_alone a) := by
  refine T.F_Program_text_alone.ok sc_Program_text_alone (fun vs H Q E h => ?_) (fun cdv A outer s H vs Q E hr h => ?_)
  · obtain ⟨R, t, c, ll, ls, rfl, _⟩ := h
    rfl
  · refine ⟨_, (pss_cons (ps_set (i := 2) sc_Program_text_alone.nd rfl (Or.inl rfl) (pe_meth (pv 0) T.cl_Program T.M_Program_rows_alone (ok_Program_rows_alone T) (hr.mono (by decide)) T.B_Program_rows_alone .nil pass0 (pa_cons (pe_fld (pv 0) rfl) (pa_cons (pv 1) pa_nil))))
    (pss_one (ps_ret (pe_call (ok_bytes_of T) (hr.mono (by decide)) rfl T.g_bytes_of T.F_bytes_of.kp T.B_bytes_of .nil pass0 (pa_cons (pe_join pe_str (pe_lc (own := [("row", 3)]) (g := gName 3) (tt := tYes) (by rfl) sc_Program_text_alone.nd (pi_list (pv 2)) (blkOk_by (own := [("row", 3)]) (N := ["self", "lines", "rows", "row"]) (sc := defScope st_Program_text_alone) (by decide +kernel)) (fun _ _ _ _ _ => pg_name (i := 3) sc_Program_text_alone.nd rfl (Or.inl rfl)) (fun _ _ _ _ _ => pts_nil) (fun _ _ _ _ _ => (pe_op op_add_str (pv 3) pe_str)))) pa_nil))))), ?_⟩
    obtain ⟨R, t, c, ll, ls, rfl, hP, hp, hll, q⟩ := h
    obtain ⟨a1, a2, a3, a4, _⟩ := is_prog hp
    have hl14 : (Vaslca.linesOf (Vaslca.only ls c)).length ≤ 14 := Nat.le_trans (lines_only ls c).length_le a3
    have hd3 : Vaslca.deepOf (Vaslca.only ls c) ≤ 3 := Nat.le_trans (deep_only ls c) a4
    have hok := okC_only ls (okC_of a1)
    refine q_asgMeth (Evl.ev_var rfl) hP.ob (pF_no3 _ _ _ _) (Evl.ea_cons (ev_fld (Evl.ev_var rfl) hP.ob T.cl_Program T.n_Program_top (pF_top _ _ _ _)) (Evl.ea_cons (Evl.ev_var rfl) Evl.ea_nil)) fun H1 e1 => ⟨R, t, c, R.tl, ll, topLines c, ls, [], Vaslca.only ls c, rfl, hP.mono e1, e1 _ _ hP.tl, e1 _ _ hll, (top_only ls c).symm, fits_only ls (fits_all _ c [] 0 a2 fun i s hs => by rw [Nat.zero_add]; exact hs), hok, hl14, Or.inr (by omega), by simp, fun p H2 n2 e2 h2 => ?_⟩
    have words := items_word (c := Vaslca.only ls c) (d := ([] : List Nat).length) hok (by show 0 + Vaslca.deepOf (Vaslca.only ls c) ≤ 200; omega)
    have il := items_le (Vaslca.only ls c) ([] : List Nat).length
    have et : (((itemsOf ([] : List Nat).length (Vaslca.only ls c)).map itemText).map Vaslca.line).flatten = Vaslca.programText (Vaslca.only ls c) := by
      rw [VO.programText_items, List.map_map]
      rfl
    generalize hrows : (itemsOf ([] : List Nat).length (Vaslca.only ls c)).map itemText = rows at words et h2
    have rl : rows.length ≤ 28 := by
      rw [← hrows, List.length_map]
      omega
    have lens := lens_le (ws := rows.map Vaslca.line) (n := 431) fun u hu => by
      obtain ⟨v, hv, rfl⟩ := List.mem_map.mp hu
      have := (words v hv).2
      unfold Vaslca.line
      rw [List.length_append, List.length_singleton]
      omega
    rw [List.length_map] at lens
    have lt : (rows.map Vaslca.line).flatten.length ≤ 40000 := by have := lens.2; omega
    rw [← et] at q
    have q' := q lt
    refine Evl.s_retL (Evl.el_call (Evl.ea_cons (ev_join0 (ws := rows.map Vaslca.line) (el_is (Evl.el_lcL (fun _ => true) (fun i => V.str (S (Vaslca.line (rows.getD i default)))) (Evl.ev_var rfl) (Evl.sq_of h2) (by rw [wdV_len]; omega) (fun _ => rfl) (fun i y H3 e3 hi H4 _ Q q => q H4 (Ex.refl H4)) (fun i y H3 e3 hi _ => ?_)) ?_) (by have := lens.1; omega)) Evl.ea_nil) (sl_bytes lt)) fun r H3 n3 e3 h3 => q' r H3 (Evl.fresh_back (e1.trans e2) n3) ((e1.trans e2).trans e3) h3
    · obtain ⟨u, hu, rfl⟩ := wdV_at hi
      have wu := (words u (List.mem_of_getElem? hu)).2
      rw [List.getD_eq_getElem?_getD, hu]
      refine Evl.ev_is (Evl.ev_op (Evl.ev_var rfl) Evl.ev_c (z := .str (S (Vaslca.line u))) fun H5 e5 Q q => ⟨_, _, rfl, rfl, by rw [lit_end, len_S, len_S]; exact Evl.sz_of (by simp only [List.length_singleton]; omega), by rw [lit_end, ← S_app]; exact q H5 (Ex.refl H5)⟩) rfl
    · rw [wdV_len, given_list rows (fun _ => true) (fun u => V.str (S (Vaslca.line u))), List.filter_eq_self.mpr (fun _ _ => rfl)]
      unfold wdV
      rw [List.map_map]
      rfl

/-! # where two rows differ -/
theorem unlike_step : ∀ (i k : Nat) (ns ms : List Nat), ns.take i = ms.take i → i ≤ ns.length → i ≤ ms.length → Vaslca.firstUnlike k ns ms = Vaslca.firstUnlike (k + i) (ns.drop i) (ms.drop i)
  | 0, k, ns, ms, _, _, _ => by simp
  | i + 1, k, [], ms, _, h, _ => by simp at h
  | i + 1, k, n :: ns, [], _, _, h => by simp at h
  | i + 1, k, n :: ns, m :: ms, e, h1, h2 => by
    simp only [List.take_succ_cons, List.cons.injEq] at e
    obtain ⟨rfl, e⟩ := e
    have ih := unlike_step i (k + 1) ns ms e (by simpa using h1) (by simpa using h2)
    show (if n = n then Vaslca.firstUnlike (k + 1) ns ms else some k) = _
    rw [if_pos rfl, ih, List.drop_succ_cons, List.drop_succ_cons, show k + 1 + i = k + (i + 1) by omega]
theorem unlike_here {i : Nat} {ns ms : List Nat} {n m : Nat} (e : ns.take i = ms.take i) (h1 : ns[i]? = some n) (h2 : ms[i]? = some m) (h : n ≠ m) : Vaslca.firstUnlike 0 ns ms = some i := by
  obtain ⟨l1, e1⟩ := List.getElem?_eq_some_iff.mp h1
  obtain ⟨l2, e2⟩ := List.getElem?_eq_some_iff.mp h2
  rw [unlike_step i 0 ns ms e (by omega) (by omega), List.drop_eq_getElem_cons l1, List.drop_eq_getElem_cons l2, e1, e2]
  show (if n = m then _ else some (0 + i)) = some i
  rw [if_neg h, Nat.zero_add]
theorem unlike_end {ns ms : List Nat} (e : ns.take (min ns.length ms.length) = ms.take (min ns.length ms.length)) (h : ns ≠ ms) : Vaslca.firstUnlike 0 ns ms = some (min ns.length ms.length) := by
  rw [unlike_step (min ns.length ms.length) 0 ns ms e (by omega) (by omega), Nat.zero_add]
  rcases Nat.lt_trichotomy ns.length ms.length with l | l | l
  · rw [Nat.min_eq_left (by omega), List.drop_length, List.drop_eq_getElem_cons l]
    rfl
  · rw [l, Nat.min_self] at e
    rw [List.take_of_length_le (by omega), List.take_length] at e
    exact absurd e h
  · rw [Nat.min_eq_right (by omega), List.drop_length, List.drop_eq_getElem_cons l]
    rfl
theorem unlike_none : ∀ (k : Nat) (ns : List Nat), Vaslca.firstUnlike k ns ns = none
  | _, [] => rfl
  | k, n :: r => by
    show (if n = n then Vaslca.firstUnlike (k + 1) r r else some k) = none
    rw [if_pos rfl]
    exact unlike_none (k + 1) r
theorem unlike_some : ∀ {k : Nat} {ns ms : List Nat}, ns ≠ ms → Vaslca.firstUnlike k ns ms ≠ none
  | k, [], [], h => absurd rfl h
  | k, [], m :: ms, _ => by intro z; cases z
  | k, n :: ns, [], _ => by intro z; cases z
  | k, n :: ns, m :: ms, h => by
    show (if n = m then Vaslca.firstUnlike (k + 1) ns ms else some k) ≠ none
    by_cases e : n = m
    · rw [if_pos e]
      exact unlike_some fun z => h (by rw [e, z])
    · rw [if_neg e]
      intro z
      cases z
def sp_first_difference (_ : Ad) : Sp := fun vs H Q _ => ∃ (p q : Addr) (ns ms : List Nat), vs = [.ref p, .ref q] ∧ H p = some (.lst (natV ns)) ∧ H q = some (.lst (natV ms)) ∧ ns ≠ ms ∧ ∀ k, Vaslca.firstUnlike 0 ns ms = some k → ∀ H', Ex H H' → Q (.int (k : Int)) H'
theorem natV_at {ns : List Nat} {i : Nat} {x : V} (h : (natV ns)[i]? = some x) : ∃ n, ns[i]? = some n ∧ x = .int (n : Int) := by
  unfold natV at h
  rw [List.getElem?_map] at h
  cases e : ns[i]? with
  | none => rw [e] at h; cases h
  | some n =>
    rw [e] at h
    exact ⟨n, rfl, (Option.some.inj h).symm⟩
theorem q_forZip {σ : L2.St} {H : Hp} {D : Ends} {tz tu : TS} {ta : TA} {g : TG} {p q : Addr} {xs ys : List V} {n : Nat} (h : EvA ta σ H [.ref p, .ref q]) (hp : SqL K H p xs) (hq : SqL K H q ys) (hn : n = min xs.length ys.length) (Pv : Nat → L2.St → Hp → Prop) (h0 : ∀ H1, Ex H H1 → Pv 0 σ H1)
    (hG : ∀ i σ' H', i ≤ n → Pv i σ' H' → SqL K H' p xs ∧ SqL K H' q ys) (hs : ∀ i x σ' H' H'', i < n → Pv i σ' H' → YPair (fun i => xs[i]?) (fun i => ys[i]?) i H' x H'' → g x σ' H'' fun σ2 H2 => tu { D with nx := Pv (i + 1), ct := Pv (i + 1), bk := tz D } σ2 H2)
    (hd : ∀ σ' H', Pv n σ' H' → tz D σ' H') : tSeq (tFor (iZip K ta) g tu) tz D σ H := h H (Ex.refl H) _ fun H1 e =>
  ⟨p, q, xs, ys, rfl, Evl.ex_l e hp, Evl.ex_l e hq, for_it (D := { D with nx := tz D }) (walk_zip hn) Pv (h0 H1 e) hG hs hd⟩
theorem ok_first_difference (T : Facts K mg a) : FnOk P w K mg base CX0 1 a.f_first_difference a.d_first_difference ["left", "right"] (sp_first_difference a) := by
  refine T.F_first_difference.ok sc_first_difference (fun vs H Q E h => ?_) (fun cdv A outer s H vs Q E hr h => ?_)
  · obtain ⟨p, q, ns, ms, rfl, _⟩ := h
    rfl
  · refine ⟨_, (pss_cons (ps_set (i := 2) sc_first_difference.nd rfl (Or.inl rfl) pe_int)
    (pss_cons (ps_for PassesOwn.never rfl (pi_zip (by rfl) T.b_zip (pa_cons (pv 0) (pa_cons (pv 1) pa_nil))) (pg_tup rfl (pgs_cons (pg_name (i := 3) sc_first_difference.nd rfl (Or.inl rfl)) (pgs_cons (pg_name (i := 4) sc_first_difference.nd rfl (Or.inl rfl)) pgs_nil)))
    (pss_cons (ps_if (pt_cmpR op_ne (pv 3) (pv 4) (nomark _))
    (pss_one (ps_ret (pv 2)))
    pss_nil)
    (pss_one (ps_aug (i := 2) sc_first_difference.nd rfl (Or.inl rfl) pe_int ip_add))))
    (pss_one (ps_ret (pv 2))))), ?_⟩
    obtain ⟨p, q, ns, ms, rfl, hp, hq, hne, k⟩ := h
    refine Evl.q_asg (v := .int ((0 : Nat) : Int)) Evl.ev_c fun H1 e1 => ?_
    refine q_forZip (xs := natV ns) (ys := natV ms) (Evl.ea_cons (Evl.ev_var rfl) (Evl.ea_cons (Evl.ev_var rfl) Evl.ea_nil)) (Evl.sq_of (e1 _ _ hp)) (Evl.sq_of (e1 _ _ hq)) (n := min ns.length ms.length) (by rw [natV_len, natV_len]) (fun i σ' H' => ∃ (v1 v2 : Option V), σ' = [some (.ref p), some (.ref q), some (.int (i : Int)), v1, v2] ∧ Ex H H' ∧ ns.take i = ms.take i)
      (fun H2 e2 => ⟨none, none, rfl, e1.trans e2, rfl⟩) (fun i σ' H' _ ⟨_, _, _, e, _⟩ => ⟨Evl.sq_of (e _ _ hp), Evl.sq_of (e _ _ hq)⟩) (fun i x σ' H' H3 hi ⟨v1, v2, es, e, et⟩ y => ?_) (fun σ' H' ⟨v1, v2, es, e, et⟩ => ?_)
    · subst es
      obtain ⟨t, x, z, rfl, ht, rfl, hx, hz⟩ := y
      obtain ⟨n, hn, rfl⟩ := natV_at hx
      obtain ⟨m, hm, rfl⟩ := natV_at hz
      refine ⟨t, _, rfl, SqT.of upd_same, rfl, _, _, rfl, _, _, rfl, rfl, ?_⟩
      have e3 : Ex H (upd H' t (.tup [.int (n : Int), .int (m : Int)])) := e.trans (Ex.new ht)
      refine Evl.q_when (b := !decide (V.int (n : Int) = V.int (m : Int))) (Evl.et_test (Evl.ev_op (Evl.ev_var rfl) (Evl.ev_var rfl) (Evl.rv_ne rfl))) (fun hb H4 e4 => ?_) (fun hb H4 e4 => ?_)
      · have nm : n ≠ m := by
          rintro rfl
          simp at hb
        exact Evl.s_ret (Evl.ev_var rfl) fun H5 e5 => k i (unlike_here et hn hm nm) H5 ((e3.trans e4).trans e5)
      · have nm : n = m := by
          have := of_decide_eq_true (p := V.int (n : Int) = V.int (m : Int)) (by simpa using hb)
          have := V.int.inj this
          omega
        refine Evl.s_aug (f := fun i j => i + j) (a := (i : Int)) (b := 1) rfl Evl.ev_c fun H5 e5 => ⟨_, _, rfl, (e3.trans e4).trans e5, ?_⟩
        rw [List.take_add_one, List.take_add_one, hn, hm, et, nm]
    · subst es
      exact Evl.s_ret (Evl.ev_var rfl) fun H5 e5 => k _ (unlike_end et hne) H5 (e.trans e5)
end VP
set_option Elab.async false
set_option linter.all false
set_option maxRecDepth 100000
set_option maxHeartbeats 4000000
namespace VP
open PySem PySem.Spec PyProof.Rows L2 TL
open Vaslca (Text Name areStatements isDone deepOf toldOption begin_ runOf valuesAt programOf)
open VO (Head Numbered)
open Evl (Ex Ev EvT EvA EvL EvU)
variable {P : Program} {w : World} {K : PySem.W.Frag} {mg : Str → Option Value} {base : Heap} {a : Ad}

theorem Fr.free' {p q : Addr} {H H' : Hp} (e : Fr p H H') (n : q ≠ p) (h : H' q = none) : H q = none := by
  cases h1 : H q with
  | none => rfl
  | some u =>
    rw [e q u h1 n] at h
    cases h
section
variable {σ : L2.St} {H : Hp} {ta tl : TE} {t : TA} {D : Ends} {tz : TS} {sp : Sp} {dvs vs xs : List V} {E : XK} {f : Str} {p C dx : Addr} {fs : List (Str × V)}
/-- a field set to what a call gives; the object is known in each heap that may follow -/
theorem q_fldCall (h : EvA t σ H vs) (k : ∀ H1, Ex H H1 → sp (vs ++ dvs) H1 (fun v H2 => Ev ta σ H2 (.ref p) ∧ H2 p = some (.ins C dx fs) ∧ Cls K C ∧ NoAttr K C f ∧ fs.length < 1000 ∧ ∀ H3, Fr p H2 H3 → H3 p = some (.ins C dx (putF f v fs)) → tz D σ H3) E) (hm : ∀ vs H (Q Q' : VK), (∀ v H', Q v H' → Q' v H') → sp vs H Q E → sp vs H Q' E) :
    tSeq (sFld K ta (tCall sp dvs E t) f) tz D σ H := h H (Ex.refl H) _ fun H1 e1 => hm _ _ _ _ (fun v H2 ⟨ha, hp, hc, hn, hl, kk⟩ => ha H2 (Ex.refl H2) _ fun H3 e3 => ⟨p, C, dx, fs, rfl, e3 _ _ hp, hc, hn, hl, kk _ (Fr.of e3).put upd_same⟩) (k H1 e1)
theorem q_fldCall1 (h : EvL tl σ H xs) (k : ∀ l H1, H l = none → Ex H H1 → H1 l = some (.lst xs) → sp (.ref l :: dvs) H1 (fun v H2 => Ev ta σ H2 (.ref p) ∧ H2 p = some (.ins C dx fs) ∧ Cls K C ∧ NoAttr K C f ∧ fs.length < 1000 ∧ ∀ H3, Fr p H2 H3 → H3 p = some (.ins C dx (putF f v fs)) → tz D σ H3) E) (hm : ∀ vs H (Q Q' : VK), (∀ v H', Q v H' → Q' v H') → sp vs H Q E → sp vs H Q' E) :
    tSeq (sFld K ta (tCall sp dvs E (tCons tl tNil)) f) tz D σ H := h H (Ex.refl H) _ fun l H1 n1 e1 h1 => hm _ _ _ _ (fun v H2 ⟨ha, hp, hc, hn, hl, kk⟩ => ha H2 (Ex.refl H2) _ fun H3 e3 => ⟨p, C, dx, fs, rfl, e3 _ _ hp, hc, hn, hl, kk _ (Fr.of e3).put upd_same⟩) (k l H1 n1 e1 h1)
end
theorem rp_mono (a : Ad) {E : XK} : ∀ vs H (Q Q' : VK), (∀ v H', Q v H' → Q' v H') → sp_read_program a vs H Q E → sp_read_program a vs H Q' E := fun vs H Q Q' hQ ⟨l, t, e, hl, hz, kY, kN⟩ => ⟨l, t, e, hl, hz, fun c hc R H' e hP hn => hQ _ _ (kY c hc R H' e hP hn), kN⟩
/-! # The desk in the heap -/
structure DA where
  o : Addr
  dx : Addr
  n : Addr
  R : PA
def dF (p n : Addr) : List (Str × V) := [("program", .ref p), ("numbers", .ref n)]
theorem dF_program (p n : Addr) : (dF p n).lookup ("program" : Str) = some (.ref p) := by kernel_rfl
theorem dF_numbers (p n : Addr) : (dF p n).lookup ("numbers" : Str) = some (.ref n) := by kernel_rfl
theorem dF_put_program (p n q : Addr) : putF "program" (.ref q) (dF p n) = dF q n := by kernel_rfl
theorem dF_put_numbers (p n q : Addr) : putF "numbers" (.ref q) (dF p n) = dF p q := by kernel_rfl
theorem dF_len (p n : Addr) : (dF p n).length < 1000 := by simp [dF]
def InD (D : DA) (x : Addr) : Prop := x = D.o ∨ x = D.n ∨ InP D.R x
structure DeskAt (a : Ad) (H : Hp) (D : DA) (s : Vaslca.State) (t : Text) : Prop where
  ob : H D.o = some (.ins a.C_Desk D.dx (dF D.R.p D.n))
  pr : PAt a H D.R t s.code
  is : programOf t = some s.code
  nu : H D.n = some (.lst (natV s.input))
  small : ∀ v ∈ s.input, v < 1000
  few : s.input.length ≤ 6
  long : t.length ≤ 1000
  out : ¬ InP D.R D.o
section
variable {H H' : Hp} {D : DA} {s : Vaslca.State} {t : Text}
theorem DeskAt.mono (h : DeskAt a H D s t) (e : Ex H H') : DeskAt a H' D s t := ⟨e _ _ h.ob, h.pr.mono e, h.is, e _ _ h.nu, h.small, h.few, h.long, h.out⟩
theorem DeskAt.keep {q : Addr} (h : DeskAt a H D s t) (f : Fr q H H') (n : ¬ InD D q) : DeskAt a H' D s t :=
  ⟨f _ _ h.ob (fun e => n (Or.inl e.symm)), h.pr.keep f (fun z => n (Or.inr (Or.inr z))), h.is, f _ _ h.nu (fun e => n (Or.inr (Or.inl e.symm))), h.small, h.few, h.long, h.out⟩
theorem DeskAt.foot (h : DeskAt a H D s t) {x : Addr} (hx : InD D x) : ∃ o, H x = some o := by
  rcases hx with rfl | rfl | hx
  · exact ⟨_, h.ob⟩
  · exact ⟨_, h.nu⟩
  · exact h.pr.foot hx
end
/-- a call's end that leaves the desk changed -/
def RetDesk (a : Ad) (D : DA) (s' : Vaslca.State) (t' : Text) (xs : List V) (H : Hp) (Q : VK) : Prop := ∀ (D' : DA) (H' : Hp) (q : Addr), D'.o = D.o → Fr D.o H H' → DeskAt a H' D' s' t' → (∀ x, InD D' x → InD D x ∨ H x = none) → H q = none → H' q = some (.lst xs) → Q (.ref q) H'
theorem RetDesk.new {D : DA} {s : Vaslca.State} {t : Text} {xs : List V} {H : Hp} {Q : VK} (h : RetDesk a D s t xs H Q) (d : DeskAt a H D s t) : RetNew xs H Q := fun p H' n e hp => h D H' p rfl (Fr.of e) (d.mono e) (fun x hx => Or.inl hx) n hp

def sp_Desk_init (a : Ad) : Sp := fun vs H Q _ => ∃ (p dx : Addr), vs = [.ref p] ∧ H p = some (.ins a.C_Desk dx []) ∧ ∀ (D : DA) (H' : Hp), D.o = p → Fr p H H' → DeskAt a H' D Vaslca.start [] → (∀ x, InD D x → x = p ∨ H x = none) → Q .non H'
theorem empty_prog : programOf [] = some .done := by decide +kernel
theorem ok_Desk_init (T : Facts K mg a) : FnOk P w K mg base CX0 8 a.f_Desk_init a.d_Desk_init ["self"] (sp_Desk_init a) := by
  refine T.F_Desk_init.ok sc_Desk_init (fun vs H Q E h => ?_) (fun cdv A outer s H vs Q E hr h => ?_)
  · obtain ⟨p, dx, rfl, _⟩ := h
    rfl
  · refine ⟨_, (pss_cons (ps_fld (pv 0) (pe_call (ok_read_program T) (hr.mono (by decide)) rfl T.g_read_program T.F_read_program.kp T.B_read_program .nil passL (pa_cons (pe_lst pa_nil) pa_nil)) rfl)
    (pss_one (ps_fld (pv 0) (pe_lst pa_nil) rfl))), ?_⟩
    obtain ⟨p, dx, rfl, hp, q⟩ := h
    refine q_fldCall1 (p := p) (C := a.C_Desk) (dx := dx) (fs := []) (xs := []) (Evl.el_lst Evl.ea_nil (by decide)) (fun l H1 nl e1 h1 => ⟨l, [], rfl, h1, by decide, fun c hc R H2 e2 hP hnew => ?_, fun hn => ?_⟩) (rp_mono a)
    · rw [empty_prog] at hc
      cases hc
      have npR : ¬ InP R p := fun z => by
        have := hnew p z
        rw [e1 _ _ hp] at this
        cases this
      refine ⟨Evl.ev_var rfl, (e1.trans e2) _ _ hp, T.cl_Desk, T.n_Desk_program, by simp, fun H4 f4 h4 => ?_⟩
      have h4' : H4 p = some (.ins a.C_Desk dx [("program", .ref R.p)]) := h4
      refine s_fldL (xs := []) (Evl.el_lst Evl.ea_nil (by decide)) (Evl.ev_var rfl) h4' T.cl_Desk T.n_Desk_numbers (by simp) (fs' := fun n => dF R.p n) (fun _ => by kernel_rfl) fun n H5 n5 np5 f5 h5 g5 => ?_
      have F05 : Fr p H H5 := ((Fr.of (e1.trans e2)).trans f4).trans f5
      have f25 : Fr p H2 H5 := f4.trans f5
      refine q ⟨p, dx, n, R⟩ H5 rfl F05 ⟨h5, hP.keep f25 npR, empty_prog, g5, (fun v hv => by cases hv), Nat.zero_le _, Nat.zero_le _, npR⟩ fun x hx => ?_
      rcases hx with rfl | rfl | hx
      · exact Or.inl rfl
      · right
        exact Evl.fresh_back (e1.trans e2) (f4.free' np5 n5)
      · right
        exact Evl.fresh_back e1 (hnew x hx)
    · rw [empty_prog] at hn
      cases hn

def sp_Desk_take_program (a : Ad) : Sp := fun vs H Q E => ∃ (D : DA) (s : Vaslca.State) (t0 : Text) (l : Addr) (t : Text), vs = [.ref D.o, .ref l] ∧ DeskAt a H D s t0 ∧ H l = some (.lst (bytV t)) ∧ t.length ≤ 1000 ∧
  (∀ c, programOf t = some c → RetDesk a D ⟨c, s.input⟩ t [.int ((Vaslca.linesOf c).length : Int)] H Q) ∧ (programOf t = none → ∀ H', Ex H H' → E (.ref a.C_NotAProgram) none H')
theorem ok_Desk_take_program (T : Facts K mg a) : FnOk P w K mg base (L2.CX P w) 8 a.f_Desk_take_program a.d_Desk_take_program ["self", "text"] (sp_Desk_take_program a) := by
  refine T.F_Desk_take_program.okX sc_Desk_take_program (fun vs H Q E h => ?_) (fun cdv A outer s H vs Q E hr h => ?_)
  · obtain ⟨D, s, t0, l, t, rfl, _⟩ := h
    rfl
  · refine ⟨_, (pss_cons (ps_fld (pv 0) (pe_call (ok_read_program T) (hr.mono (by decide)) rfl T.g_read_program T.F_read_program.kp T.B_read_program .nil (passes_call (takes_of rfl rfl rfl rfl) (fun _ _ _ _ h => h)) (pa_cons (pv 1) pa_nil)) rfl)
    (pss_one (ps_ret (pe_lst (pa_cons (pe_callB call_len_seq (by rfl) T.b_len (by decide +kernel) (pa_cons (pe_fld (pe_fld (pv 0) rfl) rfl) pa_nil)) pa_nil))))), ?_⟩
    obtain ⟨D, s', t0, l, t, rfl, hD, hl, hz, kY, kN⟩ := h
    refine q_fldCall (p := D.o) (C := a.C_Desk) (dx := D.dx) (fs := dF D.R.p D.n) (vs := [.ref l]) (Evl.ea_cons (Evl.ev_var rfl) Evl.ea_nil) (fun H1 e1 => ⟨l, t, rfl, e1 _ _ hl, hz, fun c hc R H2 e2 hP hnew => ?_, fun hn H2 e2 => kN hn H2 (e1.trans e2)⟩) (rp_mono a)
    have npR : ¬ InP R D.o := fun z => by
      have := hnew _ z
      rw [e1 _ _ hD.ob] at this
      cases this
    refine ⟨Evl.ev_var rfl, (e1.trans e2) _ _ hD.ob, T.cl_Desk, T.n_Desk_program, dF_len _ _, fun H4 f4 h4 => ?_⟩
    have h4' : H4 D.o = some (.ins a.C_Desk D.dx (dF R.p D.n)) := by rw [h4, dF_put_program]
    have P4 := hP.keep f4 npR
    have nn : D.n ≠ D.o := ne_of hD.nu hD.ob (by intro z; cases z)
    refine Evl.s_retL (xs := [.int ((Vaslca.linesOf c).length : Int)]) (Evl.el_lst (Evl.ea_cons (ev_lenL (ev_fld (ev_fld (Evl.ev_var rfl) h4' T.cl_Desk T.n_Desk_program (dF_program _ _)) P4.ob T.cl_Program T.n_Program_statements (pF_statements _ _ _ _)) P4.sl (by rw [List.length_map]; exact P4.len)) Evl.ea_nil) (by simp)) fun q H5 n5 e5 h5 => ?_
    have f04 : Fr D.o H H4 := (Fr.of (e1.trans e2)).trans f4
    have qo : q ≠ D.o := by
      rintro rfl
      rw [h4'] at n5
      cases n5
    refine kY c hc ⟨D.o, D.dx, D.n, R⟩ H5 q rfl (f04.trans (Fr.of e5)) ⟨e5 _ _ h4', P4.mono e5, hc, e5 _ _ (f04 _ _ hD.nu nn), hD.small, hD.few, hz, npR⟩ (fun x hx => ?_) (f04.free' qo n5) h5
    rcases hx with rfl | rfl | hx
    · exact Or.inl (Or.inl rfl)
    · exact Or.inl (Or.inr (Or.inl rfl))
    · exact Or.inr (Evl.fresh_back e1 (hnew x hx))

def sp_Desk_take_numbers (a : Ad) : Sp := fun vs H Q E => ∃ (D : DA) (s : Vaslca.State) (t0 : Text) (l : Addr) (ns : List Int), vs = [.ref D.o, .ref l] ∧ DeskAt a H D s t0 ∧ H l = some (.lst (ns.map V.int)) ∧ ns.length ≤ 1000 ∧
  (∀ i, Vaslca.inputOf ns = some i → RetDesk a D ⟨s.code, i⟩ t0 [.int (i.length : Int)] H Q) ∧ (Vaslca.inputOf ns = none → ∀ H', Ex H H' → E (.ref a.C_NotAnInput) none H')
theorem rv_gt {i j : Int} {H : Hp} : Evl.RV rGt (.int i) (.int j) H (.bl (decide (i > j))) := Evl.rv_I0
theorem ok_Desk_take_numbers (T : Facts K mg a) : FnOk P w K mg base (L2.CX P w) 1 a.f_Desk_take_numbers a.d_Desk_take_numbers ["self", "numbers"] (sp_Desk_take_numbers a) := by
  refine T.F_Desk_take_numbers.okX sc_Desk_take_numbers (fun vs H Q E h => ?_) (fun cdv A outer s H vs Q E hr h => ?_)
  · obtain ⟨D, s, t0, l, ns, rfl, _⟩ := h
    rfl
  · refine ⟨_, (pss_cons (ps_if (pt_cmpR op_gt (pe_callB call_len_seq (by rfl) T.b_len (by decide +kernel) (pa_cons (pv 1) pa_nil)) (pe_gi rfl T.c_MOST_NUMBERS.choose_spec) (nomark _))
    (pss_one (ps_raise rfl (takes_of rfl rfl rfl rfl) (pmk_own0 PySem.F.excBase_Exception T.x_NotAnInput.x T.x_NotAnInput.g T.x_NotAnInput.k (raises_own T.x_NotAnInput.b T.x_NotAnInput.t) (by exact rfl))))
    pss_nil)
    (pss_cons (ps_for (passes_of rfl) rfl (pi_list (pv 1)) (pg_name (i := 2) sc_Desk_take_numbers.nd rfl (Or.inl rfl))
    (pss_one (ps_if (PW.pt (pw_or (pt_cmpR op_lt (pv 2) pe_int (nomark _)) (pw_or1 (pt_cmpR op_gt (pv 2) (pe_gi rfl T.c_LARGEST_NUMBER.choose_spec) (nomark _)))))
    (pss_one (ps_raise rfl (takes_of rfl rfl rfl rfl) (pmk_own0 PySem.F.excBase_Exception T.x_NotAnInput.x T.x_NotAnInput.g T.x_NotAnInput.k (raises_own T.x_NotAnInput.b T.x_NotAnInput.t) (by exact rfl))))
    pss_nil)))
    (pss_cons (ps_fld (pv 0) (pe_callTy call_list_of (by rfl) T.b_list (by decide +kernel) (pa_cons (pv 1) pa_nil)) rfl)
    (pss_one (ps_ret (pe_lst (pa_cons (pe_callB call_len_seq (by rfl) T.b_len (by decide +kernel) (pa_cons (pv 1) pa_nil)) pa_nil))))))), ?_⟩
    obtain ⟨D, s', t0, l, ns, rfl, hD, hl, hz, kY, kN⟩ := h
    have lno : l ≠ D.o := ne_of hl hD.ob (by intro z; cases z)
    refine Evl.q_when (b := decide ((ns.length : Int) > 6)) (Evl.et_test (Evl.ev_op (ev_lenL (Evl.ev_var rfl) hl (List.length_map ..)) Evl.ev_c rv_gt)) (fun hb H1 e1 => ?_) (fun hb H1 e1 => ?_)
    · refine kN ?_ H1 e1
      unfold Vaslca.inputOf
      have := of_decide_eq_true hb
      rw [if_neg (fun z => by have : ns.length ≤ 6 := z.1; omega)]
    · have few : ns.length ≤ 6 := by
        have := of_decide_eq_false hb
        omega
      have D1 := hD.mono e1
      have l1 := e1 _ _ hl
      refine Evl.q_forLn (Evl.ev_var rfl) (Evl.sq_of l1) (fun i σ' H' => ∃ (v : Option V), σ' = [some (.ref D.o), some (.ref l), v] ∧ Ex H H' ∧ ∀ z ∈ ns.take i, 0 ≤ z ∧ z < 1000) (fun H2 e2 => ⟨none, rfl, e1.trans e2, fun z hz => by simp at hz⟩) (fun i σ' H' _ ⟨_, _, e, _⟩ => Evl.sq_of (e _ _ hl)) (fun i y σ' H' hi ⟨v, es, e, hp⟩ => ?_) (fun σ' H' ⟨v, es, e, hp⟩ => ?_)
      · subst es
        rw [List.getElem?_map] at hi
        cases hm : ns[i]? with
        | none => rw [hm] at hi; cases hi
        | some z =>
          rw [hm] at hi
          cases Option.some.inj hi
          refine Evl.s_when (b := decide (z < 0) || decide (z > 999)) (Evl.et_or (Evl.et_test (Evl.ev_op (Evl.ev_var rfl) Evl.ev_c Evl.rv_I0)) fun _ => Evl.et_test (Evl.ev_op (Evl.ev_var rfl) Evl.ev_c rv_gt)) (fun hb2 H2 e2 => ?_) (fun hb2 H2 e2 => ?_)
          · refine kN ?_ H2 (e.trans e2)
            unfold Vaslca.inputOf
            rw [if_neg]
            rintro ⟨_, q⟩
            rw [List.all_eq_true] at q
            have w := q z (List.mem_of_getElem? hm)
            rw [Bool.and_eq_true] at w
            have w1 : 0 ≤ z := of_decide_eq_true w.1
            have w2 : z < 1000 := of_decide_eq_true w.2
            simp at hb2
            omega
          · refine ⟨_, rfl, e.trans e2, fun x hx => ?_⟩
            rw [List.take_add_one, hm] at hx
            rcases List.mem_append.mp hx with q | q
            · exact hp x q
            · simp at q hb2
              subst q
              omega
      · subst es
        rw [List.length_map, List.take_length] at hp
        have hin : Vaslca.inputOf ns = some (ns.map Int.toNat) := by
          unfold Vaslca.inputOf
          rw [if_pos]
          refine ⟨few, ?_⟩
          rw [List.all_eq_true]
          intro z hz
          have w := hp z hz
          rw [Bool.and_eq_true]
          exact ⟨decide_eq_true w.1, decide_eq_true (show z < 1000 from w.2)⟩
        have en : ns.map V.int = natV (ns.map Int.toNat) := by
          unfold natV
          rw [List.map_map]
          refine List.map_congr_left fun z hz => ?_
          have := hp z hz
          show V.int z = V.int ((z.toNat : Nat) : Int)
          congr 1
          omega
        have D' := hD.mono e
        refine q_fldL (xs := natV (ns.map Int.toNat)) (el_is (Evl.el_list (Evl.ev_var rfl) (Evl.sq_of (e _ _ hl))) en) (Evl.ev_var rfl) D'.ob T.cl_Desk T.n_Desk_numbers (dF_len _ _) (fs' := fun q => dF D.R.p q) (fun q => dF_put_numbers _ _ q) fun q H4 n4 np4 f4 h4 g4 => ?_
        have l4 := f4 _ _ (e _ _ hl) lno
        refine Evl.s_retL (xs := [.int ((ns.map Int.toNat).length : Int)]) (Evl.el_lst (Evl.ea_cons (ev_lenL (Evl.ev_var rfl) l4 (by simp)) Evl.ea_nil) (by simp)) fun r H5 n5 e5 h5 => ?_
        have f04 : Fr D.o H H4 := (Fr.of e).trans f4
        have ro : r ≠ D.o := by
          rintro rfl
          rw [h4] at n5
          cases n5
        refine kY _ hin ⟨D.o, D.dx, q, D.R⟩ H5 r rfl (f04.trans (Fr.of e5)) ⟨e5 _ _ h4, (D'.pr.keep f4 hD.out).mono e5, hD.is, e5 _ _ g4, fun v hv => ?_, by simpa using few, hD.long, hD.out⟩ (fun x hx => ?_) (f04.free' ro n5) h5
        · obtain ⟨z, hz, rfl⟩ := List.mem_map.mp hv
          have := hp z hz
          omega
        · rcases hx with rfl | rfl | hx
          · exact Or.inl (Or.inl rfl)
          · exact Or.inr (Evl.fresh_back e n4)
          · exact Or.inl (Or.inr (Or.inr hx))
end VP
set_option Elab.async false
set_option linter.all false
set_option maxRecDepth 100000
set_option maxHeartbeats 4000000
namespace VP
open PySem PySem.Spec PyProof.Rows L2 TL
open Vaslca (Text Name areStatements isDone deepOf toldOption begin_ runOf valuesAt programOf toldText toldNats toldRun statusNumber)
open VO (Head Numbered)
open Evl (Ex Ev EvT EvA EvL EvU)
variable {P : Program} {w : World} {K : PySem.W.Frag} {mg : Str → Option Value} {base : Heap} {a : Ad}

theorem s_retCall {σ : L2.St} {H : Hp} {D : Ends} {t : TA} {sp : Sp} {dvs vs : List V} {E : XK} (h : EvA t σ H vs) (k : ∀ H1, Ex H H1 → sp (vs ++ dvs) H1 D.rt E) : tRet (tCall sp dvs E t) D σ H := h H (Ex.refl H) _ k
theorem meth_of {σ : L2.St} {H : Hp} {te : TE} {t : TA} {C : Addr} {m : Str} {sp : Sp} {dvs : List V} {E : XK} {Q : VK} (h : te σ H (fun x H1 => ∃ p dx fs, x = .ref p ∧ H1 p = some (.ins C dx fs) ∧ fs.lookup m = none ∧ t σ H1 fun vs H2 => sp (x :: (vs ++ dvs)) H2 Q E)) : tMeth C m sp dvs E te t σ H Q := h
theorem ret_of {σ : L2.St} {H : Hp} {DD : Ends} {te : TE} (h : te σ H DD.rt) : tRet te DD σ H := h
theorem cons_of {σ : L2.St} {H : Hp} {te : TE} {tr : TA} {Q : List V → Hp → Prop} (h : te σ H fun x H1 => tr σ H1 fun vs H2 => Q (x :: vs) H2) : tCons te tr σ H Q := h
theorem call_of {σ : L2.St} {H : Hp} {t : TA} {sp : Sp} {dvs : List V} {E : XK} {Q : VK} (h : t σ H fun vs H1 => sp (vs ++ dvs) H1 Q E) : tCall sp dvs E t σ H Q := h
theorem RunAt.rebase {H0 H1 H : Hp} {M : RA} {x : Vaslca.Run} {L : Nat → Option Nat} {b : Nat} (h : RunAt a H1 H M x L b) (e : Ex H0 H1) : RunAt a H0 H M x L b :=
  ⟨e.trans h.ex, fun y hy => Evl.fresh_back e (h.fr y hy), h.nd, h.ob, h.lf, h.sp, h.hl, h.se, h.lt, h.small, h.few, h.fewb⟩
def sp_Desk_make_run_alone (a : Ad) : Sp := fun vs H Q _ => ∃ (D : DA) (s : Vaslca.State) (t : Text) (ll : Addr) (ls : List Nat), vs = [.ref D.o, .ref ll] ∧ DeskAt a H D s t ∧ H ll = some (.lst (natV ls)) ∧ RetRun a (Vaslca.only ls s.code) s.input D.R.sl H Q
theorem ok_Desk_make_run_alone (T : Facts K mg a) : FnOk P w K mg base CX0 16 a.f_Desk_make_run_alone a.d_Desk_make_run_alone ["self", "lines"] (sp_Desk_make_run_alone a) := by
  refine T.F_Desk_make_run_alone.ok sc_Desk_make_run_alone (fun vs H Q E h => ?_) (fun cdv A outer s H vs Q E hr h => ?_)
  · obtain ⟨D, s, t, ll, ls, rfl, _⟩ := h
    rfl
  · refine ⟨_, (pss_one (ps_ret (pe_call (ok_run_lines T) (hr.mono (by decide)) rfl T.g_run_lines T.F_run_lines.kp T.B_run_lines .nil pass0 (pa_cons (pe_fld (pv 0) rfl) (pa_cons (pv 1) (pa_cons (pe_fld (pv 0) rfl) pa_nil)))))), ?_⟩
    obtain ⟨D, s', t, ll, ls, rfl, hD, hll, q⟩ := h
    have ea : EvA (tCons (tFld K (tVar 0) "program") (tCons (tVar 1) (tCons (tFld K (tVar 0) "numbers") tNil))) [some (.ref D.o), some (.ref ll)] H [.ref D.R.p, .ref ll, .ref D.n] := Evl.ea_cons (ev_fld (Evl.ev_var rfl) hD.ob T.cl_Desk T.n_Desk_program (dF_program _ _)) (Evl.ea_cons (Evl.ev_var rfl) (Evl.ea_cons (ev_fld (Evl.ev_var rfl) hD.ob T.cl_Desk T.n_Desk_numbers (dF_numbers _ _)) Evl.ea_nil))
    refine s_retCall ea fun H1 e1 => ⟨D.R, t, s'.code, ll, D.n, ls, s'.input, rfl, hD.pr.mono e1, hD.is, e1 _ _ hll, e1 _ _ hD.nu, hD.small, fun M L H2 hM hR => q M L H2 hM (hR.rebase e1)⟩
theorem dF_no1 (p n : Addr) : (dF p n).lookup ("make_run" : Str) = none := by kernel_rfl
theorem dF_no1b (p n : Addr) : (dF p n).lookup ("make_run_alone" : Str) = none := by kernel_rfl
theorem all_alone {t : Text} {c : Vaslca.Code} (h : programOf t = some c) : Vaslca.only (List.range (Vaslca.linesOf c).length) c = c := only_all _ fun n hn => by
  have := (numbered_mem (is_prog h).2.1 n).mp hn
  rw [List.contains_iff_mem, List.mem_range]
  exact this
def sp_Desk_make_run (a : Ad) : Sp := fun vs H Q _ => ∃ (D : DA) (s : Vaslca.State) (t : Text), vs = [.ref D.o] ∧ DeskAt a H D s t ∧ RetRun a s.code s.input D.R.sl H Q
theorem ok_Desk_make_run (T : Facts K mg a) : FnOk P w K mg base CX0 17 a.f_Desk_make_run a.d_Desk_make_run ["self"] (sp_Desk_make_run a) := by
  refine T.F_Desk_make_run.ok sc_Desk_make_run (fun vs H Q E h => ?_) (fun cdv A outer s H vs Q E hr h => ?_)
  · obtain ⟨D, s, t, rfl, _⟩ := h
    rfl
  · refine ⟨_, (pss_one (ps_ret (pe_meth (pv 0) T.cl_Desk T.M_Desk_make_run_alone (ok_Desk_make_run_alone T) (hr.mono (by decide)) T.B_Desk_make_run_alone .nil pass0 (pa_cons (pe_meth0 (pe_fld (pv 0) rfl) T.cl_Program T.M_Program_all_lines (ok_Program_all_lines T) (hr.mono (by decide)) T.B_Program_all_lines .nil pass0) pa_nil)))), ?_⟩
    obtain ⟨D, s', t, rfl, hD, q⟩ := h
    have inner : EvL (tMeth a.C_Program "all_lines" (sp_Program_all_lines a) [] E0 (tFld K (tVar 0) "program") tNil) [some (.ref D.o)] H (natV (List.range (Vaslca.linesOf s'.code).length)) := el_meth (ev_fld (Evl.ev_var rfl) hD.ob T.cl_Desk T.n_Desk_program (dF_program _ _)) hD.pr.ob (pF_no1 _ _ _ _) Evl.ea_nil fun H1 e1 Q q E => ⟨D.R, t, s'.code, rfl, hD.pr.mono e1, (is_prog hD.is).2.2.1, q⟩
    refine ret_of <| meth_of <| Evl.ev_var (σ := [some (.ref D.o)]) (i := 0) rfl H (Ex.refl H) _ fun H1 e1 => ⟨D.o, D.dx, _, rfl, e1 _ _ hD.ob, dF_no1b _ _, cons_of <| inner H1 e1 _ fun ll H2 n2 e2 h2 => Evl.ea_nil H2 (Ex.refl H2) _ fun H3 e3 => ⟨D, s', t, ll, _, rfl, hD.mono ((e1.trans e2).trans e3), e3 _ _ h2, fun M L H4 hM hR => ?_⟩⟩
    rw [all_alone hD.is] at hR
    exact q M L H4 hM (hR.rebase ((e1.trans e2).trans e3))

def sp_Desk_tell_text (a : Ad) : Sp := fun vs H Q _ => ∃ (D : DA) (s : Vaslca.State) (t : Text), vs = [.ref D.o] ∧ DeskAt a H D s t ∧ RetNew (natV (toldText (Vaslca.programText s.code))) H Q
theorem ok_Desk_tell_text (T : Facts K mg a) : FnOk P w K mg base CX0 2 a.f_Desk_tell_text a.d_Desk_tell_text ["self"] (sp_Desk_tell_text a) := by
  refine T.F_Desk_tell_text.ok sc_Desk_tell_text (fun vs H Q E h => ?_) (fun cdv A outer s H vs Q E hr h => ?_)
  · obtain ⟨D, s, t, rfl, _⟩ := h
    rfl
  · refine ⟨_, (pss_one (ps_ret (pe_call (ok_counted T) (hr.mono (by decide)) rfl T.g_counted T.F_counted.kp T.B_counted .nil pass0 (pa_cons (pe_fld (pe_fld (pv 0) rfl) rfl) pa_nil)))), ?_⟩
    obtain ⟨D, s', t, rfl, hD, q⟩ := h
    have et : Vaslca.programText s'.code = t := (is_prog hD.is).2.2.2.2
    rw [et, natV_told] at q
    have lb : (bytV t).length = t.length := List.length_map ..
    have := hD.long
    exact Evl.s_retL (Evl.el_call (Evl.ea_cons (ev_fld (ev_fld (Evl.ev_var rfl) hD.ob T.cl_Desk T.n_Desk_program (dF_program _ _)) hD.pr.ob T.cl_Program T.n_Program_text (pF_text _ _ _ _)) Evl.ea_nil) (sl_counted hD.pr.tx (by omega))) q

/-! # what a run tells -/

/-! # what a run tells -/
theorem line_in {t : Text} {c : Vaslca.Code} (h : programOf t = some c) (i : List Nat) : ∀ s ∈ (runOf c i).steps, s.line < (stmsOf [] c).length := fun s hs => by
  rw [stms_len]
  exact (numbered_mem (is_prog h).2.1 _).mp (run_lines c i s hs)
theorem line_inO {t : Text} {c : Vaslca.Code} (h : programOf t = some c) (ls i : List Nat) : ∀ s ∈ (runOf (Vaslca.only ls c) i).steps, s.line < (stmsOf [] c).length := fun s hs => by
  rw [stms_len]
  exact (numbered_mem (is_prog h).2.1 _).mp ((lines_only ls c).subset (run_lines (Vaslca.only ls c) i s hs))
theorem told_run {t : Text} {c : Vaslca.Code} (h : programOf t = some c) (x : Vaslca.Run) : toldRun c x = [statusNumber x.status, x.steps.length] ++ Vaslca.toldNats (rowV x fun s => kindAt (stmsOf [] c) s.line == 3) := by
  obtain ⟨a1, a2, _⟩ := is_prog h
  unfold Vaslca.toldRun
  rw [written_is (okC_of a1) a2]
def sp_Desk_tell_account (a : Ad) : Sp := fun vs H Q _ => ∃ (D : DA) (s : Vaslca.State) (t : Text), vs = [.ref D.o] ∧ DeskAt a H D s t ∧ RetNew (natV (toldRun s.code (runOf s.code s.input))) H Q
theorem ok_Desk_tell_account (T : Facts K mg a) : FnOk P w K mg base CX0 18 a.f_Desk_tell_account a.d_Desk_tell_account ["self"] (sp_Desk_tell_account a) := by
  refine T.F_Desk_tell_account.ok sc_Desk_tell_account (fun vs H Q E h => ?_) (fun cdv A outer s H vs Q E hr h => ?_)
  · obtain ⟨D, s, t, rfl, _⟩ := h
    rfl
  · refine ⟨_, (pss_one (ps_ret (pe_call (ok_account_of T) (hr.mono (by decide)) rfl T.g_account_of T.F_account_of.kp T.B_account_of .nil pass0 (pa_cons (pe_meth0 (pv 0) T.cl_Desk T.M_Desk_make_run (ok_Desk_make_run T) (hr.mono (by decide)) T.B_Desk_make_run .nil pass0) pa_nil)))), ?_⟩
    obtain ⟨D, s', t, rfl, hD, q⟩ := h
    rw [told_run hD.is] at q
    refine ret_of <| call_of <| cons_of <| meth_of <| Evl.ev_var (σ := [some (.ref D.o)]) (i := 0) rfl H (Ex.refl H) _ fun H1 e1 => ⟨D.o, D.dx, _, rfl, e1 _ _ hD.ob, dF_no1 _ _, Evl.ea_nil H1 (Ex.refl H1) _ fun H2 e2 => ⟨D, s', t, rfl, hD.mono (e1.trans e2), fun M L H3 hM hR => Evl.ea_nil H3 (Ex.refl H3) _ fun H4 e4 => ?_⟩⟩
    exact ⟨H2, M, _, L, _, stmsOf [] s'.code, rfl, hR.mono e4, by rw [hM]; exact (hD.mono (e1.trans e2)).pr.ps, line_in hD.is _, fun p H5 n5 e5 h5 => q p H5 (Evl.fresh_back ((e1.trans e2).trans (hR.ex.trans e4)) n5) (((e1.trans e2).trans (hR.ex.trans e4)).trans e5) h5⟩

/-! # lines looked at -/
def BadLine (c : Vaslca.Code) (n : Int) : Prop := n < 0 ∨ ((Vaslca.linesOf c).length : Int) ≤ n
theorem rv_ge {i j : Int} {H : Hp} : Evl.RV rGe (.int i) (.int j) H (.bl (decide (j ≤ i))) := Evl.rv_I0
theorem rv_le {i j : Int} {H : Hp} : Evl.RV (rI0 fun i j => .bl (decide (i ≤ j))) (.int i) (.int j) H (.bl (decide (i ≤ j))) := Evl.rv_I0
def sp_Desk_check_line (a : Ad) : Sp := fun vs H Q E => ∃ (D : DA) (s : Vaslca.State) (t : Text) (n : Int), vs = [.ref D.o, .int n] ∧ DeskAt a H D s t ∧
  (¬ BadLine s.code n → ∀ H', Ex H H' → Q .non H') ∧ (BadLine s.code n → ∀ H', Ex H H' → E (.ref a.C_NoSuchLine) none H')
theorem ok_Desk_check_line (T : Facts K mg a) : FnOk P w K mg base (L2.CX P w) 1 a.f_Desk_check_line a.d_Desk_check_line ["self", "line"] (sp_Desk_check_line a) := by
  refine T.F_Desk_check_line.okX sc_Desk_check_line (fun vs H Q E h => ?_) (fun cdv A outer s H vs Q E hr h => ?_)
  · obtain ⟨D, s, t, n, rfl, _⟩ := h
    rfl
  · refine ⟨_, (pss_one (ps_if (PW.pt (pw_or (pt_cmpR op_lt (pv 1) pe_int (nomark _)) (pw_or1 (pt_cmpR op_ge (pv 1) (pe_callB call_len_seq (by rfl) T.b_len (by decide +kernel) (pa_cons (pe_fld (pe_fld (pv 0) rfl) rfl) pa_nil)) (nomark _)))))
    (pss_one (ps_raise rfl (takes_of rfl rfl rfl rfl) (pmk_own0 PySem.F.excBase_Exception T.x_NoSuchLine.x T.x_NoSuchLine.g T.x_NoSuchLine.k (raises_own T.x_NoSuchLine.b T.x_NoSuchLine.t) (by exact rfl))))
    pss_nil)), ?_⟩
    obtain ⟨D, s', t, n, rfl, hD, kY, kN⟩ := h
    refine Evl.s_when (b := decide (n < 0) || decide (((Vaslca.linesOf s'.code).length : Int) ≤ n)) (Evl.et_or (Evl.et_test (Evl.ev_op (Evl.ev_var rfl) Evl.ev_c Evl.rv_I0)) fun _ => Evl.et_test (Evl.ev_op (Evl.ev_var rfl) (ev_lenL (ev_fld (ev_fld (Evl.ev_var rfl) hD.ob T.cl_Desk T.n_Desk_program (dF_program _ _)) hD.pr.ob T.cl_Program T.n_Program_statements (pF_statements _ _ _ _)) hD.pr.sl (by rw [List.length_map]; exact hD.pr.len)) rv_ge)) (fun hb H1 e1 => ?_) (fun hb H1 e1 => ?_)
    · exact kN (by unfold BadLine; simpa using hb) H1 e1
    · exact kY (by unfold BadLine; simpa using hb) H1 e1
def okL (m : Int) : Int → List Int → Bool
  | _, [] => true
  | l, z :: r => decide (l < z) && (decide (z < m) && okL m z r)
theorem okL_to (m : Int) : ∀ (l : List Int) (b : Int), -1 ≤ b → okL m b l = true → (∀ z ∈ l, b < z ∧ z < m) ∧ Vaslca.rising (l.map Int.toNat) = true
  | [], _, _, _ => ⟨fun z hz => (by cases hz), rfl⟩
  | z :: r, b, hb, h => by
    simp only [okL, Bool.and_eq_true, decide_eq_true_eq] at h
    obtain ⟨i1, i2⟩ := okL_to m r z (by omega) h.2.2
    refine ⟨fun y hy => ?_, ?_⟩
    · rcases List.mem_cons.mp hy with rfl | hy
      · exact ⟨h.1, h.2.1⟩
      · have := i1 y hy
        exact ⟨by omega, this.2⟩
    · cases r with
      | nil => rfl
      | cons y r =>
        have := i1 y (by simp)
        show (decide (z.toNat < y.toNat) && Vaslca.rising ((y :: r).map Int.toNat)) = true
        rw [i2, Bool.and_true]
        exact decide_eq_true (by omega)
theorem okL_of (m : Int) : ∀ (l : List Int) (b : Int), (∀ z ∈ l, 0 ≤ z ∧ z < m) → Vaslca.rising (l.map Int.toNat) = true → (∀ z ∈ l.head?, b < z) → okL m b l = true
  | [], _, _, _, _ => rfl
  | z :: r, b, h1, h2, h3 => by
    have hz := h1 z (by simp)
    have hb := h3 z (by simp)
    simp only [okL, Bool.and_eq_true, decide_eq_true_eq]
    refine ⟨hb, hz.2, okL_of m r z (fun y hy => h1 y (by simp [hy])) ?_ fun y hy => ?_⟩
    · cases r with
      | nil => rfl
      | cons y r =>
        have h2' : (decide (z.toNat < y.toNat) && Vaslca.rising ((y :: r).map Int.toNat)) = true := h2
        rw [Bool.and_eq_true] at h2'
        exact h2'.2
    · cases r with
      | nil => cases hy
      | cons w r =>
        have e : w = y := by simpa using hy
        subst e
        have h2' : (decide (z.toNat < w.toNat) && Vaslca.rising ((w :: r).map Int.toNat)) = true := h2
        rw [Bool.and_eq_true] at h2'
        have := of_decide_eq_true h2'.1
        omega
theorem kept_is {c : Vaslca.Code} (hn : Numbered 0 c) (ns : List Int) : Vaslca.keptOf c ns = if okL ((Vaslca.linesOf c).length : Int) (-1) ns = true then some (ns.map Int.toNat) else none := by
  unfold Vaslca.keptOf
  by_cases h : okL ((Vaslca.linesOf c).length : Int) (-1) ns = true
  · rw [if_pos h, if_pos]
    obtain ⟨h1, h2⟩ := okL_to _ ns (-1) (by omega) h
    refine ⟨?_, ?_, h2⟩
    · rw [List.all_eq_true]
      intro z hz
      have := h1 z hz
      exact decide_eq_true (by omega)
    · rw [List.all_eq_true]
      intro n hx
      obtain ⟨z, hz, rfl⟩ := List.mem_map.mp hx
      have := h1 z hz
      rw [List.contains_iff_mem, numbered_mem hn]
      omega
  · rw [if_neg h, if_neg]
    rintro ⟨h1, h2, h3⟩
    rw [List.all_eq_true] at h1 h2
    refine h (okL_of _ ns (-1) (fun z hz => ?_) h3 fun z hz => ?_)
    · have w1 := of_decide_eq_true (h1 z hz)
      have w2 := h2 z.toNat (List.mem_map.mpr ⟨z, hz, rfl⟩)
      rw [List.contains_iff_mem, numbered_mem hn] at w2
      omega
    · have := of_decide_eq_true (h1 z (List.mem_of_mem_head? hz))
      omega
theorem kept_vals {c : Vaslca.Code} (hn : Numbered 0 c) {ns : List Int} {k : List Nat} (h : Vaslca.keptOf c ns = some k) : ns.map V.int = natV k := by
  rw [kept_is hn] at h
  split at h
  · rename_i ho
    cases h
    obtain ⟨h1, _⟩ := okL_to _ ns (-1) (by omega) ho
    unfold natV
    rw [List.map_map]
    refine List.map_congr_left fun z hz => ?_
    have := h1 z hz
    show V.int z = V.int ((z.toNat : Nat) : Int)
    congr 1
    omega
  · cases h
def sp_Desk_check_lines (a : Ad) : Sp := fun vs H Q E => ∃ (D : DA) (s : Vaslca.State) (t : Text) (l : Addr) (ns : List Int), vs = [.ref D.o, .ref l] ∧ DeskAt a H D s t ∧ H l = some (.lst (ns.map V.int)) ∧
  (∀ k, Vaslca.keptOf s.code ns = some k → ∀ H', Ex H H' → Q .non H') ∧ (Vaslca.keptOf s.code ns = none → ∀ H', Ex H H' → E (.ref a.C_NotSomeLines) none H')
theorem ok_Desk_check_lines (T : Facts K mg a) : FnOk P w K mg base (L2.CX P w) 1 a.f_Desk_check_lines a.d_Desk_check_lines ["self", "lines"] (sp_Desk_check_lines a) := by
  refine T.F_Desk_check_lines.okX sc_Desk_check_lines (fun vs H Q E h => ?_) (fun cdv A outer s H vs Q E hr h => ?_)
  · obtain ⟨D, s, t, l, ns, rfl, _⟩ := h
    rfl
  · refine ⟨_, (pss_cons (ps_set (i := 2) sc_Desk_check_lines.nd rfl (Or.inl rfl) (pe_un un_neg pe_int))
    (pss_one (ps_for (passes_of rfl) rfl (pi_list (pv 1)) (pg_name (i := 3) sc_Desk_check_lines.nd rfl (Or.inl rfl))
    (pss_cons (ps_if (PW.pt (pw_or (pt_cmpR op_le (pv 3) (pv 2) (nomark _)) (pw_or1 (pt_cmpR op_ge (pv 3) (pe_callB call_len_seq (by rfl) T.b_len (by decide +kernel) (pa_cons (pe_fld (pe_fld (pv 0) rfl) rfl) pa_nil)) (nomark _)))))
    (pss_one (ps_raise rfl (takes_of rfl rfl rfl rfl) (pmk_own0 PySem.F.excBase_Exception T.x_NotSomeLines.x T.x_NotSomeLines.g T.x_NotSomeLines.k (raises_own T.x_NotSomeLines.b T.x_NotSomeLines.t) (by exact rfl))))
    pss_nil)
    (pss_one (ps_set (i := 2) sc_Desk_check_lines.nd rfl (Or.inl rfl) (pv 3))))))), ?_⟩
    obtain ⟨D, s', t, l, ns, rfl, hD, hl, kY, kN⟩ := h
    obtain ⟨a1, a2, a3, a4, _⟩ := is_prog hD.is
    have hk := kept_is a2 ns
    generalize hm : ((Vaslca.linesOf s'.code).length : Int) = m at hk
    refine Evl.q_asg (v := .int (-1)) (Evl.ev_un Evl.ev_c Evl.ru_neg) fun H1 e1 => ?_
    refine Evl.s_forLn (Evl.ev_var rfl) (Evl.sq_of (e1 _ _ hl)) (fun i σ' H' => ∃ (b : Int) (v : Option V), σ' = [some (.ref D.o), some (.ref l), some (.int b), v] ∧ Ex H H' ∧ okL m (-1) ns = okL m b (ns.drop i)) (fun H2 e2 => ⟨-1, none, rfl, e1.trans e2, by rw [List.drop_zero]⟩) (fun i σ' H' _ ⟨_, _, _, e, _⟩ => Evl.sq_of (e _ _ hl)) (fun i y σ' H' hi ⟨b, v, es, e, ho⟩ => ?_) (fun σ' H' ⟨b, v, es, e, ho⟩ => ?_)
    · subst es
      rw [List.getElem?_map] at hi
      cases hz : ns[i]? with
      | none => rw [hz] at hi; cases hi
      | some z =>
        rw [hz] at hi
        cases Option.some.inj hi
        obtain ⟨lt, ez⟩ := List.getElem?_eq_some_iff.mp hz
        rw [List.drop_eq_getElem_cons lt, ez] at ho
        have D1 := hD.mono e
        refine Evl.q_when (b := decide (z ≤ b) || decide (m ≤ z)) (Evl.et_or (Evl.et_test (Evl.ev_op (Evl.ev_var rfl) (Evl.ev_var rfl) rv_le)) fun _ => Evl.et_test (Evl.ev_op (Evl.ev_var rfl) (Evl.ev_is (ev_lenL (n := (Vaslca.linesOf s'.code).length) (ev_fld (ev_fld (Evl.ev_var rfl) D1.ob T.cl_Desk T.n_Desk_program (dF_program _ _)) D1.pr.ob T.cl_Program T.n_Program_statements (pF_statements _ _ _ _)) D1.pr.sl (by rw [List.length_map]; exact D1.pr.len)) (by rw [hm])) rv_ge)) (fun hb H2 e2 => ?_) (fun hb H2 e2 => ?_)
        · refine kN ?_ H2 (e.trans e2)
          rw [hk, ho, if_neg]
          simp only [okL, Bool.and_eq_true, decide_eq_true_eq]
          simp at hb
          omega
        · refine Evl.s_asg (v := .int z) (Evl.ev_var rfl) fun H3 e3 => ⟨z, _, rfl, (e.trans e2).trans e3, ?_⟩
          rw [ho]
          simp at hb
          simp only [okL]
          rw [decide_eq_true hb.1, decide_eq_true hb.2, Bool.true_and, Bool.true_and]
    · subst es
      rw [List.length_map, List.drop_length] at ho
      rw [ho, if_pos (show okL m b [] = true from rfl)] at hk
      exact kY _ hk H' e
theorem dF_no10 (p n : Addr) : (dF p n).lookup ("check_line" : Str) = none := by kernel_rfl
theorem dF_no11 (p n : Addr) : (dF p n).lookup ("check_lines" : Str) = none := by kernel_rfl

/-! # a row -/
theorem el_row (T : Facts K mg a) {σ : L2.St} {H : Hp} {te : TE} {i : Nat} {n : Nat} {x : Vaslca.Run} (hv : σ[i]? = some (some (.int (n : Int))))
    (h : ∀ H1, Ex H H1 → ∀ Q : VK, (∀ (M : RA) (L : Nat → Option Nat) (H' : Hp), RunAt a H1 H' M x L x.steps.length → Q (.ref M.o) H') → te σ H1 Q) {E : XK} : EvL (tMeth a.C_Run "row_at" (sp_Run_row_at a) [] E te (tCons (tVar i) tNil)) σ H (natV (rowV x fun s => s.line == n)) := fun H1 e Q q =>
  meth_of <| h H1 e _ fun M L H2 hR => ⟨M.o, M.dx, _, rfl, hR.ob, rF_no11 _ _ _ _ _ _ _ _ _, (Evl.ea_cons (Evl.ev_var hv) Evl.ea_nil) H2 (Ex.refl H2) _ fun H3 e3 => ⟨H1, M, x, L, _, n, rfl, hR.mono e3, fun p H4 n4 e4 h4 => q p H4 (Evl.fresh_back (hR.ex.trans e3) n4) ((hR.ex.trans e3).trans e4) h4⟩⟩
theorem te_run (T : Facts K mg a) {σ : L2.St} {H : Hp} {D : DA} {s : Vaslca.State} {t : Text} {i : Nat} (hv : σ[i]? = some (some (.ref D.o))) (hD : DeskAt a H D s t) {E : XK} : ∀ H1, Ex H H1 → ∀ Q : VK, (∀ (M : RA) (L : Nat → Option Nat) (H' : Hp), RunAt a H1 H' M (runOf s.code s.input) L (runOf s.code s.input).steps.length → Q (.ref M.o) H') →
    tMeth a.C_Desk "make_run" (sp_Desk_make_run a) [] E (tVar i) tNil σ H1 Q := fun H1 e Q q =>
  meth_of <| (Evl.ev_var hv) H1 (Ex.refl H1) _ fun H2 e2 => ⟨D.o, D.dx, _, rfl, (e.trans e2) _ _ hD.ob, dF_no1 _ _, Evl.ea_nil H2 (Ex.refl H2) _ fun H3 e3 => ⟨D, s, t, rfl, hD.mono ((e.trans e2).trans e3), fun M L H4 _ hR => q M L H4 (hR.rebase (e2.trans e3))⟩⟩
theorem te_runO (T : Facts K mg a) {σ : L2.St} {H : Hp} {D : DA} {s : Vaslca.State} {t : Text} {i j : Nat} {ll : Addr} {ls : List Nat} (hv : σ[i]? = some (some (.ref D.o))) (hw : σ[j]? = some (some (.ref ll))) (hD : DeskAt a H D s t) (hll : H ll = some (.lst (natV ls))) {E : XK} : ∀ H1, Ex H H1 → ∀ Q : VK, (∀ (M : RA) (L : Nat → Option Nat) (H' : Hp), RunAt a H1 H' M (runOf (Vaslca.only ls s.code) s.input) L (runOf (Vaslca.only ls s.code) s.input).steps.length → Q (.ref M.o) H') →
    tMeth a.C_Desk "make_run_alone" (sp_Desk_make_run_alone a) [] E (tVar i) (tCons (tVar j) tNil) σ H1 Q := fun H1 e Q q =>
  meth_of <| (Evl.ev_var hv) H1 (Ex.refl H1) _ fun H2 e2 => ⟨D.o, D.dx, _, rfl, (e.trans e2) _ _ hD.ob, dF_no1b _ _, (Evl.ea_cons (Evl.ev_var hw) Evl.ea_nil) H2 (Ex.refl H2) _ fun H3 e3 => ⟨D, s, t, ll, ls, rfl, hD.mono ((e.trans e2).trans e3), ((e.trans e2).trans e3) _ _ hll, fun M L H4 _ hR => q M L H4 (hR.rebase (e2.trans e3))⟩⟩
def sp_Desk_tell_row (a : Ad) : Sp := fun vs H Q E => ∃ (D : DA) (s : Vaslca.State) (t : Text) (n : Int), vs = [.ref D.o, .int n] ∧ DeskAt a H D s t ∧
  (¬ BadLine s.code n → RetNew (natV (toldNats (valuesAt (runOf s.code s.input) n.toNat))) H Q) ∧ (BadLine s.code n → ∀ H', Ex H H' → E (.ref a.C_NoSuchLine) none H')
theorem ok_Desk_tell_row (T : Facts K mg a) : FnOk P w K mg base (L2.CX P w) 18 a.f_Desk_tell_row a.d_Desk_tell_row ["self", "line"] (sp_Desk_tell_row a) := by
  refine T.F_Desk_tell_row.okX sc_Desk_tell_row (fun vs H Q E h => ?_) (fun cdv A outer s H vs Q E hr h => ?_)
  · obtain ⟨D, s, t, n, rfl, _⟩ := h
    rfl
  · refine ⟨_, (pss_cons (ps_expr (pe_meth (pv 0) T.cl_Desk T.M_Desk_check_line (ok_Desk_check_line T) (hr.mono (by decide)) T.B_Desk_check_line .nil (passes_call (takes_of rfl rfl rfl rfl) (fun _ _ _ _ h => h)) (pa_cons (pv 1) pa_nil)))
    (pss_one (ps_ret (pe_call (ok_counted T) (hr.mono (by decide)) rfl T.g_counted T.F_counted.kp T.B_counted .nil pass0 (pa_cons (pe_meth (pe_meth0 (pv 0) T.cl_Desk T.M_Desk_make_run (ok_Desk_make_run T) (hr.mono (by decide)) T.B_Desk_make_run .nil pass0) T.cl_Run T.M_Run_row_at (ok_Run_row_at T) (hr.mono (by decide)) T.B_Run_row_at .nil pass0 (pa_cons (pv 1) pa_nil)) pa_nil))))), ?_⟩
    obtain ⟨D, s', t, n, rfl, hD, kY, kN⟩ := h
    refine q_dropMeth (Evl.ev_var rfl) hD.ob (dF_no10 _ _) (Evl.ea_cons (Evl.ev_var rfl) Evl.ea_nil) fun H1 e1 => ⟨D, s', t, n, rfl, hD.mono e1, fun hn H2 e2 => ?_, fun hn H2 e2 => kN hn H2 (e1.trans e2)⟩
    have q := kY hn
    have en : n = ((n.toNat : Nat) : Int) := by unfold BadLine at hn; omega
    have rl := row_len (runOf s'.code s'.input) fun s => s.line == n.toNat
    have eq : natV (toldNats (valuesAt (runOf s'.code s'.input) n.toNat)) = .int ((natV (rowV (runOf s'.code s'.input) fun s => s.line == n.toNat)).length : Int) :: natV (rowV (runOf s'.code s'.input) fun s => s.line == n.toNat) := natV_nats _
    rw [eq] at q
    have D2 := hD.mono (e1.trans e2)
    refine Evl.s_retL (el_counted (el_row T (n := n.toNat) (x := runOf s'.code s'.input) (by rw [← en]; rfl) (te_run T rfl D2)) ?_) fun p H3 n3 e3 h3 => q p H3 (Evl.fresh_back (e1.trans e2) n3) ((e1.trans e2).trans e3) h3
    rw [natV_len]
    have := step_bound s'.code s'.input
    omega

def sp_Desk_tell_size (a : Ad) : Sp := fun vs H Q _ => ∃ (D : DA) (s : Vaslca.State) (t : Text), vs = [.ref D.o] ∧ DeskAt a H D s t ∧ RetNew (natV [(Vaslca.linesOf s.code).length, deepOf s.code, s.input.length, (runOf s.code s.input).steps.length]) H Q
theorem dF_no2 (p n : Addr) : (dF p n).lookup ("depth" : Str) = none := by kernel_rfl
theorem ok_Desk_tell_size (T : Facts K mg a) : FnOk P w K mg base CX0 18 a.f_Desk_tell_size a.d_Desk_tell_size ["self"] (sp_Desk_tell_size a) := by
  refine T.F_Desk_tell_size.ok sc_Desk_tell_size (fun vs H Q E h => ?_) (fun cdv A outer s H vs Q E hr h => ?_)
  · obtain ⟨D, s, t, rfl, _⟩ := h
    rfl
  · refine ⟨_, (pss_cons (ps_set (i := 1) sc_Desk_tell_size.nd rfl (Or.inl rfl) (pe_fld (pv 0) rfl))
    (pss_cons (ps_set (i := 2) sc_Desk_tell_size.nd rfl (Or.inl rfl) (pe_meth0 (pv 0) T.cl_Desk T.M_Desk_make_run (ok_Desk_make_run T) (hr.mono (by decide)) T.B_Desk_make_run .nil pass0))
    (pss_one (ps_ret (pe_lst (pa_cons (pe_callB call_len_seq (by rfl) T.b_len (by decide +kernel) (pa_cons (pe_fld (pv 1) rfl) pa_nil)) (pa_cons (pe_meth0 (pv 1) T.cl_Program T.M_Program_depth (ok_Program_depth T) (hr.mono (by decide)) T.B_Program_depth .nil pass0) (pa_cons (pe_callB call_len_seq (by rfl) T.b_len (by decide +kernel) (pa_cons (pe_fld (pv 0) rfl) pa_nil)) (pa_cons (pe_callB call_len_seq (by rfl) T.b_len (by decide +kernel) (pa_cons (pe_fld (pv 2) rfl) pa_nil)) pa_nil))))))))), ?_⟩
    obtain ⟨D, s', t, rfl, hD, q⟩ := h
    refine Evl.q_asg (ev_fld (Evl.ev_var rfl) hD.ob T.cl_Desk T.n_Desk_program (dF_program _ _)) fun H0 e0 => ?_
    have D0 := hD.mono e0
    refine q_asgMeth (Evl.ev_var rfl) D0.ob (dF_no1 _ _) Evl.ea_nil fun H1 e1 => ⟨D, s', t, rfl, D0.mono e1, fun M L H2 hM hR => ?_⟩
    have ex := (e0.trans e1).trans hR.ex
    have D2 := hD.mono ex
    obtain ⟨ps, s1, s2, s3⟩ := hR.sp
    refine Evl.s_retL (xs := natV [(Vaslca.linesOf s'.code).length, deepOf s'.code, s'.input.length, (runOf s'.code s'.input).steps.length]) (Evl.el_lst (Evl.ea_cons (ev_lenL (ev_fld (Evl.ev_var rfl) D2.pr.ob T.cl_Program T.n_Program_statements (pF_statements _ _ _ _)) D2.pr.sl (by rw [List.length_map]; exact D2.pr.len)) (Evl.ea_cons (ev_meth (Evl.ev_var rfl) D2.pr.ob (pF_depth _ _ _ _) Evl.ea_nil fun H3 e3 Q q E => ⟨D.R, t, s'.code, rfl, D2.pr.mono e3, hD.is, q⟩)
      (Evl.ea_cons (ev_lenL (ev_fld (Evl.ev_var rfl) D2.ob T.cl_Desk T.n_Desk_numbers (dF_numbers _ _)) D2.nu (natV_len _)) (Evl.ea_cons (ev_lenL (ev_fld (Evl.ev_var rfl) hR.ob T.cl_Run T.n_Run_steps (rF_steps _ _ _ _ _ _ _ _ _)) s1 (by rw [List.length_map, s2])) Evl.ea_nil)))) (by simp [natV])) fun p H3 n3 e3 h3 => q p H3 (Evl.fresh_back ex n3) (ex.trans e3) h3
end VP
set_option Elab.async false
set_option linter.all false
set_option maxRecDepth 100000
set_option maxHeartbeats 4000000
namespace VP
open PySem PySem.Spec PyProof.Rows L2 TL
open Vaslca (Text Name toldOption begin_ runOf valuesAt programOf toldText toldNats toldRun toldStep statusNumber)
open VO (Head Numbered)
open Evl (Ex Ev EvT EvA EvL EvU)
variable {P : Program} {w : World} {K : PySem.W.Frag} {mg : Str → Option Value} {base : Heap} {a : Ad}

section
variable {σ : L2.St} {H : Hp} {D : Ends} {tz : TS} {ta tv : TE} {p C dx : Addr} {f : Str} {fs fs' : List (Str × V)} {i j : Int}
theorem q_fldaug (ha : Ev ta σ H (.ref p)) (hp : H p = some (.ins C dx fs)) (hc : Cls K C) (hn : NoAttr K C f) (hl : fs.lookup f = some (.int i)) (hv : Ev tv σ H (.int j)) (hlen : fs.length < 1000) (hf : putF f (.int (i + j)) fs = fs')
    (k : ∀ H2, Fr p H H2 → H2 p = some (.ins C dx fs') → tz D σ H2) : tSeq (sFldAug K ta tv rAdd f) tz D σ H :=
  ha H (Ex.refl H) _ fun H1 e1 => ⟨p, C, dx, fs, .int i, rfl, e1 _ _ hp, hc, hn, hl, hv H1 e1 _ fun H2 e2 => ⟨i, j, rfl, rfl, dx, fs, (e1.trans e2) _ _ hp, hlen, k _ (Fr.of (e1.trans e2)).put (by rw [hf]; exact upd_same)⟩⟩
end
def sp_Desk_tell_trace (a : Ad) : Sp := fun vs H Q _ => ∃ (D : DA) (s : Vaslca.State) (t : Text), vs = [.ref D.o] ∧ DeskAt a H D s t ∧ RetNew (natV ((runOf s.code s.input).steps.length :: (runOf s.code s.input).steps.flatMap toldStep)) H Q
theorem told_len {s : Vaslca.Step} (h : s.uses.length ≤ 2) : (toldStep s).length ≤ 6 := by
  unfold toldStep toldNats
  simp
  omega
theorem told_many {l : List Vaslca.Step} (h : ∀ s ∈ l, s.uses.length ≤ 2) : (l.flatMap toldStep).length ≤ 6 * l.length := by
  induction l with
  | nil => simp
  | cons s r ih =>
    rw [List.flatMap_cons, List.length_append, List.length_cons]
    have := told_len (h s (by simp))
    have := ih fun x hx => h x (by simp [hx])
    omega
theorem ok_Desk_tell_trace (T : Facts K mg a) : FnOk P w K mg base CX0 18 a.f_Desk_tell_trace a.d_Desk_tell_trace ["self"] (sp_Desk_tell_trace a) := by
  refine T.F_Desk_tell_trace.ok sc_Desk_tell_trace (fun vs H Q E h => ?_) (fun cdv A outer s H vs Q E hr h => ?_)
  · obtain ⟨D, s, t, rfl, _⟩ := h
    rfl
  · refine ⟨_, (pss_cons (ps_set (i := 1) sc_Desk_tell_trace.nd rfl (Or.inl rfl) (pe_meth0 (pv 0) T.cl_Desk T.M_Desk_make_run (ok_Desk_make_run T) (hr.mono (by decide)) T.B_Desk_make_run .nil pass0))
    (pss_cons (ps_set (i := 2) sc_Desk_tell_trace.nd rfl (Or.inl rfl) (pe_lst (pa_cons (pe_callB call_len_seq (by rfl) T.b_len (by decide +kernel) (pa_cons (pe_fld (pv 1) rfl) pa_nil)) pa_nil)))
    (pss_cons (ps_for PassesOwn.never rfl (pi_list (pe_fld (pv 1) rfl)) (pg_name (i := 3) sc_Desk_tell_trace.nd rfl (Or.inl rfl))
    (pss_one (ps_expr (pe_bm PySem.F.plainAttrs_list PySem.F.slot_list_extend PySem.F.type_list_extend mt_extend (pv 2) (pa_cons (pe_call (ok_traced T) (hr.mono (by decide)) rfl T.g_traced T.F_traced.kp T.B_traced .nil pass0 (pa_cons (pv 3) pa_nil)) pa_nil)))))
    (pss_one (ps_ret (pv 2)))))), ?_⟩
    obtain ⟨D, s', t, rfl, hD, q⟩ := h
    obtain ⟨a1, a2, a3, a4, _⟩ := is_prog hD.is
    have uf := run_few (okC_of a1) s'.input
    refine q_asgMeth (Evl.ev_var rfl) hD.ob (dF_no1 _ _) Evl.ea_nil fun H1 e1 => ⟨D, s', t, rfl, hD.mono e1, fun M L H2 hM hR => ?_⟩
    have few := hR.few
    generalize runOf s'.code s'.input = x at uf hR few q
    have ex := e1.trans hR.ex
    obtain ⟨ps, s1, s2, s3⟩ := hR.sp
    refine Evl.q_asgL (xs := [.int (x.steps.length : Int)]) (Evl.el_lst (Evl.ea_cons (ev_lenL (ev_fld (Evl.ev_var rfl) hR.ob T.cl_Run T.n_Run_steps (rF_steps _ _ _ _ _ _ _ _ _)) s1 (by rw [List.length_map, s2])) Evl.ea_nil) (by simp)) fun p H3 n3 e3 h3 => ?_
    have R3 := hR.mono e3
    refine Evl.q_forLn (ev_fld (Evl.ev_var rfl) R3.ob T.cl_Run T.n_Run_steps (rF_steps _ _ _ _ _ _ _ _ _)) (Evl.sq_of (e3 _ _ s1)) (fun i σ' H' => ∃ v : Option V, σ' = [some (.ref D.o), some (.ref M.o), some (.ref p), v] ∧ Ex H2 H' ∧ H' p = some (.lst (natV (x.steps.length :: (x.steps.take i).flatMap toldStep))))
      (fun H4 e4 => ⟨none, rfl, e3.trans e4, by rw [e4 _ _ h3]; rfl⟩) (fun i σ' H' _ ⟨_, _, e, _⟩ => Evl.sq_of (e _ _ s1)) (fun i y σ' H' hi ⟨v, es, e, hp⟩ => ?_) (fun σ' H' ⟨v, es, e, hp⟩ => ?_)
    · subst es
      obtain ⟨pa, st, rfl, hs, hg, hm, so⟩ := step_of (H0 := H1) (L := L) (b := x.steps.length) s2 s3 hi
      have u2 := uf st hm
      have lt := (List.getElem?_eq_some_iff.mp hs).1
      have tm := told_many (l := x.steps.take i) fun s hs => uf s (List.mem_of_mem_take hs)
      have tl : (x.steps.take i).length ≤ 120 := by rw [List.length_take]; omega
      have np : H2 p = none := n3
      have so' := so.mono e
      refine s_extL hp (Evl.ev_var rfl) (Evl.el_call (Evl.ea_cons (Evl.ev_var rfl) Evl.ea_nil) (sl_traced so' u2)) (by have := told_len u2; simp only [natV_len, List.length_cons]; omega) fun r2 H6 n6 e6 h6 => ?_
      refine ⟨_, rfl, Ex.mut (e.trans e6) np, ?_⟩
      rw [upd_same, List.take_add_one, hs, List.flatMap_append, ← natV_app]
      congr 2
      simp
    · subst es
      rw [List.length_map, s2, List.take_length] at hp
      exact Evl.s_ret (Evl.ev_var rfl) fun H4 e4 => q p H4 (Evl.fresh_back ex n3) ((ex.trans e).trans e4) (e4 _ _ hp)

/-! # The reader of the calls -/
def cF (l : Addr) (n : Nat) : List (Str × V) := [("calls", .ref l), ("place", .int (n : Int))]
theorem cF_calls (l : Addr) (n : Nat) : (cF l n).lookup ("calls" : Str) = some (.ref l) := by kernel_rfl
theorem cF_place (l : Addr) (n : Nat) : (cF l n).lookup ("place" : Str) = some (.int (n : Int)) := by kernel_rfl
theorem cF_put (l : Addr) (n m : Nat) : putF "place" (.int (m : Int)) (cF l n) = cF l m := by kernel_rfl
theorem cF_len (l : Addr) (n : Nat) : (cF l n).length < 1000 := by simp [cF]
theorem cF_no1 (l : Addr) (n : Nat) : (cF l n).lookup ("take_number" : Str) = none := by kernel_rfl
theorem cF_no2 (l : Addr) (n : Nat) : (cF l n).lookup ("take_row" : Str) = none := by kernel_rfl
theorem cF_no3 (l : Addr) (n : Nat) : (cF l n).lookup ("has_more" : Str) = none := by kernel_rfl
structure CAd where
  o : Addr
  dx : Addr
  l : Addr
/-- the reader, and the list of the calls, which stands since H0 -/
structure RdAt (K : PySem.W.Frag) (a : Ad) (H0 H : Hp) (C : CAd) (ns : List Int) (n : Nat) : Prop where
  ob : H C.o = some (.ins a.C_CallReader C.dx (cF C.l n))
  ex : Ex H0 H
  no : H0 C.o = none
  cl0 : SqL K H0 C.l (ns.map V.int)
  sz : ns.length ≤ 17000
section
variable {H0 H H' : Hp} {C : CAd} {ns : List Int} {n m : Nat}
theorem RdAt.cl (h : RdAt K a H0 H C ns n) : SqL K H C.l (ns.map V.int) := Evl.ex_l h.ex h.cl0
theorem RdAt.mono (h : RdAt K a H0 H C ns n) (e : Ex H H') : RdAt K a H0 H' C ns n := ⟨e _ _ h.ob, h.ex.trans e, h.no, h.cl0, h.sz⟩
theorem ex_fr {q : Addr} (e : Ex H0 H) (no : H0 q = none) (f : Fr q H H') : Ex H0 H' := fun b o hb => f b o (e b o hb) (ne_some hb no)
theorem RdAt.go (h : RdAt K a H0 H C ns n) (f : Fr C.o H H') (ob : H' C.o = some (.ins a.C_CallReader C.dx (cF C.l m))) : RdAt K a H0 H' C ns m := ⟨ob, ex_fr h.ex h.no f, h.no, h.cl0, h.sz⟩
theorem RdAt.keep {q : Addr} (h : RdAt K a H0 H C ns n) (f : Fr q H H') (n1 : C.o ≠ q) (n2 : H0 q = none) : RdAt K a H0 H' C ns n := ⟨f _ _ h.ob n1, ex_fr h.ex n2 f, h.no, h.cl0, h.sz⟩
end
def sp_CallReader_init {K : PySem.W.Frag} (a : Ad) : Sp := fun vs H Q _ => ∃ (H0 : Hp) (p dx l : Addr) (ns : List Int), vs = [.ref p, .ref l] ∧ H p = some (.ins a.C_CallReader dx []) ∧ Ex H0 H ∧ H0 p = none ∧ SqL K H0 l (ns.map V.int) ∧ ns.length ≤ 17000 ∧ ∀ H', Fr p H H' → RdAt K a H0 H' ⟨p, dx, l⟩ ns 0 → Q .non H'
theorem ok_CallReader_init (T : Facts K mg a) : FnOk P w K mg base CX0 1 a.f_CallReader_init a.d_CallReader_init ["self", "calls"] (sp_CallReader_init (K := K) a) := by
  refine T.F_CallReader_init.ok sc_CallReader_init (fun vs H Q E h => ?_) (fun cdv A outer s H vs Q E hr h => ?_)
  · obtain ⟨H0, p, dx, l, ns, rfl, _⟩ := h
    rfl
  · refine ⟨_, (pss_cons (ps_fld (pv 0) (pv 1) rfl)
    (pss_one (ps_fld (pv 0) pe_int rfl))), ?_⟩
    obtain ⟨H0, p, dx, l, ns, rfl, hp, ex0, np, hl, hz, q⟩ := h
    refine q_fld (Evl.ev_var rfl) (Evl.ev_var rfl) hp T.cl_CallReader T.n_CallReader_calls (by simp) (fs' := [("calls", .ref l)]) (by kernel_rfl) fun H1 f1 h1 => ?_
    refine s_fld (y := .int ((0 : Nat) : Int)) Evl.ev_c (Evl.ev_var rfl) h1 T.cl_CallReader T.n_CallReader_place (by simp) (fs' := cF l 0) (by kernel_rfl) fun H2 f2 h2 => ?_
    exact q H2 (f1.trans f2) ⟨h2, ex_fr ex0 np (f1.trans f2), np, hl, hz⟩
def sp_CallReader_has_more {K : PySem.W.Frag} (a : Ad) : Sp := fun vs H Q _ => ∃ (H0 : Hp) (C : CAd) (ns : List Int) (n : Nat), vs = [.ref C.o] ∧ RdAt K a H0 H C ns n ∧ ∀ H', Ex H H' → Q (.bl (decide (n < ns.length))) H'
theorem ok_CallReader_has_more (T : Facts K mg a) : FnOk P w K mg base CX0 1 a.f_CallReader_has_more a.d_CallReader_has_more ["self"] (sp_CallReader_has_more (K := K) a) := by
  refine T.F_CallReader_has_more.ok sc_CallReader_has_more (fun vs H Q E h => ?_) (fun cdv A outer s H vs Q E hr h => ?_)
  · obtain ⟨H0, C, ns, n, rfl, _⟩ := h
    rfl
  · refine ⟨_, (pss_one (ps_ret (pe_cmpR op_lt (pe_fld (pv 0) rfl) (pe_callB call_len_seq (by rfl) T.b_len (by decide +kernel) (pa_cons (pe_fld (pv 0) rfl) pa_nil)) (nomark _)))), ?_⟩
    obtain ⟨H0, C, ns, n, rfl, hC, q⟩ := h
    have len : Ev (tCB (Evl.rLenS K) (tCons (tFld K (tVar 0) "calls") tNil)) [some (.ref C.o)] H (.int (ns.length : Int)) := Evl.ev_is (Evl.ev_len (K := K) (ev_fld (Evl.ev_var rfl) hC.ob T.cl_CallReader T.n_CallReader_calls (cF_calls _ _)) hC.cl) (by rw [List.length_map])
    exact Evl.s_ret (Evl.ev_is (Evl.ev_op (ev_fld (Evl.ev_var rfl) hC.ob T.cl_CallReader T.n_CallReader_place (cF_place _ _)) len Evl.rv_I0) (by congr 1; exact decide_eq_decide.mpr (by omega))) q
def sp_CallReader_take_number {K : PySem.W.Frag} (a : Ad) : Sp := fun vs H Q _ => ∃ (H0 : Hp) (C : CAd) (ns : List Int) (n : Nat) (z : Int), vs = [.ref C.o] ∧ RdAt K a H0 H C ns n ∧ ns[n]? = some z ∧ ∀ H', Fr C.o H H' → RdAt K a H0 H' C ns (n + 1) → Q (.int z) H'
theorem ok_CallReader_take_number (T : Facts K mg a) : FnOk P w K mg base CX0 1 a.f_CallReader_take_number a.d_CallReader_take_number ["self"] (sp_CallReader_take_number (K := K) a) := by
  refine T.F_CallReader_take_number.ok sc_CallReader_take_number (fun vs H Q E h => ?_) (fun cdv A outer s H vs Q E hr h => ?_)
  · obtain ⟨H0, C, ns, n, z, rfl, _⟩ := h
    rfl
  · refine ⟨_, (pss_cons (ps_set (i := 1) sc_CallReader_take_number.nd rfl (Or.inl rfl) (pe_ix ix_list (pe_fld (pv 0) rfl) (pe_fld (pv 0) rfl) (fun _ _ => rfl)))
    (pss_cons (ps_fldaug (pv 0) pe_int in_add)
    (pss_one (ps_ret (pv 1))))), ?_⟩
    obtain ⟨H0, C, ns, n, z, rfl, hC, hz, q⟩ := h
    refine Evl.q_asg (v := .int z) (Evl.ev_op (ev_fld (Evl.ev_var rfl) hC.ob T.cl_CallReader T.n_CallReader_calls (cF_calls _ _)) (ev_fld (Evl.ev_var rfl) hC.ob T.cl_CallReader T.n_CallReader_place (cF_place _ _)) (Evl.rv_ixL hC.cl (atI_nat (by rw [List.getElem?_map, hz]; rfl)))) fun H1 e1 => ?_
    refine q_fldaug (i := (n : Int)) (j := 1) (fs' := cF C.l (n + 1)) (Evl.ev_var rfl) (e1 _ _ hC.ob) T.cl_CallReader T.n_CallReader_place (cF_place _ _) Evl.ev_c (cF_len _ _) (cF_put _ _ (n + 1)) fun H2 f2 h2 => ?_
    exact Evl.s_ret (Evl.ev_var rfl) fun H3 e3 => q H3 ((Fr.of e1).trans (f2.trans (Fr.of e3))) (hC.go ((Fr.of e1).trans (f2.trans (Fr.of e3))) (e3 _ _ h2))
def sp_CallReader_take_row {K : PySem.W.Frag} (a : Ad) : Sp := fun vs H Q _ => ∃ (H0 : Hp) (C : CAd) (ns : List Int) (n k : Nat), vs = [.ref C.o] ∧ RdAt K a H0 H C ns n ∧ ns[n]? = some (k : Int) ∧ n + 1 + k ≤ ns.length ∧ ∀ r H', Fr C.o H H' → H r = none → H' r = some (.lst (((ns.drop (n + 1)).take k).map V.int)) → RdAt K a H0 H' C ns (n + 1 + k) → Q (.ref r) H'
theorem ok_CallReader_take_row (T : Facts K mg a) : FnOk P w K mg base CX0 2 a.f_CallReader_take_row a.d_CallReader_take_row ["self"] (sp_CallReader_take_row (K := K) a) := by
  refine T.F_CallReader_take_row.ok sc_CallReader_take_row (fun vs H Q E h => ?_) (fun cdv A outer s H vs Q E hr h => ?_)
  · obtain ⟨H0, C, ns, n, k, rfl, _⟩ := h
    rfl
  · refine ⟨_, (pss_cons (ps_set (i := 1) sc_CallReader_take_row.nd rfl (Or.inl rfl) (pe_meth0 (pv 0) T.cl_CallReader T.M_CallReader_take_number (ok_CallReader_take_number T) (hr.mono (by decide)) T.B_CallReader_take_number .nil pass0))
    (pss_cons (ps_set (i := 2) sc_CallReader_take_row.nd rfl (Or.inl rfl) (pe_slice sl_list (pe_fld (pv 0) rfl) (po_some (pe_fld (pv 0) rfl)) (po_some (pe_op op_add (pe_fld (pv 0) rfl) (pv 1)))))
    (pss_cons (ps_fldaug (pv 0) (pv 1) in_add)
    (pss_one (ps_ret (pv 2)))))), ?_⟩
    obtain ⟨H0, C, ns, n, k, rfl, hC, hz, hk, q⟩ := h
    refine q_asgMeth (Evl.ev_var rfl) hC.ob (cF_no1 _ _) Evl.ea_nil fun H1 e1 => ⟨H0, C, ns, n, (k : Int), rfl, hC.mono e1, hz, fun H2 f2 R2 => ?_⟩
    have xs0 : cutV (ns.map V.int) (some ((n + 1 : Nat) : Int)) (some ((n + 1 + k : Nat) : Int)) = ((ns.drop (n + 1)).take k).map V.int := by
      unfold cutV
      rw [HT.sIx_nat, HT.sIx_nat, List.length_map, Nat.min_eq_left (by omega), Nat.min_eq_left (by omega), List.map_take, List.map_drop]
      congr 1
      omega
    refine Evl.q_asgL (el_is (Evl.el_sl (ev_fld (Evl.ev_var rfl) R2.ob T.cl_CallReader T.n_CallReader_calls (cF_calls _ _)) (Evl.eo_some (ev_fld (Evl.ev_var rfl) R2.ob T.cl_CallReader T.n_CallReader_place (cF_place _ _))) (Evl.eo_some (Evl.ev_op (ev_fld (Evl.ev_var rfl) R2.ob T.cl_CallReader T.n_CallReader_place (cF_place _ _)) (Evl.ev_var rfl) Evl.rv_I0)) R2.cl) xs0) fun r H3 n3 e3 h3 => ?_
    have R3 := R2.mono e3
    refine q_fldaug (i := ((n + 1 : Nat) : Int)) (j := (k : Int)) (fs' := cF C.l (n + 1 + k)) (Evl.ev_var rfl) R3.ob T.cl_CallReader T.n_CallReader_place (cF_place _ _) (Evl.ev_var rfl) (cF_len _ _) (cF_put _ _ (n + 1 + k)) fun H4 f4 h4 => ?_
    have ro : r ≠ C.o := by
      rintro rfl
      rw [R2.ob] at n3
      cases n3
    have f04 : Fr C.o H H4 := (Fr.of e1).trans (f2.trans ((Fr.of e3).trans f4))
    have n0 : H r = none := Evl.fresh_back e1 (f2.free' ro n3)
    exact Evl.s_ret (Evl.ev_var rfl) fun H5 e5 => q r H5 (f04.trans (Fr.of e5)) n0 (e5 _ _ (f4 _ _ h3 ro)) (R3.go (f4.trans (Fr.of e5)) (e5 _ _ h4))
end VP
set_option Elab.async false
set_option linter.all false
set_option maxRecDepth 100000
set_option maxHeartbeats 4000000
namespace VP
open PySem PySem.Spec PyProof.Rows L2 TL
open Vaslca (Text Name toldOption begin_ runOf valuesAt programOf toldText toldTexts toldNats toldRun toldStep statusNumber isName isAtom atomText)
open VO (Head Numbered)
open Evl (Ex Ev EvT EvA EvL EvU)
variable {P : Program} {w : World} {K : PySem.W.Frag} {mg : Str → Option Value} {base : Heap} {a : Ad}

/-! # what a statement names -/
theorem stms_heads : ∀ (c : Vaslca.Code) (h : List Nat), okC c = true → ∀ s ∈ stmsOf h c, ∃ hd : Head, hd.ok = true ∧ IsOf s hd
  | .done, _, _, s, hs => by simp [stmsOf] at hs
  | .set n v e r, h, ok, s, hs => by
    simp only [okC, Bool.and_eq_true] at ok
    simp only [stmsOf, List.mem_cons] at hs
    rcases hs with rfl | hs
    · exact ⟨.set v e, ok.1, ⟨rfl, rfl, rfl, rfl, rfl⟩⟩
    · exact stms_heads r h ok.2 s hs
  | .read n v r, h, ok, s, hs => by
    simp only [okC, Bool.and_eq_true] at ok
    simp only [stmsOf, List.mem_cons] at hs
    rcases hs with rfl | hs
    · exact ⟨.read v, ok.1, ⟨rfl, rfl, rfl, rfl, rfl⟩⟩
    · exact stms_heads r h ok.2 s hs
  | .write n t r, h, ok, s, hs => by
    simp only [okC, Bool.and_eq_true] at ok
    simp only [stmsOf, List.mem_cons] at hs
    rcases hs with rfl | hs
    · exact ⟨.write t, ok.1, ⟨rfl, rfl, rfl, rfl, rfl⟩⟩
    · exact stms_heads r h ok.2 s hs
  | .halt_ n r, h, ok, s, hs => by
    simp only [okC, Bool.and_eq_true] at ok
    simp only [stmsOf, List.mem_cons] at hs
    rcases hs with rfl | hs
    · exact ⟨.halt, ok.1, ⟨rfl, rfl, rfl, rfl, rfl⟩⟩
    · exact stms_heads r h ok.2 s hs
  | .ite n c p q r, h, ok, s, hs => by
    simp only [okC, Bool.and_eq_true] at ok
    simp only [stmsOf, List.mem_cons, List.mem_append] at hs
    rcases hs with rfl | hs | hs | hs
    · exact ⟨.ite c, ok.1, ⟨rfl, rfl, rfl, rfl, rfl⟩⟩
    · exact stms_heads p _ ok.2.1 s hs
    · exact stms_heads q _ ok.2.2.1 s hs
    · exact stms_heads r h ok.2.2.2 s hs
  | .loop n c p r, h, ok, s, hs => by
    simp only [okC, Bool.and_eq_true] at ok
    simp only [stmsOf, List.mem_cons, List.mem_append] at hs
    rcases hs with rfl | hs | hs
    · exact ⟨.loop c, ok.1, ⟨rfl, rfl, rfl, rfl, rfl⟩⟩
    · exact stms_heads p _ ok.2.1 s hs
    · exact stms_heads r h ok.2.2 s hs
theorem namesIn_name (ws : List Text) : ∀ t ∈ namesIn ws, isName t = true := by
  have : ∀ (l acc : List Text), (∀ t ∈ acc, isName t = true) → ∀ t ∈ l.foldl (fun acc w => if (isName w && !acc.contains w) = true then acc ++ [w] else acc) acc, isName t = true := by
    intro l
    induction l with
    | nil => intro acc h; exact h
    | cons x r ih =>
      intro acc h
      rw [List.foldl_cons]
      refine ih _ ?_
      split
      · rename_i q
        rw [Bool.and_eq_true] at q
        intro t ht
        rcases List.mem_append.mp ht with z | z
        · exact h t z
        · have : t = x := by simpa using z
          rw [this]
          exact q.1
      · exact h
  exact this ws [] (fun t ht => by cases ht)
theorem stm_names {h : Head} : ∀ t ∈ (stmOf h).names, isName t = true := by
  cases h <;> exact namesIn_name _
theorem stm_small {s : Stm} {h : Head} (k : h.ok = true) (o : IsOf s h) : s.sets.length ≤ 4 ∧ s.names.length ≤ 2 ∧ ∀ t ∈ s.names, t.length ≤ 4 := by
  rw [o.sets, o.names]
  refine ⟨?_, names_len h, fun t ht => name_len (stm_names t ht)⟩
  cases h with
  | set v e =>
    simp only [Head.ok, Bool.and_eq_true] at k
    exact name_len k.1
  | read v => exact name_len k
  | _ => simp [stmOf, rowStm]
theorem step_names {st : List Stm} {s : Vaslca.Step} (hst : ∀ u ∈ st, ∃ hd : Head, hd.ok = true ∧ IsOf u hd) (h : UseAt st s) : ∀ t ∈ s.uses.map (fun y => y.name), t.length ≤ 100 := by
  obtain ⟨u, h1, h2⟩ := h
  rw [h2]
  obtain ⟨hd, k, o⟩ := hst u (List.mem_of_getElem? h1)
  unfold usesS
  split
  · intro t ht
    have : t = [] := by simpa using ht
    rw [this]
    exact Nat.zero_le _
  · intro t ht
    have := (stm_small k o).2.2 t ht
    omega
theorem told_texts_len {ws : List Text} (h1 : ws.length ≤ 2) (h2 : ∀ t ∈ ws, t.length ≤ 100) : (toldTexts ws).length ≤ 300 := by
  have := texts_len h2
  unfold toldTexts
  rw [List.length_cons]
  omega

/-! # one step -/
def sp_Desk_tell_step (a : Ad) : Sp := fun vs H Q E => ∃ (D : DA) (s : Vaslca.State) (t : Text) (i : Int), vs = [.ref D.o, .int i] ∧ DeskAt a H D s t ∧
  (∀ x, ¬ i < 0 → (runOf s.code s.input).steps[i.toNat]? = some x → RetNew (natV (toldStep x ++ toldTexts (x.uses.map fun u => u.name))) H Q) ∧ ((i < 0 ∨ (runOf s.code s.input).steps[i.toNat]? = none) → ∀ H', Ex H H' → E (.ref a.C_NoSuchStep) none H')
theorem ok_Desk_tell_step (T : Facts K mg a) : FnOk P w K mg base (L2.CX P w) 18 a.f_Desk_tell_step a.d_Desk_tell_step ["self", "number"] (sp_Desk_tell_step a) := by
  refine T.F_Desk_tell_step.okX sc_Desk_tell_step (fun vs H Q E h => ?_) (fun cdv A outer s H vs Q E hr h => ?_)
  · obtain ⟨D, s, t, i, rfl, _⟩ := h
    rfl
  · refine ⟨_, (pss_cons (ps_set (i := 2) sc_Desk_tell_step.nd rfl (Or.inl rfl) (pe_meth0 (pv 0) T.cl_Desk T.M_Desk_make_run (ok_Desk_make_run T) (hr.mono (by decide)) T.B_Desk_make_run .nil pass0))
    (pss_cons (ps_if (PW.pt (pw_or (pt_cmpR op_lt (pv 1) pe_int (nomark _)) (pw_or1 (pt_cmpR op_ge (pv 1) (pe_callB call_len_seq (by rfl) T.b_len (by decide +kernel) (pa_cons (pe_fld (pv 2) rfl) pa_nil)) (nomark _)))))
    (pss_one (ps_raise rfl (takes_of rfl rfl rfl rfl) (pmk_own0 PySem.F.excBase_Exception T.x_NoSuchStep.x T.x_NoSuchStep.g T.x_NoSuchStep.k (raises_own T.x_NoSuchStep.b T.x_NoSuchStep.t) (by exact rfl))))
    pss_nil)
    (pss_cons (ps_set (i := 3) sc_Desk_tell_step.nd rfl (Or.inl rfl) (pe_ix ix_list (pe_fld (pv 2) rfl) (pv 1) (fun _ _ => rfl)))
    (pss_one (ps_ret (pe_op op_cat (pe_call (ok_traced T) (hr.mono (by decide)) rfl T.g_traced T.F_traced.kp T.B_traced .nil pass0 (pa_cons (pv 3) pa_nil)) (pe_call (ok_counted_texts T) (hr.mono (by decide)) rfl T.g_counted_texts T.F_counted_texts.kp T.B_counted_texts .nil pass0 (pa_cons (pe_meth (pv 2) T.cl_Run T.M_Run_uses_of (ok_Run_uses_of T) (hr.mono (by decide)) T.B_Run_uses_of .nil pass0 (pa_cons (pv 3) pa_nil)) pa_nil)))))))), ?_⟩
    obtain ⟨D, s', t, i, rfl, hD, kY, kN⟩ := h
    obtain ⟨a1, a2, a3, a4, _⟩ := is_prog hD.is
    have uf := run_few (okC_of a1) s'.input
    have lin := line_in hD.is s'.input
    have useAt : ∀ x ∈ (runOf s'.code s'.input).steps, UseAt (stmsOf [] s'.code) x := fun x hx => by
      have f0 := fits_only (List.range (Vaslca.linesOf s'.code).length) (fits_all (stmsOf [] s'.code) s'.code [] 0 a2 fun i s hs => by rw [Nat.zero_add]; exact hs)
      rw [all_alone hD.is] at f0
      rcases gives_line s'.code [] none (begin_ s'.input) (okC_of a1) f0 x hx with q | q
      · cases q
      · exact q
    have heads := stms_heads s'.code [] (okC_of a1)
    refine q_asgMeth (Evl.ev_var rfl) hD.ob (dF_no1 _ _) Evl.ea_nil fun H1 e1 => ⟨D, s', t, rfl, hD.mono e1, fun M L H2 hM hR => ?_⟩
    have few := hR.few
    have ps0 := (hD.mono e1).pr.ps
    generalize runOf s'.code s'.input = x at uf lin useAt hR few kY kN
    have ex := e1.trans hR.ex
    obtain ⟨ps, s1, s2, s3⟩ := hR.sp
    refine Evl.q_when (b := decide (i < 0) || decide ((x.steps.length : Int) ≤ i)) (Evl.et_or (Evl.et_test (Evl.ev_op (Evl.ev_var rfl) Evl.ev_c Evl.rv_I0)) fun _ => Evl.et_test (Evl.ev_op (Evl.ev_var rfl) (ev_lenL (ev_fld (Evl.ev_var rfl) hR.ob T.cl_Run T.n_Run_steps (rF_steps _ _ _ _ _ _ _ _ _)) s1 (by rw [List.length_map, s2])) rv_ge)) (fun hb H3 e3 => ?_) (fun hb H3 e3 => ?_)
    · refine kN ?_ H3 (ex.trans e3)
      simp at hb
      rcases hb with z | z
      · exact Or.inl z
      · right
        rw [List.getElem?_eq_none_iff]
        omega
    · simp at hb
      obtain ⟨n, rfl⟩ : ∃ n : Nat, i = (n : Int) := ⟨i.toNat, by omega⟩
      have ln : n < x.steps.length := by omega
      have hs : x.steps[n]? = some x.steps[n] := List.getElem?_eq_getElem ln
      have q := kY x.steps[n] (by omega) (by rw [Int.toNat_natCast]; exact hs)
      have mem : x.steps[n] ∈ x.steps := List.getElem_mem _
      generalize x.steps[n] = st at hs q mem
      obtain ⟨p, hp⟩ : ∃ p, ps[n]? = some p := ⟨_, List.getElem?_eq_getElem (by omega)⟩
      have R3 := hR.mono e3
      have so : StepOk a H3 M p st := (s3 n p st hp hs).mono e3
      refine Evl.q_asg (v := .ref p) (Evl.ev_op (ev_fld (Evl.ev_var rfl) R3.ob T.cl_Run T.n_Run_steps (rF_steps _ _ _ _ _ _ _ _ _)) (Evl.ev_var rfl) (Evl.rv_ixL (Evl.sq_of (e3 _ _ s1)) (atI_nat (by rw [List.getElem?_map, hp]; rfl)))) fun H4 e4 => ?_
      have R4 := R3.mono e4
      have so4 := so.mono e4
      have u2 := uf st mem
      have ul : (st.uses.map fun y => y.name).length ≤ 2 := by rw [List.length_map]; exact u2
      have un := step_names heads (useAt st mem)
      have tl := told_len u2
      have t2 := told_texts_len ul un
      rw [natV_app] at q
      refine Evl.s_retL (el_catLL (Evl.el_call (Evl.ea_cons (Evl.ev_var rfl) Evl.ea_nil) (sl_traced so4 u2)) (el_counted_texts (el_meth (Evl.ev_var rfl) R4.ob (rF_no12 _ _ _ _ _ _ _ _ _) (Evl.ea_cons (Evl.ev_var rfl) Evl.ea_nil) fun H5 e5 Q q E => ⟨H1, M, x, L, _, stmsOf [] s'.code, p, st, rfl, R4.mono e5, by rw [hM]; exact ps0, so4.mono e5, useAt st mem, q⟩) (by omega) un) (by rw [natV_len, natV_len]; omega)) fun r H5 n5 e5 h5 => q r H5 (Evl.fresh_back ((ex.trans e3).trans e4) n5) (((ex.trans e3).trans e4).trans e5) h5

/-! # one line -/
def sp_Desk_tell_statement (a : Ad) : Sp := fun vs H Q E => ∃ (D : DA) (s : Vaslca.State) (t : Text) (n : Int), vs = [.ref D.o, .int n] ∧ DeskAt a H D s t ∧
  (∀ i, ¬ BadLine s.code n → Vaslca.infoAt s.code n.toNat = some i → RetNew (natV (i.kind :: (toldText (i.sets.getD []) ++ (toldTexts i.uses ++ toldNats i.around)))) H Q) ∧ (BadLine s.code n → ∀ H', Ex H H' → E (.ref a.C_NoSuchLine) none H')
theorem ok_Desk_tell_statement (T : Facts K mg a) : FnOk P w K mg base (L2.CX P w) 4 a.f_Desk_tell_statement a.d_Desk_tell_statement ["self", "line"] (sp_Desk_tell_statement a) := by
  refine T.F_Desk_tell_statement.okX sc_Desk_tell_statement (fun vs H Q E h => ?_) (fun cdv A outer s H vs Q E hr h => ?_)
  · obtain ⟨D, s, t, n, rfl, _⟩ := h
    rfl
  · refine ⟨_, (pss_cons (ps_expr (pe_meth (pv 0) T.cl_Desk T.M_Desk_check_line (ok_Desk_check_line T) (hr.mono (by decide)) T.B_Desk_check_line .nil (passes_call (takes_of rfl rfl rfl rfl) (fun _ _ _ _ h => h)) (pa_cons (pv 1) pa_nil)))
    (pss_cons (ps_set (i := 2) sc_Desk_tell_statement.nd rfl (Or.inl rfl) (pe_ix ix_list (pe_fld (pe_fld (pv 0) rfl) rfl) (pv 1) (fun _ _ => rfl)))
    (pss_cons (ps_set (i := 3) sc_Desk_tell_statement.nd rfl (Or.inl rfl) (pe_op op_cat (pe_lst (pa_cons (pe_fld (pv 2) rfl) pa_nil)) (pe_call (ok_counted_text T) (hr.mono (by decide)) rfl T.g_counted_text T.F_counted_text.kp T.B_counted_text .nil pass0 (pa_cons (pe_fld (pv 2) rfl) pa_nil))))
    (pss_one (ps_ret (pe_op op_cat (pe_op op_cat (pv 3) (pe_call (ok_counted_texts T) (hr.mono (by decide)) rfl T.g_counted_texts T.F_counted_texts.kp T.B_counted_texts .nil pass0 (pa_cons (pe_fld (pv 2) rfl) pa_nil))) (pe_call (ok_counted T) (hr.mono (by decide)) rfl T.g_counted T.F_counted.kp T.B_counted .nil pass0 (pa_cons (pe_fld (pv 2) rfl) pa_nil)))))))), ?_⟩
    obtain ⟨D, s', t, n, rfl, hD, kY, kN⟩ := h
    obtain ⟨a1, a2, a3, a4, _⟩ := is_prog hD.is
    refine q_dropMeth (Evl.ev_var rfl) hD.ob (dF_no10 _ _) (Evl.ea_cons (Evl.ev_var rfl) Evl.ea_nil) fun H1 e1 => ⟨D, s', t, n, rfl, hD.mono e1, fun hn H2 e2 => ?_, fun hn H2 e2 => kN hn H2 (e1.trans e2)⟩
    obtain ⟨m, rfl⟩ : ∃ m : Nat, n = (m : Int) := ⟨n.toNat, by unfold BadLine at hn; omega⟩
    have hm : m < (stmsOf [] s'.code).length := by
      rw [stms_len]
      unfold BadLine at hn
      omega
    have hs : (stmsOf [] s'.code)[m]? = some (stmsOf [] s'.code)[m] := List.getElem?_eq_getElem hm
    have mem : (stmsOf [] s'.code)[m] ∈ stmsOf [] s'.code := List.getElem_mem _
    generalize (stmsOf [] s'.code)[m] = st at hs mem
    have q := kY (infoS m st) hn (by rw [Int.toNat_natCast, info_at (okC_of a1) a2, hs]; rfl)
    have eq : natV ((infoS m st).kind :: (toldText ((infoS m st).sets.getD []) ++ (toldTexts (infoS m st).uses ++ toldNats (infoS m st).around))) = (([V.int (st.kind : Int)] ++ natV (toldText st.sets)) ++ natV (toldTexts st.names)) ++ (.int ((natV st.headers).length : Int) :: natV st.headers) := by
      show natV (st.kind :: (toldText ((setO st.sets).getD []) ++ (toldTexts st.names ++ toldNats st.headers))) = _
      rw [setO_getD, ← natV_nats, List.append_assoc, List.append_assoc, ← natV_app, ← natV_app]
      rfl
    rw [eq] at q
    obtain ⟨hd, ok, o⟩ := stms_heads s'.code [] (okC_of a1) st mem
    obtain ⟨z1, z2, z3⟩ := stm_small ok o
    have z4 := (deep_stms s'.code [] a1).1 st mem
    rw [List.length_nil] at z4
    have zn : ∀ u ∈ st.names, u.length ≤ 100 := fun u hu => by have := z3 u hu; omega
    have t2 := told_texts_len z2 zn
    have ts : (toldText st.sets).length ≤ 5 := by unfold toldText; simp; omega
    have e02 := e1.trans e2
    have D2 := hD.mono e02
    obtain ⟨r, hr'⟩ : ∃ r, D2.pr.ps.ex.choose[m]? = some r := ⟨_, List.getElem?_eq_getElem (by rw [D2.pr.ps.ex.choose_spec.2.1]; exact hm)⟩
    obtain ⟨p1, p2, p3⟩ := D2.pr.ps.ex.choose_spec
    have s2 : StmAt a H2 r st := p3 m r st hr' hs
    refine Evl.q_asg (v := .ref r.o) (Evl.ev_op (ev_fld (ev_fld (Evl.ev_var rfl) D2.ob T.cl_Desk T.n_Desk_program (dF_program _ _)) D2.pr.ob T.cl_Program T.n_Program_statements (pF_statements _ _ _ _)) (Evl.ev_var rfl) (Evl.rv_ixL (Evl.sq_of p1) (atI_nat (by rw [List.getElem?_map, hr']; rfl)))) fun H3 e3 => ?_
    have s3 := s2.mono e3
    refine Evl.q_asgL (el_catLL (Evl.el_lst (Evl.ea_cons (ev_fld (Evl.ev_var rfl) s3.o T.cl_Statement T.n_Statement_kind (stF_kind _ _)) Evl.ea_nil) (by simp)) (Evl.el_call (Evl.ea_cons (ev_fld (Evl.ev_var rfl) s3.o T.cl_Statement T.n_Statement_sets (stF_sets _ _)) Evl.ea_nil) (sl_counted_text (t := st.sets) (by omega))) (by rw [natV_len, List.length_singleton]; omega)) fun p H4 n4 e4 h4 => ?_
    have s4 := s3.mono e4
    have l4 : ([V.int (st.kind : Int)] ++ natV (toldText st.sets)).length ≤ 10 := by rw [List.length_append, List.length_singleton, natV_len]; omega
    have hh : (natV st.headers).length ≤ 3 := by rw [natV_len]; omega
    refine Evl.s_retL (el_catLL (el_catVL (Evl.ev_var rfl) h4 (Evl.el_call (Evl.ea_cons (ev_fld (Evl.ev_var rfl) s4.o T.cl_Statement T.n_Statement_names (stF_names _ _)) Evl.ea_nil) (sl_counted_texts s4.nm (by omega) zn)) (by rw [natV_len]; omega)) (Evl.el_call (Evl.ea_cons (ev_fld (Evl.ev_var rfl) s4.o T.cl_Statement T.n_Statement_headers (stF_headers _ _)) Evl.ea_nil) (sl_counted s4.hd (by omega))) (by rw [List.length_append, natV_len, List.length_cons]; omega)) fun r H5 n5 e5 h5 => q r H5 (Evl.fresh_back ((e02.trans e3).trans e4) n5) (((e02.trans e3).trans e4).trans e5) h5

/-! # some lines alone -/
def sp_Desk_tell_text_alone (a : Ad) : Sp := fun vs H Q E => ∃ (D : DA) (s : Vaslca.State) (t : Text) (l : Addr) (ns : List Int), vs = [.ref D.o, .ref l] ∧ DeskAt a H D s t ∧ H l = some (.lst (ns.map V.int)) ∧
  (∀ k, Vaslca.keptOf s.code ns = some k → RetNew (natV (toldText (Vaslca.programText (Vaslca.only k s.code)))) H Q) ∧ (Vaslca.keptOf s.code ns = none → ∀ H', Ex H H' → E (.ref a.C_NotSomeLines) none H')
theorem text_short {c : Vaslca.Code} (ls : List Nat) {t : Text} (h : programOf t = some c) : (Vaslca.programText (Vaslca.only ls c)).length ≤ 40000 := by
  obtain ⟨a1, a2, a3, a4, _⟩ := is_prog h
  have hl14 : (Vaslca.linesOf (Vaslca.only ls c)).length ≤ 14 := Nat.le_trans (lines_only ls c).length_le a3
  have hd3 : Vaslca.deepOf (Vaslca.only ls c) ≤ 3 := Nat.le_trans (deep_only ls c) a4
  have words := items_word (c := Vaslca.only ls c) (d := 0) (okC_only ls (okC_of a1)) (by omega)
  have il := items_le (Vaslca.only ls c) 0
  have lens := lens_le (ws := ((VO.itemsOf 0 (Vaslca.only ls c)).map VO.itemText).map Vaslca.line) (n := 431) fun u hu => by
    obtain ⟨v, hv, rfl⟩ := List.mem_map.mp hu
    have := (words v hv).2
    unfold Vaslca.line
    rw [List.length_append, List.length_singleton]
    omega
  have et : (((VO.itemsOf 0 (Vaslca.only ls c)).map VO.itemText).map Vaslca.line).flatten = Vaslca.programText (Vaslca.only ls c) := by
    rw [VO.programText_items, List.map_map]
    rfl
  rw [et, List.length_map, List.length_map] at lens
  have := lens.2
  omega
theorem dF_no12 (p n : Addr) : (dF p n).lookup ("tell_step" : Str) = none := by kernel_rfl
theorem dF_no13 (p n : Addr) : (dF p n).lookup ("tell_statement" : Str) = none := by kernel_rfl
theorem dF_no14 (p n : Addr) : (dF p n).lookup ("tell_text_alone" : Str) = none := by kernel_rfl
theorem dF_no15 (p n : Addr) : (dF p n).lookup ("tell_account_alone" : Str) = none := by kernel_rfl
theorem dF_no16 (p n : Addr) : (dF p n).lookup ("tell_same" : Str) = none := by kernel_rfl
theorem ok_Desk_tell_text_alone (T : Facts K mg a) : FnOk P w K mg base (L2.CX P w) 7 a.f_Desk_tell_text_alone a.d_Desk_tell_text_alone ["self", "lines"] (sp_Desk_tell_text_alone a) := by
  refine T.F_Desk_tell_text_alone.okX sc_Desk_tell_text_alone (fun vs H Q E h => ?_) (fun cdv A outer s H vs Q E hr h => ?_)
  · obtain ⟨D, s, t, l, ns, rfl, _⟩ := h
    rfl
  · refine ⟨_, (pss_cons (ps_expr (pe_meth (pv 0) T.cl_Desk T.M_Desk_check_lines (ok_Desk_check_lines T) (hr.mono (by decide)) T.B_Desk_check_lines .nil (passes_call (takes_of rfl rfl rfl rfl) (fun _ _ _ _ h => h)) (pa_cons (pv 1) pa_nil)))
    (pss_one (ps_ret (pe_call (ok_counted T) (hr.mono (by decide)) rfl T.g_counted T.F_counted.kp T.B_counted .nil pass0 (pa_cons (pe_meth (pe_fld (pv 0) rfl) T.cl_Program T.M_Program_text_alone (ok_Program_text_alone T) (hr.mono (by decide)) T.B_Program_text_alone .nil pass0 (pa_cons (pv 1) pa_nil)) pa_nil))))), ?_⟩
    obtain ⟨D, s', t, l, ns, rfl, hD, hl, kY, kN⟩ := h
    obtain ⟨a1, a2, a3, a4, _⟩ := is_prog hD.is
    refine q_dropMeth (Evl.ev_var rfl) hD.ob (dF_no11 _ _) (Evl.ea_cons (Evl.ev_var rfl) Evl.ea_nil) fun H1 e1 => ⟨D, s', t, l, ns, rfl, hD.mono e1, e1 _ _ hl, fun k hk H2 e2 => ?_, fun hn H2 e2 => kN hn H2 (e1.trans e2)⟩
    have q := kY k hk
    rw [natV_told] at q
    have e02 := e1.trans e2
    have D2 := hD.mono e02
    have l2 : H2 l = some (.lst (natV k)) := by rw [← kept_vals a2 hk]; exact e02 _ _ hl
    have ts := text_short k hD.is
    exact Evl.s_retL (el_counted (el_meth (ev_fld (Evl.ev_var rfl) D2.ob T.cl_Desk T.n_Desk_program (dF_program _ _)) D2.pr.ob (pF_no2 _ _ _ _) (Evl.ea_cons (Evl.ev_var rfl) Evl.ea_nil) fun H3 e3 Q q E => ⟨D.R, t, s'.code, l, k, rfl, D2.pr.mono e3, hD.is, e3 _ _ l2, fun _ => q⟩) (by rw [bytV_len]; exact ts)) fun r H3 n3 e3 h3 => q r H3 (Evl.fresh_back e02 n3) (e02.trans e3) h3
def sp_Desk_tell_account_alone (a : Ad) : Sp := fun vs H Q E => ∃ (D : DA) (s : Vaslca.State) (t : Text) (l : Addr) (ns : List Int), vs = [.ref D.o, .ref l] ∧ DeskAt a H D s t ∧ H l = some (.lst (ns.map V.int)) ∧
  (∀ k, Vaslca.keptOf s.code ns = some k → RetNew (natV (toldRun s.code (runOf (Vaslca.only k s.code) s.input))) H Q) ∧ (Vaslca.keptOf s.code ns = none → ∀ H', Ex H H' → E (.ref a.C_NotSomeLines) none H')
theorem ok_Desk_tell_account_alone (T : Facts K mg a) : FnOk P w K mg base (L2.CX P w) 17 a.f_Desk_tell_account_alone a.d_Desk_tell_account_alone ["self", "lines"] (sp_Desk_tell_account_alone a) := by
  refine T.F_Desk_tell_account_alone.okX sc_Desk_tell_account_alone (fun vs H Q E h => ?_) (fun cdv A outer s H vs Q E hr h => ?_)
  · obtain ⟨D, s, t, l, ns, rfl, _⟩ := h
    rfl
  · refine ⟨_, (pss_cons (ps_expr (pe_meth (pv 0) T.cl_Desk T.M_Desk_check_lines (ok_Desk_check_lines T) (hr.mono (by decide)) T.B_Desk_check_lines .nil (passes_call (takes_of rfl rfl rfl rfl) (fun _ _ _ _ h => h)) (pa_cons (pv 1) pa_nil)))
    (pss_one (ps_ret (pe_call (ok_account_of T) (hr.mono (by decide)) rfl T.g_account_of T.F_account_of.kp T.B_account_of .nil pass0 (pa_cons (pe_meth (pv 0) T.cl_Desk T.M_Desk_make_run_alone (ok_Desk_make_run_alone T) (hr.mono (by decide)) T.B_Desk_make_run_alone .nil pass0 (pa_cons (pv 1) pa_nil)) pa_nil))))), ?_⟩
    obtain ⟨D, s', t, l, ns, rfl, hD, hl, kY, kN⟩ := h
    obtain ⟨a1, a2, a3, a4, _⟩ := is_prog hD.is
    refine q_dropMeth (Evl.ev_var rfl) hD.ob (dF_no11 _ _) (Evl.ea_cons (Evl.ev_var rfl) Evl.ea_nil) fun H1 e1 => ⟨D, s', t, l, ns, rfl, hD.mono e1, e1 _ _ hl, fun k hk H2 e2 => ?_, fun hn H2 e2 => kN hn H2 (e1.trans e2)⟩
    have q := kY k hk
    rw [told_run hD.is] at q
    have e02 := e1.trans e2
    have D2 := hD.mono e02
    have l2 : H2 l = some (.lst (natV k)) := by rw [← kept_vals a2 hk]; exact e02 _ _ hl
    refine ret_of <| call_of <| cons_of <| meth_of <| Evl.ev_var (σ := [some (.ref D.o), some (.ref l)]) (i := 0) rfl H2 (Ex.refl H2) _ fun H3 e3 => ⟨D.o, D.dx, _, rfl, e3 _ _ D2.ob, dF_no1b _ _, (Evl.ea_cons (Evl.ev_var (i := 1) rfl) Evl.ea_nil) H3 (Ex.refl H3) _ fun H4 e4 => ⟨D, s', t, l, k, rfl, D2.mono (e3.trans e4), (e3.trans e4) _ _ l2, fun M L H5 hM hR => Evl.ea_nil H5 (Ex.refl H5) _ fun H6 e6 => ?_⟩⟩
    have e46 := hR.ex.trans e6
    exact ⟨H4, M, _, L, _, stmsOf [] s'.code, rfl, hR.mono e6, by rw [hM]; exact (D2.mono (e3.trans e4)).pr.ps, line_inO hD.is k _, fun p H7 n7 e7 h7 => q p H7 (Evl.fresh_back ((e02.trans (e3.trans e4)).trans e46) n7) (((e02.trans (e3.trans e4)).trans e46).trans e7) h7⟩

/-! # alike or not -/
theorem eqv_nat : ∀ ns ms : List Nat, PyData.eqvAll (natD ns) (natD ms) = (ns == ms)
  | [], [] => by simp [natD, PyData.eqvAll]
  | [], _ :: _ => by simp [natD, PyData.eqvAll]
  | _ :: _, [] => by simp [natD, PyData.eqvAll]
  | x :: r, y :: q => by
    have ih := eqv_nat r q
    show PyData.eqvAll (PyData.int (x : Int) :: natD r) (PyData.int (y : Int) :: natD q) = _
    simp only [PyData.eqvAll, PyData.eqv, ih]
    show _ = (x == y && r == q)
    congr 1
    rw [Bool.eq_iff_iff, beq_iff_eq, beq_iff_eq]
    omega
theorem rv_eqD_nat {H : Hp} {p q : Addr} {ns ms : List Nat} (hp : H p = some (.lst (natV ns))) (hq : H q = some (.lst (natV ms))) : Evl.RV (rEqD K) (.ref p) (.ref q) H (.bl (ns == ms)) := fun H1 e Q k =>
  ⟨.list (natD ns), .list (natD ms), .lst (Evl.sq_of (e p _ hp)) (dp_nat ns), .lst (Evl.sq_of (e q _ hq)) (dp_nat ms), shaped_nat ns, shaped_nat ms, by
    have z : PyData.eqv (.list (natD ns)) (.list (natD ms)) = (ns == ms) := by simp only [PyData.eqv, eqv_nat]
    rw [z]
    exact k H1 (Ex.refl H1)⟩
def alike (A B : List Nat) : List Nat := match Vaslca.firstUnlike 0 A B with
  | none => [1]
  | some i => [0, i]
def sp_Desk_tell_same (a : Ad) : Sp := fun vs H Q E => ∃ (D : DA) (s : Vaslca.State) (t : Text) (n : Int) (l : Addr) (ns : List Int), vs = [.ref D.o, .int n, .ref l] ∧ DeskAt a H D s t ∧ H l = some (.lst (ns.map V.int)) ∧
  (∀ k, ¬ BadLine s.code n → Vaslca.keptOf s.code ns = some k → RetNew (natV (alike (valuesAt (runOf s.code s.input) n.toNat) (valuesAt (runOf (Vaslca.only k s.code) s.input) n.toNat))) H Q) ∧
  (BadLine s.code n → ∀ H', Ex H H' → E (.ref a.C_NoSuchLine) none H') ∧ (¬ BadLine s.code n → Vaslca.keptOf s.code ns = none → ∀ H', Ex H H' → E (.ref a.C_NotSomeLines) none H')
theorem ok_Desk_tell_same (T : Facts K mg a) : FnOk P w K mg base (L2.CX P w) 18 a.f_Desk_tell_same a.d_Desk_tell_same ["self", "line", "lines"] (sp_Desk_tell_same a) := by
  refine T.F_Desk_tell_same.okX sc_Desk_tell_same (fun vs H Q E h => ?_) (fun cdv A outer s H vs Q E hr h => ?_)
  · obtain ⟨D, s, t, n, l, ns, rfl, _⟩ := h
    rfl
  · refine ⟨_, (pss_cons (ps_expr (pe_meth (pv 0) T.cl_Desk T.M_Desk_check_line (ok_Desk_check_line T) (hr.mono (by decide)) T.B_Desk_check_line .nil (passes_call (takes_of rfl rfl rfl rfl) (fun _ _ _ _ h => h)) (pa_cons (pv 1) pa_nil)))
    (pss_cons (ps_expr (pe_meth (pv 0) T.cl_Desk T.M_Desk_check_lines (ok_Desk_check_lines T) (hr.mono (by decide)) T.B_Desk_check_lines .nil (passes_call (takes_of rfl rfl rfl rfl) (fun _ _ _ _ h => h)) (pa_cons (pv 2) pa_nil)))
    (pss_cons (ps_set (i := 3) sc_Desk_tell_same.nd rfl (Or.inl rfl) (pe_meth (pe_meth0 (pv 0) T.cl_Desk T.M_Desk_make_run (ok_Desk_make_run T) (hr.mono (by decide)) T.B_Desk_make_run .nil pass0) T.cl_Run T.M_Run_row_at (ok_Run_row_at T) (hr.mono (by decide)) T.B_Run_row_at .nil pass0 (pa_cons (pv 1) pa_nil)))
    (pss_cons (ps_set (i := 4) sc_Desk_tell_same.nd rfl (Or.inl rfl) (pe_meth (pe_meth (pv 0) T.cl_Desk T.M_Desk_make_run_alone (ok_Desk_make_run_alone T) (hr.mono (by decide)) T.B_Desk_make_run_alone .nil pass0 (pa_cons (pv 2) pa_nil)) T.cl_Run T.M_Run_row_at (ok_Run_row_at T) (hr.mono (by decide)) T.B_Run_row_at .nil pass0 (pa_cons (pv 1) pa_nil)))
    (pss_cons (ps_if (pt_cmpR (op_eqD hr.units) (pv 3) (pv 4) (nomark _))
    (pss_one (ps_ret (pe_lst (pa_cons pe_int pa_nil))))
    pss_nil)
    (pss_one (ps_ret (pe_lst (pa_cons pe_int (pa_cons (pe_call (ok_first_difference T) (hr.mono (by decide)) rfl T.g_first_difference T.F_first_difference.kp T.B_first_difference .nil pass0 (pa_cons (pv 3) (pa_cons (pv 4) pa_nil))) pa_nil)))))))))), ?_⟩
    obtain ⟨D, s', t, n, l, ns, rfl, hD, hl, kY, kN, kM⟩ := h
    obtain ⟨a1, a2, a3, a4, _⟩ := is_prog hD.is
    refine q_dropMeth (Evl.ev_var rfl) hD.ob (dF_no10 _ _) (Evl.ea_cons (Evl.ev_var rfl) Evl.ea_nil) fun H1 e1 => ⟨D, s', t, n, rfl, hD.mono e1, fun hn H2 e2 => ?_, fun hn H2 e2 => kN hn H2 (e1.trans e2)⟩
    have e02 := e1.trans e2
    have D2 := hD.mono e02
    refine q_dropMeth (Evl.ev_var rfl) D2.ob (dF_no11 _ _) (Evl.ea_cons (Evl.ev_var rfl) Evl.ea_nil) fun H3 e3 => ⟨D, s', t, l, ns, rfl, D2.mono e3, (e02.trans e3) _ _ hl, fun k hk H4 e4 => ?_, fun hk H4 e4 => kM hn hk H4 ((e02.trans e3).trans e4)⟩
    have q := kY k hn hk
    have e04 := (e02.trans e3).trans e4
    have D4 := hD.mono e04
    have l4 : H4 l = some (.lst (natV k)) := by rw [← kept_vals a2 hk]; exact e04 _ _ hl
    obtain ⟨m, rfl⟩ : ∃ m : Nat, n = (m : Int) := ⟨n.toNat, by unfold BadLine at hn; omega⟩
    rw [Int.toNat_natCast] at q
    refine Evl.q_asgL (el_row T (n := m) (x := runOf s'.code s'.input) rfl (te_run T rfl D4)) fun p H5 n5 e5 h5 => ?_
    have D5 := D4.mono e5
    refine Evl.q_asgL (el_row T (n := m) (x := runOf (Vaslca.only k s'.code) s'.input) rfl (te_runO T rfl rfl D5 (e5 _ _ l4))) fun p2 H6 n6 e6 h6 => ?_
    have h5' := e6 _ _ h5
    have e06 := (e04.trans e5).trans e6
    change RetNew (natV (alike (rowV (runOf s'.code s'.input) fun s => s.line == m) (rowV (runOf (Vaslca.only k s'.code) s'.input) fun s => s.line == m))) H Q at q
    generalize (rowV (runOf s'.code s'.input) fun s => s.line == m) = A at q h5'
    generalize (rowV (runOf (Vaslca.only k s'.code) s'.input) fun s => s.line == m) = B at q h6
    refine Evl.q_when (b := A == B) (Evl.et_test (Evl.ev_op (Evl.ev_var rfl) (Evl.ev_var rfl) (rv_eqD_nat h5' h6))) (fun hb H7 e7 => ?_) (fun hb H7 e7 => ?_)
    · have hAB : A = B := beq_iff_eq.mp hb
      subst hAB
      unfold alike at q
      rw [unlike_none] at q
      exact Evl.s_retL (xs := [.int 1]) (Evl.el_lst (Evl.ea_cons Evl.ev_c Evl.ea_nil) (by simp)) fun r H8 n8 e8 h8 => q r H8 (Evl.fresh_back (e06.trans e7) n8) ((e06.trans e7).trans e8) h8
    · have hAB : A ≠ B := beq_eq_false_iff_ne.mp hb
      obtain ⟨j, hj⟩ : ∃ j, Vaslca.firstUnlike 0 A B = some j := by
        cases z : Vaslca.firstUnlike 0 A B with
        | some j => exact ⟨j, rfl⟩
        | none => exact absurd z (unlike_some hAB)
      unfold alike at q
      rw [hj] at q
      refine Evl.s_retL (xs := [.int 0, .int (j : Int)]) (Evl.el_lst (Evl.ea_cons Evl.ev_c (Evl.ea_cons (Evl.ev_call (vs := [.ref p, .ref p2]) (Evl.ea_cons (Evl.ev_var rfl) (Evl.ea_cons (Evl.ev_var rfl) Evl.ea_nil)) fun H8 e8 Q qq E => ⟨p, p2, A, B, rfl, (e7.trans e8) _ _ h5', (e7.trans e8) _ _ h6, hAB, fun j2 hj2 H9 e9 => by
        rw [hj] at hj2
        cases hj2
        exact qq H9 e9⟩) Evl.ea_nil)) (by simp)) fun r H8 n8 e8 h8 => q r H8 (Evl.fresh_back (e06.trans e7) n8) ((e06.trans e7).trans e8) h8
end VP
set_option Elab.async false
set_option linter.all false
set_option maxRecDepth 100000
set_option maxHeartbeats 4000000
namespace VP
open PySem PySem.Spec PyProof.Rows L2 TL
open Vaslca (Text Name toldOption begin_ runOf valuesAt programOf toldText toldNats toldRun toldStep statusNumber)
open VO (Head Numbered)
open Evl (Ex Ev EvT EvA EvL EvU)
variable {P : Program} {w : World} {K : PySem.W.Frag} {mg : Str → Option Value} {base : Heap} {a : Ad}

/-! # calls in one list -/
theorem drop_head {ns : List Int} {n : Nat} {p : Int} {r : List Int} (h : ns.drop n = p :: r) : ns[n]? = some p ∧ ns.drop (n + 1) = r ∧ n < ns.length := by
  have lt : n < ns.length := by
    rcases Nat.lt_or_ge n ns.length with l | l
    · exact l
    · rw [List.drop_of_length_le l] at h
      cases h
  rw [List.drop_eq_getElem_cons lt] at h
  obtain ⟨h1, h2⟩ := List.cons.inj h
  exact ⟨by rw [List.getElem?_eq_getElem lt, h1], h2, lt⟩
theorem flat_row {l r : List Int} {xs : List (List Int)} (h : PyFlat.rows 1 l = some (xs, r)) : ∃ (k : Nat) (r1 : List Int), l = (k : Int) :: r1 ∧ k ≤ r1.length ∧ xs = [r1.take k] ∧ r = r1.drop k := by
  cases l with
  | nil => cases h
  | cons z r1 =>
    simp only [PyFlat.rows, PyFlat.row] at h
    by_cases q : 0 ≤ z ∧ z.toNat ≤ r1.length
    · rw [if_pos q] at h
      simp at h
      exact ⟨z.toNat, r1, by rw [Int.toNat_of_nonneg q.1], q.2, h.1.symm, h.2.symm⟩
    · rw [if_neg q] at h
      cases h
/-- what a call looks like -/
inductive Shaped : List (List Int) → List Int → List Int → Prop where
  | row (p : Int) (k : Nat) (r1 : List Int) (hp : p = 0 ∨ p = 2 ∨ p = 8 ∨ p = 9) (hk : k ≤ r1.length) : Shaped [[p], r1.take k] (p :: (k : Int) :: r1) (r1.drop k)
  | none (p : Int) (r : List Int) (hp : p = 1 ∨ p = 3 ∨ p = 5 ∨ p = 11) : Shaped [[p]] (p :: r) r
  | one (p z : Int) (r : List Int) (hp : p = 4 ∨ p = 6 ∨ p = 7) : Shaped [[p, z]] (p :: z :: r) r
  | both (z : Int) (k : Nat) (r1 : List Int) (hk : k ≤ r1.length) : Shaped [[10, z], r1.take k] (10 :: z :: (k : Int) :: r1) (r1.drop k)
theorem call_shaped {l r : List Int} {c : List (List Int)} (h : PyFlat.call PyVaslca.shape l = some (c, r)) : Shaped c l r := by
  cases l with
  | nil => cases h
  | cons p l =>
    have pr : ∀ {x : Int}, p = x → PyVaslca.shape p = PyVaslca.shape x := fun e => by rw [e]
    have fin : ∀ n k, PyVaslca.shape p = some (n, k) → (if l.length < n then none else match PyFlat.rows k (l.drop n) with
      | none => none
      | some (xs, t) => some ((p :: l.take n) :: xs, t)) = some (c, r) := fun n k e => by
      simp only [PyFlat.call, e] at h
      exact h
    have c01 : ∀ {x : Int}, p = x → (x = 0 ∨ x = 2 ∨ x = 8 ∨ x = 9) → PyVaslca.shape x = some (0, 1) → Shaped c (p :: l) r := by
      intro x e hx hs
      have f := fin 0 1 ((pr e).trans hs)
      rw [if_neg (by omega), List.drop_zero] at f
      cases q : PyFlat.rows 1 l with
      | none => rw [q] at f; cases f
      | some y =>
        obtain ⟨xs, t⟩ := y
        rw [q] at f
        obtain ⟨k, r1, rfl, hk, rfl, rfl⟩ := flat_row q
        cases f
        exact .row p k r1 (by rw [e]; exact hx) hk
    have c00 : ∀ {x : Int}, p = x → (x = 1 ∨ x = 3 ∨ x = 5 ∨ x = 11) → PyVaslca.shape x = some (0, 0) → Shaped c (p :: l) r := by
      intro x e hx hs
      have f := fin 0 0 ((pr e).trans hs)
      rw [if_neg (by omega), List.drop_zero] at f
      cases f
      exact .none p _ (by rw [e]; exact hx)
    have c10 : ∀ {x : Int}, p = x → (x = 4 ∨ x = 6 ∨ x = 7) → PyVaslca.shape x = some (1, 0) → Shaped c (p :: l) r := by
      intro x e hx hs
      have f := fin 1 0 ((pr e).trans hs)
      cases l with
      | nil => cases f
      | cons z l =>
        rw [if_neg (by simp)] at f
        cases f
        exact .one p z _ (by rw [e]; exact hx)
    have c11 : ∀ {x : Int}, p = x → x = 10 → PyVaslca.shape x = some (1, 1) → Shaped c (p :: l) r := by
      intro x e hx hs
      have f := fin 1 1 ((pr e).trans hs)
      cases l with
      | nil => cases f
      | cons z l =>
        rw [if_neg (by simp)] at f
        have f' : (match PyFlat.rows 1 l with
          | none => none
          | some (xs, t) => some ((p :: [z]) :: xs, t)) = some (c, r) := f
        cases q : PyFlat.rows 1 l with
        | none => rw [q] at f'; cases f'
        | some y =>
          obtain ⟨xs, t⟩ := y
          rw [q] at f'
          obtain ⟨k, r1, rfl, hk, rfl, rfl⟩ := flat_row q
          cases f'
          rw [e, hx]
          exact .both z k r1 hk
    by_cases h0 : p = 0
    · exact c01 h0 (by decide) rfl
    by_cases h1 : p = 1
    · exact c00 h1 (by decide) rfl
    by_cases h2 : p = 2
    · exact c01 h2 (by decide) rfl
    by_cases h3 : p = 3
    · exact c00 h3 (by decide) rfl
    by_cases h4 : p = 4
    · exact c10 h4 (by decide) rfl
    by_cases h5 : p = 5
    · exact c00 h5 (by decide) rfl
    by_cases h6 : p = 6
    · exact c10 h6 (by decide) rfl
    by_cases h7 : p = 7
    · exact c10 h7 (by decide) rfl
    by_cases h8 : p = 8
    · exact c01 h8 (by decide) rfl
    by_cases h9 : p = 9
    · exact c01 h9 (by decide) rfl
    by_cases h10 : p = 10
    · exact c11 h10 rfl rfl
    by_cases h11 : p = 11
    · exact c00 h11 (by decide) rfl
    · have e : PyVaslca.shape p = none := by
        unfold PyVaslca.shape
        rw [if_neg h0, if_neg h1, if_neg h2, if_neg h3, if_neg h4, if_neg h5, if_neg h6, if_neg h7, if_neg h8, if_neg h9, if_neg h10, if_neg h11]
      simp only [PyFlat.call, e] at h
      cases h

/-! # one call -/
/-- all but two objects stand as before -/
def Fr2 (p q : Addr) (H H' : Hp) : Prop := ∀ b o, H b = some o → b ≠ p → b ≠ q → H' b = some o
/-- an answer, by the desk D and the reader C -/
def RetA (K : PySem.W.Frag) (a : Ad) (H0 : Hp) (D : DA) (C : CAd) (ns r : List Int) (s' : Vaslca.State) (xs : List V) (H : Hp) (Q : VK) : Prop := ∀ (D' : DA) (t' : Text) (n' : Nat) (H' : Hp) (q : Addr), D'.o = D.o → Fr2 D.o C.o H H' → DeskAt a H' D' s' t' → RdAt K a H0 H' C ns n' → ns.drop n' = r → n' ≤ ns.length →
  (∀ x, InD D' x → InD D x ∨ H x = none) → H q = none → H' q = some (.lst xs) → Q (.ref q) H'
def RetX (K : PySem.W.Frag) (a : Ad) (H0 : Hp) (C : CAd) (ns r : List Int) (c : Addr) (H : Hp) (E : XK) : Prop := ∀ (n' : Nat) (H' : Hp), Fr C.o H H' → RdAt K a H0 H' C ns n' → ns.drop n' = r → n' ≤ ns.length → E (.ref c) none H'
/-- the class of a refusal -/
def IsCls (a : Ad) (e : Nat) (c : Addr) : Prop := (e = 1 ∧ c = a.C_NotAProgram) ∨ (e = 2 ∧ (c = a.C_NotAnInput ∨ c = a.C_NoSuchStep)) ∨ (e = 3 ∧ c = a.C_NoSuchLine) ∨ (e = 4 ∧ c = a.C_NotSomeLines)
def sp_answer_next {K : PySem.W.Frag} (a : Ad) : Sp := fun vs H Q E => ∃ (H0 : Hp) (D : DA) (s : Vaslca.State) (t : Text) (C : CAd) (ns : List Int) (n : Nat) (c : List (List Int)) (r : List Int) (k : Vaslca.Call), vs = [.ref D.o, .ref C.o] ∧ DeskAt a H D s t ∧ RdAt K a H0 H C ns n ∧ ¬ InD D C.o ∧ H0 D.o = none ∧
  PyFlat.call PyVaslca.shape (ns.drop n) = some (c, r) ∧ VaslcaNeutral.asked1 (PyVaslca.whole c) = true ∧ VaslcaNeutral.callOf (PyVaslca.whole c) = some k ∧
  (∀ s' l, Vaslca.does s k = .ok (s', l) → RetA K a H0 D C ns r s' (natV l) H Q) ∧ (∀ e, Vaslca.does s k = .error e → ∀ c, IsCls a e c → RetX K a H0 C ns r c H E)
end VP
set_option Elab.async false
set_option linter.all false
set_option maxRecDepth 100000
set_option maxHeartbeats 4000000
namespace VP
open PySem PySem.Spec PyProof.Rows L2 TL
open Vaslca (Text Name toldOption begin_ runOf valuesAt programOf toldText toldNats toldRun toldStep statusNumber)
open VO (Head Numbered)
open Evl (Ex Ev EvT EvA EvL EvU)
variable {P : Program} {w : World} {K : PySem.W.Frag} {mg : Str → Option Value} {base : Heap} {a : Ad}

section
variable {H0 H Hr : Hp} {D : DA} {C : CAd} {ns r : List Int} {s s' : Vaslca.State} {t t' : Text} {xs : List V} {Q : VK} {n' : Nat}
theorem free_of (f : Fr C.o H Hr) (rd : RdAt K a H0 Hr C ns n') {x : Addr} (h : Hr x = none) : H x = none := f.free' (by
  rintro rfl
  rw [rd.ob] at h
  cases h) h
theorem RetA.new (h : RetA K a H0 D C ns r s xs H Q) (f : Fr C.o H Hr) (d : DeskAt a Hr D s t) (rd : RdAt K a H0 Hr C ns n') (hr : ns.drop n' = r) (hn : n' ≤ ns.length) : RetNew xs Hr Q := fun p H' n e hp =>
  h D t n' H' p rfl (fun b o hb _ h2 => e _ _ (f b o hb h2)) (d.mono e) (rd.mono e) hr hn (fun x hx => Or.inl hx) (free_of f rd n) hp
theorem RetA.desk (h : RetA K a H0 D C ns r s' xs H Q) (f : Fr C.o H Hr) (d : DeskAt a Hr D s t) (rd : RdAt K a H0 Hr C ns n') (ap : ¬ InD D C.o) (no : H0 D.o = none) (hr : ns.drop n' = r) (hn : n' ≤ ns.length) : RetDesk a D s' t' xs Hr Q := fun D' H' q eo fr d' foot nq hq =>
  h D' t' n' H' q eo (fun b o hb h1 h2 => fr _ _ (f b o hb h2) h1) d' (rd.keep fr (fun e => ap (Or.inl e)) no) hr hn (fun x hx => (foot x hx).imp id (free_of f rd)) (free_of f rd nq) hq
end
section
variable {σ : L2.St} {H0 H : Hp} {tu tz : TS} {D : Ends} {p n : Int}
theorem skip (ex : Ex H0 H) (hv : σ[2]? = some (some (.int p))) (hb : (p == n) = false) (k : ∀ H', Ex H0 H' → tz D σ H') : tSeq (tIfS (tTest (tOp rEq (tVar 2) (tC (.int n)))) tu tNext) tz D σ H := by
  have hd : decide (V.int p = V.int n) = false := by
    rw [decide_eq_false_iff_not]
    intro z
    rw [V.int.inj z] at hb
    simp at hb
  exact Evl.q_when (b := false) (Evl.et_is (Evl.et_test (Evl.ev_op (Evl.ev_var hv) Evl.ev_c (Evl.rv_eq rfl))) hd) (fun z => by cases z) (fun _ H1 e1 => k H1 (ex.trans e1))
theorem take (ex : Ex H0 H) (hv : σ[2]? = some (some (.int p))) (hb : (p == n) = true) (k : ∀ H', Ex H0 H' → tu { D with nx := tz D } σ H') : tSeq (tIfS (tTest (tOp rEq (tVar 2) (tC (.int n)))) tu tNext) tz D σ H := by
  have hd : decide (V.int p = V.int n) = true := by
    rw [decide_eq_true_iff]
    rw [beq_iff_eq.mp hb]
  exact Evl.q_when (b := true) (Evl.et_is (Evl.et_test (Evl.ev_op (Evl.ev_var hv) Evl.ev_c (Evl.rv_eq rfl))) hd) (fun _ H1 e1 => k H1 (ex.trans e1)) (fun z => by cases z)
end
section
variable {σ : L2.St} {H0 H : Hp} {DD : Ends} {D : DA} {C : CAd} {ns : List Int} {n : Nat} {s : Vaslca.State} {t : Text} {m : Str} {sp : Sp} {E E2 : XK}
/-- desk.m() -/
theorem s_desk0 (hD : DeskAt a H D s t) (hv : σ[0]? = some (some (.ref D.o))) (hm : (dF D.R.p D.n).lookup m = none) (k : ∀ H1, Ex H H1 → sp [.ref D.o] H1 DD.rt E) : tRet (tMeth a.C_Desk m sp [] E (tVar 0) tNil) DD σ H :=
  ret_of <| meth_of <| Evl.ev_var hv H (Ex.refl H) _ fun H1 e1 => ⟨D.o, D.dx, _, rfl, e1 _ _ hD.ob, hm, Evl.ea_nil H1 (Ex.refl H1) _ fun H2 e2 => k H2 (e1.trans e2)⟩
/-- desk.m(reader.take_number()) -/
theorem s_deskN (hD : DeskAt a H D s t) (hC : RdAt K a H0 H C ns n) (hv : σ[0]? = some (some (.ref D.o))) (hw : σ[1]? = some (some (.ref C.o))) (hm : (dF D.R.p D.n).lookup m = none) {z : Int} (hz : ns[n]? = some z)
    (k : ∀ H1, Fr C.o H H1 → RdAt K a H0 H1 C ns (n + 1) → sp [.ref D.o, .int z] H1 DD.rt E) : tRet (tMeth a.C_Desk m sp [] E (tVar 0) (tCons (tMeth a.C_CallReader "take_number" (sp_CallReader_take_number (K := K) a) [] E2 (tVar 1) tNil) tNil)) DD σ H :=
  ret_of <| meth_of <| Evl.ev_var hv H (Ex.refl H) _ fun H1 e1 => ⟨D.o, D.dx, _, rfl, e1 _ _ hD.ob, hm, cons_of <| meth_of <| Evl.ev_var hw H1 (Ex.refl H1) _ fun H2 e2 => ⟨C.o, C.dx, _, rfl, (e1.trans e2) _ _ hC.ob, cF_no1 _ _, Evl.ea_nil H2 (Ex.refl H2) _ fun H3 e3 =>
    ⟨H0, C, ns, n, z, rfl, hC.mono ((e1.trans e2).trans e3), hz, fun H4 f4 R4 => Evl.ea_nil H4 (Ex.refl H4) _ fun H5 e5 => k H5 (((Fr.of ((e1.trans e2).trans e3)).trans f4).trans (Fr.of e5)) (R4.mono e5)⟩⟩⟩
/-- desk.m(reader.take_row()) -/
theorem s_deskR (hD : DeskAt a H D s t) (hC : RdAt K a H0 H C ns n) (hv : σ[0]? = some (some (.ref D.o))) (hw : σ[1]? = some (some (.ref C.o))) (hm : (dF D.R.p D.n).lookup m = none) {j : Nat} (hz : ns[n]? = some (j : Int)) (hj : n + 1 + j ≤ ns.length)
    (k : ∀ q H1, Fr C.o H H1 → RdAt K a H0 H1 C ns (n + 1 + j) → H1 q = some (.lst (((ns.drop (n + 1)).take j).map V.int)) → sp [.ref D.o, .ref q] H1 DD.rt E) : tRet (tMeth a.C_Desk m sp [] E (tVar 0) (tCons (tMeth a.C_CallReader "take_row" (sp_CallReader_take_row (K := K) a) [] E2 (tVar 1) tNil) tNil)) DD σ H :=
  ret_of <| meth_of <| Evl.ev_var hv H (Ex.refl H) _ fun H1 e1 => ⟨D.o, D.dx, _, rfl, e1 _ _ hD.ob, hm, cons_of <| meth_of <| Evl.ev_var hw H1 (Ex.refl H1) _ fun H2 e2 => ⟨C.o, C.dx, _, rfl, (e1.trans e2) _ _ hC.ob, cF_no2 _ _, Evl.ea_nil H2 (Ex.refl H2) _ fun H3 e3 =>
    ⟨H0, C, ns, n, j, rfl, hC.mono ((e1.trans e2).trans e3), hz, hj, fun q H4 f4 nq hq R4 => Evl.ea_nil H4 (Ex.refl H4) _ fun H5 e5 => k q H5 (((Fr.of ((e1.trans e2).trans e3)).trans f4).trans (Fr.of e5)) (R4.mono e5) (e5 _ _ hq)⟩⟩⟩
/-- desk.m(x, reader.take_row()) -/
theorem s_deskVR (hD : DeskAt a H D s t) (hC : RdAt K a H0 H C ns n) {i : Nat} {y : V} (hv : σ[0]? = some (some (.ref D.o))) (hw : σ[1]? = some (some (.ref C.o))) (hy : σ[i]? = some (some y)) (hm : (dF D.R.p D.n).lookup m = none) {j : Nat} (hz : ns[n]? = some (j : Int)) (hj : n + 1 + j ≤ ns.length)
    (k : ∀ q H1, Fr C.o H H1 → RdAt K a H0 H1 C ns (n + 1 + j) → H1 q = some (.lst (((ns.drop (n + 1)).take j).map V.int)) → sp [.ref D.o, y, .ref q] H1 DD.rt E) : tRet (tMeth a.C_Desk m sp [] E (tVar 0) (tCons (tVar i) (tCons (tMeth a.C_CallReader "take_row" (sp_CallReader_take_row (K := K) a) [] E2 (tVar 1) tNil) tNil))) DD σ H :=
  ret_of <| meth_of <| Evl.ev_var hv H (Ex.refl H) _ fun H1 e1 => ⟨D.o, D.dx, _, rfl, e1 _ _ hD.ob, hm, cons_of <| Evl.ev_var hy H1 (Ex.refl H1) _ fun H1b e1b => cons_of <| meth_of <| Evl.ev_var hw H1b (Ex.refl H1b) _ fun H2 e2 => ⟨C.o, C.dx, _, rfl, ((e1.trans e1b).trans e2) _ _ hC.ob, cF_no2 _ _, Evl.ea_nil H2 (Ex.refl H2) _ fun H3 e3 =>
    ⟨H0, C, ns, n, j, rfl, hC.mono (((e1.trans e1b).trans e2).trans e3), hz, hj, fun q H4 f4 nq hq R4 => Evl.ea_nil H4 (Ex.refl H4) _ fun H5 e5 => k q H5 (((Fr.of (((e1.trans e1b).trans e2).trans e3)).trans f4).trans (Fr.of e5)) (R4.mono e5) (e5 _ _ hq)⟩⟩⟩
end
theorem dF_no3 (p n : Addr) : (dF p n).lookup ("take_program" : Str) = none := by kernel_rfl
theorem dF_no4 (p n : Addr) : (dF p n).lookup ("tell_text" : Str) = none := by kernel_rfl
theorem dF_no5 (p n : Addr) : (dF p n).lookup ("take_numbers" : Str) = none := by kernel_rfl
theorem dF_no6 (p n : Addr) : (dF p n).lookup ("tell_account" : Str) = none := by kernel_rfl
theorem dF_no7 (p n : Addr) : (dF p n).lookup ("tell_row" : Str) = none := by kernel_rfl
theorem dF_no8 (p n : Addr) : (dF p n).lookup ("tell_trace" : Str) = none := by kernel_rfl
theorem dF_no9 (p n : Addr) : (dF p n).lookup ("tell_size" : Str) = none := by kernel_rfl
theorem line_ok {s : Vaslca.State} {n : Int} {f : Nat → Vaslca.Out} (h : ¬ BadLine s.code n) : Vaslca.onLine s n f = f n.toNat := by
  unfold Vaslca.onLine
  exact if_neg h
theorem line_bad {s : Vaslca.State} {n : Int} {f : Nat → Vaslca.Out} (h : BadLine s.code n) : Vaslca.onLine s n f = .error 3 := by
  unfold Vaslca.onLine
  exact if_pos h
/-- a row of bytes is a text -/
theorem bytes_text {row : List Int} (h : row.all (fun (z : Int) => VaslcaNeutral.natural z 8) = true) : VaslcaNeutral.text? row = some (row.map fun b => UInt8.ofNat b.toNat) ∧ row.map V.int = bytV (row.map fun b => UInt8.ofNat b.toNat) := by
  have hb : ∀ z ∈ row, 0 ≤ z ∧ z ≤ 255 := fun z hz => by
    rw [List.all_eq_true] at h
    have := h z hz
    unfold VaslcaNeutral.natural at this
    rw [Bool.and_eq_true] at this
    have h1 := of_decide_eq_true this.1
    have h2 : z < 256 := of_decide_eq_true this.2
    omega
  constructor
  · unfold VaslcaNeutral.text?
    rw [if_pos]
    unfold NeutralIO.bytes
    rw [List.all_eq_true]
    intro z hz
    have := hb z hz
    rw [Bool.and_eq_true]
    exact ⟨decide_eq_true this.1, decide_eq_true this.2⟩
  · unfold bytV
    rw [List.map_map]
    refine List.map_congr_left fun z hz => ?_
    have := hb z hz
    show V.int z = V.int (((UInt8.ofNat z.toNat).toNat : Nat) : Int)
    rw [UInt8.toNat_ofNat']
    congr 1
    omega
theorem ok_answer_next (T : Facts K mg a) : FnOk P w K mg base (L2.CX P w) 19 a.f_answer_next a.d_answer_next ["desk", "reader"] (sp_answer_next (K := K) a) := by
  refine T.F_answer_next.okX sc_answer_next (fun vs H Q E h => ?_) (fun cdv A outer s H vs Q E hr h => ?_)
  · obtain ⟨H0, D, s, t, C, ns, n, c, r, k, rfl, _⟩ := h
    rfl
  · refine ⟨_, (pss_cons (ps_set (i := 2) sc_answer_next.nd rfl (Or.inl rfl) (pe_meth0 (pv 1) T.cl_CallReader T.M_CallReader_take_number (ok_CallReader_take_number T) (hr.mono (by decide)) T.B_CallReader_take_number .nil pass0))
    (pss_cons (ps_if (pt_cmpR op_eq (pv 2) (pe_gi rfl T.c_PROGRAM.choose_spec) (nomark _))
    (pss_one (ps_ret (pe_meth (pv 0) T.cl_Desk T.M_Desk_take_program (ok_Desk_take_program T) (hr.mono (by decide)) T.B_Desk_take_program .nil (passes_call (takes_of rfl rfl rfl rfl) (fun _ _ _ _ h => h)) (pa_cons (pe_meth0 (pv 1) T.cl_CallReader T.M_CallReader_take_row (ok_CallReader_take_row T) (hr.mono (by decide)) T.B_CallReader_take_row .nil pass0) pa_nil))))
    pss_nil)
    (pss_cons (ps_if (pt_cmpR op_eq (pv 2) (pe_gi rfl T.c_SHOW.choose_spec) (nomark _))
    (pss_one (ps_ret (pe_meth0 (pv 0) T.cl_Desk T.M_Desk_tell_text (ok_Desk_tell_text T) (hr.mono (by decide)) T.B_Desk_tell_text .nil pass0)))
    pss_nil)
    (pss_cons (ps_if (pt_cmpR op_eq (pv 2) (pe_gi rfl T.c_INPUTS.choose_spec) (nomark _))
    (pss_one (ps_ret (pe_meth (pv 0) T.cl_Desk T.M_Desk_take_numbers (ok_Desk_take_numbers T) (hr.mono (by decide)) T.B_Desk_take_numbers .nil (passes_call (takes_of rfl rfl rfl rfl) (fun _ _ _ _ h => h)) (pa_cons (pe_meth0 (pv 1) T.cl_CallReader T.M_CallReader_take_row (ok_CallReader_take_row T) (hr.mono (by decide)) T.B_CallReader_take_row .nil pass0) pa_nil))))
    pss_nil)
    (pss_cons (ps_if (pt_cmpR op_eq (pv 2) (pe_gi rfl T.c_RUN.choose_spec) (nomark _))
    (pss_one (ps_ret (pe_meth0 (pv 0) T.cl_Desk T.M_Desk_tell_account (ok_Desk_tell_account T) (hr.mono (by decide)) T.B_Desk_tell_account .nil pass0)))
    pss_nil)
    (pss_cons (ps_if (pt_cmpR op_eq (pv 2) (pe_gi rfl T.c_VALUES.choose_spec) (nomark _))
    (pss_one (ps_ret (pe_meth (pv 0) T.cl_Desk T.M_Desk_tell_row (ok_Desk_tell_row T) (hr.mono (by decide)) T.B_Desk_tell_row .nil (passes_call (takes_of rfl rfl rfl rfl) (fun _ _ _ _ h => h)) (pa_cons (pe_meth0 (pv 1) T.cl_CallReader T.M_CallReader_take_number (ok_CallReader_take_number T) (hr.mono (by decide)) T.B_CallReader_take_number .nil pass0) pa_nil))))
    pss_nil)
    (pss_cons (ps_if (pt_cmpR op_eq (pv 2) (pe_gi rfl T.c_TRACE.choose_spec) (nomark _))
    (pss_one (ps_ret (pe_meth0 (pv 0) T.cl_Desk T.M_Desk_tell_trace (ok_Desk_tell_trace T) (hr.mono (by decide)) T.B_Desk_tell_trace .nil pass0)))
    pss_nil)
    (pss_cons (ps_if (pt_cmpR op_eq (pv 2) (pe_gi rfl T.c_STEP.choose_spec) (nomark _))
    (pss_one (ps_ret (pe_meth (pv 0) T.cl_Desk T.M_Desk_tell_step (ok_Desk_tell_step T) (hr.mono (by decide)) T.B_Desk_tell_step .nil (passes_call (takes_of rfl rfl rfl rfl) (fun _ _ _ _ h => h)) (pa_cons (pe_meth0 (pv 1) T.cl_CallReader T.M_CallReader_take_number (ok_CallReader_take_number T) (hr.mono (by decide)) T.B_CallReader_take_number .nil pass0) pa_nil))))
    pss_nil)
    (pss_cons (ps_if (pt_cmpR op_eq (pv 2) (pe_gi rfl T.c_INFO.choose_spec) (nomark _))
    (pss_one (ps_ret (pe_meth (pv 0) T.cl_Desk T.M_Desk_tell_statement (ok_Desk_tell_statement T) (hr.mono (by decide)) T.B_Desk_tell_statement .nil (passes_call (takes_of rfl rfl rfl rfl) (fun _ _ _ _ h => h)) (pa_cons (pe_meth0 (pv 1) T.cl_CallReader T.M_CallReader_take_number (ok_CallReader_take_number T) (hr.mono (by decide)) T.B_CallReader_take_number .nil pass0) pa_nil))))
    pss_nil)
    (pss_cons (ps_if (pt_cmpR op_eq (pv 2) (pe_gi rfl T.c_ONLY.choose_spec) (nomark _))
    (pss_one (ps_ret (pe_meth (pv 0) T.cl_Desk T.M_Desk_tell_text_alone (ok_Desk_tell_text_alone T) (hr.mono (by decide)) T.B_Desk_tell_text_alone .nil (passes_call (takes_of rfl rfl rfl rfl) (fun _ _ _ _ h => h)) (pa_cons (pe_meth0 (pv 1) T.cl_CallReader T.M_CallReader_take_row (ok_CallReader_take_row T) (hr.mono (by decide)) T.B_CallReader_take_row .nil pass0) pa_nil))))
    pss_nil)
    (pss_cons (ps_if (pt_cmpR op_eq (pv 2) (pe_gi rfl T.c_RUNONLY.choose_spec) (nomark _))
    (pss_one (ps_ret (pe_meth (pv 0) T.cl_Desk T.M_Desk_tell_account_alone (ok_Desk_tell_account_alone T) (hr.mono (by decide)) T.B_Desk_tell_account_alone .nil (passes_call (takes_of rfl rfl rfl rfl) (fun _ _ _ _ h => h)) (pa_cons (pe_meth0 (pv 1) T.cl_CallReader T.M_CallReader_take_row (ok_CallReader_take_row T) (hr.mono (by decide)) T.B_CallReader_take_row .nil pass0) pa_nil))))
    pss_nil)
    (pss_cons (ps_if (pt_cmpR op_eq (pv 2) (pe_gi rfl T.c_SAME.choose_spec) (nomark _))
    (pss_cons (ps_set (i := 3) sc_answer_next.nd rfl (Or.inl rfl) (pe_meth0 (pv 1) T.cl_CallReader T.M_CallReader_take_number (ok_CallReader_take_number T) (hr.mono (by decide)) T.B_CallReader_take_number .nil pass0))
    (pss_one (ps_ret (pe_meth (pv 0) T.cl_Desk T.M_Desk_tell_same (ok_Desk_tell_same T) (hr.mono (by decide)) T.B_Desk_tell_same .nil (passes_call (takes_of rfl rfl rfl rfl) (fun _ _ _ _ h => h)) (pa_cons (pv 3) (pa_cons (pe_meth0 (pv 1) T.cl_CallReader T.M_CallReader_take_row (ok_CallReader_take_row T) (hr.mono (by decide)) T.B_CallReader_take_row .nil pass0) pa_nil))))))
    pss_nil)
    (pss_cons (ps_if (pt_cmpR op_eq (pv 2) (pe_gi rfl T.c_SIZE.choose_spec) (nomark _))
    (pss_one (ps_ret (pe_meth0 (pv 0) T.cl_Desk T.M_Desk_tell_size (ok_Desk_tell_size T) (hr.mono (by decide)) T.B_Desk_tell_size .nil pass0)))
    pss_nil)
    (pss_one (ps_raise rfl (takes_of rfl rfl rfl rfl) (pmk_own0 PySem.F.excBase_Exception T.x_UnknownCall.x T.x_UnknownCall.g T.x_UnknownCall.k (raises_own T.x_UnknownCall.b T.x_UnknownCall.t) (by exact rfl))))))))))))))))), ?_⟩
    obtain ⟨H0, D, s', t, C, ns, n, c, r, k, rfl, hD, hC, ap, no, hcall, hask, hk, kY, kN⟩ := h
    have sh := call_shaped hcall
    generalize hl : ns.drop n = l at sh
    have nDC : D.o ≠ C.o := fun e => ap (Or.inl e.symm)
    have head : ∀ {p : Int} {l0 : List Int}, ns.drop n = p :: l0 → ns[n]? = some p ∧ ns.drop (n + 1) = l0 ∧ n < ns.length := fun e => drop_head e
    cases sh with
    | row p j r1 hp hj =>
      obtain ⟨g1, g2, g3⟩ := drop_head hl
      obtain ⟨g4, g5, g6⟩ := drop_head g2
      have len : n + 1 + 1 + j ≤ ns.length := by
        have := congrArg List.length g5
        rw [List.length_drop] at this
        omega
      have dropR : ns.drop (n + 1 + 1 + j) = r1.drop j := by rw [← g5, List.drop_drop]
      refine q_asgMeth (Evl.ev_var rfl) hC.ob (cF_no1 _ _) Evl.ea_nil fun H1 e1 => ⟨H0, C, ns, n, p, rfl, hC.mono e1, g1, fun H2 f2 R2 => ?_⟩
      have F02 : Fr C.o H H2 := (Fr.of e1).trans f2
      have D2 : DeskAt a H2 D s' t := hD.keep F02 ap
      rcases hp with rfl | rfl | rfl | rfl
      · refine take (Ex.refl H2) rfl rfl fun H3 e3 => ?_
        have hk' : VaslcaNeutral.callOf [[0], r1.take j] = some k := hk
        have ha : ((r1.take j).all (fun (z : Int) => VaslcaNeutral.natural z 8) && decide ((r1.take j).length ≤ 1000)) = true := hask
        rw [Bool.and_eq_true] at ha
        obtain ⟨b1, b2⟩ := bytes_text ha.1
        have ek : k = .program ((r1.take j).map fun b => UInt8.ofNat b.toNat) := by
          have : (VaslcaNeutral.text? (r1.take j)).map Vaslca.Call.program = some k := hk'
          rw [b1] at this
          exact (Option.some.inj this).symm
        subst ek
        refine s_deskR (D2.mono e3) (R2.mono e3) rfl rfl (dF_no3 _ _) g4 len fun q H4 f4 R4 hq => ?_
        have F04 : Fr C.o H H4 := (F02.trans (Fr.of e3)).trans f4
        have D4 := hD.keep F04 ap
        rw [g5, b2] at hq
        refine ⟨D, s', t, q, _, rfl, D4, hq, by rw [List.length_map]; exact of_decide_eq_true ha.2, fun c0 hc0 => ?_, fun hn H5 e5 => ?_⟩
        · have := kY ⟨c0, s'.input⟩ [(Vaslca.linesOf c0).length] (by
            show Vaslca.given (programOf _) 1 _ = _
            rw [hc0]
            rfl)
          exact this.desk F04 D4 R4 ap no dropR len
        · have := kN 1 (by
            show Vaslca.given (programOf _) 1 _ = _
            rw [hn]
            rfl) _ (Or.inl ⟨rfl, rfl⟩)
          exact this _ H5 (F04.trans (Fr.of e5)) (R4.mono e5) dropR len
      · refine skip (Ex.refl H2) rfl rfl fun H3 e3 => skip e3 rfl rfl fun H3 e3 => take e3 rfl rfl fun H3 e3 => ?_
        have ek : k = .inputs (r1.take j) := (Option.some.inj (show some (Vaslca.Call.inputs (r1.take j)) = some k from hk)).symm
        subst ek
        have ha : ((r1.take j).all (fun (z : Int) => VaslcaNeutral.whole60 z) && decide ((r1.take j).length ≤ 20)) = true := hask
        rw [Bool.and_eq_true] at ha
        have ha2 : (r1.take j).length ≤ 20 := of_decide_eq_true ha.2
        refine s_deskR (D2.mono e3) (R2.mono e3) rfl rfl (dF_no5 _ _) g4 len fun q H4 f4 R4 hq => ?_
        have F04 : Fr C.o H H4 := (F02.trans (Fr.of e3)).trans f4
        have D4 := hD.keep F04 ap
        rw [g5] at hq
        refine ⟨D, s', t, q, _, rfl, D4, hq, by omega, fun i hi => ?_, fun hn H5 e5 => ?_⟩
        · have := kY ⟨s'.code, i⟩ [i.length] (by
            show Vaslca.given (Vaslca.inputOf _) 2 _ = _
            rw [hi]
            rfl)
          exact this.desk F04 D4 R4 ap no dropR len
        · have := kN 2 (by
            show Vaslca.given (Vaslca.inputOf _) 2 _ = _
            rw [hn]
            rfl) _ (Or.inr (Or.inl ⟨rfl, Or.inl rfl⟩))
          exact this _ H5 (F04.trans (Fr.of e5)) (R4.mono e5) dropR len
      · refine skip (Ex.refl H2) rfl rfl fun H3 e3 => skip e3 rfl rfl fun H3 e3 => skip e3 rfl rfl fun H3 e3 => skip e3 rfl rfl fun H3 e3 => skip e3 rfl rfl fun H3 e3 => skip e3 rfl rfl fun H3 e3 => skip e3 rfl rfl fun H3 e3 => skip e3 rfl rfl fun H3 e3 => take e3 rfl rfl fun H3 e3 => ?_
        have ek : k = .only (r1.take j) := (Option.some.inj (show some (Vaslca.Call.only (r1.take j)) = some k from hk)).symm
        subst ek
        refine s_deskR (D2.mono e3) (R2.mono e3) rfl rfl (dF_no14 _ _) g4 len fun q H4 f4 R4 hq => ?_
        have F04 : Fr C.o H H4 := (F02.trans (Fr.of e3)).trans f4
        have D4 := hD.keep F04 ap
        rw [g5] at hq
        refine ⟨D, s', t, q, _, rfl, D4, hq, fun i hi => ?_, fun hn H5 e5 => ?_⟩
        · have := kY s' (toldText (Vaslca.programText (Vaslca.only i s'.code))) (by
            show Vaslca.given (Vaslca.keptOf s'.code _) 4 _ = _
            rw [hi]
            rfl)
          exact this.new F04 D4 R4 dropR len
        · have := kN 4 (by
            show Vaslca.given (Vaslca.keptOf s'.code _) 4 _ = _
            rw [hn]
            rfl) _ (Or.inr (Or.inr (Or.inr ⟨rfl, rfl⟩)))
          exact this _ H5 (F04.trans (Fr.of e5)) (R4.mono e5) dropR len
      · refine skip (Ex.refl H2) rfl rfl fun H3 e3 => skip e3 rfl rfl fun H3 e3 => skip e3 rfl rfl fun H3 e3 => skip e3 rfl rfl fun H3 e3 => skip e3 rfl rfl fun H3 e3 => skip e3 rfl rfl fun H3 e3 => skip e3 rfl rfl fun H3 e3 => skip e3 rfl rfl fun H3 e3 => skip e3 rfl rfl fun H3 e3 => take e3 rfl rfl fun H3 e3 => ?_
        have ek : k = .runOnly (r1.take j) := (Option.some.inj (show some (Vaslca.Call.runOnly (r1.take j)) = some k from hk)).symm
        subst ek
        refine s_deskR (D2.mono e3) (R2.mono e3) rfl rfl (dF_no15 _ _) g4 len fun q H4 f4 R4 hq => ?_
        have F04 : Fr C.o H H4 := (F02.trans (Fr.of e3)).trans f4
        have D4 := hD.keep F04 ap
        rw [g5] at hq
        refine ⟨D, s', t, q, _, rfl, D4, hq, fun i hi => ?_, fun hn H5 e5 => ?_⟩
        · have := kY s' (toldRun s'.code (runOf (Vaslca.only i s'.code) s'.input)) (by
            show Vaslca.given (Vaslca.keptOf s'.code _) 4 _ = _
            rw [hi]
            rfl)
          exact this.new F04 D4 R4 dropR len
        · have := kN 4 (by
            show Vaslca.given (Vaslca.keptOf s'.code _) 4 _ = _
            rw [hn]
            rfl) _ (Or.inr (Or.inr (Or.inr ⟨rfl, rfl⟩)))
          exact this _ H5 (F04.trans (Fr.of e5)) (R4.mono e5) dropR len
    | none p r hp =>
      obtain ⟨g1, g2, g3⟩ := drop_head hl
      refine q_asgMeth (Evl.ev_var rfl) hC.ob (cF_no1 _ _) Evl.ea_nil fun H1 e1 => ⟨H0, C, ns, n, p, rfl, hC.mono e1, g1, fun H2 f2 R2 => ?_⟩
      have F02 : Fr C.o H H2 := (Fr.of e1).trans f2
      have D2 : DeskAt a H2 D s' t := hD.keep F02 ap
      rcases hp with rfl | rfl | rfl | rfl
      · refine skip (Ex.refl H2) rfl rfl fun H3 e3 => take e3 rfl rfl fun H3 e3 => ?_
        have ek : k = .show_ := (Option.some.inj (show some Vaslca.Call.show_ = some k from hk)).symm
        subst ek
        exact s_desk0 (D2.mono e3) rfl (dF_no4 _ _) fun H4 e4 => ⟨D, s', t, rfl, D2.mono (e3.trans e4), (kY _ _ rfl).new (F02.trans (Fr.of (e3.trans e4))) (D2.mono (e3.trans e4)) (R2.mono (e3.trans e4)) g2 g3⟩
      · refine skip (Ex.refl H2) rfl rfl fun H3 e3 => skip e3 rfl rfl fun H3 e3 => skip e3 rfl rfl fun H3 e3 => take e3 rfl rfl fun H3 e3 => ?_
        have ek : k = .run := (Option.some.inj (show some Vaslca.Call.run = some k from hk)).symm
        subst ek
        exact s_desk0 (D2.mono e3) rfl (dF_no6 _ _) fun H4 e4 => ⟨D, s', t, rfl, D2.mono (e3.trans e4), (kY _ _ rfl).new (F02.trans (Fr.of (e3.trans e4))) (D2.mono (e3.trans e4)) (R2.mono (e3.trans e4)) g2 g3⟩
      · refine skip (Ex.refl H2) rfl rfl fun H3 e3 => skip e3 rfl rfl fun H3 e3 => skip e3 rfl rfl fun H3 e3 => skip e3 rfl rfl fun H3 e3 => skip e3 rfl rfl fun H3 e3 => take e3 rfl rfl fun H3 e3 => ?_
        have ek : k = .trace := (Option.some.inj (show some Vaslca.Call.trace = some k from hk)).symm
        subst ek
        exact s_desk0 (D2.mono e3) rfl (dF_no8 _ _) fun H4 e4 => ⟨D, s', t, rfl, D2.mono (e3.trans e4), (kY _ _ rfl).new (F02.trans (Fr.of (e3.trans e4))) (D2.mono (e3.trans e4)) (R2.mono (e3.trans e4)) g2 g3⟩
      · refine skip (Ex.refl H2) rfl rfl fun H3 e3 => skip e3 rfl rfl fun H3 e3 => skip e3 rfl rfl fun H3 e3 => skip e3 rfl rfl fun H3 e3 => skip e3 rfl rfl fun H3 e3 => skip e3 rfl rfl fun H3 e3 => skip e3 rfl rfl fun H3 e3 => skip e3 rfl rfl fun H3 e3 => skip e3 rfl rfl fun H3 e3 => skip e3 rfl rfl fun H3 e3 => skip e3 rfl rfl fun H3 e3 => take e3 rfl rfl fun H3 e3 => ?_
        have ek : k = .size := (Option.some.inj (show some Vaslca.Call.size = some k from hk)).symm
        subst ek
        exact s_desk0 (D2.mono e3) rfl (dF_no9 _ _) fun H4 e4 => ⟨D, s', t, rfl, D2.mono (e3.trans e4), (kY _ _ rfl).new (F02.trans (Fr.of (e3.trans e4))) (D2.mono (e3.trans e4)) (R2.mono (e3.trans e4)) g2 g3⟩
    | one p z r hp =>
      obtain ⟨g1, g2, g3⟩ := drop_head hl
      obtain ⟨g4, g5, g6⟩ := drop_head g2
      refine q_asgMeth (Evl.ev_var rfl) hC.ob (cF_no1 _ _) Evl.ea_nil fun H1 e1 => ⟨H0, C, ns, n, p, rfl, hC.mono e1, g1, fun H2 f2 R2 => ?_⟩
      have F02 : Fr C.o H H2 := (Fr.of e1).trans f2
      have D2 : DeskAt a H2 D s' t := hD.keep F02 ap
      rcases hp with rfl | rfl | rfl
      · refine skip (Ex.refl H2) rfl rfl fun H3 e3 => skip e3 rfl rfl fun H3 e3 => skip e3 rfl rfl fun H3 e3 => skip e3 rfl rfl fun H3 e3 => take e3 rfl rfl fun H3 e3 => ?_
        have ek : k = .values z := (Option.some.inj (show some (Vaslca.Call.values z) = some k from hk)).symm
        subst ek
        refine s_deskN (D2.mono e3) (R2.mono e3) rfl rfl (dF_no7 _ _) g4 fun H4 f4 R4 => ?_
        have F04 : Fr C.o H H4 := (F02.trans (Fr.of e3)).trans f4
        have D4 := hD.keep F04 ap
        refine ⟨D, s', t, z, rfl, D4, fun hz => (kY s' _ (by
            show Vaslca.onLine s' z (fun k => Vaslca.tell s' (toldNats (valuesAt (runOf s'.code s'.input) k))) = _
            rw [line_ok hz]
            rfl)).new F04 D4 R4 g5 g6, fun hz H5 e5 => (kN 3 (by
            show Vaslca.onLine s' z (fun k => Vaslca.tell s' (toldNats (valuesAt (runOf s'.code s'.input) k))) = _
            rw [line_bad hz]) _ (Or.inr (Or.inr (Or.inl ⟨rfl, rfl⟩)))) _ H5 (F04.trans (Fr.of e5)) (R4.mono e5) g5 g6⟩
      · refine skip (Ex.refl H2) rfl rfl fun H3 e3 => skip e3 rfl rfl fun H3 e3 => skip e3 rfl rfl fun H3 e3 => skip e3 rfl rfl fun H3 e3 => skip e3 rfl rfl fun H3 e3 => skip e3 rfl rfl fun H3 e3 => take e3 rfl rfl fun H3 e3 => ?_
        have ek : k = .step z := (Option.some.inj (show some (Vaslca.Call.step z) = some k from hk)).symm
        subst ek
        refine s_deskN (D2.mono e3) (R2.mono e3) rfl rfl (dF_no12 _ _) g4 fun H4 f4 R4 => ?_
        have F04 : Fr C.o H H4 := (F02.trans (Fr.of e3)).trans f4
        have D4 := hD.keep F04 ap
        have dz : Vaslca.does s' (.step z) = if z < 0 then .error 2 else Vaslca.given (runOf s'.code s'.input).steps[z.toNat]? 2 fun x => Vaslca.tell s' (toldStep x ++ Vaslca.toldTexts (x.uses.map fun u => u.name)) := rfl
        refine ⟨D, s', t, z, rfl, D4, fun x hz hx => (kY s' _ (by rw [dz, if_neg hz, hx]; rfl)).new F04 D4 R4 g5 g6, fun hz H5 e5 => (kN 2 (by
            rw [dz]
            by_cases z0 : z < 0
            · rw [if_pos z0]
            · rw [if_neg z0]
              rcases hz with w | w
              · exact absurd w z0
              · rw [w]
                rfl) _ (Or.inr (Or.inl ⟨rfl, Or.inr rfl⟩))) _ H5 (F04.trans (Fr.of e5)) (R4.mono e5) g5 g6⟩
      · refine skip (Ex.refl H2) rfl rfl fun H3 e3 => skip e3 rfl rfl fun H3 e3 => skip e3 rfl rfl fun H3 e3 => skip e3 rfl rfl fun H3 e3 => skip e3 rfl rfl fun H3 e3 => skip e3 rfl rfl fun H3 e3 => skip e3 rfl rfl fun H3 e3 => take e3 rfl rfl fun H3 e3 => ?_
        have ek : k = .info z := (Option.some.inj (show some (Vaslca.Call.info z) = some k from hk)).symm
        subst ek
        refine s_deskN (D2.mono e3) (R2.mono e3) rfl rfl (dF_no13 _ _) g4 fun H4 f4 R4 => ?_
        have F04 : Fr C.o H H4 := (F02.trans (Fr.of e3)).trans f4
        have D4 := hD.keep F04 ap
        have dz : Vaslca.does s' (.info z) = Vaslca.onLine s' z fun k => Vaslca.given (Vaslca.infoAt s'.code k) 3 fun i => Vaslca.tell s' (i.kind :: (toldText (i.sets.getD []) ++ (Vaslca.toldTexts i.uses ++ toldNats i.around))) := rfl
        refine ⟨D, s', t, z, rfl, D4, fun i hz hi => (kY s' _ (by rw [dz, line_ok hz, hi]; rfl)).new F04 D4 R4 g5 g6, fun hz H5 e5 => (kN 3 (by rw [dz, line_bad hz]) _ (Or.inr (Or.inr (Or.inl ⟨rfl, rfl⟩)))) _ H5 (F04.trans (Fr.of e5)) (R4.mono e5) g5 g6⟩
    | both z j r1 hj =>
      obtain ⟨g1, g2, g3⟩ := drop_head hl
      obtain ⟨g4, g5, g6⟩ := drop_head g2
      obtain ⟨g7, g8, g9⟩ := drop_head g5
      have len : n + 1 + 1 + 1 + j ≤ ns.length := by
        have := congrArg List.length g8
        rw [List.length_drop] at this
        omega
      have dropR : ns.drop (n + 1 + 1 + 1 + j) = r1.drop j := by rw [← g8, List.drop_drop]
      refine q_asgMeth (Evl.ev_var rfl) hC.ob (cF_no1 _ _) Evl.ea_nil fun H1 e1 => ⟨H0, C, ns, n, 10, rfl, hC.mono e1, g1, fun H2 f2 R2 => ?_⟩
      have F02 : Fr C.o H H2 := (Fr.of e1).trans f2
      have D2 : DeskAt a H2 D s' t := hD.keep F02 ap
      refine skip (Ex.refl H2) rfl rfl fun H3 e3 => skip e3 rfl rfl fun H3 e3 => skip e3 rfl rfl fun H3 e3 => skip e3 rfl rfl fun H3 e3 => skip e3 rfl rfl fun H3 e3 => skip e3 rfl rfl fun H3 e3 => skip e3 rfl rfl fun H3 e3 => skip e3 rfl rfl fun H3 e3 => skip e3 rfl rfl fun H3 e3 => skip e3 rfl rfl fun H3 e3 => take e3 rfl rfl fun H3 e3 => ?_
      have ek : k = .same z (r1.take j) := (Option.some.inj (show some (Vaslca.Call.same z (r1.take j)) = some k from hk)).symm
      subst ek
      refine q_asgMeth (Evl.ev_var rfl) (R2.mono e3).ob (cF_no1 _ _) Evl.ea_nil fun H4 e4 => ⟨H0, C, ns, n + 1, z, rfl, R2.mono (e3.trans e4), g4, fun H5 f5 R5 => ?_⟩
      have F05 : Fr C.o H H5 := (F02.trans (Fr.of (e3.trans e4))).trans f5
      have D5 : DeskAt a H5 D s' t := hD.keep F05 ap
      refine s_deskVR D5 R5 rfl rfl rfl (dF_no16 _ _) g7 len fun q H6 f6 R6 hq => ?_
      have F06 : Fr C.o H H6 := F05.trans f6
      have D6 := hD.keep F06 ap
      rw [g8] at hq
      have dz : Vaslca.does s' (.same z (r1.take j)) = Vaslca.onLine s' z fun k => Vaslca.given (Vaslca.keptOf s'.code (r1.take j)) 4 fun m => Vaslca.tell s' (alike (valuesAt (runOf s'.code s'.input) k) (valuesAt (runOf (Vaslca.only m s'.code) s'.input) k)) := rfl
      refine ⟨D, s', t, z, q, _, rfl, D6, hq, fun m hz hm => (kY s' _ (by rw [dz, line_ok hz, hm]; rfl)).new F06 D6 R6 dropR len, fun hz H7 e7 => (kN 3 (by rw [dz, line_bad hz]) _ (Or.inr (Or.inr (Or.inl ⟨rfl, rfl⟩)))) _ H7 (F06.trans (Fr.of e7)) (R6.mono e7) dropR len,
        fun hz hm H7 e7 => (kN 4 (by rw [dz, line_ok hz, hm]; rfl) _ (Or.inr (Or.inr (Or.inr ⟨rfl, rfl⟩)))) _ H7 (F06.trans (Fr.of e7)) (R6.mono e7) dropR len⟩
end VP
set_option Elab.async false
set_option linter.all false
set_option maxRecDepth 100000
set_option maxHeartbeats 4000000
namespace VP
open PySem PySem.Spec PyProof.Rows L2 TL
open Vaslca (Text Name toldOption begin_ runOf valuesAt programOf toldText toldNats toldRun toldStep statusNumber)
open VO (Head Numbered)
open Evl (Ex Ev EvT EvA EvL EvU)
variable {P : Program} {w : World} {K : PySem.W.Frag} {mg : Str → Option Value} {base : Heap} {a : Ad}

def sp_answer_or_refusal {K : PySem.W.Frag} (a : Ad) : Sp := fun vs H Q _ => ∃ (H0 : Hp) (D : DA) (s : Vaslca.State) (t : Text) (C : CAd) (ns : List Int) (n : Nat) (c : List (List Int)) (r : List Int), vs = [.ref D.o, .ref C.o] ∧ DeskAt a H D s t ∧ RdAt K a H0 H C ns n ∧ ¬ InD D C.o ∧ H0 D.o = none ∧
  PyFlat.call PyVaslca.shape (ns.drop n) = some (c, r) ∧ VaslcaNeutral.asked1 (PyVaslca.whole c) = true ∧ RetA K a H0 D C ns r (VaslcaNeutral.step s (PyVaslca.whole c)).1 ((VaslcaNeutral.step s (PyVaslca.whole c)).2.map V.int) H Q
theorem called {c : List (List Int)} {l r : List Int} (sh : Shaped c l r) (ha : VaslcaNeutral.asked1 (PyVaslca.whole c) = true) : ∃ k, VaslcaNeutral.callOf (PyVaslca.whole c) = some k := by
  cases sh with
  | row p j r1 hp hj =>
    rcases hp with rfl | rfl | rfl | rfl
    · have h : ((r1.take j).all (fun (z : Int) => VaslcaNeutral.natural z 8) && decide ((r1.take j).length ≤ 1000)) = true := ha
      rw [Bool.and_eq_true] at h
      obtain ⟨b1, _⟩ := bytes_text h.1
      refine ⟨.program ((r1.take j).map fun b => UInt8.ofNat b.toNat), ?_⟩
      show (VaslcaNeutral.text? (r1.take j)).map Vaslca.Call.program = _
      rw [b1]
      rfl
    · exact ⟨_, rfl⟩
    · exact ⟨_, rfl⟩
    · exact ⟨_, rfl⟩
  | none p r hp => rcases hp with rfl | rfl | rfl | rfl <;> exact ⟨_, rfl⟩
  | one p z r hp => rcases hp with rfl | rfl | rfl <;> exact ⟨_, rfl⟩
  | both z j r1 hj => exact ⟨_, rfl⟩
theorem ints_nat (l : List Nat) : (l.map Int.ofNat).map V.int = natV l := by
  unfold natV
  rw [List.map_map]
  rfl
theorem RetA.mono {H0 H H1 : Hp} {D : DA} {C : CAd} {ns r : List Int} {s : Vaslca.State} {xs : List V} {Q : VK} (h : RetA K a H0 D C ns r s xs H Q) (e : Ex H H1) : RetA K a H0 D C ns r s xs H1 Q := fun D' t' n' H' q eo f d rd hr hn foot nq hq =>
  h D' t' n' H' q eo (fun b o hb h1 h2 => f b o (e b o hb) h1 h2) d rd hr hn (fun x hx => (foot x hx).imp id (Evl.fresh_back e)) (Evl.fresh_back e nq) hq
theorem s_retCallS {σ : L2.St} {H : Hp} {D : Ends} {t : TA} {sp : Sp} {vs : List V} {E : L2.St → XK} (h : EvA t σ H vs) (k : ∀ H1, Ex H H1 → sp vs H1 D.rt (E σ)) : tRet (tCallS sp E t) D σ H := h H (Ex.refl H) _ k
theorem ok_answer_or_refusal (T : Facts K mg a) : FnOk P w K mg base CX0 20 a.f_answer_or_refusal a.d_answer_or_refusal ["desk", "reader"] (sp_answer_or_refusal (K := K) a) := by
  refine T.F_answer_or_refusal.ok sc_answer_or_refusal (fun vs H Q E h => ?_) (fun cdv A outer s H vs Q E hr h => ?_)
  · obtain ⟨H0, D, s, t, C, ns, n, c, r, rfl, _⟩ := h
    rfl
  · refine ⟨_, (pss_one (ps_try_many rfl rfl takes0 (fun W pn xe tk _ => (pss_one (ps_ret (pe_callS (ok_answer_next T) (hr.mono (by decide)) rfl T.g_answer_next T.F_answer_next.kp T.B_answer_next (fun σ => passAt tk σ) (pa_cons (pv 0) (pa_cons (pv 1) pa_nil)))))) (.cons ⟨rfl, by decide, .inl T.x_NotAProgram.g⟩ (fun _ _ _ _ _ _ _ => (pss_one (ps_ret (pe_lst (pa_cons (pe_un un_neg pe_int) pa_nil))))) (.cons ⟨rfl, by decide, .inl T.x_NotAnInput.g⟩ (fun _ _ _ _ _ _ _ => (pss_one (ps_ret (pe_lst (pa_cons (pe_un un_neg pe_int) pa_nil))))) (.cons ⟨rfl, by decide, .inl T.x_NoSuchStep.g⟩ (fun _ _ _ _ _ _ _ => (pss_one (ps_ret (pe_lst (pa_cons (pe_un un_neg pe_int) pa_nil))))) (.cons ⟨rfl, by decide, .inl T.x_NoSuchLine.g⟩ (fun _ _ _ _ _ _ _ => (pss_one (ps_ret (pe_lst (pa_cons (pe_un un_neg pe_int) pa_nil))))) (.cons ⟨rfl, by decide, .inl T.x_NotSomeLines.g⟩ (fun _ _ _ _ _ _ _ => (pss_one (ps_ret (pe_lst (pa_cons (pe_un un_neg pe_int) pa_nil))))) .nil))))))), ?_⟩
    obtain ⟨H0, D, s', t, C, ns, n, c, r, rfl, hD, hC, ap, no, hcall, hask, q⟩ := h
    obtain ⟨k, hk⟩ := called (call_shaped hcall) hask
    refine s_retCallS (vs := [.ref D.o, .ref C.o]) (Evl.ea_cons (Evl.ev_var rfl) (Evl.ea_cons (Evl.ev_var rfl) Evl.ea_nil)) fun H1 e1 => ⟨H0, D, s', t, C, ns, n, c, r, k, rfl, hD.mono e1, hC.mono e1, ap, no, hcall, hask, hk, fun s2 l hdo => ?_, fun e hdo => ?_⟩
    · have es : VaslcaNeutral.step s' (PyVaslca.whole c) = (s2, l.map Int.ofNat) := by
        unfold VaslcaNeutral.step
        rw [hk]
        simp only [Vaslca.step, hdo]
        rfl
      rw [es, ints_nat] at q
      exact q.mono e1
    · have es : VaslcaNeutral.step s' (PyVaslca.whole c) = (s', [-(e : Int)]) := by
        unfold VaslcaNeutral.step
        rw [hk]
        simp only [Vaslca.step, hdo]
        rfl
      rw [es] at q
      intro c hcls n' H2 f2 R2 hr2 hn2
      have F02 : Fr C.o H H2 := fun b o hb hne => f2 b o (e1 b o hb) hne
      have D2 := hD.keep F02 ap
      have fin : ∀ (x : V), x = .int (-(e : Int)) → ∀ (qa : Addr) (H3 : Hp), H2 qa = none → Ex H2 H3 → H3 qa = some (.lst [x]) → Q (.ref qa) H3 := fun x hx qa H3 nq e3 hq =>
        q D t n' H3 qa rfl (fun b o hb _ h2 => e3 _ _ (F02 b o hb h2)) (D2.mono e3) (R2.mono e3) hr2 hn2 (fun y hy => Or.inl hy) (free_of F02 R2 nq) (by rw [hq, hx]; rfl)
      rcases hcls with ⟨rfl, rfl⟩ | ⟨rfl, rfl | rfl⟩ | ⟨rfl, rfl⟩ | ⟨rfl, rfl⟩
      · exact ⟨true, T.e_NotAProgram_NotAProgram, fun _ _ _ => Evl.s_retL (xs := [.int (-1)]) (Evl.el_lst (Evl.ea_cons (Evl.ev_un Evl.ev_c Evl.ru_neg) Evl.ea_nil) (by simp)) fun qa H3 nq e3 hq => fin _ rfl qa H3 nq e3 hq, fun z => by cases z⟩
      · exact ⟨false, T.e_NotAnInput_NotAProgram, fun z => (by cases z), fun _ => ⟨true, T.e_NotAnInput_NotAnInput, fun _ _ _ => Evl.s_retL (xs := [.int (-2)]) (Evl.el_lst (Evl.ea_cons (Evl.ev_un Evl.ev_c Evl.ru_neg) Evl.ea_nil) (by simp)) fun qa H3 nq e3 hq => fin _ rfl qa H3 nq e3 hq, fun z => by cases z⟩⟩
      · exact ⟨false, T.e_NoSuchStep_NotAProgram, fun z => (by cases z), fun _ => ⟨false, T.e_NoSuchStep_NotAnInput, fun z => (by cases z), fun _ => ⟨true, T.e_NoSuchStep_NoSuchStep, fun _ _ _ => Evl.s_retL (xs := [.int (-2)]) (Evl.el_lst (Evl.ea_cons (Evl.ev_un Evl.ev_c Evl.ru_neg) Evl.ea_nil) (by simp)) fun qa H3 nq e3 hq => fin _ rfl qa H3 nq e3 hq, fun z => by cases z⟩⟩⟩
      · exact ⟨false, T.e_NoSuchLine_NotAProgram, fun z => (by cases z), fun _ => ⟨false, T.e_NoSuchLine_NotAnInput, fun z => (by cases z), fun _ => ⟨false, T.e_NoSuchLine_NoSuchStep, fun z => (by cases z), fun _ => ⟨true, T.e_NoSuchLine_NoSuchLine, fun _ _ _ => Evl.s_retL (xs := [.int (-3)]) (Evl.el_lst (Evl.ea_cons (Evl.ev_un Evl.ev_c Evl.ru_neg) Evl.ea_nil) (by simp)) fun qa H3 nq e3 hq => fin _ rfl qa H3 nq e3 hq, fun z => by cases z⟩⟩⟩⟩
      · exact ⟨false, T.e_NotSomeLines_NotAProgram, fun z => (by cases z), fun _ => ⟨false, T.e_NotSomeLines_NotAnInput, fun z => (by cases z), fun _ => ⟨false, T.e_NotSomeLines_NoSuchStep, fun z => (by cases z), fun _ => ⟨false, T.e_NotSomeLines_NoSuchLine, fun z => (by cases z), fun _ => ⟨true, T.e_NotSomeLines_NotSomeLines, fun _ _ _ => Evl.s_retL (xs := [.int (-4)]) (Evl.el_lst (Evl.ea_cons (Evl.ev_un Evl.ev_c Evl.ru_neg) Evl.ea_nil) (by simp)) fun qa H3 nq e3 hq => fin _ rfl qa H3 nq e3 hq, fun z => by cases z⟩⟩⟩⟩⟩
end VP
set_option Elab.async false
set_option linter.all false
set_option maxRecDepth 100000
set_option maxHeartbeats 4000000
namespace VP
open PySem PySem.Spec PyProof.Rows L2 TL
open Vaslca (Text Name)
open VO (Head Numbered)
open Evl (Ex Ev EvT EvA EvL EvU)
variable {P : Program} {w : World} {K : PySem.W.Frag} {mg : Str → Option Value} {base : Heap} {a : Ad}

theorem shaped_short {c : List (List Int)} {l r : List Int} (h : Shaped c l r) : r.length < l.length := by
  cases h with
  | row p k r1 _ _ => simp [List.length_drop]; omega
  | none p r _ => simp
  | one p z r _ => simp; omega
  | both z k r1 _ => simp [List.length_drop]; omega
section
variable {σ : L2.St} {H : Hp} {D : Ends} {tz : TS} {ta te : TE} {l : Addr} {xs : List V} {v : V}
theorem q_appV (hl : H l = some (.lst xs)) (ha : Ev ta σ H (.ref l)) (h : Ev te σ H v) (hz : xs.length < 12000000) (k : ∀ H1, Ex H H1 → tz D σ (upd H1 l (.lst (xs ++ [v])))) :
    tSeq (tDrop (tBM K "list" rAppend ta (tCons te tNil))) tz D σ H := ha H (Ex.refl H) _ fun H1 e1 =>
  ⟨Or.inl ⟨rfl, xs, Evl.sq_of (e1 l _ hl)⟩, h H1 e1 _ fun H2 e2 => ⟨l, xs, v, rfl, rfl, e2 l _ (e1 l _ hl), by rw [sizeLine_eq]; omega, k H2 (e1.trans e2)⟩⟩
theorem s_extW {p : Addr} {ys : List V} (hl : H l = some (.lst xs)) (ha : Ev ta σ H (.ref l)) (h : Ev te σ H (.ref p)) (hp : H p = some (.lst ys)) (hz : xs.length + ys.length ≤ 12000000) (k : ∀ H1, Ex H H1 → D.nx σ (upd H1 l (.lst (xs ++ ys)))) :
    tDrop (tBM K "list" rExtend ta (tCons te tNil)) D σ H := ha H (Ex.refl H) _ fun H1 e1 =>
  ⟨Or.inl ⟨rfl, xs, Evl.sq_of (e1 l _ hl)⟩, h H1 e1 _ fun H2 e2 => ⟨l, p, xs, ys, rfl, rfl, e2 l _ (e1 l _ hl), (e1.trans e2) p _ hp, by rw [sizeLine_eq]; omega, k H2 (e1.trans e2)⟩⟩
theorem q_asgCall {t : TA} {sp : Sp} {dvs vs : List V} {E : XK} {i : Nat} (h : EvA t σ H vs) (k : ∀ H1, Ex H H1 → sp (vs ++ dvs) H1 (fun v H2 => tz D (σ.set i (some v)) H2) E) : tSeq (tAsg (tCall sp dvs E t) (gName i)) tz D σ H := h H (Ex.refl H) _ k
end
/-- what is asked, as the loop needs it -/
structure Ask0 (ns : List Int) : Prop where
  ex : ∃ raw, PyFlat.calls PyVaslca.shape ns.length ns = some raw ∧ (∀ c ∈ raw, VaslcaNeutral.asked1 (PyVaslca.whole c) = true) ∧ PyVaslca.answers ns = PyFlat.told (PyFlat.played VaslcaNeutral.step VaslcaNeutral.start (raw.map PyVaslca.whole))
  sz : (PyVaslca.answers ns).length ≤ 10000000
theorem asked_is {ns : List Int} (h : PyVaslca.answers_asked ns = true) : Ask0 ns := by
  unfold PyVaslca.answers_asked at h
  cases q : PyFlat.calls PyVaslca.shape ns.length ns with
  | none => rw [q] at h; cases h
  | some raw =>
    rw [q] at h
    dsimp only at h
    rw [Bool.and_eq_true] at h
    obtain ⟨h1, h2⟩ := h
    rw [Bool.and_eq_true] at h1
    obtain ⟨_, h3⟩ := h1
    unfold VaslcaNeutral.asked at h3
    rw [Bool.and_eq_true] at h3
    refine ⟨⟨raw, q, fun c hc => ?_, ?_⟩, of_decide_eq_true h2⟩
    · have := h3.1
      rw [List.all_eq_true] at this
      exact this _ (List.mem_map.mpr ⟨c, hc, rfl⟩)
    · unfold PyVaslca.answers PyVaslca.calls
      rw [q]
def spA {K : PySem.W.Frag} : Sp := fun vs H Q _ => ∃ (l : Addr) (ns : List Int), vs = [.ref l] ∧ SqL K H l (ns.map V.int) ∧ ns.length ≤ 17000 ∧ Ask0 ns ∧ RetNew ((PyVaslca.answers ns).map V.int) H Q
def sp_answers {K : PySem.W.Frag} (_ : Ad) : Sp := spA (K := K)
/-- the loop's word -/
def Loop (K : PySem.W.Frag) (a : Ad) (l : Addr) (ns : List Int) (H : Hp) (C : CAd) (p : Addr) (m : Nat) (σ : L2.St) (H' : Hp) : Prop := ∃ (D : DA) (s : Vaslca.State) (t : Text) (n : Nat) (v : Option V) (raw : List (List (List Int))) (f : Nat) (dn : List Int),
  σ = [some (.ref l), some (.ref D.o), some (.ref C.o), some (.ref p), v] ∧ m = ns.length - n ∧ Ex H H' ∧ (H D.o = none ∧ H C.o = none ∧ H p = none) ∧ DeskAt a H' D s t ∧ RdAt K a H H' C ns n ∧ (¬ InD D C.o ∧ ¬ InD D p ∧ p ≠ C.o) ∧ n ≤ ns.length ∧
  PyFlat.calls PyVaslca.shape f (ns.drop n) = some raw ∧ (∀ c ∈ raw, VaslcaNeutral.asked1 (PyVaslca.whole c) = true) ∧ H' p = some (.lst (dn.map V.int)) ∧ PyVaslca.answers ns = dn ++ PyFlat.told (PyFlat.played VaslcaNeutral.step s (raw.map PyVaslca.whole))
theorem ok_answers (T : Facts K mg a) : FnOk P w K mg base CX0 21 a.f_answers a.d_answers ["calls"] (sp_answers (K := K) a) := by
  refine T.F_answers.ok sc_answers (fun vs H Q E h => ?_) (fun cdv A outer s H vs Q E hr h => ?_)
  · obtain ⟨l, ns, rfl, _⟩ := h
    rfl
  · refine ⟨_, (pss_cons (ps_set (i := 1) sc_answers.nd rfl (Or.inl rfl) (pe_make0 T.K_Desk (ok_Desk_init T) (hr.mono (by decide)) rfl T.g_Desk T.B_Desk_init .nil pass0))
    (pss_cons (ps_set (i := 2) sc_answers.nd rfl (Or.inl rfl) (pe_make T.K_CallReader (ok_CallReader_init T) (hr.mono (by decide)) rfl T.g_CallReader T.B_CallReader_init .nil pass0 (pa_cons (pv 0) pa_nil)))
    (pss_cons (ps_set (i := 3) sc_answers.nd rfl (Or.inl rfl) (pe_lst pa_nil))
    (pss_cons (ps_while PassesOwn.never (pt_val (pe_meth0 (pv 2) T.cl_CallReader T.M_CallReader_has_more (ok_CallReader_has_more T) (hr.mono (by decide)) T.B_CallReader_has_more .nil pass0))
    (pss_cons (ps_set (i := 4) sc_answers.nd rfl (Or.inl rfl) (pe_call (ok_answer_or_refusal T) (hr.mono (by decide)) rfl T.g_answer_or_refusal T.F_answer_or_refusal.kp T.B_answer_or_refusal .nil pass0 (pa_cons (pv 1) (pa_cons (pv 2) pa_nil))))
    (pss_cons (ps_expr (pe_bm PySem.F.plainAttrs_list PySem.F.slot_list_append PySem.F.type_list_append mt_append (pv 3) (pa_cons (pe_callB call_len_seq (by rfl) T.b_len (by decide +kernel) (pa_cons (pv 4) pa_nil)) pa_nil)))
    (pss_one (ps_expr (pe_bm PySem.F.plainAttrs_list PySem.F.slot_list_extend PySem.F.type_list_extend mt_extend (pv 3) (pa_cons (pv 4) pa_nil)))))))
    (pss_one (ps_ret (pv 3))))))), ?_⟩
    obtain ⟨l, ns, rfl, hl, hz, hask, q⟩ := h
    refine q_asgMake (vs := []) Evl.ea_nil fun H1 e1 x dx nx nd ne => ⟨x, dx, rfl, upd_same, fun D H2 eo f2 D2 foot2 => ⟨rfl, ?_⟩⟩
    subst eo
    have e12 : Ex H1 H2 := fun b o hb => f2 b o (by rw [upd_ne (ne_some hb nx), upd_ne (ne_some hb nd)]; exact hb) (ne_some hb nx)
    have e02 := e1.trans e12
    have hD0 : H D.o = none := Evl.fresh_back e1 nx
    refine q_asgMake (vs := [.ref l]) (Evl.ea_cons (Evl.ev_var rfl) Evl.ea_nil) fun H3 e3 y dy ny ndy ney => ⟨H, y, dy, l, ns, rfl, upd_same, fun b o hb => ?_, Evl.fresh_back (e02.trans e3) ny, hl, hz, fun H4 f4 R4 => ⟨rfl, ?_⟩⟩
    · rw [upd_ne (ne_some ((e02.trans e3) _ _ hb) ny), upd_ne (ne_some ((e02.trans e3) _ _ hb) ndy)]
      exact (e02.trans e3) _ _ hb
    have e34 : Ex H3 H4 := fun b o hb => f4 b o (by rw [upd_ne (ne_some hb ny), upd_ne (ne_some hb ndy)]; exact hb) (ne_some hb ny)
    have e24 := e3.trans e34
    refine Evl.q_asgL (xs := []) (Evl.el_lst Evl.ea_nil (by decide)) fun p H5 n5 e5 h5 => ?_
    have e05 := (e02.trans e24).trans e5
    have D5 := D2.mono (e24.trans e5)
    have R5 := R4.mono e5
    have y0 : H y = none := Evl.fresh_back (e02.trans e3) ny
    have p0 : H p = none := Evl.fresh_back (e02.trans e24) n5
    have apC : ¬ InD D y := fun z => by
      obtain ⟨o, ho⟩ := D2.foot z
      rw [Evl.fresh_back e3 ny] at ho
      cases ho
    have apP : ¬ InD D p := fun z => by
      obtain ⟨o, ho⟩ := D2.foot z
      rw [Evl.fresh_back e24 n5] at ho
      cases ho
    have py : p ≠ y := by
      rintro rfl
      rw [R4.ob] at n5
      cases n5
    obtain ⟨raw, c1, c2, c3⟩ := hask.ex
    have hsz := hask.sz
    refine Evl.q_while (Loop K a l ns H ⟨y, dy, l⟩ p) ns.length ⟨D, Vaslca.start, [], 0, none, raw, ns.length, [], rfl, (Nat.sub_zero _).symm, e05, ⟨hD0, y0, p0⟩, D5, R5, ⟨apC, apP, py⟩, Nat.zero_le _, by rw [List.drop_zero]; exact c1, c2, h5, by rw [List.nil_append]; exact c3⟩ ?_
    rintro m σ' H' ⟨D', s', t', n, v, raw', f, dn, rfl, rfl, ex, ⟨z1, z2, z3⟩, D6, R6, ⟨a1, a2, a3⟩, hn, hc, has, hp, han⟩
    have test : EvT (tB (tMeth a.C_CallReader "has_more" (sp_CallReader_has_more (K := K) a) [] E0 (tVar 2) tNil)) [some (.ref l), some (.ref D'.o), some (.ref y), some (.ref p), v] H' (decide (n < ns.length)) :=
      Evl.et_B (ev_meth (Evl.ev_var rfl) R6.ob (cF_no3 _ _) Evl.ea_nil fun H7 e7 Q q E => ⟨H, ⟨y, dy, l⟩, ns, n, rfl, R6.mono e7, q⟩)
    refine ⟨decide (n < ns.length), test, fun hb H7 e7 => ?_, fun hb H7 e7 => ?_⟩
    · have hn' : n < ns.length := of_decide_eq_true hb
      obtain ⟨z, rs, hd⟩ : ∃ z rs, ns.drop n = z :: rs := ⟨ns[n], _, List.drop_eq_getElem_cons hn'⟩
      rw [hd] at hc
      obtain ⟨f1, rfl⟩ : ∃ f1, f = f1 + 1 := by
        cases f with
        | zero => cases hc
        | succ f1 => exact ⟨f1, rfl⟩
      have hc' : (match PyFlat.call PyVaslca.shape (z :: rs) with
        | none => none
        | some (c, t) => match PyFlat.calls PyVaslca.shape f1 t with
          | none => none
          | some cs => some (c :: cs)) = some raw' := hc
      cases qc : PyFlat.call PyVaslca.shape (z :: rs) with
      | none => rw [qc] at hc'; cases hc'
      | some ct =>
        obtain ⟨c, tl⟩ := ct
        rw [qc] at hc'
        dsimp only at hc'
        cases qs : PyFlat.calls PyVaslca.shape f1 tl with
        | none => rw [qs] at hc'; cases hc'
        | some cs =>
          rw [qs] at hc'
          cases hc'
          have short := shaped_short (call_shaped qc)
          have D7 := D6.mono e7
          have R7 := R6.mono e7
          have hcall : PyFlat.call PyVaslca.shape (ns.drop n) = some (c, tl) := by rw [hd]; exact qc
          refine ⟨fun σ2 H2 => ∃ m', m' < ns.length - n ∧ Loop K a l ns H ⟨y, dy, l⟩ p m' σ2 H2, fun _ _ z => z, ?_⟩
          refine q_asgCall (vs := [.ref D'.o, .ref y]) (Evl.ea_cons (Evl.ev_var rfl) (Evl.ea_cons (Evl.ev_var rfl) Evl.ea_nil)) fun H8 e8 => ⟨H, D', s', t', ⟨y, dy, l⟩, ns, n, c, tl, rfl, D7.mono e8, R7.mono e8, a1, z1, hcall, has c (by simp), ?_⟩
          intro D9 t9 n9 H9 r9 eo9 f9 d9 rd9 hr9 hn9 foot9 nr9 hr
          have e68 := e7.trans e8
          have Dp : p ≠ D'.o := fun e => a2 (Or.inl e)
          have hp9 : H9 p = some (.lst (dn.map V.int)) := f9 p _ (e68 _ _ hp) Dp a3
          have np9 : ¬ InD D9 p := fun z => by
            rcases foot9 p z with q1 | q1
            · exact a2 q1
            · rw [e68 _ _ hp] at q1
              cases q1
          have nc9 : ¬ InD D9 y := fun z => by
            rcases foot9 y z with q1 | q1
            · exact a1 q1
            · rw [(R7.mono e8).ob] at q1
              cases q1
          have ex9 : Ex H H9 := fun b o hb => f9 b o (e68 _ _ (ex b o hb)) (ne_some hb z1) (ne_some hb z2)
          have rp : r9 ≠ p := by
            rintro rfl
            rw [e68 _ _ hp] at nr9
            cases nr9
          have lenA : PyVaslca.answers ns = dn ++ ((((VaslcaNeutral.step s' (PyVaslca.whole c)).2.length : Int) :: (VaslcaNeutral.step s' (PyVaslca.whole c)).2) ++ PyFlat.told (PyFlat.played VaslcaNeutral.step (VaslcaNeutral.step s' (PyVaslca.whole c)).1 (cs.map PyVaslca.whole))) := by
            rw [han]
            rfl
          generalize hst : VaslcaNeutral.step s' (PyVaslca.whole c) = st at *
          obtain ⟨s2, an⟩ := st
          dsimp only at lenA hr d9
          have lens := congrArg List.length lenA
          simp only [List.length_append, List.length_cons] at lens
          dsimp only
          refine q_appV (v := .int (an.length : Int)) hp9 (Evl.ev_var rfl) (ev_lenL (Evl.ev_var rfl) hr (List.length_map ..)) (by rw [List.length_map]; omega) fun H10 e10 => ?_
          have F10 : Fr p H9 (upd H10 p (.lst (dn.map V.int ++ [.int (an.length : Int)]))) := (Fr.of e10).put
          have hp10 : (upd H10 p (.lst (dn.map V.int ++ [.int (an.length : Int)]))) p = some (.lst (dn.map V.int ++ [.int (an.length : Int)])) := upd_same
          generalize upd H10 p (.lst (dn.map V.int ++ [.int (an.length : Int)])) = H11 at F10 hp10
          refine s_extW hp10 (Evl.ev_var rfl) (Evl.ev_var rfl) (F10 _ _ hr rp) (by simp only [List.length_append, List.length_map, List.length_cons, List.length_nil]; omega) fun H12 e12 => ?_
          have F12 : Fr p H9 (upd H12 p (.lst ((dn.map V.int ++ [.int (an.length : Int)]) ++ an.map V.int))) := (F10.trans (Fr.of e12)).put
          have hp12 : (upd H12 p (.lst ((dn.map V.int ++ [.int (an.length : Int)]) ++ an.map V.int))) p = some (.lst ((dn.map V.int ++ [.int (an.length : Int)]) ++ an.map V.int)) := upd_same
          generalize upd H12 p (.lst ((dn.map V.int ++ [.int (an.length : Int)]) ++ an.map V.int)) = H13 at F12 hp12
          have len9 : ns.length - n9 < ns.length - n := by
            have w1 := congrArg List.length hr9
            have w2 := congrArg List.length hd
            rw [List.length_drop] at w1 w2
            omega
          refine ⟨ns.length - n9, len9, D9, s2, t9, n9, some (.ref r9), cs, f1, (dn ++ [(an.length : Int)]) ++ an, by rw [eo9]; rfl, rfl, fun b o hb => F12 b o (ex9 b o hb) (ne_some hb z3), ⟨by rw [eo9]; exact z1, z2, z3⟩, d9.keep F12 np9, rd9.keep F12 (fun e => a3 e.symm) z3, ⟨nc9, np9, a3⟩, hn9, by rw [hr9]; exact qs, fun c' hc' => has c' (by simp [hc']), ?_, ?_⟩
          · rw [hp12, List.map_append, List.map_append]
            rfl
          · rw [lenA]
            simp
    · have hn' : ¬ n < ns.length := of_decide_eq_false hb
      rw [List.drop_of_length_le (by omega)] at hc
      have er : raw' = [] := by
        cases f <;> (cases hc; rfl)
      subst er
      have ea : PyVaslca.answers ns = dn := by
        rw [han]
        show dn ++ [] = dn
        exact List.append_nil _
      rw [ea] at q
      exact Evl.s_ret (Evl.ev_var rfl) fun H8 e8 => q p H8 z3 ((ex.trans e7).trans e8) (e8 _ _ (e7 _ _ hp))
end VP
set_option Elab.async false
set_option linter.all false
set_option maxRecDepth 100000
set_option maxHeartbeats 4000000
open PySem PySem.W PyProof.Rows
namespace VP
open PySem PySem.Spec PyProof.Rows L2 TL
/-- whether an error is what a clause names -/
theorem exm_is {K : PySem.W.Frag} {S U : Addr} {b : Bool} (u1 : PySem.W.subIn K (.ref S) (.type "BaseException") = some true) (u2 : PySem.W.isClsIn K S = true) (u3 : PySem.W.typeIn K (.ref S) = some (.type "type")) (u4 : PySem.W.subIn K (.ref U) (.ref S) = some b) : PySem.W.exmOne K (.ref U) (.ref S) = some b := by
  have w1 : (PySem.W.subIn K (.ref S) (.type "BaseException") == some true) = true := by rw [u1]; rfl
  have w2 : ((PySem.W.clsIn K S).isSome && PySem.W.typeIn K (.ref S) == some (.type "type")) = true := by
    rw [show (PySem.W.clsIn K S).isSome = true from u2, u3]
    rfl
  unfold PySem.W.exmOne
  rw [if_pos w1]
  show (if _ = true then PySem.W.subIn K (.ref U) (.ref S) else none) = some b
  rw [if_pos w2]
  exact u4
theorem all_mk {P : Program} {w : World} {K : PySem.W.Frag} {h : Heap} {mg : Str → Option Value} {fa : Addr} (X : K.In h) (G : h.Ns mainGlobals mg) (hfa : mg "answers" = some (.ref fa))
    {t_HEADER_WORDS t_NO_NAMES t_OPERATORS t_RELATIONS C_NotAProgram C_NotAnInput C_NoSuchStep C_NoSuchLine C_NotSomeLines C_UnknownCall C_Statement C_Program C_BlockBuilder C_Step C_Run C_Desk C_CallReader f_Statement_init f_is_number f_is_name f_is_atom f_names_among f_is_header f_read_statement f_read_header f_read_assignment f_check_atoms f_Program_init f_Program_all_lines f_Program_depth f_Program_text_alone f_Program_rows_alone f_BlockBuilder_init f_BlockBuilder_add_statement f_BlockBuilder_add_else f_read_program f_rows_of f_bytes_of f_Step_init f_Run_init f_Run_do_block f_Run_do_line f_Run_do_rounds f_Run_make_step f_Run_note_effects f_Run_test_around f_Run_origins_of f_Run_uses_of f_Run_take_value f_Run_number_of f_Run_output f_Run_row_at f_reckon f_run_lines f_Desk_init f_Desk_take_program f_Desk_tell_text f_Desk_take_numbers f_Desk_tell_account f_Desk_tell_row f_Desk_tell_trace f_Desk_tell_step f_Desk_tell_statement f_Desk_tell_text_alone f_Desk_tell_account_alone f_Desk_tell_same f_Desk_tell_size f_Desk_check_line f_Desk_check_lines f_Desk_make_run f_Desk_make_run_alone f_account_of f_traced f_counted f_counted_text f_counted_texts f_first_difference f_CallReader_init f_CallReader_has_more f_CallReader_take_number f_CallReader_take_row f_answers f_answer_or_refusal f_answer_next : Addr} {k_ASSIGNMENT k_READ k_WRITE k_STOP k_IF k_WHILE k_HEADER_WORDS_0 k_HEADER_WORDS_1 k_LETTERS k_LONGEST_NAME k_NO_NAMES_0 k_NO_NAMES_1 k_NO_NAMES_2 k_NO_NAMES_3 k_LONGEST_NUMBER k_OPERATORS_0 k_OPERATORS_1 k_OPERATORS_2 k_RELATIONS_0 k_RELATIONS_1 k_RELATIONS_2 k_MOST_STATEMENTS k_MOST_DEPTH k_ELSE k_INDENT k_SIGNS k_ENDED k_STOPPED k_LONG k_MOST_STEPS k_MODULUS k_MOST_NUMBERS k_LARGEST_NUMBER k_PROGRAM k_SHOW k_INPUTS k_RUN k_VALUES k_TRACE k_STEP k_INFO k_ONLY k_RUNONLY k_SAME k_SIZE : Tok}
    {o_HEADER_WORDS o_NO_NAMES o_OPERATORS o_RELATIONS od_Statement_init an_Statement_init od_is_number an_is_number od_is_name an_is_name od_is_atom an_is_atom od_names_among an_names_among od_is_header an_is_header od_read_statement an_read_statement od_read_header an_read_header od_read_assignment an_read_assignment od_check_atoms an_check_atoms od_Program_init an_Program_init od_Program_all_lines an_Program_all_lines od_Program_depth an_Program_depth od_Program_text_alone an_Program_text_alone od_Program_rows_alone an_Program_rows_alone od_BlockBuilder_init an_BlockBuilder_init od_BlockBuilder_add_statement an_BlockBuilder_add_statement od_BlockBuilder_add_else an_BlockBuilder_add_else od_read_program an_read_program od_rows_of an_rows_of od_bytes_of an_bytes_of od_Step_init an_Step_init od_Run_init an_Run_init od_Run_do_block an_Run_do_block od_Run_do_line an_Run_do_line od_Run_do_rounds an_Run_do_rounds od_Run_make_step an_Run_make_step od_Run_note_effects an_Run_note_effects od_Run_test_around an_Run_test_around od_Run_origins_of an_Run_origins_of od_Run_uses_of an_Run_uses_of od_Run_take_value an_Run_take_value od_Run_number_of an_Run_number_of od_Run_output an_Run_output od_Run_row_at an_Run_row_at od_reckon an_reckon od_run_lines an_run_lines od_Desk_init an_Desk_init od_Desk_take_program an_Desk_take_program od_Desk_tell_text an_Desk_tell_text od_Desk_take_numbers an_Desk_take_numbers od_Desk_tell_account an_Desk_tell_account od_Desk_tell_row an_Desk_tell_row od_Desk_tell_trace an_Desk_tell_trace od_Desk_tell_step an_Desk_tell_step od_Desk_tell_statement an_Desk_tell_statement od_Desk_tell_text_alone an_Desk_tell_text_alone od_Desk_tell_account_alone an_Desk_tell_account_alone od_Desk_tell_same an_Desk_tell_same od_Desk_tell_size an_Desk_tell_size od_Desk_check_line an_Desk_check_line od_Desk_check_lines an_Desk_check_lines od_Desk_make_run an_Desk_make_run od_Desk_make_run_alone an_Desk_make_run_alone od_account_of an_account_of od_traced an_traced od_counted an_counted od_counted_text an_counted_text od_counted_texts an_counted_texts od_first_difference an_first_difference od_CallReader_init an_CallReader_init od_CallReader_has_more an_CallReader_has_more od_CallReader_take_number an_CallReader_take_number od_CallReader_take_row an_CallReader_take_row od_answers an_answers od_answer_or_refusal an_answer_or_refusal od_answer_next an_answer_next : Option Addr}
    {n_HEADER_WORDS n_NO_NAMES n_OPERATORS n_RELATIONS : Nat}
    {s_HEADER_WORDS s_NO_NAMES s_OPERATORS s_RELATIONS sl_Statement_init sl_is_number sl_is_name sl_is_atom sl_names_among sl_is_header sl_read_statement sl_read_header sl_read_assignment sl_check_atoms sl_Program_init sl_Program_all_lines sl_Program_depth sl_Program_text_alone sl_Program_rows_alone sl_BlockBuilder_init sl_BlockBuilder_add_statement sl_BlockBuilder_add_else sl_read_program sl_rows_of sl_bytes_of sl_Step_init sl_Run_init sl_Run_do_block sl_Run_do_line sl_Run_do_rounds sl_Run_make_step sl_Run_note_effects sl_Run_test_around sl_Run_origins_of sl_Run_uses_of sl_Run_take_value sl_Run_number_of sl_Run_output sl_Run_row_at sl_reckon sl_run_lines sl_Desk_init sl_Desk_take_program sl_Desk_tell_text sl_Desk_take_numbers sl_Desk_tell_account sl_Desk_tell_row sl_Desk_tell_trace sl_Desk_tell_step sl_Desk_tell_statement sl_Desk_tell_text_alone sl_Desk_tell_account_alone sl_Desk_tell_same sl_Desk_tell_size sl_Desk_check_line sl_Desk_check_lines sl_Desk_make_run sl_Desk_make_run_alone sl_account_of sl_traced sl_counted sl_counted_text sl_counted_texts sl_first_difference sl_CallReader_init sl_CallReader_has_more sl_CallReader_take_number sl_CallReader_take_row sl_answers sl_answer_or_refusal sl_answer_next : Array (Option Value)}
    {oc_Statement_init kv_Statement_init dc_Statement_init pm_Statement_init cd_Statement_init ct_Statement_init oc_is_number kv_is_number dc_is_number pm_is_number cd_is_number ct_is_number oc_is_name kv_is_name dc_is_name pm_is_name cd_is_name ct_is_name oc_is_atom kv_is_atom dc_is_atom pm_is_atom cd_is_atom ct_is_atom oc_names_among kv_names_among dc_names_among pm_names_among cd_names_among ct_names_among oc_is_header kv_is_header dc_is_header pm_is_header cd_is_header ct_is_header oc_read_statement kv_read_statement dc_read_statement pm_read_statement cd_read_statement ct_read_statement oc_read_header kv_read_header dc_read_header pm_read_header cd_read_header ct_read_header oc_read_assignment kv_read_assignment dc_read_assignment pm_read_assignment cd_read_assignment ct_read_assignment oc_check_atoms kv_check_atoms dc_check_atoms pm_check_atoms cd_check_atoms ct_check_atoms oc_Program_init kv_Program_init dc_Program_init pm_Program_init cd_Program_init ct_Program_init oc_Program_all_lines kv_Program_all_lines dc_Program_all_lines pm_Program_all_lines cd_Program_all_lines ct_Program_all_lines oc_Program_depth kv_Program_depth dc_Program_depth pm_Program_depth cd_Program_depth ct_Program_depth oc_Program_text_alone kv_Program_text_alone dc_Program_text_alone pm_Program_text_alone cd_Program_text_alone ct_Program_text_alone oc_Program_rows_alone kv_Program_rows_alone dc_Program_rows_alone pm_Program_rows_alone cd_Program_rows_alone ct_Program_rows_alone oc_BlockBuilder_init kv_BlockBuilder_init dc_BlockBuilder_init pm_BlockBuilder_init cd_BlockBuilder_init ct_BlockBuilder_init oc_BlockBuilder_add_statement kv_BlockBuilder_add_statement dc_BlockBuilder_add_statement pm_BlockBuilder_add_statement cd_BlockBuilder_add_statement ct_BlockBuilder_add_statement oc_BlockBuilder_add_else kv_BlockBuilder_add_else dc_BlockBuilder_add_else pm_BlockBuilder_add_else cd_BlockBuilder_add_else ct_BlockBuilder_add_else oc_read_program kv_read_program dc_read_program pm_read_program cd_read_program ct_read_program oc_rows_of kv_rows_of dc_rows_of pm_rows_of cd_rows_of ct_rows_of oc_bytes_of kv_bytes_of dc_bytes_of pm_bytes_of cd_bytes_of ct_bytes_of oc_Step_init kv_Step_init dc_Step_init pm_Step_init cd_Step_init ct_Step_init oc_Run_init kv_Run_init dc_Run_init pm_Run_init cd_Run_init ct_Run_init oc_Run_do_block kv_Run_do_block dc_Run_do_block pm_Run_do_block cd_Run_do_block ct_Run_do_block oc_Run_do_line kv_Run_do_line dc_Run_do_line pm_Run_do_line cd_Run_do_line ct_Run_do_line oc_Run_do_rounds kv_Run_do_rounds dc_Run_do_rounds pm_Run_do_rounds cd_Run_do_rounds ct_Run_do_rounds oc_Run_make_step kv_Run_make_step dc_Run_make_step pm_Run_make_step cd_Run_make_step ct_Run_make_step oc_Run_note_effects kv_Run_note_effects dc_Run_note_effects pm_Run_note_effects cd_Run_note_effects ct_Run_note_effects oc_Run_test_around kv_Run_test_around dc_Run_test_around pm_Run_test_around cd_Run_test_around ct_Run_test_around oc_Run_origins_of kv_Run_origins_of dc_Run_origins_of pm_Run_origins_of cd_Run_origins_of ct_Run_origins_of oc_Run_uses_of kv_Run_uses_of dc_Run_uses_of pm_Run_uses_of cd_Run_uses_of ct_Run_uses_of oc_Run_take_value kv_Run_take_value dc_Run_take_value pm_Run_take_value cd_Run_take_value ct_Run_take_value oc_Run_number_of kv_Run_number_of dc_Run_number_of pm_Run_number_of cd_Run_number_of ct_Run_number_of oc_Run_output kv_Run_output dc_Run_output pm_Run_output cd_Run_output ct_Run_output oc_Run_row_at kv_Run_row_at dc_Run_row_at pm_Run_row_at cd_Run_row_at ct_Run_row_at oc_reckon kv_reckon dc_reckon pm_reckon cd_reckon ct_reckon oc_run_lines kv_run_lines dc_run_lines pm_run_lines cd_run_lines ct_run_lines oc_Desk_init kv_Desk_init dc_Desk_init pm_Desk_init cd_Desk_init ct_Desk_init oc_Desk_take_program kv_Desk_take_program dc_Desk_take_program pm_Desk_take_program cd_Desk_take_program ct_Desk_take_program oc_Desk_tell_text kv_Desk_tell_text dc_Desk_tell_text pm_Desk_tell_text cd_Desk_tell_text ct_Desk_tell_text oc_Desk_take_numbers kv_Desk_take_numbers dc_Desk_take_numbers pm_Desk_take_numbers cd_Desk_take_numbers ct_Desk_take_numbers oc_Desk_tell_account kv_Desk_tell_account dc_Desk_tell_account pm_Desk_tell_account cd_Desk_tell_account ct_Desk_tell_account oc_Desk_tell_row kv_Desk_tell_row dc_Desk_tell_row pm_Desk_tell_row cd_Desk_tell_row ct_Desk_tell_row oc_Desk_tell_trace kv_Desk_tell_trace dc_Desk_tell_trace pm_Desk_tell_trace cd_Desk_tell_trace ct_Desk_tell_trace oc_Desk_tell_step kv_Desk_tell_step dc_Desk_tell_step pm_Desk_tell_step cd_Desk_tell_step ct_Desk_tell_step oc_Desk_tell_statement kv_Desk_tell_statement dc_Desk_tell_statement pm_Desk_tell_statement cd_Desk_tell_statement ct_Desk_tell_statement oc_Desk_tell_text_alone kv_Desk_tell_text_alone dc_Desk_tell_text_alone pm_Desk_tell_text_alone cd_Desk_tell_text_alone ct_Desk_tell_text_alone oc_Desk_tell_account_alone kv_Desk_tell_account_alone dc_Desk_tell_account_alone pm_Desk_tell_account_alone cd_Desk_tell_account_alone ct_Desk_tell_account_alone oc_Desk_tell_same kv_Desk_tell_same dc_Desk_tell_same pm_Desk_tell_same cd_Desk_tell_same ct_Desk_tell_same oc_Desk_tell_size kv_Desk_tell_size dc_Desk_tell_size pm_Desk_tell_size cd_Desk_tell_size ct_Desk_tell_size oc_Desk_check_line kv_Desk_check_line dc_Desk_check_line pm_Desk_check_line cd_Desk_check_line ct_Desk_check_line oc_Desk_check_lines kv_Desk_check_lines dc_Desk_check_lines pm_Desk_check_lines cd_Desk_check_lines ct_Desk_check_lines oc_Desk_make_run kv_Desk_make_run dc_Desk_make_run pm_Desk_make_run cd_Desk_make_run ct_Desk_make_run oc_Desk_make_run_alone kv_Desk_make_run_alone dc_Desk_make_run_alone pm_Desk_make_run_alone cd_Desk_make_run_alone ct_Desk_make_run_alone oc_account_of kv_account_of dc_account_of pm_account_of cd_account_of ct_account_of oc_traced kv_traced dc_traced pm_traced cd_traced ct_traced oc_counted kv_counted dc_counted pm_counted cd_counted ct_counted oc_counted_text kv_counted_text dc_counted_text pm_counted_text cd_counted_text ct_counted_text oc_counted_texts kv_counted_texts dc_counted_texts pm_counted_texts cd_counted_texts ct_counted_texts oc_first_difference kv_first_difference dc_first_difference pm_first_difference cd_first_difference ct_first_difference oc_CallReader_init kv_CallReader_init dc_CallReader_init pm_CallReader_init cd_CallReader_init ct_CallReader_init oc_CallReader_has_more kv_CallReader_has_more dc_CallReader_has_more pm_CallReader_has_more cd_CallReader_has_more ct_CallReader_has_more oc_CallReader_take_number kv_CallReader_take_number dc_CallReader_take_number pm_CallReader_take_number cd_CallReader_take_number ct_CallReader_take_number oc_CallReader_take_row kv_CallReader_take_row dc_CallReader_take_row pm_CallReader_take_row cd_CallReader_take_row ct_CallReader_take_row oc_answers kv_answers dc_answers pm_answers cd_answers ct_answers oc_answer_or_refusal kv_answer_or_refusal dc_answer_or_refusal pm_answer_or_refusal cd_answer_or_refusal ct_answer_or_refusal oc_answer_next kv_answer_next dc_answer_next pm_answer_next cd_answer_next ct_answer_next : Value}
    (b_all : PySem.W.nsIn K mainGlobals "all" = some none)
    (b_int : PySem.W.nsIn K mainGlobals "int" = some none)
    (b_len : PySem.W.nsIn K mainGlobals "len" = some none)
    (b_list : PySem.W.nsIn K mainGlobals "list" = some none)
    (b_max : PySem.W.nsIn K mainGlobals "max" = some none)
    (b_ord : PySem.W.nsIn K mainGlobals "ord" = some none)
    (b_range : PySem.W.nsIn K mainGlobals "range" = some none)
    (b_zip : PySem.W.nsIn K mainGlobals "zip" = some none)
    (c_ASSIGNMENT : PySem.W.nsIn K mainGlobals "ASSIGNMENT" = some (some (.int 1 k_ASSIGNMENT)))
    (c_READ : PySem.W.nsIn K mainGlobals "READ" = some (some (.int 2 k_READ)))
    (c_WRITE : PySem.W.nsIn K mainGlobals "WRITE" = some (some (.int 3 k_WRITE)))
    (c_STOP : PySem.W.nsIn K mainGlobals "STOP" = some (some (.int 4 k_STOP)))
    (c_IF : PySem.W.nsIn K mainGlobals "IF" = some (some (.int 5 k_IF)))
    (c_WHILE : PySem.W.nsIn K mainGlobals "WHILE" = some (some (.int 6 k_WHILE)))
    (t_HEADER_WORDS_n : PySem.W.nsIn K mainGlobals "HEADER_WORDS" = some (some (.ref t_HEADER_WORDS)))
    (l_HEADER_WORDS : K.lookup t_HEADER_WORDS = some ⟨.type "tuple", o_HEADER_WORDS, .seq #[.str "if" k_HEADER_WORDS_0, .str "while" k_HEADER_WORDS_1] n_HEADER_WORDS, s_HEADER_WORDS⟩)
    (c_LETTERS : PySem.W.nsIn K mainGlobals "LETTERS" = some (some (.str "abcdefghijklmnopqrstuvwxyz" k_LETTERS)))
    (c_LONGEST_NAME : PySem.W.nsIn K mainGlobals "LONGEST_NAME" = some (some (.int 4 k_LONGEST_NAME)))
    (t_NO_NAMES_n : PySem.W.nsIn K mainGlobals "NO_NAMES" = some (some (.ref t_NO_NAMES)))
    (l_NO_NAMES : K.lookup t_NO_NAMES = some ⟨.type "tuple", o_NO_NAMES, .seq #[.str "read" k_NO_NAMES_0, .str "if" k_NO_NAMES_1, .str "else" k_NO_NAMES_2, .str "stop" k_NO_NAMES_3] n_NO_NAMES, s_NO_NAMES⟩)
    (c_LONGEST_NUMBER : PySem.W.nsIn K mainGlobals "LONGEST_NUMBER" = some (some (.int 2 k_LONGEST_NUMBER)))
    (t_OPERATORS_n : PySem.W.nsIn K mainGlobals "OPERATORS" = some (some (.ref t_OPERATORS)))
    (l_OPERATORS : K.lookup t_OPERATORS = some ⟨.type "tuple", o_OPERATORS, .seq #[.str "+" k_OPERATORS_0, .str "-" k_OPERATORS_1, .str "*" k_OPERATORS_2] n_OPERATORS, s_OPERATORS⟩)
    (t_RELATIONS_n : PySem.W.nsIn K mainGlobals "RELATIONS" = some (some (.ref t_RELATIONS)))
    (l_RELATIONS : K.lookup t_RELATIONS = some ⟨.type "tuple", o_RELATIONS, .seq #[.str "<" k_RELATIONS_0, .str "==" k_RELATIONS_1, .str "!=" k_RELATIONS_2] n_RELATIONS, s_RELATIONS⟩)
    (c_MOST_STATEMENTS : PySem.W.nsIn K mainGlobals "MOST_STATEMENTS" = some (some (.int 14 k_MOST_STATEMENTS)))
    (c_MOST_DEPTH : PySem.W.nsIn K mainGlobals "MOST_DEPTH" = some (some (.int 3 k_MOST_DEPTH)))
    (c_ELSE : PySem.W.nsIn K mainGlobals "ELSE" = some (some (.str "else:" k_ELSE)))
    (c_INDENT : PySem.W.nsIn K mainGlobals "INDENT" = some (some (.str "  " k_INDENT)))
    (c_SIGNS : PySem.W.nsIn K mainGlobals "SIGNS" = some (some (.str "\n !*+-0123456789:<=abcdefghijklmnopqrstuvwxyz" k_SIGNS)))
    (c_ENDED : PySem.W.nsIn K mainGlobals "ENDED" = some (some (.int 0 k_ENDED)))
    (c_STOPPED : PySem.W.nsIn K mainGlobals "STOPPED" = some (some (.int 1 k_STOPPED)))
    (c_LONG : PySem.W.nsIn K mainGlobals "LONG" = some (some (.int 2 k_LONG)))
    (c_MOST_STEPS : PySem.W.nsIn K mainGlobals "MOST_STEPS" = some (some (.int 120 k_MOST_STEPS)))
    (c_MODULUS : PySem.W.nsIn K mainGlobals "MODULUS" = some (some (.int 1000 k_MODULUS)))
    (c_MOST_NUMBERS : PySem.W.nsIn K mainGlobals "MOST_NUMBERS" = some (some (.int 6 k_MOST_NUMBERS)))
    (c_LARGEST_NUMBER : PySem.W.nsIn K mainGlobals "LARGEST_NUMBER" = some (some (.int 999 k_LARGEST_NUMBER)))
    (c_PROGRAM : PySem.W.nsIn K mainGlobals "PROGRAM" = some (some (.int 0 k_PROGRAM)))
    (c_SHOW : PySem.W.nsIn K mainGlobals "SHOW" = some (some (.int 1 k_SHOW)))
    (c_INPUTS : PySem.W.nsIn K mainGlobals "INPUTS" = some (some (.int 2 k_INPUTS)))
    (c_RUN : PySem.W.nsIn K mainGlobals "RUN" = some (some (.int 3 k_RUN)))
    (c_VALUES : PySem.W.nsIn K mainGlobals "VALUES" = some (some (.int 4 k_VALUES)))
    (c_TRACE : PySem.W.nsIn K mainGlobals "TRACE" = some (some (.int 5 k_TRACE)))
    (c_STEP : PySem.W.nsIn K mainGlobals "STEP" = some (some (.int 6 k_STEP)))
    (c_INFO : PySem.W.nsIn K mainGlobals "INFO" = some (some (.int 7 k_INFO)))
    (c_ONLY : PySem.W.nsIn K mainGlobals "ONLY" = some (some (.int 8 k_ONLY)))
    (c_RUNONLY : PySem.W.nsIn K mainGlobals "RUNONLY" = some (some (.int 9 k_RUNONLY)))
    (c_SAME : PySem.W.nsIn K mainGlobals "SAME" = some (some (.int 10 k_SAME)))
    (c_SIZE : PySem.W.nsIn K mainGlobals "SIZE" = some (some (.int 11 k_SIZE)))
    (g_NotAProgram : PySem.W.nsIn K mainGlobals "NotAProgram" = some (some (.ref C_NotAProgram)))
    (x_NotAProgram : PySem.W.excIn K C_NotAProgram [.type "Exception", .type "BaseException", .type "object"] "Exception.__new__" = true)
    (k_NotAProgram : PySem.W.keepIn K (.ref C_NotAProgram) = true)
    (b_NotAProgram : PySem.W.subIn K (.ref C_NotAProgram) (.type "BaseException") = some true)
    (t_NotAProgram : PySem.W.typeIn K (.ref C_NotAProgram) = some (.type "type"))
    (i_NotAProgram : PySem.W.isClsIn K C_NotAProgram = true)
    (g_NotAnInput : PySem.W.nsIn K mainGlobals "NotAnInput" = some (some (.ref C_NotAnInput)))
    (x_NotAnInput : PySem.W.excIn K C_NotAnInput [.type "Exception", .type "BaseException", .type "object"] "Exception.__new__" = true)
    (k_NotAnInput : PySem.W.keepIn K (.ref C_NotAnInput) = true)
    (b_NotAnInput : PySem.W.subIn K (.ref C_NotAnInput) (.type "BaseException") = some true)
    (t_NotAnInput : PySem.W.typeIn K (.ref C_NotAnInput) = some (.type "type"))
    (i_NotAnInput : PySem.W.isClsIn K C_NotAnInput = true)
    (g_NoSuchStep : PySem.W.nsIn K mainGlobals "NoSuchStep" = some (some (.ref C_NoSuchStep)))
    (x_NoSuchStep : PySem.W.excIn K C_NoSuchStep [.type "Exception", .type "BaseException", .type "object"] "Exception.__new__" = true)
    (k_NoSuchStep : PySem.W.keepIn K (.ref C_NoSuchStep) = true)
    (b_NoSuchStep : PySem.W.subIn K (.ref C_NoSuchStep) (.type "BaseException") = some true)
    (t_NoSuchStep : PySem.W.typeIn K (.ref C_NoSuchStep) = some (.type "type"))
    (i_NoSuchStep : PySem.W.isClsIn K C_NoSuchStep = true)
    (g_NoSuchLine : PySem.W.nsIn K mainGlobals "NoSuchLine" = some (some (.ref C_NoSuchLine)))
    (x_NoSuchLine : PySem.W.excIn K C_NoSuchLine [.type "Exception", .type "BaseException", .type "object"] "Exception.__new__" = true)
    (k_NoSuchLine : PySem.W.keepIn K (.ref C_NoSuchLine) = true)
    (b_NoSuchLine : PySem.W.subIn K (.ref C_NoSuchLine) (.type "BaseException") = some true)
    (t_NoSuchLine : PySem.W.typeIn K (.ref C_NoSuchLine) = some (.type "type"))
    (i_NoSuchLine : PySem.W.isClsIn K C_NoSuchLine = true)
    (g_NotSomeLines : PySem.W.nsIn K mainGlobals "NotSomeLines" = some (some (.ref C_NotSomeLines)))
    (x_NotSomeLines : PySem.W.excIn K C_NotSomeLines [.type "Exception", .type "BaseException", .type "object"] "Exception.__new__" = true)
    (k_NotSomeLines : PySem.W.keepIn K (.ref C_NotSomeLines) = true)
    (b_NotSomeLines : PySem.W.subIn K (.ref C_NotSomeLines) (.type "BaseException") = some true)
    (t_NotSomeLines : PySem.W.typeIn K (.ref C_NotSomeLines) = some (.type "type"))
    (i_NotSomeLines : PySem.W.isClsIn K C_NotSomeLines = true)
    (g_UnknownCall : PySem.W.nsIn K mainGlobals "UnknownCall" = some (some (.ref C_UnknownCall)))
    (x_UnknownCall : PySem.W.excIn K C_UnknownCall [.type "Exception", .type "BaseException", .type "object"] "Exception.__new__" = true)
    (k_UnknownCall : PySem.W.keepIn K (.ref C_UnknownCall) = true)
    (b_UnknownCall : PySem.W.subIn K (.ref C_UnknownCall) (.type "BaseException") = some true)
    (t_UnknownCall : PySem.W.typeIn K (.ref C_UnknownCall) = some (.type "type"))
    (i_UnknownCall : PySem.W.isClsIn K C_UnknownCall = true)
    (m_NotAProgram_NotAProgram : PySem.W.subIn K (.ref C_NotAProgram) (.ref C_NotAProgram) = some true)
    (m_NotAnInput_NotAnInput : PySem.W.subIn K (.ref C_NotAnInput) (.ref C_NotAnInput) = some true)
    (m_NoSuchStep_NoSuchStep : PySem.W.subIn K (.ref C_NoSuchStep) (.ref C_NoSuchStep) = some true)
    (m_NoSuchLine_NoSuchLine : PySem.W.subIn K (.ref C_NoSuchLine) (.ref C_NoSuchLine) = some true)
    (m_NotSomeLines_NotSomeLines : PySem.W.subIn K (.ref C_NotSomeLines) (.ref C_NotSomeLines) = some true)
    (m_NotAProgram_NotAnInput : PySem.W.subIn K (.ref C_NotAProgram) (.ref C_NotAnInput) = some false)
    (m_NotAProgram_NoSuchStep : PySem.W.subIn K (.ref C_NotAProgram) (.ref C_NoSuchStep) = some false)
    (m_NotAProgram_NoSuchLine : PySem.W.subIn K (.ref C_NotAProgram) (.ref C_NoSuchLine) = some false)
    (m_NotAProgram_NotSomeLines : PySem.W.subIn K (.ref C_NotAProgram) (.ref C_NotSomeLines) = some false)
    (m_NotAnInput_NotAProgram : PySem.W.subIn K (.ref C_NotAnInput) (.ref C_NotAProgram) = some false)
    (m_NotAnInput_NoSuchStep : PySem.W.subIn K (.ref C_NotAnInput) (.ref C_NoSuchStep) = some false)
    (m_NotAnInput_NoSuchLine : PySem.W.subIn K (.ref C_NotAnInput) (.ref C_NoSuchLine) = some false)
    (m_NotAnInput_NotSomeLines : PySem.W.subIn K (.ref C_NotAnInput) (.ref C_NotSomeLines) = some false)
    (m_NoSuchStep_NotAProgram : PySem.W.subIn K (.ref C_NoSuchStep) (.ref C_NotAProgram) = some false)
    (m_NoSuchStep_NotAnInput : PySem.W.subIn K (.ref C_NoSuchStep) (.ref C_NotAnInput) = some false)
    (m_NoSuchStep_NoSuchLine : PySem.W.subIn K (.ref C_NoSuchStep) (.ref C_NoSuchLine) = some false)
    (m_NoSuchStep_NotSomeLines : PySem.W.subIn K (.ref C_NoSuchStep) (.ref C_NotSomeLines) = some false)
    (m_NoSuchLine_NotAProgram : PySem.W.subIn K (.ref C_NoSuchLine) (.ref C_NotAProgram) = some false)
    (m_NoSuchLine_NotAnInput : PySem.W.subIn K (.ref C_NoSuchLine) (.ref C_NotAnInput) = some false)
    (m_NoSuchLine_NoSuchStep : PySem.W.subIn K (.ref C_NoSuchLine) (.ref C_NoSuchStep) = some false)
    (m_NoSuchLine_NotSomeLines : PySem.W.subIn K (.ref C_NoSuchLine) (.ref C_NotSomeLines) = some false)
    (m_NotSomeLines_NotAProgram : PySem.W.subIn K (.ref C_NotSomeLines) (.ref C_NotAProgram) = some false)
    (m_NotSomeLines_NotAnInput : PySem.W.subIn K (.ref C_NotSomeLines) (.ref C_NotAnInput) = some false)
    (m_NotSomeLines_NoSuchStep : PySem.W.subIn K (.ref C_NotSomeLines) (.ref C_NoSuchStep) = some false)
    (m_NotSomeLines_NoSuchLine : PySem.W.subIn K (.ref C_NotSomeLines) (.ref C_NoSuchLine) = some false)
    (g_Statement : PySem.W.nsIn K mainGlobals "Statement" = some (some (.ref C_Statement)))
    (pg_Statement : PySem.W.plainGet K C_Statement Str.empty = true)
    (hd_Statement : PySem.W.hasDictIn K C_Statement = true)
    (po_Statement : PySem.W.plainOver K C_Statement = true)
    (sa_Statement : PySem.W.findIn K (.ref C_Statement) "__setattr__" = some (some (.builtin "object.__setattr__")))
    (n_Statement_kind : PySem.W.findIn K (.ref C_Statement) "kind" = some none)
    (n_Statement_sets : PySem.W.findIn K (.ref C_Statement) "sets" = some none)
    (n_Statement_atoms : PySem.W.findIn K (.ref C_Statement) "atoms" = some none)
    (n_Statement_sign : PySem.W.findIn K (.ref C_Statement) "sign" = some none)
    (n_Statement_names : PySem.W.findIn K (.ref C_Statement) "names" = some none)
    (n_Statement_headers : PySem.W.findIn K (.ref C_Statement) "headers" = some none)
    (n_Statement_block : PySem.W.findIn K (.ref C_Statement) "block" = some none)
    (n_Statement_otherwise : PySem.W.findIn K (.ref C_Statement) "otherwise" = some none)
    (mk_Statement : PySem.W.makesIn K C_Statement = true)
    (kc_Statement : PySem.W.keepIn K (.ref C_Statement) = true)
    (g_Program : PySem.W.nsIn K mainGlobals "Program" = some (some (.ref C_Program)))
    (pg_Program : PySem.W.plainGet K C_Program Str.empty = true)
    (hd_Program : PySem.W.hasDictIn K C_Program = true)
    (po_Program : PySem.W.plainOver K C_Program = true)
    (sa_Program : PySem.W.findIn K (.ref C_Program) "__setattr__" = some (some (.builtin "object.__setattr__")))
    (n_Program_text : PySem.W.findIn K (.ref C_Program) "text" = some none)
    (n_Program_rows : PySem.W.findIn K (.ref C_Program) "rows" = some none)
    (n_Program_statements : PySem.W.findIn K (.ref C_Program) "statements" = some none)
    (n_Program_top : PySem.W.findIn K (.ref C_Program) "top" = some none)
    (mk_Program : PySem.W.makesIn K C_Program = true)
    (kc_Program : PySem.W.keepIn K (.ref C_Program) = true)
    (g_BlockBuilder : PySem.W.nsIn K mainGlobals "BlockBuilder" = some (some (.ref C_BlockBuilder)))
    (pg_BlockBuilder : PySem.W.plainGet K C_BlockBuilder Str.empty = true)
    (hd_BlockBuilder : PySem.W.hasDictIn K C_BlockBuilder = true)
    (po_BlockBuilder : PySem.W.plainOver K C_BlockBuilder = true)
    (sa_BlockBuilder : PySem.W.findIn K (.ref C_BlockBuilder) "__setattr__" = some (some (.builtin "object.__setattr__")))
    (n_BlockBuilder_statements : PySem.W.findIn K (.ref C_BlockBuilder) "statements" = some none)
    (n_BlockBuilder_top : PySem.W.findIn K (.ref C_BlockBuilder) "top" = some none)
    (n_BlockBuilder_around : PySem.W.findIn K (.ref C_BlockBuilder) "around" = some none)
    (n_BlockBuilder_filling : PySem.W.findIn K (.ref C_BlockBuilder) "filling" = some none)
    (n_BlockBuilder_awaits : PySem.W.findIn K (.ref C_BlockBuilder) "awaits" = some none)
    (mk_BlockBuilder : PySem.W.makesIn K C_BlockBuilder = true)
    (kc_BlockBuilder : PySem.W.keepIn K (.ref C_BlockBuilder) = true)
    (g_Step : PySem.W.nsIn K mainGlobals "Step" = some (some (.ref C_Step)))
    (pg_Step : PySem.W.plainGet K C_Step Str.empty = true)
    (hd_Step : PySem.W.hasDictIn K C_Step = true)
    (po_Step : PySem.W.plainOver K C_Step = true)
    (sa_Step : PySem.W.findIn K (.ref C_Step) "__setattr__" = some (some (.builtin "object.__setattr__")))
    (n_Step_line : PySem.W.findIn K (.ref C_Step) "line" = some none)
    (n_Step_value : PySem.W.findIn K (.ref C_Step) "value" = some none)
    (n_Step_let_by : PySem.W.findIn K (.ref C_Step) "let_by" = some none)
    (n_Step_origins : PySem.W.findIn K (.ref C_Step) "origins" = some none)
    (mk_Step : PySem.W.makesIn K C_Step = true)
    (kc_Step : PySem.W.keepIn K (.ref C_Step) = true)
    (g_Run : PySem.W.nsIn K mainGlobals "Run" = some (some (.ref C_Run)))
    (pg_Run : PySem.W.plainGet K C_Run Str.empty = true)
    (hd_Run : PySem.W.hasDictIn K C_Run = true)
    (po_Run : PySem.W.plainOver K C_Run = true)
    (sa_Run : PySem.W.findIn K (.ref C_Run) "__setattr__" = some (some (.builtin "object.__setattr__")))
    (n_Run_statements : PySem.W.findIn K (.ref C_Run) "statements" = some none)
    (n_Run_lines : PySem.W.findIn K (.ref C_Run) "lines" = some none)
    (n_Run_left : PySem.W.findIn K (.ref C_Run) "left" = some none)
    (n_Run_outcome : PySem.W.findIn K (.ref C_Run) "outcome" = some none)
    (n_Run_steps : PySem.W.findIn K (.ref C_Run) "steps" = some none)
    (n_Run_held : PySem.W.findIn K (.ref C_Run) "held" = some none)
    (n_Run_setters : PySem.W.findIn K (.ref C_Run) "setters" = some none)
    (n_Run_last_tests : PySem.W.findIn K (.ref C_Run) "last_tests" = some none)
    (n_Run_last_read : PySem.W.findIn K (.ref C_Run) "last_read" = some none)
    (mk_Run : PySem.W.makesIn K C_Run = true)
    (kc_Run : PySem.W.keepIn K (.ref C_Run) = true)
    (g_Desk : PySem.W.nsIn K mainGlobals "Desk" = some (some (.ref C_Desk)))
    (pg_Desk : PySem.W.plainGet K C_Desk Str.empty = true)
    (hd_Desk : PySem.W.hasDictIn K C_Desk = true)
    (po_Desk : PySem.W.plainOver K C_Desk = true)
    (sa_Desk : PySem.W.findIn K (.ref C_Desk) "__setattr__" = some (some (.builtin "object.__setattr__")))
    (n_Desk_program : PySem.W.findIn K (.ref C_Desk) "program" = some none)
    (n_Desk_numbers : PySem.W.findIn K (.ref C_Desk) "numbers" = some none)
    (mk_Desk : PySem.W.makesIn K C_Desk = true)
    (kc_Desk : PySem.W.keepIn K (.ref C_Desk) = true)
    (g_CallReader : PySem.W.nsIn K mainGlobals "CallReader" = some (some (.ref C_CallReader)))
    (pg_CallReader : PySem.W.plainGet K C_CallReader Str.empty = true)
    (hd_CallReader : PySem.W.hasDictIn K C_CallReader = true)
    (po_CallReader : PySem.W.plainOver K C_CallReader = true)
    (sa_CallReader : PySem.W.findIn K (.ref C_CallReader) "__setattr__" = some (some (.builtin "object.__setattr__")))
    (n_CallReader_calls : PySem.W.findIn K (.ref C_CallReader) "calls" = some none)
    (n_CallReader_place : PySem.W.findIn K (.ref C_CallReader) "place" = some none)
    (mk_CallReader : PySem.W.makesIn K C_CallReader = true)
    (kc_CallReader : PySem.W.keepIn K (.ref C_CallReader) = true)
    (a_Statement_init : PySem.W.findIn K (.ref C_Statement) "__init__" = some (some (.ref f_Statement_init)))
    (i_Statement_init : PySem.W.isFn K (.ref f_Statement_init) = true)
    (l_Statement_init : K.lookup f_Statement_init = some ⟨oc_Statement_init, od_Statement_init, .func (PySem.W.fnOf "__init__" "Statement.__init__" (defArgs st_Statement_init) (defBody st_Statement_init) (defScope st_Statement_init) .none kv_Statement_init dc_Statement_init pm_Statement_init an_Statement_init cd_Statement_init ct_Statement_init), sl_Statement_init⟩)
    (c_Statement_init : PySem.W.codeIn K cd_Statement_init "Statement.__init__" = true)
    (kf_Statement_init : PySem.W.keepIn K (.ref f_Statement_init) = true)
    (a_is_number : PySem.W.nsIn K mainGlobals "is_number" = some (some (.ref f_is_number)))
    (l_is_number : K.lookup f_is_number = some ⟨oc_is_number, od_is_number, .func (PySem.W.fnOf "is_number" "is_number" (defArgs st_is_number) (defBody st_is_number) (defScope st_is_number) .none kv_is_number dc_is_number pm_is_number an_is_number cd_is_number ct_is_number), sl_is_number⟩)
    (c_is_number : PySem.W.codeIn K cd_is_number "is_number" = true)
    (kf_is_number : PySem.W.keepIn K (.ref f_is_number) = true)
    (a_is_name : PySem.W.nsIn K mainGlobals "is_name" = some (some (.ref f_is_name)))
    (l_is_name : K.lookup f_is_name = some ⟨oc_is_name, od_is_name, .func (PySem.W.fnOf "is_name" "is_name" (defArgs st_is_name) (defBody st_is_name) (defScope st_is_name) .none kv_is_name dc_is_name pm_is_name an_is_name cd_is_name ct_is_name), sl_is_name⟩)
    (c_is_name : PySem.W.codeIn K cd_is_name "is_name" = true)
    (kf_is_name : PySem.W.keepIn K (.ref f_is_name) = true)
    (a_is_atom : PySem.W.nsIn K mainGlobals "is_atom" = some (some (.ref f_is_atom)))
    (l_is_atom : K.lookup f_is_atom = some ⟨oc_is_atom, od_is_atom, .func (PySem.W.fnOf "is_atom" "is_atom" (defArgs st_is_atom) (defBody st_is_atom) (defScope st_is_atom) .none kv_is_atom dc_is_atom pm_is_atom an_is_atom cd_is_atom ct_is_atom), sl_is_atom⟩)
    (c_is_atom : PySem.W.codeIn K cd_is_atom "is_atom" = true)
    (kf_is_atom : PySem.W.keepIn K (.ref f_is_atom) = true)
    (a_names_among : PySem.W.nsIn K mainGlobals "names_among" = some (some (.ref f_names_among)))
    (l_names_among : K.lookup f_names_among = some ⟨oc_names_among, od_names_among, .func (PySem.W.fnOf "names_among" "names_among" (defArgs st_names_among) (defBody st_names_among) (defScope st_names_among) .none kv_names_among dc_names_among pm_names_among an_names_among cd_names_among ct_names_among), sl_names_among⟩)
    (c_names_among : PySem.W.codeIn K cd_names_among "names_among" = true)
    (kf_names_among : PySem.W.keepIn K (.ref f_names_among) = true)
    (a_is_header : PySem.W.nsIn K mainGlobals "is_header" = some (some (.ref f_is_header)))
    (l_is_header : K.lookup f_is_header = some ⟨oc_is_header, od_is_header, .func (PySem.W.fnOf "is_header" "is_header" (defArgs st_is_header) (defBody st_is_header) (defScope st_is_header) .none kv_is_header dc_is_header pm_is_header an_is_header cd_is_header ct_is_header), sl_is_header⟩)
    (c_is_header : PySem.W.codeIn K cd_is_header "is_header" = true)
    (kf_is_header : PySem.W.keepIn K (.ref f_is_header) = true)
    (a_read_statement : PySem.W.nsIn K mainGlobals "read_statement" = some (some (.ref f_read_statement)))
    (l_read_statement : K.lookup f_read_statement = some ⟨oc_read_statement, od_read_statement, .func (PySem.W.fnOf "read_statement" "read_statement" (defArgs st_read_statement) (defBody st_read_statement) (defScope st_read_statement) .none kv_read_statement dc_read_statement pm_read_statement an_read_statement cd_read_statement ct_read_statement), sl_read_statement⟩)
    (c_read_statement : PySem.W.codeIn K cd_read_statement "read_statement" = true)
    (kf_read_statement : PySem.W.keepIn K (.ref f_read_statement) = true)
    (a_read_header : PySem.W.nsIn K mainGlobals "read_header" = some (some (.ref f_read_header)))
    (l_read_header : K.lookup f_read_header = some ⟨oc_read_header, od_read_header, .func (PySem.W.fnOf "read_header" "read_header" (defArgs st_read_header) (defBody st_read_header) (defScope st_read_header) .none kv_read_header dc_read_header pm_read_header an_read_header cd_read_header ct_read_header), sl_read_header⟩)
    (c_read_header : PySem.W.codeIn K cd_read_header "read_header" = true)
    (kf_read_header : PySem.W.keepIn K (.ref f_read_header) = true)
    (a_read_assignment : PySem.W.nsIn K mainGlobals "read_assignment" = some (some (.ref f_read_assignment)))
    (l_read_assignment : K.lookup f_read_assignment = some ⟨oc_read_assignment, od_read_assignment, .func (PySem.W.fnOf "read_assignment" "read_assignment" (defArgs st_read_assignment) (defBody st_read_assignment) (defScope st_read_assignment) .none kv_read_assignment dc_read_assignment pm_read_assignment an_read_assignment cd_read_assignment ct_read_assignment), sl_read_assignment⟩)
    (c_read_assignment : PySem.W.codeIn K cd_read_assignment "read_assignment" = true)
    (kf_read_assignment : PySem.W.keepIn K (.ref f_read_assignment) = true)
    (a_check_atoms : PySem.W.nsIn K mainGlobals "check_atoms" = some (some (.ref f_check_atoms)))
    (l_check_atoms : K.lookup f_check_atoms = some ⟨oc_check_atoms, od_check_atoms, .func (PySem.W.fnOf "check_atoms" "check_atoms" (defArgs st_check_atoms) (defBody st_check_atoms) (defScope st_check_atoms) .none kv_check_atoms dc_check_atoms pm_check_atoms an_check_atoms cd_check_atoms ct_check_atoms), sl_check_atoms⟩)
    (c_check_atoms : PySem.W.codeIn K cd_check_atoms "check_atoms" = true)
    (kf_check_atoms : PySem.W.keepIn K (.ref f_check_atoms) = true)
    (a_Program_init : PySem.W.findIn K (.ref C_Program) "__init__" = some (some (.ref f_Program_init)))
    (i_Program_init : PySem.W.isFn K (.ref f_Program_init) = true)
    (l_Program_init : K.lookup f_Program_init = some ⟨oc_Program_init, od_Program_init, .func (PySem.W.fnOf "__init__" "Program.__init__" (defArgs st_Program_init) (defBody st_Program_init) (defScope st_Program_init) .none kv_Program_init dc_Program_init pm_Program_init an_Program_init cd_Program_init ct_Program_init), sl_Program_init⟩)
    (c_Program_init : PySem.W.codeIn K cd_Program_init "Program.__init__" = true)
    (kf_Program_init : PySem.W.keepIn K (.ref f_Program_init) = true)
    (a_Program_all_lines : PySem.W.findIn K (.ref C_Program) "all_lines" = some (some (.ref f_Program_all_lines)))
    (i_Program_all_lines : PySem.W.isFn K (.ref f_Program_all_lines) = true)
    (l_Program_all_lines : K.lookup f_Program_all_lines = some ⟨oc_Program_all_lines, od_Program_all_lines, .func (PySem.W.fnOf "all_lines" "Program.all_lines" (defArgs st_Program_all_lines) (defBody st_Program_all_lines) (defScope st_Program_all_lines) .none kv_Program_all_lines dc_Program_all_lines pm_Program_all_lines an_Program_all_lines cd_Program_all_lines ct_Program_all_lines), sl_Program_all_lines⟩)
    (c_Program_all_lines : PySem.W.codeIn K cd_Program_all_lines "Program.all_lines" = true)
    (kf_Program_all_lines : PySem.W.keepIn K (.ref f_Program_all_lines) = true)
    (a_Program_depth : PySem.W.findIn K (.ref C_Program) "depth" = some (some (.ref f_Program_depth)))
    (i_Program_depth : PySem.W.isFn K (.ref f_Program_depth) = true)
    (l_Program_depth : K.lookup f_Program_depth = some ⟨oc_Program_depth, od_Program_depth, .func (PySem.W.fnOf "depth" "Program.depth" (defArgs st_Program_depth) (defBody st_Program_depth) (defScope st_Program_depth) .none kv_Program_depth dc_Program_depth pm_Program_depth an_Program_depth cd_Program_depth ct_Program_depth), sl_Program_depth⟩)
    (c_Program_depth : PySem.W.codeIn K cd_Program_depth "Program.depth" = true)
    (kf_Program_depth : PySem.W.keepIn K (.ref f_Program_depth) = true)
    (a_Program_text_alone : PySem.W.findIn K (.ref C_Program) "text_alone" = some (some (.ref f_Program_text_alone)))
    (i_Program_text_alone : PySem.W.isFn K (.ref f_Program_text_alone) = true)
    (l_Program_text_alone : K.lookup f_Program_text_alone = some ⟨oc_Program_text_alone, od_Program_text_alone, .func (PySem.W.fnOf "text_alone" "Program.text_alone" (defArgs st_Program_text_alone) (defBody st_Program_text_alone) (defScope st_Program_text_alone) .none kv_Program_text_alone dc_Program_text_alone pm_Program_text_alone an_Program_text_alone cd_Program_text_alone ct_Program_text_alone), sl_Program_text_alone⟩)
    (c_Program_text_alone : PySem.W.codeIn K cd_Program_text_alone "Program.text_alone" = true)
    (kf_Program_text_alone : PySem.W.keepIn K (.ref f_Program_text_alone) = true)
    (a_Program_rows_alone : PySem.W.findIn K (.ref C_Program) "rows_alone" = some (some (.ref f_Program_rows_alone)))
    (i_Program_rows_alone : PySem.W.isFn K (.ref f_Program_rows_alone) = true)
    (l_Program_rows_alone : K.lookup f_Program_rows_alone = some ⟨oc_Program_rows_alone, od_Program_rows_alone, .func (PySem.W.fnOf "rows_alone" "Program.rows_alone" (defArgs st_Program_rows_alone) (defBody st_Program_rows_alone) (defScope st_Program_rows_alone) .none kv_Program_rows_alone dc_Program_rows_alone pm_Program_rows_alone an_Program_rows_alone cd_Program_rows_alone ct_Program_rows_alone), sl_Program_rows_alone⟩)
    (c_Program_rows_alone : PySem.W.codeIn K cd_Program_rows_alone "Program.rows_alone" = true)
    (kf_Program_rows_alone : PySem.W.keepIn K (.ref f_Program_rows_alone) = true)
    (a_BlockBuilder_init : PySem.W.findIn K (.ref C_BlockBuilder) "__init__" = some (some (.ref f_BlockBuilder_init)))
    (i_BlockBuilder_init : PySem.W.isFn K (.ref f_BlockBuilder_init) = true)
    (l_BlockBuilder_init : K.lookup f_BlockBuilder_init = some ⟨oc_BlockBuilder_init, od_BlockBuilder_init, .func (PySem.W.fnOf "__init__" "BlockBuilder.__init__" (defArgs st_BlockBuilder_init) (defBody st_BlockBuilder_init) (defScope st_BlockBuilder_init) .none kv_BlockBuilder_init dc_BlockBuilder_init pm_BlockBuilder_init an_BlockBuilder_init cd_BlockBuilder_init ct_BlockBuilder_init), sl_BlockBuilder_init⟩)
    (c_BlockBuilder_init : PySem.W.codeIn K cd_BlockBuilder_init "BlockBuilder.__init__" = true)
    (kf_BlockBuilder_init : PySem.W.keepIn K (.ref f_BlockBuilder_init) = true)
    (a_BlockBuilder_add_statement : PySem.W.findIn K (.ref C_BlockBuilder) "add_statement" = some (some (.ref f_BlockBuilder_add_statement)))
    (i_BlockBuilder_add_statement : PySem.W.isFn K (.ref f_BlockBuilder_add_statement) = true)
    (l_BlockBuilder_add_statement : K.lookup f_BlockBuilder_add_statement = some ⟨oc_BlockBuilder_add_statement, od_BlockBuilder_add_statement, .func (PySem.W.fnOf "add_statement" "BlockBuilder.add_statement" (defArgs st_BlockBuilder_add_statement) (defBody st_BlockBuilder_add_statement) (defScope st_BlockBuilder_add_statement) .none kv_BlockBuilder_add_statement dc_BlockBuilder_add_statement pm_BlockBuilder_add_statement an_BlockBuilder_add_statement cd_BlockBuilder_add_statement ct_BlockBuilder_add_statement), sl_BlockBuilder_add_statement⟩)
    (c_BlockBuilder_add_statement : PySem.W.codeIn K cd_BlockBuilder_add_statement "BlockBuilder.add_statement" = true)
    (kf_BlockBuilder_add_statement : PySem.W.keepIn K (.ref f_BlockBuilder_add_statement) = true)
    (a_BlockBuilder_add_else : PySem.W.findIn K (.ref C_BlockBuilder) "add_else" = some (some (.ref f_BlockBuilder_add_else)))
    (i_BlockBuilder_add_else : PySem.W.isFn K (.ref f_BlockBuilder_add_else) = true)
    (l_BlockBuilder_add_else : K.lookup f_BlockBuilder_add_else = some ⟨oc_BlockBuilder_add_else, od_BlockBuilder_add_else, .func (PySem.W.fnOf "add_else" "BlockBuilder.add_else" (defArgs st_BlockBuilder_add_else) (defBody st_BlockBuilder_add_else) (defScope st_BlockBuilder_add_else) .none kv_BlockBuilder_add_else dc_BlockBuilder_add_else pm_BlockBuilder_add_else an_BlockBuilder_add_else cd_BlockBuilder_add_else ct_BlockBuilder_add_else), sl_BlockBuilder_add_else⟩)
    (c_BlockBuilder_add_else : PySem.W.codeIn K cd_BlockBuilder_add_else "BlockBuilder.add_else" = true)
    (kf_BlockBuilder_add_else : PySem.W.keepIn K (.ref f_BlockBuilder_add_else) = true)
    (a_read_program : PySem.W.nsIn K mainGlobals "read_program" = some (some (.ref f_read_program)))
    (l_read_program : K.lookup f_read_program = some ⟨oc_read_program, od_read_program, .func (PySem.W.fnOf "read_program" "read_program" (defArgs st_read_program) (defBody st_read_program) (defScope st_read_program) .none kv_read_program dc_read_program pm_read_program an_read_program cd_read_program ct_read_program), sl_read_program⟩)
    (c_read_program : PySem.W.codeIn K cd_read_program "read_program" = true)
    (kf_read_program : PySem.W.keepIn K (.ref f_read_program) = true)
    (a_rows_of : PySem.W.nsIn K mainGlobals "rows_of" = some (some (.ref f_rows_of)))
    (l_rows_of : K.lookup f_rows_of = some ⟨oc_rows_of, od_rows_of, .func (PySem.W.fnOf "rows_of" "rows_of" (defArgs st_rows_of) (defBody st_rows_of) (defScope st_rows_of) .none kv_rows_of dc_rows_of pm_rows_of an_rows_of cd_rows_of ct_rows_of), sl_rows_of⟩)
    (c_rows_of : PySem.W.codeIn K cd_rows_of "rows_of" = true)
    (kf_rows_of : PySem.W.keepIn K (.ref f_rows_of) = true)
    (a_bytes_of : PySem.W.nsIn K mainGlobals "bytes_of" = some (some (.ref f_bytes_of)))
    (l_bytes_of : K.lookup f_bytes_of = some ⟨oc_bytes_of, od_bytes_of, .func (PySem.W.fnOf "bytes_of" "bytes_of" (defArgs st_bytes_of) (defBody st_bytes_of) (defScope st_bytes_of) .none kv_bytes_of dc_bytes_of pm_bytes_of an_bytes_of cd_bytes_of ct_bytes_of), sl_bytes_of⟩)
    (c_bytes_of : PySem.W.codeIn K cd_bytes_of "bytes_of" = true)
    (kf_bytes_of : PySem.W.keepIn K (.ref f_bytes_of) = true)
    (a_Step_init : PySem.W.findIn K (.ref C_Step) "__init__" = some (some (.ref f_Step_init)))
    (i_Step_init : PySem.W.isFn K (.ref f_Step_init) = true)
    (l_Step_init : K.lookup f_Step_init = some ⟨oc_Step_init, od_Step_init, .func (PySem.W.fnOf "__init__" "Step.__init__" (defArgs st_Step_init) (defBody st_Step_init) (defScope st_Step_init) .none kv_Step_init dc_Step_init pm_Step_init an_Step_init cd_Step_init ct_Step_init), sl_Step_init⟩)
    (c_Step_init : PySem.W.codeIn K cd_Step_init "Step.__init__" = true)
    (kf_Step_init : PySem.W.keepIn K (.ref f_Step_init) = true)
    (a_Run_init : PySem.W.findIn K (.ref C_Run) "__init__" = some (some (.ref f_Run_init)))
    (i_Run_init : PySem.W.isFn K (.ref f_Run_init) = true)
    (l_Run_init : K.lookup f_Run_init = some ⟨oc_Run_init, od_Run_init, .func (PySem.W.fnOf "__init__" "Run.__init__" (defArgs st_Run_init) (defBody st_Run_init) (defScope st_Run_init) .none kv_Run_init dc_Run_init pm_Run_init an_Run_init cd_Run_init ct_Run_init), sl_Run_init⟩)
    (c_Run_init : PySem.W.codeIn K cd_Run_init "Run.__init__" = true)
    (kf_Run_init : PySem.W.keepIn K (.ref f_Run_init) = true)
    (a_Run_do_block : PySem.W.findIn K (.ref C_Run) "do_block" = some (some (.ref f_Run_do_block)))
    (i_Run_do_block : PySem.W.isFn K (.ref f_Run_do_block) = true)
    (l_Run_do_block : K.lookup f_Run_do_block = some ⟨oc_Run_do_block, od_Run_do_block, .func (PySem.W.fnOf "do_block" "Run.do_block" (defArgs st_Run_do_block) (defBody st_Run_do_block) (defScope st_Run_do_block) .none kv_Run_do_block dc_Run_do_block pm_Run_do_block an_Run_do_block cd_Run_do_block ct_Run_do_block), sl_Run_do_block⟩)
    (c_Run_do_block : PySem.W.codeIn K cd_Run_do_block "Run.do_block" = true)
    (kf_Run_do_block : PySem.W.keepIn K (.ref f_Run_do_block) = true)
    (a_Run_do_line : PySem.W.findIn K (.ref C_Run) "do_line" = some (some (.ref f_Run_do_line)))
    (i_Run_do_line : PySem.W.isFn K (.ref f_Run_do_line) = true)
    (l_Run_do_line : K.lookup f_Run_do_line = some ⟨oc_Run_do_line, od_Run_do_line, .func (PySem.W.fnOf "do_line" "Run.do_line" (defArgs st_Run_do_line) (defBody st_Run_do_line) (defScope st_Run_do_line) .none kv_Run_do_line dc_Run_do_line pm_Run_do_line an_Run_do_line cd_Run_do_line ct_Run_do_line), sl_Run_do_line⟩)
    (c_Run_do_line : PySem.W.codeIn K cd_Run_do_line "Run.do_line" = true)
    (kf_Run_do_line : PySem.W.keepIn K (.ref f_Run_do_line) = true)
    (a_Run_do_rounds : PySem.W.findIn K (.ref C_Run) "do_rounds" = some (some (.ref f_Run_do_rounds)))
    (i_Run_do_rounds : PySem.W.isFn K (.ref f_Run_do_rounds) = true)
    (l_Run_do_rounds : K.lookup f_Run_do_rounds = some ⟨oc_Run_do_rounds, od_Run_do_rounds, .func (PySem.W.fnOf "do_rounds" "Run.do_rounds" (defArgs st_Run_do_rounds) (defBody st_Run_do_rounds) (defScope st_Run_do_rounds) .none kv_Run_do_rounds dc_Run_do_rounds pm_Run_do_rounds an_Run_do_rounds cd_Run_do_rounds ct_Run_do_rounds), sl_Run_do_rounds⟩)
    (c_Run_do_rounds : PySem.W.codeIn K cd_Run_do_rounds "Run.do_rounds" = true)
    (kf_Run_do_rounds : PySem.W.keepIn K (.ref f_Run_do_rounds) = true)
    (a_Run_make_step : PySem.W.findIn K (.ref C_Run) "make_step" = some (some (.ref f_Run_make_step)))
    (i_Run_make_step : PySem.W.isFn K (.ref f_Run_make_step) = true)
    (l_Run_make_step : K.lookup f_Run_make_step = some ⟨oc_Run_make_step, od_Run_make_step, .func (PySem.W.fnOf "make_step" "Run.make_step" (defArgs st_Run_make_step) (defBody st_Run_make_step) (defScope st_Run_make_step) .none kv_Run_make_step dc_Run_make_step pm_Run_make_step an_Run_make_step cd_Run_make_step ct_Run_make_step), sl_Run_make_step⟩)
    (c_Run_make_step : PySem.W.codeIn K cd_Run_make_step "Run.make_step" = true)
    (kf_Run_make_step : PySem.W.keepIn K (.ref f_Run_make_step) = true)
    (a_Run_note_effects : PySem.W.findIn K (.ref C_Run) "note_effects" = some (some (.ref f_Run_note_effects)))
    (i_Run_note_effects : PySem.W.isFn K (.ref f_Run_note_effects) = true)
    (l_Run_note_effects : K.lookup f_Run_note_effects = some ⟨oc_Run_note_effects, od_Run_note_effects, .func (PySem.W.fnOf "note_effects" "Run.note_effects" (defArgs st_Run_note_effects) (defBody st_Run_note_effects) (defScope st_Run_note_effects) .none kv_Run_note_effects dc_Run_note_effects pm_Run_note_effects an_Run_note_effects cd_Run_note_effects ct_Run_note_effects), sl_Run_note_effects⟩)
    (c_Run_note_effects : PySem.W.codeIn K cd_Run_note_effects "Run.note_effects" = true)
    (kf_Run_note_effects : PySem.W.keepIn K (.ref f_Run_note_effects) = true)
    (a_Run_test_around : PySem.W.findIn K (.ref C_Run) "test_around" = some (some (.ref f_Run_test_around)))
    (i_Run_test_around : PySem.W.isFn K (.ref f_Run_test_around) = true)
    (l_Run_test_around : K.lookup f_Run_test_around = some ⟨oc_Run_test_around, od_Run_test_around, .func (PySem.W.fnOf "test_around" "Run.test_around" (defArgs st_Run_test_around) (defBody st_Run_test_around) (defScope st_Run_test_around) .none kv_Run_test_around dc_Run_test_around pm_Run_test_around an_Run_test_around cd_Run_test_around ct_Run_test_around), sl_Run_test_around⟩)
    (c_Run_test_around : PySem.W.codeIn K cd_Run_test_around "Run.test_around" = true)
    (kf_Run_test_around : PySem.W.keepIn K (.ref f_Run_test_around) = true)
    (a_Run_origins_of : PySem.W.findIn K (.ref C_Run) "origins_of" = some (some (.ref f_Run_origins_of)))
    (i_Run_origins_of : PySem.W.isFn K (.ref f_Run_origins_of) = true)
    (l_Run_origins_of : K.lookup f_Run_origins_of = some ⟨oc_Run_origins_of, od_Run_origins_of, .func (PySem.W.fnOf "origins_of" "Run.origins_of" (defArgs st_Run_origins_of) (defBody st_Run_origins_of) (defScope st_Run_origins_of) .none kv_Run_origins_of dc_Run_origins_of pm_Run_origins_of an_Run_origins_of cd_Run_origins_of ct_Run_origins_of), sl_Run_origins_of⟩)
    (c_Run_origins_of : PySem.W.codeIn K cd_Run_origins_of "Run.origins_of" = true)
    (kf_Run_origins_of : PySem.W.keepIn K (.ref f_Run_origins_of) = true)
    (a_Run_uses_of : PySem.W.findIn K (.ref C_Run) "uses_of" = some (some (.ref f_Run_uses_of)))
    (i_Run_uses_of : PySem.W.isFn K (.ref f_Run_uses_of) = true)
    (l_Run_uses_of : K.lookup f_Run_uses_of = some ⟨oc_Run_uses_of, od_Run_uses_of, .func (PySem.W.fnOf "uses_of" "Run.uses_of" (defArgs st_Run_uses_of) (defBody st_Run_uses_of) (defScope st_Run_uses_of) .none kv_Run_uses_of dc_Run_uses_of pm_Run_uses_of an_Run_uses_of cd_Run_uses_of ct_Run_uses_of), sl_Run_uses_of⟩)
    (c_Run_uses_of : PySem.W.codeIn K cd_Run_uses_of "Run.uses_of" = true)
    (kf_Run_uses_of : PySem.W.keepIn K (.ref f_Run_uses_of) = true)
    (a_Run_take_value : PySem.W.findIn K (.ref C_Run) "take_value" = some (some (.ref f_Run_take_value)))
    (i_Run_take_value : PySem.W.isFn K (.ref f_Run_take_value) = true)
    (l_Run_take_value : K.lookup f_Run_take_value = some ⟨oc_Run_take_value, od_Run_take_value, .func (PySem.W.fnOf "take_value" "Run.take_value" (defArgs st_Run_take_value) (defBody st_Run_take_value) (defScope st_Run_take_value) .none kv_Run_take_value dc_Run_take_value pm_Run_take_value an_Run_take_value cd_Run_take_value ct_Run_take_value), sl_Run_take_value⟩)
    (c_Run_take_value : PySem.W.codeIn K cd_Run_take_value "Run.take_value" = true)
    (kf_Run_take_value : PySem.W.keepIn K (.ref f_Run_take_value) = true)
    (a_Run_number_of : PySem.W.findIn K (.ref C_Run) "number_of" = some (some (.ref f_Run_number_of)))
    (i_Run_number_of : PySem.W.isFn K (.ref f_Run_number_of) = true)
    (l_Run_number_of : K.lookup f_Run_number_of = some ⟨oc_Run_number_of, od_Run_number_of, .func (PySem.W.fnOf "number_of" "Run.number_of" (defArgs st_Run_number_of) (defBody st_Run_number_of) (defScope st_Run_number_of) .none kv_Run_number_of dc_Run_number_of pm_Run_number_of an_Run_number_of cd_Run_number_of ct_Run_number_of), sl_Run_number_of⟩)
    (c_Run_number_of : PySem.W.codeIn K cd_Run_number_of "Run.number_of" = true)
    (kf_Run_number_of : PySem.W.keepIn K (.ref f_Run_number_of) = true)
    (a_Run_output : PySem.W.findIn K (.ref C_Run) "output" = some (some (.ref f_Run_output)))
    (i_Run_output : PySem.W.isFn K (.ref f_Run_output) = true)
    (l_Run_output : K.lookup f_Run_output = some ⟨oc_Run_output, od_Run_output, .func (PySem.W.fnOf "output" "Run.output" (defArgs st_Run_output) (defBody st_Run_output) (defScope st_Run_output) .none kv_Run_output dc_Run_output pm_Run_output an_Run_output cd_Run_output ct_Run_output), sl_Run_output⟩)
    (c_Run_output : PySem.W.codeIn K cd_Run_output "Run.output" = true)
    (kf_Run_output : PySem.W.keepIn K (.ref f_Run_output) = true)
    (a_Run_row_at : PySem.W.findIn K (.ref C_Run) "row_at" = some (some (.ref f_Run_row_at)))
    (i_Run_row_at : PySem.W.isFn K (.ref f_Run_row_at) = true)
    (l_Run_row_at : K.lookup f_Run_row_at = some ⟨oc_Run_row_at, od_Run_row_at, .func (PySem.W.fnOf "row_at" "Run.row_at" (defArgs st_Run_row_at) (defBody st_Run_row_at) (defScope st_Run_row_at) .none kv_Run_row_at dc_Run_row_at pm_Run_row_at an_Run_row_at cd_Run_row_at ct_Run_row_at), sl_Run_row_at⟩)
    (c_Run_row_at : PySem.W.codeIn K cd_Run_row_at "Run.row_at" = true)
    (kf_Run_row_at : PySem.W.keepIn K (.ref f_Run_row_at) = true)
    (a_reckon : PySem.W.nsIn K mainGlobals "reckon" = some (some (.ref f_reckon)))
    (l_reckon : K.lookup f_reckon = some ⟨oc_reckon, od_reckon, .func (PySem.W.fnOf "reckon" "reckon" (defArgs st_reckon) (defBody st_reckon) (defScope st_reckon) .none kv_reckon dc_reckon pm_reckon an_reckon cd_reckon ct_reckon), sl_reckon⟩)
    (c_reckon : PySem.W.codeIn K cd_reckon "reckon" = true)
    (kf_reckon : PySem.W.keepIn K (.ref f_reckon) = true)
    (a_run_lines : PySem.W.nsIn K mainGlobals "run_lines" = some (some (.ref f_run_lines)))
    (l_run_lines : K.lookup f_run_lines = some ⟨oc_run_lines, od_run_lines, .func (PySem.W.fnOf "run_lines" "run_lines" (defArgs st_run_lines) (defBody st_run_lines) (defScope st_run_lines) .none kv_run_lines dc_run_lines pm_run_lines an_run_lines cd_run_lines ct_run_lines), sl_run_lines⟩)
    (c_run_lines : PySem.W.codeIn K cd_run_lines "run_lines" = true)
    (kf_run_lines : PySem.W.keepIn K (.ref f_run_lines) = true)
    (a_Desk_init : PySem.W.findIn K (.ref C_Desk) "__init__" = some (some (.ref f_Desk_init)))
    (i_Desk_init : PySem.W.isFn K (.ref f_Desk_init) = true)
    (l_Desk_init : K.lookup f_Desk_init = some ⟨oc_Desk_init, od_Desk_init, .func (PySem.W.fnOf "__init__" "Desk.__init__" (defArgs st_Desk_init) (defBody st_Desk_init) (defScope st_Desk_init) .none kv_Desk_init dc_Desk_init pm_Desk_init an_Desk_init cd_Desk_init ct_Desk_init), sl_Desk_init⟩)
    (c_Desk_init : PySem.W.codeIn K cd_Desk_init "Desk.__init__" = true)
    (kf_Desk_init : PySem.W.keepIn K (.ref f_Desk_init) = true)
    (a_Desk_take_program : PySem.W.findIn K (.ref C_Desk) "take_program" = some (some (.ref f_Desk_take_program)))
    (i_Desk_take_program : PySem.W.isFn K (.ref f_Desk_take_program) = true)
    (l_Desk_take_program : K.lookup f_Desk_take_program = some ⟨oc_Desk_take_program, od_Desk_take_program, .func (PySem.W.fnOf "take_program" "Desk.take_program" (defArgs st_Desk_take_program) (defBody st_Desk_take_program) (defScope st_Desk_take_program) .none kv_Desk_take_program dc_Desk_take_program pm_Desk_take_program an_Desk_take_program cd_Desk_take_program ct_Desk_take_program), sl_Desk_take_program⟩)
    (c_Desk_take_program : PySem.W.codeIn K cd_Desk_take_program "Desk.take_program" = true)
    (kf_Desk_take_program : PySem.W.keepIn K (.ref f_Desk_take_program) = true)
    (a_Desk_tell_text : PySem.W.findIn K (.ref C_Desk) "tell_text" = some (some (.ref f_Desk_tell_text)))
    (i_Desk_tell_text : PySem.W.isFn K (.ref f_Desk_tell_text) = true)
    (l_Desk_tell_text : K.lookup f_Desk_tell_text = some ⟨oc_Desk_tell_text, od_Desk_tell_text, .func (PySem.W.fnOf "tell_text" "Desk.tell_text" (defArgs st_Desk_tell_text) (defBody st_Desk_tell_text) (defScope st_Desk_tell_text) .none kv_Desk_tell_text dc_Desk_tell_text pm_Desk_tell_text an_Desk_tell_text cd_Desk_tell_text ct_Desk_tell_text), sl_Desk_tell_text⟩)
    (c_Desk_tell_text : PySem.W.codeIn K cd_Desk_tell_text "Desk.tell_text" = true)
    (kf_Desk_tell_text : PySem.W.keepIn K (.ref f_Desk_tell_text) = true)
    (a_Desk_take_numbers : PySem.W.findIn K (.ref C_Desk) "take_numbers" = some (some (.ref f_Desk_take_numbers)))
    (i_Desk_take_numbers : PySem.W.isFn K (.ref f_Desk_take_numbers) = true)
    (l_Desk_take_numbers : K.lookup f_Desk_take_numbers = some ⟨oc_Desk_take_numbers, od_Desk_take_numbers, .func (PySem.W.fnOf "take_numbers" "Desk.take_numbers" (defArgs st_Desk_take_numbers) (defBody st_Desk_take_numbers) (defScope st_Desk_take_numbers) .none kv_Desk_take_numbers dc_Desk_take_numbers pm_Desk_take_numbers an_Desk_take_numbers cd_Desk_take_numbers ct_Desk_take_numbers), sl_Desk_take_numbers⟩)
    (c_Desk_take_numbers : PySem.W.codeIn K cd_Desk_take_numbers "Desk.take_numbers" = true)
    (kf_Desk_take_numbers : PySem.W.keepIn K (.ref f_Desk_take_numbers) = true)
    (a_Desk_tell_account : PySem.W.findIn K (.ref C_Desk) "tell_account" = some (some (.ref f_Desk_tell_account)))
    (i_Desk_tell_account : PySem.W.isFn K (.ref f_Desk_tell_account) = true)
    (l_Desk_tell_account : K.lookup f_Desk_tell_account = some ⟨oc_Desk_tell_account, od_Desk_tell_account, .func (PySem.W.fnOf "tell_account" "Desk.tell_account" (defArgs st_Desk_tell_account) (defBody st_Desk_tell_account) (defScope st_Desk_tell_account) .none kv_Desk_tell_account dc_Desk_tell_account pm_Desk_tell_account an_Desk_tell_account cd_Desk_tell_account ct_Desk_tell_account), sl_Desk_tell_account⟩)
    (c_Desk_tell_account : PySem.W.codeIn K cd_Desk_tell_account "Desk.tell_account" = true)
    (kf_Desk_tell_account : PySem.W.keepIn K (.ref f_Desk_tell_account) = true)
    (a_Desk_tell_row : PySem.W.findIn K (.ref C_Desk) "tell_row" = some (some (.ref f_Desk_tell_row)))
    (i_Desk_tell_row : PySem.W.isFn K (.ref f_Desk_tell_row) = true)
    (l_Desk_tell_row : K.lookup f_Desk_tell_row = some ⟨oc_Desk_tell_row, od_Desk_tell_row, .func (PySem.W.fnOf "tell_row" "Desk.tell_row" (defArgs st_Desk_tell_row) (defBody st_Desk_tell_row) (defScope st_Desk_tell_row) .none kv_Desk_tell_row dc_Desk_tell_row pm_Desk_tell_row an_Desk_tell_row cd_Desk_tell_row ct_Desk_tell_row), sl_Desk_tell_row⟩)
    (c_Desk_tell_row : PySem.W.codeIn K cd_Desk_tell_row "Desk.tell_row" = true)
    (kf_Desk_tell_row : PySem.W.keepIn K (.ref f_Desk_tell_row) = true)
    (a_Desk_tell_trace : PySem.W.findIn K (.ref C_Desk) "tell_trace" = some (some (.ref f_Desk_tell_trace)))
    (i_Desk_tell_trace : PySem.W.isFn K (.ref f_Desk_tell_trace) = true)
    (l_Desk_tell_trace : K.lookup f_Desk_tell_trace = some ⟨oc_Desk_tell_trace, od_Desk_tell_trace, .func (PySem.W.fnOf "tell_trace" "Desk.tell_trace" (defArgs st_Desk_tell_trace) (defBody st_Desk_tell_trace) (defScope st_Desk_tell_trace) .none kv_Desk_tell_trace dc_Desk_tell_trace pm_Desk_tell_trace an_Desk_tell_trace cd_Desk_tell_trace ct_Desk_tell_trace), sl_Desk_tell_trace⟩)
    (c_Desk_tell_trace : PySem.W.codeIn K cd_Desk_tell_trace "Desk.tell_trace" = true)
    (kf_Desk_tell_trace : PySem.W.keepIn K (.ref f_Desk_tell_trace) = true)
    (a_Desk_tell_step : PySem.W.findIn K (.ref C_Desk) "tell_step" = some (some (.ref f_Desk_tell_step)))
    (i_Desk_tell_step : PySem.W.isFn K (.ref f_Desk_tell_step) = true)
    (l_Desk_tell_step : K.lookup f_Desk_tell_step = some ⟨oc_Desk_tell_step, od_Desk_tell_step, .func (PySem.W.fnOf "tell_step" "Desk.tell_step" (defArgs st_Desk_tell_step) (defBody st_Desk_tell_step) (defScope st_Desk_tell_step) .none kv_Desk_tell_step dc_Desk_tell_step pm_Desk_tell_step an_Desk_tell_step cd_Desk_tell_step ct_Desk_tell_step), sl_Desk_tell_step⟩)
    (c_Desk_tell_step : PySem.W.codeIn K cd_Desk_tell_step "Desk.tell_step" = true)
    (kf_Desk_tell_step : PySem.W.keepIn K (.ref f_Desk_tell_step) = true)
    (a_Desk_tell_statement : PySem.W.findIn K (.ref C_Desk) "tell_statement" = some (some (.ref f_Desk_tell_statement)))
    (i_Desk_tell_statement : PySem.W.isFn K (.ref f_Desk_tell_statement) = true)
    (l_Desk_tell_statement : K.lookup f_Desk_tell_statement = some ⟨oc_Desk_tell_statement, od_Desk_tell_statement, .func (PySem.W.fnOf "tell_statement" "Desk.tell_statement" (defArgs st_Desk_tell_statement) (defBody st_Desk_tell_statement) (defScope st_Desk_tell_statement) .none kv_Desk_tell_statement dc_Desk_tell_statement pm_Desk_tell_statement an_Desk_tell_statement cd_Desk_tell_statement ct_Desk_tell_statement), sl_Desk_tell_statement⟩)
    (c_Desk_tell_statement : PySem.W.codeIn K cd_Desk_tell_statement "Desk.tell_statement" = true)
    (kf_Desk_tell_statement : PySem.W.keepIn K (.ref f_Desk_tell_statement) = true)
    (a_Desk_tell_text_alone : PySem.W.findIn K (.ref C_Desk) "tell_text_alone" = some (some (.ref f_Desk_tell_text_alone)))
    (i_Desk_tell_text_alone : PySem.W.isFn K (.ref f_Desk_tell_text_alone) = true)
    (l_Desk_tell_text_alone : K.lookup f_Desk_tell_text_alone = some ⟨oc_Desk_tell_text_alone, od_Desk_tell_text_alone, .func (PySem.W.fnOf "tell_text_alone" "Desk.tell_text_alone" (defArgs st_Desk_tell_text_alone) (defBody st_Desk_tell_text_alone) (defScope st_Desk_tell_text_alone) .none kv_Desk_tell_text_alone dc_Desk_tell_text_alone pm_Desk_tell_text_alone an_Desk_tell_text_alone cd_Desk_tell_text_alone ct_Desk_tell_text_alone), sl_Desk_tell_text_alone⟩)
    (c_Desk_tell_text_alone : PySem.W.codeIn K cd_Desk_tell_text_alone "Desk.tell_text_alone" = true)
    (kf_Desk_tell_text_alone : PySem.W.keepIn K (.ref f_Desk_tell_text_alone) = true)
    (a_Desk_tell_account_alone : PySem.W.findIn K (.ref C_Desk) "tell_account_alone" = some (some (.ref f_Desk_tell_account_alone)))
    (i_Desk_tell_account_alone : PySem.W.isFn K (.ref f_Desk_tell_account_alone) = true)
    (l_Desk_tell_account_alone : K.lookup f_Desk_tell_account_alone = some ⟨oc_Desk_tell_account_alone, od_Desk_tell_account_alone, .func (PySem.W.fnOf "tell_account_alone" "Desk.tell_account_alone" (defArgs st_Desk_tell_account_alone) (defBody st_Desk_tell_account_alone) (defScope st_Desk_tell_account_alone) .none kv_Desk_tell_account_alone dc_Desk_tell_account_alone pm_Desk_tell_account_alone an_Desk_tell_account_alone cd_Desk_tell_account_alone ct_Desk_tell_account_alone), sl_Desk_tell_account_alone⟩)
    (c_Desk_tell_account_alone : PySem.W.codeIn K cd_Desk_tell_account_alone "Desk.tell_account_alone" = true)
    (kf_Desk_tell_account_alone : PySem.W.keepIn K (.ref f_Desk_tell_account_alone) = true)
    (a_Desk_tell_same : PySem.W.findIn K (.ref C_Desk) "tell_same" = some (some (.ref f_Desk_tell_same)))
    (i_Desk_tell_same : PySem.W.isFn K (.ref f_Desk_tell_same) = true)
    (l_Desk_tell_same : K.lookup f_Desk_tell_same = some ⟨oc_Desk_tell_same, od_Desk_tell_same, .func (PySem.W.fnOf "tell_same" "Desk.tell_same" (defArgs st_Desk_tell_same) (defBody st_Desk_tell_same) (defScope st_Desk_tell_same) .none kv_Desk_tell_same dc_Desk_tell_same pm_Desk_tell_same an_Desk_tell_same cd_Desk_tell_same ct_Desk_tell_same), sl_Desk_tell_same⟩)
    (c_Desk_tell_same : PySem.W.codeIn K cd_Desk_tell_same "Desk.tell_same" = true)
    (kf_Desk_tell_same : PySem.W.keepIn K (.ref f_Desk_tell_same) = true)
    (a_Desk_tell_size : PySem.W.findIn K (.ref C_Desk) "tell_size" = some (some (.ref f_Desk_tell_size)))
    (i_Desk_tell_size : PySem.W.isFn K (.ref f_Desk_tell_size) = true)
    (l_Desk_tell_size : K.lookup f_Desk_tell_size = some ⟨oc_Desk_tell_size, od_Desk_tell_size, .func (PySem.W.fnOf "tell_size" "Desk.tell_size" (defArgs st_Desk_tell_size) (defBody st_Desk_tell_size) (defScope st_Desk_tell_size) .none kv_Desk_tell_size dc_Desk_tell_size pm_Desk_tell_size an_Desk_tell_size cd_Desk_tell_size ct_Desk_tell_size), sl_Desk_tell_size⟩)
    (c_Desk_tell_size : PySem.W.codeIn K cd_Desk_tell_size "Desk.tell_size" = true)
    (kf_Desk_tell_size : PySem.W.keepIn K (.ref f_Desk_tell_size) = true)
    (a_Desk_check_line : PySem.W.findIn K (.ref C_Desk) "check_line" = some (some (.ref f_Desk_check_line)))
    (i_Desk_check_line : PySem.W.isFn K (.ref f_Desk_check_line) = true)
    (l_Desk_check_line : K.lookup f_Desk_check_line = some ⟨oc_Desk_check_line, od_Desk_check_line, .func (PySem.W.fnOf "check_line" "Desk.check_line" (defArgs st_Desk_check_line) (defBody st_Desk_check_line) (defScope st_Desk_check_line) .none kv_Desk_check_line dc_Desk_check_line pm_Desk_check_line an_Desk_check_line cd_Desk_check_line ct_Desk_check_line), sl_Desk_check_line⟩)
    (c_Desk_check_line : PySem.W.codeIn K cd_Desk_check_line "Desk.check_line" = true)
    (kf_Desk_check_line : PySem.W.keepIn K (.ref f_Desk_check_line) = true)
    (a_Desk_check_lines : PySem.W.findIn K (.ref C_Desk) "check_lines" = some (some (.ref f_Desk_check_lines)))
    (i_Desk_check_lines : PySem.W.isFn K (.ref f_Desk_check_lines) = true)
    (l_Desk_check_lines : K.lookup f_Desk_check_lines = some ⟨oc_Desk_check_lines, od_Desk_check_lines, .func (PySem.W.fnOf "check_lines" "Desk.check_lines" (defArgs st_Desk_check_lines) (defBody st_Desk_check_lines) (defScope st_Desk_check_lines) .none kv_Desk_check_lines dc_Desk_check_lines pm_Desk_check_lines an_Desk_check_lines cd_Desk_check_lines ct_Desk_check_lines), sl_Desk_check_lines⟩)
    (c_Desk_check_lines : PySem.W.codeIn K cd_Desk_check_lines "Desk.check_lines" = true)
    (kf_Desk_check_lines : PySem.W.keepIn K (.ref f_Desk_check_lines) = true)
    (a_Desk_make_run : PySem.W.findIn K (.ref C_Desk) "make_run" = some (some (.ref f_Desk_make_run)))
    (i_Desk_make_run : PySem.W.isFn K (.ref f_Desk_make_run) = true)
    (l_Desk_make_run : K.lookup f_Desk_make_run = some ⟨oc_Desk_make_run, od_Desk_make_run, .func (PySem.W.fnOf "make_run" "Desk.make_run" (defArgs st_Desk_make_run) (defBody st_Desk_make_run) (defScope st_Desk_make_run) .none kv_Desk_make_run dc_Desk_make_run pm_Desk_make_run an_Desk_make_run cd_Desk_make_run ct_Desk_make_run), sl_Desk_make_run⟩)
    (c_Desk_make_run : PySem.W.codeIn K cd_Desk_make_run "Desk.make_run" = true)
    (kf_Desk_make_run : PySem.W.keepIn K (.ref f_Desk_make_run) = true)
    (a_Desk_make_run_alone : PySem.W.findIn K (.ref C_Desk) "make_run_alone" = some (some (.ref f_Desk_make_run_alone)))
    (i_Desk_make_run_alone : PySem.W.isFn K (.ref f_Desk_make_run_alone) = true)
    (l_Desk_make_run_alone : K.lookup f_Desk_make_run_alone = some ⟨oc_Desk_make_run_alone, od_Desk_make_run_alone, .func (PySem.W.fnOf "make_run_alone" "Desk.make_run_alone" (defArgs st_Desk_make_run_alone) (defBody st_Desk_make_run_alone) (defScope st_Desk_make_run_alone) .none kv_Desk_make_run_alone dc_Desk_make_run_alone pm_Desk_make_run_alone an_Desk_make_run_alone cd_Desk_make_run_alone ct_Desk_make_run_alone), sl_Desk_make_run_alone⟩)
    (c_Desk_make_run_alone : PySem.W.codeIn K cd_Desk_make_run_alone "Desk.make_run_alone" = true)
    (kf_Desk_make_run_alone : PySem.W.keepIn K (.ref f_Desk_make_run_alone) = true)
    (a_account_of : PySem.W.nsIn K mainGlobals "account_of" = some (some (.ref f_account_of)))
    (l_account_of : K.lookup f_account_of = some ⟨oc_account_of, od_account_of, .func (PySem.W.fnOf "account_of" "account_of" (defArgs st_account_of) (defBody st_account_of) (defScope st_account_of) .none kv_account_of dc_account_of pm_account_of an_account_of cd_account_of ct_account_of), sl_account_of⟩)
    (c_account_of : PySem.W.codeIn K cd_account_of "account_of" = true)
    (kf_account_of : PySem.W.keepIn K (.ref f_account_of) = true)
    (a_traced : PySem.W.nsIn K mainGlobals "traced" = some (some (.ref f_traced)))
    (l_traced : K.lookup f_traced = some ⟨oc_traced, od_traced, .func (PySem.W.fnOf "traced" "traced" (defArgs st_traced) (defBody st_traced) (defScope st_traced) .none kv_traced dc_traced pm_traced an_traced cd_traced ct_traced), sl_traced⟩)
    (c_traced : PySem.W.codeIn K cd_traced "traced" = true)
    (kf_traced : PySem.W.keepIn K (.ref f_traced) = true)
    (a_counted : PySem.W.nsIn K mainGlobals "counted" = some (some (.ref f_counted)))
    (l_counted : K.lookup f_counted = some ⟨oc_counted, od_counted, .func (PySem.W.fnOf "counted" "counted" (defArgs st_counted) (defBody st_counted) (defScope st_counted) .none kv_counted dc_counted pm_counted an_counted cd_counted ct_counted), sl_counted⟩)
    (c_counted : PySem.W.codeIn K cd_counted "counted" = true)
    (kf_counted : PySem.W.keepIn K (.ref f_counted) = true)
    (a_counted_text : PySem.W.nsIn K mainGlobals "counted_text" = some (some (.ref f_counted_text)))
    (l_counted_text : K.lookup f_counted_text = some ⟨oc_counted_text, od_counted_text, .func (PySem.W.fnOf "counted_text" "counted_text" (defArgs st_counted_text) (defBody st_counted_text) (defScope st_counted_text) .none kv_counted_text dc_counted_text pm_counted_text an_counted_text cd_counted_text ct_counted_text), sl_counted_text⟩)
    (c_counted_text : PySem.W.codeIn K cd_counted_text "counted_text" = true)
    (kf_counted_text : PySem.W.keepIn K (.ref f_counted_text) = true)
    (a_counted_texts : PySem.W.nsIn K mainGlobals "counted_texts" = some (some (.ref f_counted_texts)))
    (l_counted_texts : K.lookup f_counted_texts = some ⟨oc_counted_texts, od_counted_texts, .func (PySem.W.fnOf "counted_texts" "counted_texts" (defArgs st_counted_texts) (defBody st_counted_texts) (defScope st_counted_texts) .none kv_counted_texts dc_counted_texts pm_counted_texts an_counted_texts cd_counted_texts ct_counted_texts), sl_counted_texts⟩)
    (c_counted_texts : PySem.W.codeIn K cd_counted_texts "counted_texts" = true)
    (kf_counted_texts : PySem.W.keepIn K (.ref f_counted_texts) = true)
    (a_first_difference : PySem.W.nsIn K mainGlobals "first_difference" = some (some (.ref f_first_difference)))
    (l_first_difference : K.lookup f_first_difference = some ⟨oc_first_difference, od_first_difference, .func (PySem.W.fnOf "first_difference" "first_difference" (defArgs st_first_difference) (defBody st_first_difference) (defScope st_first_difference) .none kv_first_difference dc_first_difference pm_first_difference an_first_difference cd_first_difference ct_first_difference), sl_first_difference⟩)
    (c_first_difference : PySem.W.codeIn K cd_first_difference "first_difference" = true)
    (kf_first_difference : PySem.W.keepIn K (.ref f_first_difference) = true)
    (a_CallReader_init : PySem.W.findIn K (.ref C_CallReader) "__init__" = some (some (.ref f_CallReader_init)))
    (i_CallReader_init : PySem.W.isFn K (.ref f_CallReader_init) = true)
    (l_CallReader_init : K.lookup f_CallReader_init = some ⟨oc_CallReader_init, od_CallReader_init, .func (PySem.W.fnOf "__init__" "CallReader.__init__" (defArgs st_CallReader_init) (defBody st_CallReader_init) (defScope st_CallReader_init) .none kv_CallReader_init dc_CallReader_init pm_CallReader_init an_CallReader_init cd_CallReader_init ct_CallReader_init), sl_CallReader_init⟩)
    (c_CallReader_init : PySem.W.codeIn K cd_CallReader_init "CallReader.__init__" = true)
    (kf_CallReader_init : PySem.W.keepIn K (.ref f_CallReader_init) = true)
    (a_CallReader_has_more : PySem.W.findIn K (.ref C_CallReader) "has_more" = some (some (.ref f_CallReader_has_more)))
    (i_CallReader_has_more : PySem.W.isFn K (.ref f_CallReader_has_more) = true)
    (l_CallReader_has_more : K.lookup f_CallReader_has_more = some ⟨oc_CallReader_has_more, od_CallReader_has_more, .func (PySem.W.fnOf "has_more" "CallReader.has_more" (defArgs st_CallReader_has_more) (defBody st_CallReader_has_more) (defScope st_CallReader_has_more) .none kv_CallReader_has_more dc_CallReader_has_more pm_CallReader_has_more an_CallReader_has_more cd_CallReader_has_more ct_CallReader_has_more), sl_CallReader_has_more⟩)
    (c_CallReader_has_more : PySem.W.codeIn K cd_CallReader_has_more "CallReader.has_more" = true)
    (kf_CallReader_has_more : PySem.W.keepIn K (.ref f_CallReader_has_more) = true)
    (a_CallReader_take_number : PySem.W.findIn K (.ref C_CallReader) "take_number" = some (some (.ref f_CallReader_take_number)))
    (i_CallReader_take_number : PySem.W.isFn K (.ref f_CallReader_take_number) = true)
    (l_CallReader_take_number : K.lookup f_CallReader_take_number = some ⟨oc_CallReader_take_number, od_CallReader_take_number, .func (PySem.W.fnOf "take_number" "CallReader.take_number" (defArgs st_CallReader_take_number) (defBody st_CallReader_take_number) (defScope st_CallReader_take_number) .none kv_CallReader_take_number dc_CallReader_take_number pm_CallReader_take_number an_CallReader_take_number cd_CallReader_take_number ct_CallReader_take_number), sl_CallReader_take_number⟩)
    (c_CallReader_take_number : PySem.W.codeIn K cd_CallReader_take_number "CallReader.take_number" = true)
    (kf_CallReader_take_number : PySem.W.keepIn K (.ref f_CallReader_take_number) = true)
    (a_CallReader_take_row : PySem.W.findIn K (.ref C_CallReader) "take_row" = some (some (.ref f_CallReader_take_row)))
    (i_CallReader_take_row : PySem.W.isFn K (.ref f_CallReader_take_row) = true)
    (l_CallReader_take_row : K.lookup f_CallReader_take_row = some ⟨oc_CallReader_take_row, od_CallReader_take_row, .func (PySem.W.fnOf "take_row" "CallReader.take_row" (defArgs st_CallReader_take_row) (defBody st_CallReader_take_row) (defScope st_CallReader_take_row) .none kv_CallReader_take_row dc_CallReader_take_row pm_CallReader_take_row an_CallReader_take_row cd_CallReader_take_row ct_CallReader_take_row), sl_CallReader_take_row⟩)
    (c_CallReader_take_row : PySem.W.codeIn K cd_CallReader_take_row "CallReader.take_row" = true)
    (kf_CallReader_take_row : PySem.W.keepIn K (.ref f_CallReader_take_row) = true)
    (a_answers : PySem.W.nsIn K mainGlobals "answers" = some (some (.ref f_answers)))
    (l_answers : K.lookup f_answers = some ⟨oc_answers, od_answers, .func (PySem.W.fnOf "answers" "answers" (defArgs st_answers) (defBody st_answers) (defScope st_answers) .none kv_answers dc_answers pm_answers an_answers cd_answers ct_answers), sl_answers⟩)
    (c_answers : PySem.W.codeIn K cd_answers "answers" = true)
    (kf_answers : PySem.W.keepIn K (.ref f_answers) = true)
    (a_answer_or_refusal : PySem.W.nsIn K mainGlobals "answer_or_refusal" = some (some (.ref f_answer_or_refusal)))
    (l_answer_or_refusal : K.lookup f_answer_or_refusal = some ⟨oc_answer_or_refusal, od_answer_or_refusal, .func (PySem.W.fnOf "answer_or_refusal" "answer_or_refusal" (defArgs st_answer_or_refusal) (defBody st_answer_or_refusal) (defScope st_answer_or_refusal) .none kv_answer_or_refusal dc_answer_or_refusal pm_answer_or_refusal an_answer_or_refusal cd_answer_or_refusal ct_answer_or_refusal), sl_answer_or_refusal⟩)
    (c_answer_or_refusal : PySem.W.codeIn K cd_answer_or_refusal "answer_or_refusal" = true)
    (kf_answer_or_refusal : PySem.W.keepIn K (.ref f_answer_or_refusal) = true)
    (a_answer_next : PySem.W.nsIn K mainGlobals "answer_next" = some (some (.ref f_answer_next)))
    (l_answer_next : K.lookup f_answer_next = some ⟨oc_answer_next, od_answer_next, .func (PySem.W.fnOf "answer_next" "answer_next" (defArgs st_answer_next) (defBody st_answer_next) (defScope st_answer_next) .none kv_answer_next dc_answer_next pm_answer_next an_answer_next cd_answer_next ct_answer_next), sl_answer_next⟩)
    (c_answer_next : PySem.W.codeIn K cd_answer_next "answer_next" = true)
    (kf_answer_next : PySem.W.keepIn K (.ref f_answer_next) = true)
    : ∃ fd : FuncData, (∀ (s : Shared) (us : List Value), us.length = (["calls"] : List Str).length → BindsTo s fd ⟨us, []⟩ ((["calls"] : List Str).zip us)) ∧ ∀ base : Heap, K.In base → base.Ns mainGlobals mg → FnOk P w K mg base CX0 21 fa fd ["calls"] (spA (K := K)) := by
  have e := hfa.symm.trans (PySem.W.mg_of X G a_answers)
  cases e
  have T : Facts K mg {
    C_Statement := C_Statement,
    C_Program := C_Program,
    C_BlockBuilder := C_BlockBuilder,
    C_Step := C_Step,
    C_Run := C_Run,
    C_Desk := C_Desk,
    C_CallReader := C_CallReader,
    C_NotAProgram := C_NotAProgram,
    C_NotAnInput := C_NotAnInput,
    C_NoSuchStep := C_NoSuchStep,
    C_NoSuchLine := C_NoSuchLine,
    C_NotSomeLines := C_NotSomeLines,
    C_UnknownCall := C_UnknownCall,
    f_Statement_init := f_Statement_init,
    d_Statement_init := PySem.W.fnOf "__init__" "Statement.__init__" (defArgs st_Statement_init) (defBody st_Statement_init) (defScope st_Statement_init) .none kv_Statement_init dc_Statement_init pm_Statement_init an_Statement_init cd_Statement_init ct_Statement_init,
    f_is_number := f_is_number,
    d_is_number := PySem.W.fnOf "is_number" "is_number" (defArgs st_is_number) (defBody st_is_number) (defScope st_is_number) .none kv_is_number dc_is_number pm_is_number an_is_number cd_is_number ct_is_number,
    f_is_name := f_is_name,
    d_is_name := PySem.W.fnOf "is_name" "is_name" (defArgs st_is_name) (defBody st_is_name) (defScope st_is_name) .none kv_is_name dc_is_name pm_is_name an_is_name cd_is_name ct_is_name,
    f_is_atom := f_is_atom,
    d_is_atom := PySem.W.fnOf "is_atom" "is_atom" (defArgs st_is_atom) (defBody st_is_atom) (defScope st_is_atom) .none kv_is_atom dc_is_atom pm_is_atom an_is_atom cd_is_atom ct_is_atom,
    f_names_among := f_names_among,
    d_names_among := PySem.W.fnOf "names_among" "names_among" (defArgs st_names_among) (defBody st_names_among) (defScope st_names_among) .none kv_names_among dc_names_among pm_names_among an_names_among cd_names_among ct_names_among,
    f_is_header := f_is_header,
    d_is_header := PySem.W.fnOf "is_header" "is_header" (defArgs st_is_header) (defBody st_is_header) (defScope st_is_header) .none kv_is_header dc_is_header pm_is_header an_is_header cd_is_header ct_is_header,
    f_read_statement := f_read_statement,
    d_read_statement := PySem.W.fnOf "read_statement" "read_statement" (defArgs st_read_statement) (defBody st_read_statement) (defScope st_read_statement) .none kv_read_statement dc_read_statement pm_read_statement an_read_statement cd_read_statement ct_read_statement,
    f_read_header := f_read_header,
    d_read_header := PySem.W.fnOf "read_header" "read_header" (defArgs st_read_header) (defBody st_read_header) (defScope st_read_header) .none kv_read_header dc_read_header pm_read_header an_read_header cd_read_header ct_read_header,
    f_read_assignment := f_read_assignment,
    d_read_assignment := PySem.W.fnOf "read_assignment" "read_assignment" (defArgs st_read_assignment) (defBody st_read_assignment) (defScope st_read_assignment) .none kv_read_assignment dc_read_assignment pm_read_assignment an_read_assignment cd_read_assignment ct_read_assignment,
    f_check_atoms := f_check_atoms,
    d_check_atoms := PySem.W.fnOf "check_atoms" "check_atoms" (defArgs st_check_atoms) (defBody st_check_atoms) (defScope st_check_atoms) .none kv_check_atoms dc_check_atoms pm_check_atoms an_check_atoms cd_check_atoms ct_check_atoms,
    f_Program_init := f_Program_init,
    d_Program_init := PySem.W.fnOf "__init__" "Program.__init__" (defArgs st_Program_init) (defBody st_Program_init) (defScope st_Program_init) .none kv_Program_init dc_Program_init pm_Program_init an_Program_init cd_Program_init ct_Program_init,
    f_Program_all_lines := f_Program_all_lines,
    d_Program_all_lines := PySem.W.fnOf "all_lines" "Program.all_lines" (defArgs st_Program_all_lines) (defBody st_Program_all_lines) (defScope st_Program_all_lines) .none kv_Program_all_lines dc_Program_all_lines pm_Program_all_lines an_Program_all_lines cd_Program_all_lines ct_Program_all_lines,
    f_Program_depth := f_Program_depth,
    d_Program_depth := PySem.W.fnOf "depth" "Program.depth" (defArgs st_Program_depth) (defBody st_Program_depth) (defScope st_Program_depth) .none kv_Program_depth dc_Program_depth pm_Program_depth an_Program_depth cd_Program_depth ct_Program_depth,
    f_Program_text_alone := f_Program_text_alone,
    d_Program_text_alone := PySem.W.fnOf "text_alone" "Program.text_alone" (defArgs st_Program_text_alone) (defBody st_Program_text_alone) (defScope st_Program_text_alone) .none kv_Program_text_alone dc_Program_text_alone pm_Program_text_alone an_Program_text_alone cd_Program_text_alone ct_Program_text_alone,
    f_Program_rows_alone := f_Program_rows_alone,
    d_Program_rows_alone := PySem.W.fnOf "rows_alone" "Program.rows_alone" (defArgs st_Program_rows_alone) (defBody st_Program_rows_alone) (defScope st_Program_rows_alone) .none kv_Program_rows_alone dc_Program_rows_alone pm_Program_rows_alone an_Program_rows_alone cd_Program_rows_alone ct_Program_rows_alone,
    f_BlockBuilder_init := f_BlockBuilder_init,
    d_BlockBuilder_init := PySem.W.fnOf "__init__" "BlockBuilder.__init__" (defArgs st_BlockBuilder_init) (defBody st_BlockBuilder_init) (defScope st_BlockBuilder_init) .none kv_BlockBuilder_init dc_BlockBuilder_init pm_BlockBuilder_init an_BlockBuilder_init cd_BlockBuilder_init ct_BlockBuilder_init,
    f_BlockBuilder_add_statement := f_BlockBuilder_add_statement,
    d_BlockBuilder_add_statement := PySem.W.fnOf "add_statement" "BlockBuilder.add_statement" (defArgs st_BlockBuilder_add_statement) (defBody st_BlockBuilder_add_statement) (defScope st_BlockBuilder_add_statement) .none kv_BlockBuilder_add_statement dc_BlockBuilder_add_statement pm_BlockBuilder_add_statement an_BlockBuilder_add_statement cd_BlockBuilder_add_statement ct_BlockBuilder_add_statement,
    f_BlockBuilder_add_else := f_BlockBuilder_add_else,
    d_BlockBuilder_add_else := PySem.W.fnOf "add_else" "BlockBuilder.add_else" (defArgs st_BlockBuilder_add_else) (defBody st_BlockBuilder_add_else) (defScope st_BlockBuilder_add_else) .none kv_BlockBuilder_add_else dc_BlockBuilder_add_else pm_BlockBuilder_add_else an_BlockBuilder_add_else cd_BlockBuilder_add_else ct_BlockBuilder_add_else,
    f_read_program := f_read_program,
    d_read_program := PySem.W.fnOf "read_program" "read_program" (defArgs st_read_program) (defBody st_read_program) (defScope st_read_program) .none kv_read_program dc_read_program pm_read_program an_read_program cd_read_program ct_read_program,
    f_rows_of := f_rows_of,
    d_rows_of := PySem.W.fnOf "rows_of" "rows_of" (defArgs st_rows_of) (defBody st_rows_of) (defScope st_rows_of) .none kv_rows_of dc_rows_of pm_rows_of an_rows_of cd_rows_of ct_rows_of,
    f_bytes_of := f_bytes_of,
    d_bytes_of := PySem.W.fnOf "bytes_of" "bytes_of" (defArgs st_bytes_of) (defBody st_bytes_of) (defScope st_bytes_of) .none kv_bytes_of dc_bytes_of pm_bytes_of an_bytes_of cd_bytes_of ct_bytes_of,
    f_Step_init := f_Step_init,
    d_Step_init := PySem.W.fnOf "__init__" "Step.__init__" (defArgs st_Step_init) (defBody st_Step_init) (defScope st_Step_init) .none kv_Step_init dc_Step_init pm_Step_init an_Step_init cd_Step_init ct_Step_init,
    f_Run_init := f_Run_init,
    d_Run_init := PySem.W.fnOf "__init__" "Run.__init__" (defArgs st_Run_init) (defBody st_Run_init) (defScope st_Run_init) .none kv_Run_init dc_Run_init pm_Run_init an_Run_init cd_Run_init ct_Run_init,
    f_Run_do_block := f_Run_do_block,
    d_Run_do_block := PySem.W.fnOf "do_block" "Run.do_block" (defArgs st_Run_do_block) (defBody st_Run_do_block) (defScope st_Run_do_block) .none kv_Run_do_block dc_Run_do_block pm_Run_do_block an_Run_do_block cd_Run_do_block ct_Run_do_block,
    f_Run_do_line := f_Run_do_line,
    d_Run_do_line := PySem.W.fnOf "do_line" "Run.do_line" (defArgs st_Run_do_line) (defBody st_Run_do_line) (defScope st_Run_do_line) .none kv_Run_do_line dc_Run_do_line pm_Run_do_line an_Run_do_line cd_Run_do_line ct_Run_do_line,
    f_Run_do_rounds := f_Run_do_rounds,
    d_Run_do_rounds := PySem.W.fnOf "do_rounds" "Run.do_rounds" (defArgs st_Run_do_rounds) (defBody st_Run_do_rounds) (defScope st_Run_do_rounds) .none kv_Run_do_rounds dc_Run_do_rounds pm_Run_do_rounds an_Run_do_rounds cd_Run_do_rounds ct_Run_do_rounds,
    f_Run_make_step := f_Run_make_step,
    d_Run_make_step := PySem.W.fnOf "make_step" "Run.make_step" (defArgs st_Run_make_step) (defBody st_Run_make_step) (defScope st_Run_make_step) .none kv_Run_make_step dc_Run_make_step pm_Run_make_step an_Run_make_step cd_Run_make_step ct_Run_make_step,
    f_Run_note_effects := f_Run_note_effects,
    d_Run_note_effects := PySem.W.fnOf "note_effects" "Run.note_effects" (defArgs st_Run_note_effects) (defBody st_Run_note_effects) (defScope st_Run_note_effects) .none kv_Run_note_effects dc_Run_note_effects pm_Run_note_effects an_Run_note_effects cd_Run_note_effects ct_Run_note_effects,
    f_Run_test_around := f_Run_test_around,
    d_Run_test_around := PySem.W.fnOf "test_around" "Run.test_around" (defArgs st_Run_test_around) (defBody st_Run_test_around) (defScope st_Run_test_around) .none kv_Run_test_around dc_Run_test_around pm_Run_test_around an_Run_test_around cd_Run_test_around ct_Run_test_around,
    f_Run_origins_of := f_Run_origins_of,
    d_Run_origins_of := PySem.W.fnOf "origins_of" "Run.origins_of" (defArgs st_Run_origins_of) (defBody st_Run_origins_of) (defScope st_Run_origins_of) .none kv_Run_origins_of dc_Run_origins_of pm_Run_origins_of an_Run_origins_of cd_Run_origins_of ct_Run_origins_of,
    f_Run_uses_of := f_Run_uses_of,
    d_Run_uses_of := PySem.W.fnOf "uses_of" "Run.uses_of" (defArgs st_Run_uses_of) (defBody st_Run_uses_of) (defScope st_Run_uses_of) .none kv_Run_uses_of dc_Run_uses_of pm_Run_uses_of an_Run_uses_of cd_Run_uses_of ct_Run_uses_of,
    f_Run_take_value := f_Run_take_value,
    d_Run_take_value := PySem.W.fnOf "take_value" "Run.take_value" (defArgs st_Run_take_value) (defBody st_Run_take_value) (defScope st_Run_take_value) .none kv_Run_take_value dc_Run_take_value pm_Run_take_value an_Run_take_value cd_Run_take_value ct_Run_take_value,
    f_Run_number_of := f_Run_number_of,
    d_Run_number_of := PySem.W.fnOf "number_of" "Run.number_of" (defArgs st_Run_number_of) (defBody st_Run_number_of) (defScope st_Run_number_of) .none kv_Run_number_of dc_Run_number_of pm_Run_number_of an_Run_number_of cd_Run_number_of ct_Run_number_of,
    f_Run_output := f_Run_output,
    d_Run_output := PySem.W.fnOf "output" "Run.output" (defArgs st_Run_output) (defBody st_Run_output) (defScope st_Run_output) .none kv_Run_output dc_Run_output pm_Run_output an_Run_output cd_Run_output ct_Run_output,
    f_Run_row_at := f_Run_row_at,
    d_Run_row_at := PySem.W.fnOf "row_at" "Run.row_at" (defArgs st_Run_row_at) (defBody st_Run_row_at) (defScope st_Run_row_at) .none kv_Run_row_at dc_Run_row_at pm_Run_row_at an_Run_row_at cd_Run_row_at ct_Run_row_at,
    f_reckon := f_reckon,
    d_reckon := PySem.W.fnOf "reckon" "reckon" (defArgs st_reckon) (defBody st_reckon) (defScope st_reckon) .none kv_reckon dc_reckon pm_reckon an_reckon cd_reckon ct_reckon,
    f_run_lines := f_run_lines,
    d_run_lines := PySem.W.fnOf "run_lines" "run_lines" (defArgs st_run_lines) (defBody st_run_lines) (defScope st_run_lines) .none kv_run_lines dc_run_lines pm_run_lines an_run_lines cd_run_lines ct_run_lines,
    f_Desk_init := f_Desk_init,
    d_Desk_init := PySem.W.fnOf "__init__" "Desk.__init__" (defArgs st_Desk_init) (defBody st_Desk_init) (defScope st_Desk_init) .none kv_Desk_init dc_Desk_init pm_Desk_init an_Desk_init cd_Desk_init ct_Desk_init,
    f_Desk_take_program := f_Desk_take_program,
    d_Desk_take_program := PySem.W.fnOf "take_program" "Desk.take_program" (defArgs st_Desk_take_program) (defBody st_Desk_take_program) (defScope st_Desk_take_program) .none kv_Desk_take_program dc_Desk_take_program pm_Desk_take_program an_Desk_take_program cd_Desk_take_program ct_Desk_take_program,
    f_Desk_tell_text := f_Desk_tell_text,
    d_Desk_tell_text := PySem.W.fnOf "tell_text" "Desk.tell_text" (defArgs st_Desk_tell_text) (defBody st_Desk_tell_text) (defScope st_Desk_tell_text) .none kv_Desk_tell_text dc_Desk_tell_text pm_Desk_tell_text an_Desk_tell_text cd_Desk_tell_text ct_Desk_tell_text,
    f_Desk_take_numbers := f_Desk_take_numbers,
    d_Desk_take_numbers := PySem.W.fnOf "take_numbers" "Desk.take_numbers" (defArgs st_Desk_take_numbers) (defBody st_Desk_take_numbers) (defScope st_Desk_take_numbers) .none kv_Desk_take_numbers dc_Desk_take_numbers pm_Desk_take_numbers an_Desk_take_numbers cd_Desk_take_numbers ct_Desk_take_numbers,
    f_Desk_tell_account := f_Desk_tell_account,
    d_Desk_tell_account := PySem.W.fnOf "tell_account" "Desk.tell_account" (defArgs st_Desk_tell_account) (defBody st_Desk_tell_account) (defScope st_Desk_tell_account) .none kv_Desk_tell_account dc_Desk_tell_account pm_Desk_tell_account an_Desk_tell_account cd_Desk_tell_account ct_Desk_tell_account,
    f_Desk_tell_row := f_Desk_tell_row,
    d_Desk_tell_row := PySem.W.fnOf "tell_row" "Desk.tell_row" (defArgs st_Desk_tell_row) (defBody st_Desk_tell_row) (defScope st_Desk_tell_row) .none kv_Desk_tell_row dc_Desk_tell_row pm_Desk_tell_row an_Desk_tell_row cd_Desk_tell_row ct_Desk_tell_row,
    f_Desk_tell_trace := f_Desk_tell_trace,
    d_Desk_tell_trace := PySem.W.fnOf "tell_trace" "Desk.tell_trace" (defArgs st_Desk_tell_trace) (defBody st_Desk_tell_trace) (defScope st_Desk_tell_trace) .none kv_Desk_tell_trace dc_Desk_tell_trace pm_Desk_tell_trace an_Desk_tell_trace cd_Desk_tell_trace ct_Desk_tell_trace,
    f_Desk_tell_step := f_Desk_tell_step,
    d_Desk_tell_step := PySem.W.fnOf "tell_step" "Desk.tell_step" (defArgs st_Desk_tell_step) (defBody st_Desk_tell_step) (defScope st_Desk_tell_step) .none kv_Desk_tell_step dc_Desk_tell_step pm_Desk_tell_step an_Desk_tell_step cd_Desk_tell_step ct_Desk_tell_step,
    f_Desk_tell_statement := f_Desk_tell_statement,
    d_Desk_tell_statement := PySem.W.fnOf "tell_statement" "Desk.tell_statement" (defArgs st_Desk_tell_statement) (defBody st_Desk_tell_statement) (defScope st_Desk_tell_statement) .none kv_Desk_tell_statement dc_Desk_tell_statement pm_Desk_tell_statement an_Desk_tell_statement cd_Desk_tell_statement ct_Desk_tell_statement,
    f_Desk_tell_text_alone := f_Desk_tell_text_alone,
    d_Desk_tell_text_alone := PySem.W.fnOf "tell_text_alone" "Desk.tell_text_alone" (defArgs st_Desk_tell_text_alone) (defBody st_Desk_tell_text_alone) (defScope st_Desk_tell_text_alone) .none kv_Desk_tell_text_alone dc_Desk_tell_text_alone pm_Desk_tell_text_alone an_Desk_tell_text_alone cd_Desk_tell_text_alone ct_Desk_tell_text_alone,
    f_Desk_tell_account_alone := f_Desk_tell_account_alone,
    d_Desk_tell_account_alone := PySem.W.fnOf "tell_account_alone" "Desk.tell_account_alone" (defArgs st_Desk_tell_account_alone) (defBody st_Desk_tell_account_alone) (defScope st_Desk_tell_account_alone) .none kv_Desk_tell_account_alone dc_Desk_tell_account_alone pm_Desk_tell_account_alone an_Desk_tell_account_alone cd_Desk_tell_account_alone ct_Desk_tell_account_alone,
    f_Desk_tell_same := f_Desk_tell_same,
    d_Desk_tell_same := PySem.W.fnOf "tell_same" "Desk.tell_same" (defArgs st_Desk_tell_same) (defBody st_Desk_tell_same) (defScope st_Desk_tell_same) .none kv_Desk_tell_same dc_Desk_tell_same pm_Desk_tell_same an_Desk_tell_same cd_Desk_tell_same ct_Desk_tell_same,
    f_Desk_tell_size := f_Desk_tell_size,
    d_Desk_tell_size := PySem.W.fnOf "tell_size" "Desk.tell_size" (defArgs st_Desk_tell_size) (defBody st_Desk_tell_size) (defScope st_Desk_tell_size) .none kv_Desk_tell_size dc_Desk_tell_size pm_Desk_tell_size an_Desk_tell_size cd_Desk_tell_size ct_Desk_tell_size,
    f_Desk_check_line := f_Desk_check_line,
    d_Desk_check_line := PySem.W.fnOf "check_line" "Desk.check_line" (defArgs st_Desk_check_line) (defBody st_Desk_check_line) (defScope st_Desk_check_line) .none kv_Desk_check_line dc_Desk_check_line pm_Desk_check_line an_Desk_check_line cd_Desk_check_line ct_Desk_check_line,
    f_Desk_check_lines := f_Desk_check_lines,
    d_Desk_check_lines := PySem.W.fnOf "check_lines" "Desk.check_lines" (defArgs st_Desk_check_lines) (defBody st_Desk_check_lines) (defScope st_Desk_check_lines) .none kv_Desk_check_lines dc_Desk_check_lines pm_Desk_check_lines an_Desk_check_lines cd_Desk_check_lines ct_Desk_check_lines,
    f_Desk_make_run := f_Desk_make_run,
    d_Desk_make_run := PySem.W.fnOf "make_run" "Desk.make_run" (defArgs st_Desk_make_run) (defBody st_Desk_make_run) (defScope st_Desk_make_run) .none kv_Desk_make_run dc_Desk_make_run pm_Desk_make_run an_Desk_make_run cd_Desk_make_run ct_Desk_make_run,
    f_Desk_make_run_alone := f_Desk_make_run_alone,
    d_Desk_make_run_alone := PySem.W.fnOf "make_run_alone" "Desk.make_run_alone" (defArgs st_Desk_make_run_alone) (defBody st_Desk_make_run_alone) (defScope st_Desk_make_run_alone) .none kv_Desk_make_run_alone dc_Desk_make_run_alone pm_Desk_make_run_alone an_Desk_make_run_alone cd_Desk_make_run_alone ct_Desk_make_run_alone,
    f_account_of := f_account_of,
    d_account_of := PySem.W.fnOf "account_of" "account_of" (defArgs st_account_of) (defBody st_account_of) (defScope st_account_of) .none kv_account_of dc_account_of pm_account_of an_account_of cd_account_of ct_account_of,
    f_traced := f_traced,
    d_traced := PySem.W.fnOf "traced" "traced" (defArgs st_traced) (defBody st_traced) (defScope st_traced) .none kv_traced dc_traced pm_traced an_traced cd_traced ct_traced,
    f_counted := f_counted,
    d_counted := PySem.W.fnOf "counted" "counted" (defArgs st_counted) (defBody st_counted) (defScope st_counted) .none kv_counted dc_counted pm_counted an_counted cd_counted ct_counted,
    f_counted_text := f_counted_text,
    d_counted_text := PySem.W.fnOf "counted_text" "counted_text" (defArgs st_counted_text) (defBody st_counted_text) (defScope st_counted_text) .none kv_counted_text dc_counted_text pm_counted_text an_counted_text cd_counted_text ct_counted_text,
    f_counted_texts := f_counted_texts,
    d_counted_texts := PySem.W.fnOf "counted_texts" "counted_texts" (defArgs st_counted_texts) (defBody st_counted_texts) (defScope st_counted_texts) .none kv_counted_texts dc_counted_texts pm_counted_texts an_counted_texts cd_counted_texts ct_counted_texts,
    f_first_difference := f_first_difference,
    d_first_difference := PySem.W.fnOf "first_difference" "first_difference" (defArgs st_first_difference) (defBody st_first_difference) (defScope st_first_difference) .none kv_first_difference dc_first_difference pm_first_difference an_first_difference cd_first_difference ct_first_difference,
    f_CallReader_init := f_CallReader_init,
    d_CallReader_init := PySem.W.fnOf "__init__" "CallReader.__init__" (defArgs st_CallReader_init) (defBody st_CallReader_init) (defScope st_CallReader_init) .none kv_CallReader_init dc_CallReader_init pm_CallReader_init an_CallReader_init cd_CallReader_init ct_CallReader_init,
    f_CallReader_has_more := f_CallReader_has_more,
    d_CallReader_has_more := PySem.W.fnOf "has_more" "CallReader.has_more" (defArgs st_CallReader_has_more) (defBody st_CallReader_has_more) (defScope st_CallReader_has_more) .none kv_CallReader_has_more dc_CallReader_has_more pm_CallReader_has_more an_CallReader_has_more cd_CallReader_has_more ct_CallReader_has_more,
    f_CallReader_take_number := f_CallReader_take_number,
    d_CallReader_take_number := PySem.W.fnOf "take_number" "CallReader.take_number" (defArgs st_CallReader_take_number) (defBody st_CallReader_take_number) (defScope st_CallReader_take_number) .none kv_CallReader_take_number dc_CallReader_take_number pm_CallReader_take_number an_CallReader_take_number cd_CallReader_take_number ct_CallReader_take_number,
    f_CallReader_take_row := f_CallReader_take_row,
    d_CallReader_take_row := PySem.W.fnOf "take_row" "CallReader.take_row" (defArgs st_CallReader_take_row) (defBody st_CallReader_take_row) (defScope st_CallReader_take_row) .none kv_CallReader_take_row dc_CallReader_take_row pm_CallReader_take_row an_CallReader_take_row cd_CallReader_take_row ct_CallReader_take_row,
    f_answers := fa,
    d_answers := PySem.W.fnOf "answers" "answers" (defArgs st_answers) (defBody st_answers) (defScope st_answers) .none kv_answers dc_answers pm_answers an_answers cd_answers ct_answers,
    f_answer_or_refusal := f_answer_or_refusal,
    d_answer_or_refusal := PySem.W.fnOf "answer_or_refusal" "answer_or_refusal" (defArgs st_answer_or_refusal) (defBody st_answer_or_refusal) (defScope st_answer_or_refusal) .none kv_answer_or_refusal dc_answer_or_refusal pm_answer_or_refusal an_answer_or_refusal cd_answer_or_refusal ct_answer_or_refusal,
    f_answer_next := f_answer_next,
    d_answer_next := PySem.W.fnOf "answer_next" "answer_next" (defArgs st_answer_next) (defBody st_answer_next) (defScope st_answer_next) .none kv_answer_next dc_answer_next pm_answer_next an_answer_next cd_answer_next ct_answer_next,
    t_HEADER_WORDS := t_HEADER_WORDS,
    t_NO_NAMES := t_NO_NAMES,
    t_OPERATORS := t_OPERATORS,
    t_RELATIONS := t_RELATIONS } := {
    b_all := PySem.W.mg_none_of X G b_all,
    b_int := PySem.W.mg_none_of X G b_int,
    b_len := PySem.W.mg_none_of X G b_len,
    b_list := PySem.W.mg_none_of X G b_list,
    b_max := PySem.W.mg_none_of X G b_max,
    b_ord := PySem.W.mg_none_of X G b_ord,
    b_range := PySem.W.mg_none_of X G b_range,
    b_zip := PySem.W.mg_none_of X G b_zip,
    c_ASSIGNMENT := ⟨k_ASSIGNMENT, PySem.W.mg_of X G c_ASSIGNMENT⟩,
    c_READ := ⟨k_READ, PySem.W.mg_of X G c_READ⟩,
    c_WRITE := ⟨k_WRITE, PySem.W.mg_of X G c_WRITE⟩,
    c_STOP := ⟨k_STOP, PySem.W.mg_of X G c_STOP⟩,
    c_IF := ⟨k_IF, PySem.W.mg_of X G c_IF⟩,
    c_WHILE := ⟨k_WHILE, PySem.W.mg_of X G c_WHILE⟩,
    t_HEADER_WORDS := PySem.W.mg_of X G t_HEADER_WORDS_n,
    s_HEADER_WORDS := fun H => Or.inr ⟨_, _, _, l_HEADER_WORDS, rfl, rfl, (show 2 ≤ sizeLine by decide), Paired.cons ⟨k_HEADER_WORDS_0, rfl⟩ (Paired.cons ⟨k_HEADER_WORDS_1, rfl⟩ (Paired.nil))⟩,
    c_LETTERS := ⟨k_LETTERS, PySem.W.mg_of X G c_LETTERS⟩,
    c_LONGEST_NAME := ⟨k_LONGEST_NAME, PySem.W.mg_of X G c_LONGEST_NAME⟩,
    t_NO_NAMES := PySem.W.mg_of X G t_NO_NAMES_n,
    s_NO_NAMES := fun H => Or.inr ⟨_, _, _, l_NO_NAMES, rfl, rfl, (show 4 ≤ sizeLine by decide), Paired.cons ⟨k_NO_NAMES_0, rfl⟩ (Paired.cons ⟨k_NO_NAMES_1, rfl⟩ (Paired.cons ⟨k_NO_NAMES_2, rfl⟩ (Paired.cons ⟨k_NO_NAMES_3, rfl⟩ (Paired.nil))))⟩,
    c_LONGEST_NUMBER := ⟨k_LONGEST_NUMBER, PySem.W.mg_of X G c_LONGEST_NUMBER⟩,
    t_OPERATORS := PySem.W.mg_of X G t_OPERATORS_n,
    s_OPERATORS := fun H => Or.inr ⟨_, _, _, l_OPERATORS, rfl, rfl, (show 3 ≤ sizeLine by decide), Paired.cons ⟨k_OPERATORS_0, rfl⟩ (Paired.cons ⟨k_OPERATORS_1, rfl⟩ (Paired.cons ⟨k_OPERATORS_2, rfl⟩ (Paired.nil)))⟩,
    t_RELATIONS := PySem.W.mg_of X G t_RELATIONS_n,
    s_RELATIONS := fun H => Or.inr ⟨_, _, _, l_RELATIONS, rfl, rfl, (show 3 ≤ sizeLine by decide), Paired.cons ⟨k_RELATIONS_0, rfl⟩ (Paired.cons ⟨k_RELATIONS_1, rfl⟩ (Paired.cons ⟨k_RELATIONS_2, rfl⟩ (Paired.nil)))⟩,
    c_MOST_STATEMENTS := ⟨k_MOST_STATEMENTS, PySem.W.mg_of X G c_MOST_STATEMENTS⟩,
    c_MOST_DEPTH := ⟨k_MOST_DEPTH, PySem.W.mg_of X G c_MOST_DEPTH⟩,
    c_ELSE := ⟨k_ELSE, PySem.W.mg_of X G c_ELSE⟩,
    c_INDENT := ⟨k_INDENT, PySem.W.mg_of X G c_INDENT⟩,
    c_SIGNS := ⟨k_SIGNS, PySem.W.mg_of X G c_SIGNS⟩,
    c_ENDED := ⟨k_ENDED, PySem.W.mg_of X G c_ENDED⟩,
    c_STOPPED := ⟨k_STOPPED, PySem.W.mg_of X G c_STOPPED⟩,
    c_LONG := ⟨k_LONG, PySem.W.mg_of X G c_LONG⟩,
    c_MOST_STEPS := ⟨k_MOST_STEPS, PySem.W.mg_of X G c_MOST_STEPS⟩,
    c_MODULUS := ⟨k_MODULUS, PySem.W.mg_of X G c_MODULUS⟩,
    c_MOST_NUMBERS := ⟨k_MOST_NUMBERS, PySem.W.mg_of X G c_MOST_NUMBERS⟩,
    c_LARGEST_NUMBER := ⟨k_LARGEST_NUMBER, PySem.W.mg_of X G c_LARGEST_NUMBER⟩,
    c_PROGRAM := ⟨k_PROGRAM, PySem.W.mg_of X G c_PROGRAM⟩,
    c_SHOW := ⟨k_SHOW, PySem.W.mg_of X G c_SHOW⟩,
    c_INPUTS := ⟨k_INPUTS, PySem.W.mg_of X G c_INPUTS⟩,
    c_RUN := ⟨k_RUN, PySem.W.mg_of X G c_RUN⟩,
    c_VALUES := ⟨k_VALUES, PySem.W.mg_of X G c_VALUES⟩,
    c_TRACE := ⟨k_TRACE, PySem.W.mg_of X G c_TRACE⟩,
    c_STEP := ⟨k_STEP, PySem.W.mg_of X G c_STEP⟩,
    c_INFO := ⟨k_INFO, PySem.W.mg_of X G c_INFO⟩,
    c_ONLY := ⟨k_ONLY, PySem.W.mg_of X G c_ONLY⟩,
    c_RUNONLY := ⟨k_RUNONLY, PySem.W.mg_of X G c_RUNONLY⟩,
    c_SAME := ⟨k_SAME, PySem.W.mg_of X G c_SAME⟩,
    c_SIZE := ⟨k_SIZE, PySem.W.mg_of X G c_SIZE⟩,
    x_NotAProgram := ⟨PySem.W.mg_of X G g_NotAProgram, x_NotAProgram, k_NotAProgram, b_NotAProgram, t_NotAProgram, i_NotAProgram⟩,
    x_NotAnInput := ⟨PySem.W.mg_of X G g_NotAnInput, x_NotAnInput, k_NotAnInput, b_NotAnInput, t_NotAnInput, i_NotAnInput⟩,
    x_NoSuchStep := ⟨PySem.W.mg_of X G g_NoSuchStep, x_NoSuchStep, k_NoSuchStep, b_NoSuchStep, t_NoSuchStep, i_NoSuchStep⟩,
    x_NoSuchLine := ⟨PySem.W.mg_of X G g_NoSuchLine, x_NoSuchLine, k_NoSuchLine, b_NoSuchLine, t_NoSuchLine, i_NoSuchLine⟩,
    x_NotSomeLines := ⟨PySem.W.mg_of X G g_NotSomeLines, x_NotSomeLines, k_NotSomeLines, b_NotSomeLines, t_NotSomeLines, i_NotSomeLines⟩,
    x_UnknownCall := ⟨PySem.W.mg_of X G g_UnknownCall, x_UnknownCall, k_UnknownCall, b_UnknownCall, t_UnknownCall, i_UnknownCall⟩,
    e_NotAProgram_NotAProgram := exm_is b_NotAProgram i_NotAProgram t_NotAProgram m_NotAProgram_NotAProgram,
    e_NotAnInput_NotAnInput := exm_is b_NotAnInput i_NotAnInput t_NotAnInput m_NotAnInput_NotAnInput,
    e_NoSuchStep_NoSuchStep := exm_is b_NoSuchStep i_NoSuchStep t_NoSuchStep m_NoSuchStep_NoSuchStep,
    e_NoSuchLine_NoSuchLine := exm_is b_NoSuchLine i_NoSuchLine t_NoSuchLine m_NoSuchLine_NoSuchLine,
    e_NotSomeLines_NotSomeLines := exm_is b_NotSomeLines i_NotSomeLines t_NotSomeLines m_NotSomeLines_NotSomeLines,
    e_NotAProgram_NotAnInput := exm_is b_NotAnInput i_NotAnInput t_NotAnInput m_NotAProgram_NotAnInput,
    e_NotAProgram_NoSuchStep := exm_is b_NoSuchStep i_NoSuchStep t_NoSuchStep m_NotAProgram_NoSuchStep,
    e_NotAProgram_NoSuchLine := exm_is b_NoSuchLine i_NoSuchLine t_NoSuchLine m_NotAProgram_NoSuchLine,
    e_NotAProgram_NotSomeLines := exm_is b_NotSomeLines i_NotSomeLines t_NotSomeLines m_NotAProgram_NotSomeLines,
    e_NotAnInput_NotAProgram := exm_is b_NotAProgram i_NotAProgram t_NotAProgram m_NotAnInput_NotAProgram,
    e_NotAnInput_NoSuchStep := exm_is b_NoSuchStep i_NoSuchStep t_NoSuchStep m_NotAnInput_NoSuchStep,
    e_NotAnInput_NoSuchLine := exm_is b_NoSuchLine i_NoSuchLine t_NoSuchLine m_NotAnInput_NoSuchLine,
    e_NotAnInput_NotSomeLines := exm_is b_NotSomeLines i_NotSomeLines t_NotSomeLines m_NotAnInput_NotSomeLines,
    e_NoSuchStep_NotAProgram := exm_is b_NotAProgram i_NotAProgram t_NotAProgram m_NoSuchStep_NotAProgram,
    e_NoSuchStep_NotAnInput := exm_is b_NotAnInput i_NotAnInput t_NotAnInput m_NoSuchStep_NotAnInput,
    e_NoSuchStep_NoSuchLine := exm_is b_NoSuchLine i_NoSuchLine t_NoSuchLine m_NoSuchStep_NoSuchLine,
    e_NoSuchStep_NotSomeLines := exm_is b_NotSomeLines i_NotSomeLines t_NotSomeLines m_NoSuchStep_NotSomeLines,
    e_NoSuchLine_NotAProgram := exm_is b_NotAProgram i_NotAProgram t_NotAProgram m_NoSuchLine_NotAProgram,
    e_NoSuchLine_NotAnInput := exm_is b_NotAnInput i_NotAnInput t_NotAnInput m_NoSuchLine_NotAnInput,
    e_NoSuchLine_NoSuchStep := exm_is b_NoSuchStep i_NoSuchStep t_NoSuchStep m_NoSuchLine_NoSuchStep,
    e_NoSuchLine_NotSomeLines := exm_is b_NotSomeLines i_NotSomeLines t_NotSomeLines m_NoSuchLine_NotSomeLines,
    e_NotSomeLines_NotAProgram := exm_is b_NotAProgram i_NotAProgram t_NotAProgram m_NotSomeLines_NotAProgram,
    e_NotSomeLines_NotAnInput := exm_is b_NotAnInput i_NotAnInput t_NotAnInput m_NotSomeLines_NotAnInput,
    e_NotSomeLines_NoSuchStep := exm_is b_NoSuchStep i_NoSuchStep t_NoSuchStep m_NotSomeLines_NoSuchStep,
    e_NotSomeLines_NoSuchLine := exm_is b_NoSuchLine i_NoSuchLine t_NoSuchLine m_NotSomeLines_NoSuchLine,
    g_Statement := PySem.W.mg_of X G g_Statement,
    cl_Statement := ⟨pg_Statement, hd_Statement, po_Statement, sa_Statement⟩,
    n_Statement_kind := n_Statement_kind,
    n_Statement_sets := n_Statement_sets,
    n_Statement_atoms := n_Statement_atoms,
    n_Statement_sign := n_Statement_sign,
    n_Statement_names := n_Statement_names,
    n_Statement_headers := n_Statement_headers,
    n_Statement_block := n_Statement_block,
    n_Statement_otherwise := n_Statement_otherwise,
    K_Statement := ⟨mk_Statement, a_Statement_init, i_Statement_init, kc_Statement⟩,
    g_Program := PySem.W.mg_of X G g_Program,
    cl_Program := ⟨pg_Program, hd_Program, po_Program, sa_Program⟩,
    n_Program_text := n_Program_text,
    n_Program_rows := n_Program_rows,
    n_Program_statements := n_Program_statements,
    n_Program_top := n_Program_top,
    K_Program := ⟨mk_Program, a_Program_init, i_Program_init, kc_Program⟩,
    g_BlockBuilder := PySem.W.mg_of X G g_BlockBuilder,
    cl_BlockBuilder := ⟨pg_BlockBuilder, hd_BlockBuilder, po_BlockBuilder, sa_BlockBuilder⟩,
    n_BlockBuilder_statements := n_BlockBuilder_statements,
    n_BlockBuilder_top := n_BlockBuilder_top,
    n_BlockBuilder_around := n_BlockBuilder_around,
    n_BlockBuilder_filling := n_BlockBuilder_filling,
    n_BlockBuilder_awaits := n_BlockBuilder_awaits,
    K_BlockBuilder := ⟨mk_BlockBuilder, a_BlockBuilder_init, i_BlockBuilder_init, kc_BlockBuilder⟩,
    g_Step := PySem.W.mg_of X G g_Step,
    cl_Step := ⟨pg_Step, hd_Step, po_Step, sa_Step⟩,
    n_Step_line := n_Step_line,
    n_Step_value := n_Step_value,
    n_Step_let_by := n_Step_let_by,
    n_Step_origins := n_Step_origins,
    K_Step := ⟨mk_Step, a_Step_init, i_Step_init, kc_Step⟩,
    g_Run := PySem.W.mg_of X G g_Run,
    cl_Run := ⟨pg_Run, hd_Run, po_Run, sa_Run⟩,
    n_Run_statements := n_Run_statements,
    n_Run_lines := n_Run_lines,
    n_Run_left := n_Run_left,
    n_Run_outcome := n_Run_outcome,
    n_Run_steps := n_Run_steps,
    n_Run_held := n_Run_held,
    n_Run_setters := n_Run_setters,
    n_Run_last_tests := n_Run_last_tests,
    n_Run_last_read := n_Run_last_read,
    K_Run := ⟨mk_Run, a_Run_init, i_Run_init, kc_Run⟩,
    g_Desk := PySem.W.mg_of X G g_Desk,
    cl_Desk := ⟨pg_Desk, hd_Desk, po_Desk, sa_Desk⟩,
    n_Desk_program := n_Desk_program,
    n_Desk_numbers := n_Desk_numbers,
    K_Desk := ⟨mk_Desk, a_Desk_init, i_Desk_init, kc_Desk⟩,
    g_CallReader := PySem.W.mg_of X G g_CallReader,
    cl_CallReader := ⟨pg_CallReader, hd_CallReader, po_CallReader, sa_CallReader⟩,
    n_CallReader_calls := n_CallReader_calls,
    n_CallReader_place := n_CallReader_place,
    K_CallReader := ⟨mk_CallReader, a_CallReader_init, i_CallReader_init, kc_CallReader⟩,
    F_Statement_init := fun_mk (st := st_Statement_init) l_Statement_init c_Statement_init kf_Statement_init,
    B_Statement_init := (fun_mk (st := st_Statement_init) l_Statement_init c_Statement_init kf_Statement_init).binds (ps := ["self", "kind", "sets", "atoms", "sign"]) fun _ _ _ _ _ _ us hl => match us, hl with | [_, _, _, _, _], _ => rfl,
    g_is_number := PySem.W.mg_of X G a_is_number,
    F_is_number := fun_mk (st := st_is_number) l_is_number c_is_number kf_is_number,
    B_is_number := (fun_mk (st := st_is_number) l_is_number c_is_number kf_is_number).binds (ps := ["word"]) fun _ _ _ _ _ _ us hl => match us, hl with | [_], _ => rfl,
    g_is_name := PySem.W.mg_of X G a_is_name,
    F_is_name := fun_mk (st := st_is_name) l_is_name c_is_name kf_is_name,
    B_is_name := (fun_mk (st := st_is_name) l_is_name c_is_name kf_is_name).binds (ps := ["word"]) fun _ _ _ _ _ _ us hl => match us, hl with | [_], _ => rfl,
    g_is_atom := PySem.W.mg_of X G a_is_atom,
    F_is_atom := fun_mk (st := st_is_atom) l_is_atom c_is_atom kf_is_atom,
    B_is_atom := (fun_mk (st := st_is_atom) l_is_atom c_is_atom kf_is_atom).binds (ps := ["word"]) fun _ _ _ _ _ _ us hl => match us, hl with | [_], _ => rfl,
    g_names_among := PySem.W.mg_of X G a_names_among,
    F_names_among := fun_mk (st := st_names_among) l_names_among c_names_among kf_names_among,
    B_names_among := (fun_mk (st := st_names_among) l_names_among c_names_among kf_names_among).binds (ps := ["atoms"]) fun _ _ _ _ _ _ us hl => match us, hl with | [_], _ => rfl,
    g_is_header := PySem.W.mg_of X G a_is_header,
    F_is_header := fun_mk (st := st_is_header) l_is_header c_is_header kf_is_header,
    B_is_header := (fun_mk (st := st_is_header) l_is_header c_is_header kf_is_header).binds (ps := ["statement"]) fun _ _ _ _ _ _ us hl => match us, hl with | [_], _ => rfl,
    g_read_statement := PySem.W.mg_of X G a_read_statement,
    F_read_statement := fun_mk (st := st_read_statement) l_read_statement c_read_statement kf_read_statement,
    B_read_statement := (fun_mk (st := st_read_statement) l_read_statement c_read_statement kf_read_statement).binds (ps := ["row"]) fun _ _ _ _ _ _ us hl => match us, hl with | [_], _ => rfl,
    g_read_header := PySem.W.mg_of X G a_read_header,
    F_read_header := fun_mk (st := st_read_header) l_read_header c_read_header kf_read_header,
    B_read_header := (fun_mk (st := st_read_header) l_read_header c_read_header kf_read_header).binds (ps := ["row"]) fun _ _ _ _ _ _ us hl => match us, hl with | [_], _ => rfl,
    g_read_assignment := PySem.W.mg_of X G a_read_assignment,
    F_read_assignment := fun_mk (st := st_read_assignment) l_read_assignment c_read_assignment kf_read_assignment,
    B_read_assignment := (fun_mk (st := st_read_assignment) l_read_assignment c_read_assignment kf_read_assignment).binds (ps := ["words"]) fun _ _ _ _ _ _ us hl => match us, hl with | [_], _ => rfl,
    g_check_atoms := PySem.W.mg_of X G a_check_atoms,
    F_check_atoms := fun_mk (st := st_check_atoms) l_check_atoms c_check_atoms kf_check_atoms,
    B_check_atoms := (fun_mk (st := st_check_atoms) l_check_atoms c_check_atoms kf_check_atoms).binds (ps := ["words"]) fun _ _ _ _ _ _ us hl => match us, hl with | [_], _ => rfl,
    F_Program_init := fun_mk (st := st_Program_init) l_Program_init c_Program_init kf_Program_init,
    B_Program_init := (fun_mk (st := st_Program_init) l_Program_init c_Program_init kf_Program_init).binds (ps := ["self", "text", "rows", "statements", "top"]) fun _ _ _ _ _ _ us hl => match us, hl with | [_, _, _, _, _], _ => rfl,
    F_Program_all_lines := fun_mk (st := st_Program_all_lines) l_Program_all_lines c_Program_all_lines kf_Program_all_lines,
    B_Program_all_lines := (fun_mk (st := st_Program_all_lines) l_Program_all_lines c_Program_all_lines kf_Program_all_lines).binds (ps := ["self"]) fun _ _ _ _ _ _ us hl => match us, hl with | [_], _ => rfl,
    M_Program_all_lines := ⟨a_Program_all_lines, i_Program_all_lines, kf_Program_all_lines⟩,
    F_Program_depth := fun_mk (st := st_Program_depth) l_Program_depth c_Program_depth kf_Program_depth,
    B_Program_depth := (fun_mk (st := st_Program_depth) l_Program_depth c_Program_depth kf_Program_depth).binds (ps := ["self"]) fun _ _ _ _ _ _ us hl => match us, hl with | [_], _ => rfl,
    M_Program_depth := ⟨a_Program_depth, i_Program_depth, kf_Program_depth⟩,
    F_Program_text_alone := fun_mk (st := st_Program_text_alone) l_Program_text_alone c_Program_text_alone kf_Program_text_alone,
    B_Program_text_alone := (fun_mk (st := st_Program_text_alone) l_Program_text_alone c_Program_text_alone kf_Program_text_alone).binds (ps := ["self", "lines"]) fun _ _ _ _ _ _ us hl => match us, hl with | [_, _], _ => rfl,
    M_Program_text_alone := ⟨a_Program_text_alone, i_Program_text_alone, kf_Program_text_alone⟩,
    F_Program_rows_alone := fun_mk (st := st_Program_rows_alone) l_Program_rows_alone c_Program_rows_alone kf_Program_rows_alone,
    B_Program_rows_alone := (fun_mk (st := st_Program_rows_alone) l_Program_rows_alone c_Program_rows_alone kf_Program_rows_alone).binds (ps := ["self", "block", "lines"]) fun _ _ _ _ _ _ us hl => match us, hl with | [_, _, _], _ => rfl,
    M_Program_rows_alone := ⟨a_Program_rows_alone, i_Program_rows_alone, kf_Program_rows_alone⟩,
    F_BlockBuilder_init := fun_mk (st := st_BlockBuilder_init) l_BlockBuilder_init c_BlockBuilder_init kf_BlockBuilder_init,
    B_BlockBuilder_init := (fun_mk (st := st_BlockBuilder_init) l_BlockBuilder_init c_BlockBuilder_init kf_BlockBuilder_init).binds (ps := ["self"]) fun _ _ _ _ _ _ us hl => match us, hl with | [_], _ => rfl,
    F_BlockBuilder_add_statement := fun_mk (st := st_BlockBuilder_add_statement) l_BlockBuilder_add_statement c_BlockBuilder_add_statement kf_BlockBuilder_add_statement,
    B_BlockBuilder_add_statement := (fun_mk (st := st_BlockBuilder_add_statement) l_BlockBuilder_add_statement c_BlockBuilder_add_statement kf_BlockBuilder_add_statement).binds (ps := ["self", "depth", "statement"]) fun _ _ _ _ _ _ us hl => match us, hl with | [_, _, _], _ => rfl,
    M_BlockBuilder_add_statement := ⟨a_BlockBuilder_add_statement, i_BlockBuilder_add_statement, kf_BlockBuilder_add_statement⟩,
    F_BlockBuilder_add_else := fun_mk (st := st_BlockBuilder_add_else) l_BlockBuilder_add_else c_BlockBuilder_add_else kf_BlockBuilder_add_else,
    B_BlockBuilder_add_else := (fun_mk (st := st_BlockBuilder_add_else) l_BlockBuilder_add_else c_BlockBuilder_add_else kf_BlockBuilder_add_else).binds (ps := ["self", "depth"]) fun _ _ _ _ _ _ us hl => match us, hl with | [_, _], _ => rfl,
    M_BlockBuilder_add_else := ⟨a_BlockBuilder_add_else, i_BlockBuilder_add_else, kf_BlockBuilder_add_else⟩,
    g_read_program := PySem.W.mg_of X G a_read_program,
    F_read_program := fun_mk (st := st_read_program) l_read_program c_read_program kf_read_program,
    B_read_program := (fun_mk (st := st_read_program) l_read_program c_read_program kf_read_program).binds (ps := ["text"]) fun _ _ _ _ _ _ us hl => match us, hl with | [_], _ => rfl,
    g_rows_of := PySem.W.mg_of X G a_rows_of,
    F_rows_of := fun_mk (st := st_rows_of) l_rows_of c_rows_of kf_rows_of,
    B_rows_of := (fun_mk (st := st_rows_of) l_rows_of c_rows_of kf_rows_of).binds (ps := ["text"]) fun _ _ _ _ _ _ us hl => match us, hl with | [_], _ => rfl,
    g_bytes_of := PySem.W.mg_of X G a_bytes_of,
    F_bytes_of := fun_mk (st := st_bytes_of) l_bytes_of c_bytes_of kf_bytes_of,
    B_bytes_of := (fun_mk (st := st_bytes_of) l_bytes_of c_bytes_of kf_bytes_of).binds (ps := ["signs"]) fun _ _ _ _ _ _ us hl => match us, hl with | [_], _ => rfl,
    F_Step_init := fun_mk (st := st_Step_init) l_Step_init c_Step_init kf_Step_init,
    B_Step_init := (fun_mk (st := st_Step_init) l_Step_init c_Step_init kf_Step_init).binds (ps := ["self", "line", "value", "let_by", "origins"]) fun _ _ _ _ _ _ us hl => match us, hl with | [_, _, _, _, _], _ => rfl,
    F_Run_init := fun_mk (st := st_Run_init) l_Run_init c_Run_init kf_Run_init,
    B_Run_init := (fun_mk (st := st_Run_init) l_Run_init c_Run_init kf_Run_init).binds (ps := ["self", "statements", "lines", "numbers"]) fun _ _ _ _ _ _ us hl => match us, hl with | [_, _, _, _], _ => rfl,
    F_Run_do_block := fun_mk (st := st_Run_do_block) l_Run_do_block c_Run_do_block kf_Run_do_block,
    B_Run_do_block := (fun_mk (st := st_Run_do_block) l_Run_do_block c_Run_do_block kf_Run_do_block).binds (ps := ["self", "block"]) fun _ _ _ _ _ _ us hl => match us, hl with | [_, _], _ => rfl,
    M_Run_do_block := ⟨a_Run_do_block, i_Run_do_block, kf_Run_do_block⟩,
    F_Run_do_line := fun_mk (st := st_Run_do_line) l_Run_do_line c_Run_do_line kf_Run_do_line,
    B_Run_do_line := (fun_mk (st := st_Run_do_line) l_Run_do_line c_Run_do_line kf_Run_do_line).binds (ps := ["self", "line"]) fun _ _ _ _ _ _ us hl => match us, hl with | [_, _], _ => rfl,
    M_Run_do_line := ⟨a_Run_do_line, i_Run_do_line, kf_Run_do_line⟩,
    F_Run_do_rounds := fun_mk (st := st_Run_do_rounds) l_Run_do_rounds c_Run_do_rounds kf_Run_do_rounds,
    B_Run_do_rounds := (fun_mk (st := st_Run_do_rounds) l_Run_do_rounds c_Run_do_rounds kf_Run_do_rounds).binds (ps := ["self", "line", "value"]) fun _ _ _ _ _ _ us hl => match us, hl with | [_, _, _], _ => rfl,
    M_Run_do_rounds := ⟨a_Run_do_rounds, i_Run_do_rounds, kf_Run_do_rounds⟩,
    F_Run_make_step := fun_mk (st := st_Run_make_step) l_Run_make_step c_Run_make_step kf_Run_make_step,
    B_Run_make_step := (fun_mk (st := st_Run_make_step) l_Run_make_step c_Run_make_step kf_Run_make_step).binds (ps := ["self", "line", "let_by"]) fun _ _ _ _ _ _ us hl => match us, hl with | [_, _, _], _ => rfl,
    M_Run_make_step := ⟨a_Run_make_step, i_Run_make_step, kf_Run_make_step⟩,
    F_Run_note_effects := fun_mk (st := st_Run_note_effects) l_Run_note_effects c_Run_note_effects kf_Run_note_effects,
    B_Run_note_effects := (fun_mk (st := st_Run_note_effects) l_Run_note_effects c_Run_note_effects kf_Run_note_effects).binds (ps := ["self", "line", "value"]) fun _ _ _ _ _ _ us hl => match us, hl with | [_, _, _], _ => rfl,
    M_Run_note_effects := ⟨a_Run_note_effects, i_Run_note_effects, kf_Run_note_effects⟩,
    F_Run_test_around := fun_mk (st := st_Run_test_around) l_Run_test_around c_Run_test_around kf_Run_test_around,
    B_Run_test_around := (fun_mk (st := st_Run_test_around) l_Run_test_around c_Run_test_around kf_Run_test_around).binds (ps := ["self", "statement"]) fun _ _ _ _ _ _ us hl => match us, hl with | [_, _], _ => rfl,
    M_Run_test_around := ⟨a_Run_test_around, i_Run_test_around, kf_Run_test_around⟩,
    F_Run_origins_of := fun_mk (st := st_Run_origins_of) l_Run_origins_of c_Run_origins_of kf_Run_origins_of,
    B_Run_origins_of := (fun_mk (st := st_Run_origins_of) l_Run_origins_of c_Run_origins_of kf_Run_origins_of).binds (ps := ["self", "statement"]) fun _ _ _ _ _ _ us hl => match us, hl with | [_, _], _ => rfl,
    M_Run_origins_of := ⟨a_Run_origins_of, i_Run_origins_of, kf_Run_origins_of⟩,
    F_Run_uses_of := fun_mk (st := st_Run_uses_of) l_Run_uses_of c_Run_uses_of kf_Run_uses_of,
    B_Run_uses_of := (fun_mk (st := st_Run_uses_of) l_Run_uses_of c_Run_uses_of kf_Run_uses_of).binds (ps := ["self", "step"]) fun _ _ _ _ _ _ us hl => match us, hl with | [_, _], _ => rfl,
    M_Run_uses_of := ⟨a_Run_uses_of, i_Run_uses_of, kf_Run_uses_of⟩,
    F_Run_take_value := fun_mk (st := st_Run_take_value) l_Run_take_value c_Run_take_value kf_Run_take_value,
    B_Run_take_value := (fun_mk (st := st_Run_take_value) l_Run_take_value c_Run_take_value kf_Run_take_value).binds (ps := ["self", "statement"]) fun _ _ _ _ _ _ us hl => match us, hl with | [_, _], _ => rfl,
    M_Run_take_value := ⟨a_Run_take_value, i_Run_take_value, kf_Run_take_value⟩,
    F_Run_number_of := fun_mk (st := st_Run_number_of) l_Run_number_of c_Run_number_of kf_Run_number_of,
    B_Run_number_of := (fun_mk (st := st_Run_number_of) l_Run_number_of c_Run_number_of kf_Run_number_of).binds (ps := ["self", "atom"]) fun _ _ _ _ _ _ us hl => match us, hl with | [_, _], _ => rfl,
    M_Run_number_of := ⟨a_Run_number_of, i_Run_number_of, kf_Run_number_of⟩,
    F_Run_output := fun_mk (st := st_Run_output) l_Run_output c_Run_output kf_Run_output,
    B_Run_output := (fun_mk (st := st_Run_output) l_Run_output c_Run_output kf_Run_output).binds (ps := ["self"]) fun _ _ _ _ _ _ us hl => match us, hl with | [_], _ => rfl,
    M_Run_output := ⟨a_Run_output, i_Run_output, kf_Run_output⟩,
    F_Run_row_at := fun_mk (st := st_Run_row_at) l_Run_row_at c_Run_row_at kf_Run_row_at,
    B_Run_row_at := (fun_mk (st := st_Run_row_at) l_Run_row_at c_Run_row_at kf_Run_row_at).binds (ps := ["self", "line"]) fun _ _ _ _ _ _ us hl => match us, hl with | [_, _], _ => rfl,
    M_Run_row_at := ⟨a_Run_row_at, i_Run_row_at, kf_Run_row_at⟩,
    g_reckon := PySem.W.mg_of X G a_reckon,
    F_reckon := fun_mk (st := st_reckon) l_reckon c_reckon kf_reckon,
    B_reckon := (fun_mk (st := st_reckon) l_reckon c_reckon kf_reckon).binds (ps := ["left", "sign", "right"]) fun _ _ _ _ _ _ us hl => match us, hl with | [_, _, _], _ => rfl,
    g_run_lines := PySem.W.mg_of X G a_run_lines,
    F_run_lines := fun_mk (st := st_run_lines) l_run_lines c_run_lines kf_run_lines,
    B_run_lines := (fun_mk (st := st_run_lines) l_run_lines c_run_lines kf_run_lines).binds (ps := ["program", "lines", "numbers"]) fun _ _ _ _ _ _ us hl => match us, hl with | [_, _, _], _ => rfl,
    F_Desk_init := fun_mk (st := st_Desk_init) l_Desk_init c_Desk_init kf_Desk_init,
    B_Desk_init := (fun_mk (st := st_Desk_init) l_Desk_init c_Desk_init kf_Desk_init).binds (ps := ["self"]) fun _ _ _ _ _ _ us hl => match us, hl with | [_], _ => rfl,
    F_Desk_take_program := fun_mk (st := st_Desk_take_program) l_Desk_take_program c_Desk_take_program kf_Desk_take_program,
    B_Desk_take_program := (fun_mk (st := st_Desk_take_program) l_Desk_take_program c_Desk_take_program kf_Desk_take_program).binds (ps := ["self", "text"]) fun _ _ _ _ _ _ us hl => match us, hl with | [_, _], _ => rfl,
    M_Desk_take_program := ⟨a_Desk_take_program, i_Desk_take_program, kf_Desk_take_program⟩,
    F_Desk_tell_text := fun_mk (st := st_Desk_tell_text) l_Desk_tell_text c_Desk_tell_text kf_Desk_tell_text,
    B_Desk_tell_text := (fun_mk (st := st_Desk_tell_text) l_Desk_tell_text c_Desk_tell_text kf_Desk_tell_text).binds (ps := ["self"]) fun _ _ _ _ _ _ us hl => match us, hl with | [_], _ => rfl,
    M_Desk_tell_text := ⟨a_Desk_tell_text, i_Desk_tell_text, kf_Desk_tell_text⟩,
    F_Desk_take_numbers := fun_mk (st := st_Desk_take_numbers) l_Desk_take_numbers c_Desk_take_numbers kf_Desk_take_numbers,
    B_Desk_take_numbers := (fun_mk (st := st_Desk_take_numbers) l_Desk_take_numbers c_Desk_take_numbers kf_Desk_take_numbers).binds (ps := ["self", "numbers"]) fun _ _ _ _ _ _ us hl => match us, hl with | [_, _], _ => rfl,
    M_Desk_take_numbers := ⟨a_Desk_take_numbers, i_Desk_take_numbers, kf_Desk_take_numbers⟩,
    F_Desk_tell_account := fun_mk (st := st_Desk_tell_account) l_Desk_tell_account c_Desk_tell_account kf_Desk_tell_account,
    B_Desk_tell_account := (fun_mk (st := st_Desk_tell_account) l_Desk_tell_account c_Desk_tell_account kf_Desk_tell_account).binds (ps := ["self"]) fun _ _ _ _ _ _ us hl => match us, hl with | [_], _ => rfl,
    M_Desk_tell_account := ⟨a_Desk_tell_account, i_Desk_tell_account, kf_Desk_tell_account⟩,
    F_Desk_tell_row := fun_mk (st := st_Desk_tell_row) l_Desk_tell_row c_Desk_tell_row kf_Desk_tell_row,
    B_Desk_tell_row := (fun_mk (st := st_Desk_tell_row) l_Desk_tell_row c_Desk_tell_row kf_Desk_tell_row).binds (ps := ["self", "line"]) fun _ _ _ _ _ _ us hl => match us, hl with | [_, _], _ => rfl,
    M_Desk_tell_row := ⟨a_Desk_tell_row, i_Desk_tell_row, kf_Desk_tell_row⟩,
    F_Desk_tell_trace := fun_mk (st := st_Desk_tell_trace) l_Desk_tell_trace c_Desk_tell_trace kf_Desk_tell_trace,
    B_Desk_tell_trace := (fun_mk (st := st_Desk_tell_trace) l_Desk_tell_trace c_Desk_tell_trace kf_Desk_tell_trace).binds (ps := ["self"]) fun _ _ _ _ _ _ us hl => match us, hl with | [_], _ => rfl,
    M_Desk_tell_trace := ⟨a_Desk_tell_trace, i_Desk_tell_trace, kf_Desk_tell_trace⟩,
    F_Desk_tell_step := fun_mk (st := st_Desk_tell_step) l_Desk_tell_step c_Desk_tell_step kf_Desk_tell_step,
    B_Desk_tell_step := (fun_mk (st := st_Desk_tell_step) l_Desk_tell_step c_Desk_tell_step kf_Desk_tell_step).binds (ps := ["self", "number"]) fun _ _ _ _ _ _ us hl => match us, hl with | [_, _], _ => rfl,
    M_Desk_tell_step := ⟨a_Desk_tell_step, i_Desk_tell_step, kf_Desk_tell_step⟩,
    F_Desk_tell_statement := fun_mk (st := st_Desk_tell_statement) l_Desk_tell_statement c_Desk_tell_statement kf_Desk_tell_statement,
    B_Desk_tell_statement := (fun_mk (st := st_Desk_tell_statement) l_Desk_tell_statement c_Desk_tell_statement kf_Desk_tell_statement).binds (ps := ["self", "line"]) fun _ _ _ _ _ _ us hl => match us, hl with | [_, _], _ => rfl,
    M_Desk_tell_statement := ⟨a_Desk_tell_statement, i_Desk_tell_statement, kf_Desk_tell_statement⟩,
    F_Desk_tell_text_alone := fun_mk (st := st_Desk_tell_text_alone) l_Desk_tell_text_alone c_Desk_tell_text_alone kf_Desk_tell_text_alone,
    B_Desk_tell_text_alone := (fun_mk (st := st_Desk_tell_text_alone) l_Desk_tell_text_alone c_Desk_tell_text_alone kf_Desk_tell_text_alone).binds (ps := ["self", "lines"]) fun _ _ _ _ _ _ us hl => match us, hl with | [_, _], _ => rfl,
    M_Desk_tell_text_alone := ⟨a_Desk_tell_text_alone, i_Desk_tell_text_alone, kf_Desk_tell_text_alone⟩,
    F_Desk_tell_account_alone := fun_mk (st := st_Desk_tell_account_alone) l_Desk_tell_account_alone c_Desk_tell_account_alone kf_Desk_tell_account_alone,
    B_Desk_tell_account_alone := (fun_mk (st := st_Desk_tell_account_alone) l_Desk_tell_account_alone c_Desk_tell_account_alone kf_Desk_tell_account_alone).binds (ps := ["self", "lines"]) fun _ _ _ _ _ _ us hl => match us, hl with | [_, _], _ => rfl,
    M_Desk_tell_account_alone := ⟨a_Desk_tell_account_alone, i_Desk_tell_account_alone, kf_Desk_tell_account_alone⟩,
    F_Desk_tell_same := fun_mk (st := st_Desk_tell_same) l_Desk_tell_same c_Desk_tell_same kf_Desk_tell_same,
    B_Desk_tell_same := (fun_mk (st := st_Desk_tell_same) l_Desk_tell_same c_Desk_tell_same kf_Desk_tell_same).binds (ps := ["self", "line", "lines"]) fun _ _ _ _ _ _ us hl => match us, hl with | [_, _, _], _ => rfl,
    M_Desk_tell_same := ⟨a_Desk_tell_same, i_Desk_tell_same, kf_Desk_tell_same⟩,
    F_Desk_tell_size := fun_mk (st := st_Desk_tell_size) l_Desk_tell_size c_Desk_tell_size kf_Desk_tell_size,
    B_Desk_tell_size := (fun_mk (st := st_Desk_tell_size) l_Desk_tell_size c_Desk_tell_size kf_Desk_tell_size).binds (ps := ["self"]) fun _ _ _ _ _ _ us hl => match us, hl with | [_], _ => rfl,
    M_Desk_tell_size := ⟨a_Desk_tell_size, i_Desk_tell_size, kf_Desk_tell_size⟩,
    F_Desk_check_line := fun_mk (st := st_Desk_check_line) l_Desk_check_line c_Desk_check_line kf_Desk_check_line,
    B_Desk_check_line := (fun_mk (st := st_Desk_check_line) l_Desk_check_line c_Desk_check_line kf_Desk_check_line).binds (ps := ["self", "line"]) fun _ _ _ _ _ _ us hl => match us, hl with | [_, _], _ => rfl,
    M_Desk_check_line := ⟨a_Desk_check_line, i_Desk_check_line, kf_Desk_check_line⟩,
    F_Desk_check_lines := fun_mk (st := st_Desk_check_lines) l_Desk_check_lines c_Desk_check_lines kf_Desk_check_lines,
    B_Desk_check_lines := (fun_mk (st := st_Desk_check_lines) l_Desk_check_lines c_Desk_check_lines kf_Desk_check_lines).binds (ps := ["self", "lines"]) fun _ _ _ _ _ _ us hl => match us, hl with | [_, _], _ => rfl,
    M_Desk_check_lines := ⟨a_Desk_check_lines, i_Desk_check_lines, kf_Desk_check_lines⟩,
    F_Desk_make_run := fun_mk (st := st_Desk_make_run) l_Desk_make_run c_Desk_make_run kf_Desk_make_run,
    B_Desk_make_run := (fun_mk (st := st_Desk_make_run) l_Desk_make_run c_Desk_make_run kf_Desk_make_run).binds (ps := ["self"]) fun _ _ _ _ _ _ us hl => match us, hl with | [_], _ => rfl,
    M_Desk_make_run := ⟨a_Desk_make_run, i_Desk_make_run, kf_Desk_make_run⟩,
    F_Desk_make_run_alone := fun_mk (st := st_Desk_make_run_alone) l_Desk_make_run_alone c_Desk_make_run_alone kf_Desk_make_run_alone,
    B_Desk_make_run_alone := (fun_mk (st := st_Desk_make_run_alone) l_Desk_make_run_alone c_Desk_make_run_alone kf_Desk_make_run_alone).binds (ps := ["self", "lines"]) fun _ _ _ _ _ _ us hl => match us, hl with | [_, _], _ => rfl,
    M_Desk_make_run_alone := ⟨a_Desk_make_run_alone, i_Desk_make_run_alone, kf_Desk_make_run_alone⟩,
    g_account_of := PySem.W.mg_of X G a_account_of,
    F_account_of := fun_mk (st := st_account_of) l_account_of c_account_of kf_account_of,
    B_account_of := (fun_mk (st := st_account_of) l_account_of c_account_of kf_account_of).binds (ps := ["run"]) fun _ _ _ _ _ _ us hl => match us, hl with | [_], _ => rfl,
    g_traced := PySem.W.mg_of X G a_traced,
    F_traced := fun_mk (st := st_traced) l_traced c_traced kf_traced,
    B_traced := (fun_mk (st := st_traced) l_traced c_traced kf_traced).binds (ps := ["step"]) fun _ _ _ _ _ _ us hl => match us, hl with | [_], _ => rfl,
    g_counted := PySem.W.mg_of X G a_counted,
    F_counted := fun_mk (st := st_counted) l_counted c_counted kf_counted,
    B_counted := (fun_mk (st := st_counted) l_counted c_counted kf_counted).binds (ps := ["row"]) fun _ _ _ _ _ _ us hl => match us, hl with | [_], _ => rfl,
    g_counted_text := PySem.W.mg_of X G a_counted_text,
    F_counted_text := fun_mk (st := st_counted_text) l_counted_text c_counted_text kf_counted_text,
    B_counted_text := (fun_mk (st := st_counted_text) l_counted_text c_counted_text kf_counted_text).binds (ps := ["signs"]) fun _ _ _ _ _ _ us hl => match us, hl with | [_], _ => rfl,
    g_counted_texts := PySem.W.mg_of X G a_counted_texts,
    F_counted_texts := fun_mk (st := st_counted_texts) l_counted_texts c_counted_texts kf_counted_texts,
    B_counted_texts := (fun_mk (st := st_counted_texts) l_counted_texts c_counted_texts kf_counted_texts).binds (ps := ["texts"]) fun _ _ _ _ _ _ us hl => match us, hl with | [_], _ => rfl,
    g_first_difference := PySem.W.mg_of X G a_first_difference,
    F_first_difference := fun_mk (st := st_first_difference) l_first_difference c_first_difference kf_first_difference,
    B_first_difference := (fun_mk (st := st_first_difference) l_first_difference c_first_difference kf_first_difference).binds (ps := ["left", "right"]) fun _ _ _ _ _ _ us hl => match us, hl with | [_, _], _ => rfl,
    F_CallReader_init := fun_mk (st := st_CallReader_init) l_CallReader_init c_CallReader_init kf_CallReader_init,
    B_CallReader_init := (fun_mk (st := st_CallReader_init) l_CallReader_init c_CallReader_init kf_CallReader_init).binds (ps := ["self", "calls"]) fun _ _ _ _ _ _ us hl => match us, hl with | [_, _], _ => rfl,
    F_CallReader_has_more := fun_mk (st := st_CallReader_has_more) l_CallReader_has_more c_CallReader_has_more kf_CallReader_has_more,
    B_CallReader_has_more := (fun_mk (st := st_CallReader_has_more) l_CallReader_has_more c_CallReader_has_more kf_CallReader_has_more).binds (ps := ["self"]) fun _ _ _ _ _ _ us hl => match us, hl with | [_], _ => rfl,
    M_CallReader_has_more := ⟨a_CallReader_has_more, i_CallReader_has_more, kf_CallReader_has_more⟩,
    F_CallReader_take_number := fun_mk (st := st_CallReader_take_number) l_CallReader_take_number c_CallReader_take_number kf_CallReader_take_number,
    B_CallReader_take_number := (fun_mk (st := st_CallReader_take_number) l_CallReader_take_number c_CallReader_take_number kf_CallReader_take_number).binds (ps := ["self"]) fun _ _ _ _ _ _ us hl => match us, hl with | [_], _ => rfl,
    M_CallReader_take_number := ⟨a_CallReader_take_number, i_CallReader_take_number, kf_CallReader_take_number⟩,
    F_CallReader_take_row := fun_mk (st := st_CallReader_take_row) l_CallReader_take_row c_CallReader_take_row kf_CallReader_take_row,
    B_CallReader_take_row := (fun_mk (st := st_CallReader_take_row) l_CallReader_take_row c_CallReader_take_row kf_CallReader_take_row).binds (ps := ["self"]) fun _ _ _ _ _ _ us hl => match us, hl with | [_], _ => rfl,
    M_CallReader_take_row := ⟨a_CallReader_take_row, i_CallReader_take_row, kf_CallReader_take_row⟩,
    g_answers := PySem.W.mg_of X G a_answers,
    F_answers := fun_mk (st := st_answers) l_answers c_answers kf_answers,
    B_answers := (fun_mk (st := st_answers) l_answers c_answers kf_answers).binds (ps := ["calls"]) fun _ _ _ _ _ _ us hl => match us, hl with | [_], _ => rfl,
    g_answer_or_refusal := PySem.W.mg_of X G a_answer_or_refusal,
    F_answer_or_refusal := fun_mk (st := st_answer_or_refusal) l_answer_or_refusal c_answer_or_refusal kf_answer_or_refusal,
    B_answer_or_refusal := (fun_mk (st := st_answer_or_refusal) l_answer_or_refusal c_answer_or_refusal kf_answer_or_refusal).binds (ps := ["desk", "reader"]) fun _ _ _ _ _ _ us hl => match us, hl with | [_, _], _ => rfl,
    g_answer_next := PySem.W.mg_of X G a_answer_next,
    F_answer_next := fun_mk (st := st_answer_next) l_answer_next c_answer_next kf_answer_next,
    B_answer_next := (fun_mk (st := st_answer_next) l_answer_next c_answer_next kf_answer_next).binds (ps := ["desk", "reader"]) fun _ _ _ _ _ _ us hl => match us, hl with | [_, _], _ => rfl }
  exact ⟨_, fun s us hu => match us, hu with | [_], _ => .of_eq rfl, fun base _ _ => ok_answers T⟩
end VP
set_option maxHeartbeats 0 in
theorem PySem.Challenge.cw_valueoriginsdesk_s01_answers_holds : PySem.Challenge.rw_valueoriginsdesk_s01_answers.Holds := by
  w_on; k_headS; (case hw => exact ⟨[.list [.int 1]], by decide +kernel, by decide +kernel⟩)
  k_fillS
  refine L2.walk_specK (r := PySem.Challenge.rw_valueoriginsdesk_s01_answers) (k := 21) (CX := L2.CX0) (ps := ["calls"]) (sp := fun K => VP.spA (K := K)) (by decide +kernel) rfl rfl ⟨rfl, by decide, by decide⟩ (fun w h Y => PySem.W.kIn_of Y) ?F ?S (fun _ _ _ _ z => z)
  case F =>
    intro w mg fa h Y KX G hmg
    refine' VP.all_mk KX G hmg ?b_all ?b_int ?b_len ?b_list ?b_max ?b_ord ?b_range ?b_zip ?c_ASSIGNMENT ?c_READ ?c_WRITE ?c_STOP ?c_IF ?c_WHILE ?t_HEADER_WORDS_n ?l_HEADER_WORDS ?c_LETTERS ?c_LONGEST_NAME ?t_NO_NAMES_n ?l_NO_NAMES ?c_LONGEST_NUMBER ?t_OPERATORS_n ?l_OPERATORS ?t_RELATIONS_n ?l_RELATIONS ?c_MOST_STATEMENTS ?c_MOST_DEPTH ?c_ELSE ?c_INDENT ?c_SIGNS ?c_ENDED ?c_STOPPED ?c_LONG ?c_MOST_STEPS ?c_MODULUS ?c_MOST_NUMBERS ?c_LARGEST_NUMBER ?c_PROGRAM ?c_SHOW ?c_INPUTS ?c_RUN ?c_VALUES ?c_TRACE ?c_STEP ?c_INFO ?c_ONLY ?c_RUNONLY ?c_SAME ?c_SIZE ?g_NotAProgram ?x_NotAProgram ?k_NotAProgram ?b_NotAProgram ?t_NotAProgram ?i_NotAProgram ?g_NotAnInput ?x_NotAnInput ?k_NotAnInput ?b_NotAnInput ?t_NotAnInput ?i_NotAnInput ?g_NoSuchStep ?x_NoSuchStep ?k_NoSuchStep ?b_NoSuchStep ?t_NoSuchStep ?i_NoSuchStep ?g_NoSuchLine ?x_NoSuchLine ?k_NoSuchLine ?b_NoSuchLine ?t_NoSuchLine ?i_NoSuchLine ?g_NotSomeLines ?x_NotSomeLines ?k_NotSomeLines ?b_NotSomeLines ?t_NotSomeLines ?i_NotSomeLines ?g_UnknownCall ?x_UnknownCall ?k_UnknownCall ?b_UnknownCall ?t_UnknownCall ?i_UnknownCall ?m_NotAProgram_NotAProgram ?m_NotAnInput_NotAnInput ?m_NoSuchStep_NoSuchStep ?m_NoSuchLine_NoSuchLine ?m_NotSomeLines_NotSomeLines ?m_NotAProgram_NotAnInput ?m_NotAProgram_NoSuchStep ?m_NotAProgram_NoSuchLine ?m_NotAProgram_NotSomeLines ?m_NotAnInput_NotAProgram ?m_NotAnInput_NoSuchStep ?m_NotAnInput_NoSuchLine ?m_NotAnInput_NotSomeLines ?m_NoSuchStep_NotAProgram ?m_NoSuchStep_NotAnInput ?m_NoSuchStep_NoSuchLine ?m_NoSuchStep_NotSomeLines ?m_NoSuchLine_NotAProgram ?m_NoSuchLine_NotAnInput ?m_NoSuchLine_NoSuchStep ?m_NoSuchLine_NotSomeLines ?m_NotSomeLines_NotAProgram ?m_NotSomeLines_NotAnInput ?m_NotSomeLines_NoSuchStep ?m_NotSomeLines_NoSuchLine ?g_Statement ?pg_Statement ?hd_Statement ?po_Statement ?sa_Statement ?n_Statement_kind ?n_Statement_sets ?n_Statement_atoms ?n_Statement_sign ?n_Statement_names ?n_Statement_headers ?n_Statement_block ?n_Statement_otherwise ?mk_Statement ?kc_Statement ?g_Program ?pg_Program ?hd_Program ?po_Program ?sa_Program ?n_Program_text ?n_Program_rows ?n_Program_statements ?n_Program_top ?mk_Program ?kc_Program ?g_BlockBuilder ?pg_BlockBuilder ?hd_BlockBuilder ?po_BlockBuilder ?sa_BlockBuilder ?n_BlockBuilder_statements ?n_BlockBuilder_top ?n_BlockBuilder_around ?n_BlockBuilder_filling ?n_BlockBuilder_awaits ?mk_BlockBuilder ?kc_BlockBuilder ?g_Step ?pg_Step ?hd_Step ?po_Step ?sa_Step ?n_Step_line ?n_Step_value ?n_Step_let_by ?n_Step_origins ?mk_Step ?kc_Step ?g_Run ?pg_Run ?hd_Run ?po_Run ?sa_Run ?n_Run_statements ?n_Run_lines ?n_Run_left ?n_Run_outcome ?n_Run_steps ?n_Run_held ?n_Run_setters ?n_Run_last_tests ?n_Run_last_read ?mk_Run ?kc_Run ?g_Desk ?pg_Desk ?hd_Desk ?po_Desk ?sa_Desk ?n_Desk_program ?n_Desk_numbers ?mk_Desk ?kc_Desk ?g_CallReader ?pg_CallReader ?hd_CallReader ?po_CallReader ?sa_CallReader ?n_CallReader_calls ?n_CallReader_place ?mk_CallReader ?kc_CallReader ?a_Statement_init ?i_Statement_init ?l_Statement_init ?c_Statement_init ?kf_Statement_init ?a_is_number ?l_is_number ?c_is_number ?kf_is_number ?a_is_name ?l_is_name ?c_is_name ?kf_is_name ?a_is_atom ?l_is_atom ?c_is_atom ?kf_is_atom ?a_names_among ?l_names_among ?c_names_among ?kf_names_among ?a_is_header ?l_is_header ?c_is_header ?kf_is_header ?a_read_statement ?l_read_statement ?c_read_statement ?kf_read_statement ?a_read_header ?l_read_header ?c_read_header ?kf_read_header ?a_read_assignment ?l_read_assignment ?c_read_assignment ?kf_read_assignment ?a_check_atoms ?l_check_atoms ?c_check_atoms ?kf_check_atoms ?a_Program_init ?i_Program_init ?l_Program_init ?c_Program_init ?kf_Program_init ?a_Program_all_lines ?i_Program_all_lines ?l_Program_all_lines ?c_Program_all_lines ?kf_Program_all_lines ?a_Program_depth ?i_Program_depth ?l_Program_depth ?c_Program_depth ?kf_Program_depth ?a_Program_text_alone ?i_Program_text_alone ?l_Program_text_alone ?c_Program_text_alone ?kf_Program_text_alone ?a_Program_rows_alone ?i_Program_rows_alone ?l_Program_rows_alone ?c_Program_rows_alone ?kf_Program_rows_alone ?a_BlockBuilder_init ?i_BlockBuilder_init ?l_BlockBuilder_init ?c_BlockBuilder_init ?kf_BlockBuilder_init ?a_BlockBuilder_add_statement ?i_BlockBuilder_add_statement ?l_BlockBuilder_add_statement ?c_BlockBuilder_add_statement ?kf_BlockBuilder_add_statement ?a_BlockBuilder_add_else ?i_BlockBuilder_add_else ?l_BlockBuilder_add_else ?c_BlockBuilder_add_else ?kf_BlockBuilder_add_else ?a_read_program ?l_read_program ?c_read_program ?kf_read_program ?a_rows_of ?l_rows_of ?c_rows_of ?kf_rows_of ?a_bytes_of ?l_bytes_of ?c_bytes_of ?kf_bytes_of ?a_Step_init ?i_Step_init ?l_Step_init ?c_Step_init ?kf_Step_init ?a_Run_init ?i_Run_init ?l_Run_init ?c_Run_init ?kf_Run_init ?a_Run_do_block ?i_Run_do_block ?l_Run_do_block ?c_Run_do_block ?kf_Run_do_block ?a_Run_do_line ?i_Run_do_line ?l_Run_do_line ?c_Run_do_line ?kf_Run_do_line ?a_Run_do_rounds ?i_Run_do_rounds ?l_Run_do_rounds ?c_Run_do_rounds ?kf_Run_do_rounds ?a_Run_make_step ?i_Run_make_step ?l_Run_make_step ?c_Run_make_step ?kf_Run_make_step ?a_Run_note_effects ?i_Run_note_effects ?l_Run_note_effects ?c_Run_note_effects ?kf_Run_note_effects ?a_Run_test_around ?i_Run_test_around ?l_Run_test_around ?c_Run_test_around ?kf_Run_test_around ?a_Run_origins_of ?i_Run_origins_of ?l_Run_origins_of ?c_Run_origins_of ?kf_Run_origins_of ?a_Run_uses_of ?i_Run_uses_of ?l_Run_uses_of ?c_Run_uses_of ?kf_Run_uses_of ?a_Run_take_value ?i_Run_take_value ?l_Run_take_value ?c_Run_take_value ?kf_Run_take_value ?a_Run_number_of ?i_Run_number_of ?l_Run_number_of ?c_Run_number_of ?kf_Run_number_of ?a_Run_output ?i_Run_output ?l_Run_output ?c_Run_output ?kf_Run_output ?a_Run_row_at ?i_Run_row_at ?l_Run_row_at ?c_Run_row_at ?kf_Run_row_at ?a_reckon ?l_reckon ?c_reckon ?kf_reckon ?a_run_lines ?l_run_lines ?c_run_lines ?kf_run_lines ?a_Desk_init ?i_Desk_init ?l_Desk_init ?c_Desk_init ?kf_Desk_init ?a_Desk_take_program ?i_Desk_take_program ?l_Desk_take_program ?c_Desk_take_program ?kf_Desk_take_program ?a_Desk_tell_text ?i_Desk_tell_text ?l_Desk_tell_text ?c_Desk_tell_text ?kf_Desk_tell_text ?a_Desk_take_numbers ?i_Desk_take_numbers ?l_Desk_take_numbers ?c_Desk_take_numbers ?kf_Desk_take_numbers ?a_Desk_tell_account ?i_Desk_tell_account ?l_Desk_tell_account ?c_Desk_tell_account ?kf_Desk_tell_account ?a_Desk_tell_row ?i_Desk_tell_row ?l_Desk_tell_row ?c_Desk_tell_row ?kf_Desk_tell_row ?a_Desk_tell_trace ?i_Desk_tell_trace ?l_Desk_tell_trace ?c_Desk_tell_trace ?kf_Desk_tell_trace ?a_Desk_tell_step ?i_Desk_tell_step ?l_Desk_tell_step ?c_Desk_tell_step ?kf_Desk_tell_step ?a_Desk_tell_statement ?i_Desk_tell_statement ?l_Desk_tell_statement ?c_Desk_tell_statement ?kf_Desk_tell_statement ?a_Desk_tell_text_alone ?i_Desk_tell_text_alone ?l_Desk_tell_text_alone ?c_Desk_tell_text_alone ?kf_Desk_tell_text_alone ?a_Desk_tell_account_alone ?i_Desk_tell_account_alone ?l_Desk_tell_account_alone ?c_Desk_tell_account_alone ?kf_Desk_tell_account_alone ?a_Desk_tell_same ?i_Desk_tell_same ?l_Desk_tell_same ?c_Desk_tell_same ?kf_Desk_tell_same ?a_Desk_tell_size ?i_Desk_tell_size ?l_Desk_tell_size ?c_Desk_tell_size ?kf_Desk_tell_size ?a_Desk_check_line ?i_Desk_check_line ?l_Desk_check_line ?c_Desk_check_line ?kf_Desk_check_line ?a_Desk_check_lines ?i_Desk_check_lines ?l_Desk_check_lines ?c_Desk_check_lines ?kf_Desk_check_lines ?a_Desk_make_run ?i_Desk_make_run ?l_Desk_make_run ?c_Desk_make_run ?kf_Desk_make_run ?a_Desk_make_run_alone ?i_Desk_make_run_alone ?l_Desk_make_run_alone ?c_Desk_make_run_alone ?kf_Desk_make_run_alone ?a_account_of ?l_account_of ?c_account_of ?kf_account_of ?a_traced ?l_traced ?c_traced ?kf_traced ?a_counted ?l_counted ?c_counted ?kf_counted ?a_counted_text ?l_counted_text ?c_counted_text ?kf_counted_text ?a_counted_texts ?l_counted_texts ?c_counted_texts ?kf_counted_texts ?a_first_difference ?l_first_difference ?c_first_difference ?kf_first_difference ?a_CallReader_init ?i_CallReader_init ?l_CallReader_init ?c_CallReader_init ?kf_CallReader_init ?a_CallReader_has_more ?i_CallReader_has_more ?l_CallReader_has_more ?c_CallReader_has_more ?kf_CallReader_has_more ?a_CallReader_take_number ?i_CallReader_take_number ?l_CallReader_take_number ?c_CallReader_take_number ?kf_CallReader_take_number ?a_CallReader_take_row ?i_CallReader_take_row ?l_CallReader_take_row ?c_CallReader_take_row ?kf_CallReader_take_row ?a_answers ?l_answers ?c_answers ?kf_answers ?a_answer_or_refusal ?l_answer_or_refusal ?c_answer_or_refusal ?kf_answer_or_refusal ?a_answer_next ?l_answer_next ?c_answer_next ?kf_answer_next
    (case b_all => k_is)
    (case b_int => k_is)
    (case b_len => k_is)
    (case b_list => k_is)
    (case b_max => k_is)
    (case b_ord => k_is)
    (case b_range => k_is)
    (case b_zip => k_is)
    (case c_ASSIGNMENT => k_is)
    (case c_READ => k_is)
    (case c_WRITE => k_is)
    (case c_STOP => k_is)
    (case c_IF => k_is)
    (case c_WHILE => k_is)
    (case t_HEADER_WORDS_n => k_is)
    (case l_HEADER_WORDS => k_is)
    (case c_LETTERS => k_is)
    (case c_LONGEST_NAME => k_is)
    (case t_NO_NAMES_n => k_is)
    (case l_NO_NAMES => k_is)
    (case c_LONGEST_NUMBER => k_is)
    (case t_OPERATORS_n => k_is)
    (case l_OPERATORS => k_is)
    (case t_RELATIONS_n => k_is)
    (case l_RELATIONS => k_is)
    (case c_MOST_STATEMENTS => k_is)
    (case c_MOST_DEPTH => k_is)
    (case c_ELSE => k_is)
    (case c_INDENT => k_is)
    (case c_SIGNS => k_is)
    (case c_ENDED => k_is)
    (case c_STOPPED => k_is)
    (case c_LONG => k_is)
    (case c_MOST_STEPS => k_is)
    (case c_MODULUS => k_is)
    (case c_MOST_NUMBERS => k_is)
    (case c_LARGEST_NUMBER => k_is)
    (case c_PROGRAM => k_is)
    (case c_SHOW => k_is)
    (case c_INPUTS => k_is)
    (case c_RUN => k_is)
    (case c_VALUES => k_is)
    (case c_TRACE => k_is)
    (case c_STEP => k_is)
    (case c_INFO => k_is)
    (case c_ONLY => k_is)
    (case c_RUNONLY => k_is)
    (case c_SAME => k_is)
    (case c_SIZE => k_is)
    (case g_NotAProgram => k_is)
    (case x_NotAProgram => k_exc)
    (case k_NotAProgram => k_is)
    (case b_NotAProgram => k_is)
    (case t_NotAProgram => k_is)
    (case i_NotAProgram => k_is)
    (case g_NotAnInput => k_is)
    (case x_NotAnInput => k_exc)
    (case k_NotAnInput => k_is)
    (case b_NotAnInput => k_is)
    (case t_NotAnInput => k_is)
    (case i_NotAnInput => k_is)
    (case g_NoSuchStep => k_is)
    (case x_NoSuchStep => k_exc)
    (case k_NoSuchStep => k_is)
    (case b_NoSuchStep => k_is)
    (case t_NoSuchStep => k_is)
    (case i_NoSuchStep => k_is)
    (case g_NoSuchLine => k_is)
    (case x_NoSuchLine => k_exc)
    (case k_NoSuchLine => k_is)
    (case b_NoSuchLine => k_is)
    (case t_NoSuchLine => k_is)
    (case i_NoSuchLine => k_is)
    (case g_NotSomeLines => k_is)
    (case x_NotSomeLines => k_exc)
    (case k_NotSomeLines => k_is)
    (case b_NotSomeLines => k_is)
    (case t_NotSomeLines => k_is)
    (case i_NotSomeLines => k_is)
    (case g_UnknownCall => k_is)
    (case x_UnknownCall => k_exc)
    (case k_UnknownCall => k_is)
    (case b_UnknownCall => k_is)
    (case t_UnknownCall => k_is)
    (case i_UnknownCall => k_is)
    (case m_NotAProgram_NotAProgram => first | rfl | k_is)
    (case m_NotAnInput_NotAnInput => first | rfl | k_is)
    (case m_NoSuchStep_NoSuchStep => first | rfl | k_is)
    (case m_NoSuchLine_NoSuchLine => first | rfl | k_is)
    (case m_NotSomeLines_NotSomeLines => first | rfl | k_is)
    (case m_NotAProgram_NotAnInput => first | rfl | k_is)
    (case m_NotAProgram_NoSuchStep => first | rfl | k_is)
    (case m_NotAProgram_NoSuchLine => first | rfl | k_is)
    (case m_NotAProgram_NotSomeLines => first | rfl | k_is)
    (case m_NotAnInput_NotAProgram => first | rfl | k_is)
    (case m_NotAnInput_NoSuchStep => first | rfl | k_is)
    (case m_NotAnInput_NoSuchLine => first | rfl | k_is)
    (case m_NotAnInput_NotSomeLines => first | rfl | k_is)
    (case m_NoSuchStep_NotAProgram => first | rfl | k_is)
    (case m_NoSuchStep_NotAnInput => first | rfl | k_is)
    (case m_NoSuchStep_NoSuchLine => first | rfl | k_is)
    (case m_NoSuchStep_NotSomeLines => first | rfl | k_is)
    (case m_NoSuchLine_NotAProgram => first | rfl | k_is)
    (case m_NoSuchLine_NotAnInput => first | rfl | k_is)
    (case m_NoSuchLine_NoSuchStep => first | rfl | k_is)
    (case m_NoSuchLine_NotSomeLines => first | rfl | k_is)
    (case m_NotSomeLines_NotAProgram => first | rfl | k_is)
    (case m_NotSomeLines_NotAnInput => first | rfl | k_is)
    (case m_NotSomeLines_NoSuchStep => first | rfl | k_is)
    (case m_NotSomeLines_NoSuchLine => first | rfl | k_is)
    (case g_Statement => k_is)
    (case pg_Statement => k_is)
    (case hd_Statement => k_is)
    (case po_Statement => k_is)
    (case sa_Statement => k_is)
    (case n_Statement_kind => k_is)
    (case n_Statement_sets => k_is)
    (case n_Statement_atoms => k_is)
    (case n_Statement_sign => k_is)
    (case n_Statement_names => k_is)
    (case n_Statement_headers => k_is)
    (case n_Statement_block => k_is)
    (case n_Statement_otherwise => k_is)
    (case mk_Statement => k_is)
    (case kc_Statement => k_is)
    (case g_Program => k_is)
    (case pg_Program => k_is)
    (case hd_Program => k_is)
    (case po_Program => k_is)
    (case sa_Program => k_is)
    (case n_Program_text => k_is)
    (case n_Program_rows => k_is)
    (case n_Program_statements => k_is)
    (case n_Program_top => k_is)
    (case mk_Program => k_is)
    (case kc_Program => k_is)
    (case g_BlockBuilder => k_is)
    (case pg_BlockBuilder => k_is)
    (case hd_BlockBuilder => k_is)
    (case po_BlockBuilder => k_is)
    (case sa_BlockBuilder => k_is)
    (case n_BlockBuilder_statements => k_is)
    (case n_BlockBuilder_top => k_is)
    (case n_BlockBuilder_around => k_is)
    (case n_BlockBuilder_filling => k_is)
    (case n_BlockBuilder_awaits => k_is)
    (case mk_BlockBuilder => k_is)
    (case kc_BlockBuilder => k_is)
    (case g_Step => k_is)
    (case pg_Step => k_is)
    (case hd_Step => k_is)
    (case po_Step => k_is)
    (case sa_Step => k_is)
    (case n_Step_line => k_is)
    (case n_Step_value => k_is)
    (case n_Step_let_by => k_is)
    (case n_Step_origins => k_is)
    (case mk_Step => k_is)
    (case kc_Step => k_is)
    (case g_Run => k_is)
    (case pg_Run => k_is)
    (case hd_Run => k_is)
    (case po_Run => k_is)
    (case sa_Run => k_is)
    (case n_Run_statements => k_is)
    (case n_Run_lines => k_is)
    (case n_Run_left => k_is)
    (case n_Run_outcome => k_is)
    (case n_Run_steps => k_is)
    (case n_Run_held => k_is)
    (case n_Run_setters => k_is)
    (case n_Run_last_tests => k_is)
    (case n_Run_last_read => k_is)
    (case mk_Run => k_is)
    (case kc_Run => k_is)
    (case g_Desk => k_is)
    (case pg_Desk => k_is)
    (case hd_Desk => k_is)
    (case po_Desk => k_is)
    (case sa_Desk => k_is)
    (case n_Desk_program => k_is)
    (case n_Desk_numbers => k_is)
    (case mk_Desk => k_is)
    (case kc_Desk => k_is)
    (case g_CallReader => k_is)
    (case pg_CallReader => k_is)
    (case hd_CallReader => k_is)
    (case po_CallReader => k_is)
    (case sa_CallReader => k_is)
    (case n_CallReader_calls => k_is)
    (case n_CallReader_place => k_is)
    (case mk_CallReader => k_is)
    (case kc_CallReader => k_is)
    (case a_Statement_init => k_is)
    (case i_Statement_init => k_is)
    (case l_Statement_init => k_is)
    (case c_Statement_init => k_is)
    (case kf_Statement_init => k_is)
    (case a_is_number => k_is)
    (case l_is_number => k_is)
    (case c_is_number => k_is)
    (case kf_is_number => k_is)
    (case a_is_name => k_is)
    (case l_is_name => k_is)
    (case c_is_name => k_is)
    (case kf_is_name => k_is)
    (case a_is_atom => k_is)
    (case l_is_atom => k_is)
    (case c_is_atom => k_is)
    (case kf_is_atom => k_is)
    (case a_names_among => k_is)
    (case l_names_among => k_is)
    (case c_names_among => k_is)
    (case kf_names_among => k_is)
    (case a_is_header => k_is)
    (case l_is_header => k_is)
    (case c_is_header => k_is)
    (case kf_is_header => k_is)
    (case a_read_statement => k_is)
    (case l_read_statement => k_is)
    (case c_read_statement => k_is)
    (case kf_read_statement => k_is)
    (case a_read_header => k_is)
    (case l_read_header => k_is)
    (case c_read_header => k_is)
    (case kf_read_header => k_is)
    (case a_read_assignment => k_is)
    (case l_read_assignment => k_is)
    (case c_read_assignment => k_is)
    (case kf_read_assignment => k_is)
    (case a_check_atoms => k_is)
    (case l_check_atoms => k_is)
    (case c_check_atoms => k_is)
    (case kf_check_atoms => k_is)
    (case a_Program_init => k_is)
    (case i_Program_init => k_is)
    (case l_Program_init => k_is)
    (case c_Program_init => k_is)
    (case kf_Program_init => k_is)
    (case a_Program_all_lines => k_is)
    (case i_Program_all_lines => k_is)
    (case l_Program_all_lines => k_is)
    (case c_Program_all_lines => k_is)
    (case kf_Program_all_lines => k_is)
    (case a_Program_depth => k_is)
    (case i_Program_depth => k_is)
    (case l_Program_depth => k_is)
    (case c_Program_depth => k_is)
    (case kf_Program_depth => k_is)
    (case a_Program_text_alone => k_is)
    (case i_Program_text_alone => k_is)
    (case l_Program_text_alone => k_is)
    (case c_Program_text_alone => k_is)
    (case kf_Program_text_alone => k_is)
    (case a_Program_rows_alone => k_is)
    (case i_Program_rows_alone => k_is)
    (case l_Program_rows_alone => k_is)
    (case c_Program_rows_alone => k_is)
    (case kf_Program_rows_alone => k_is)
    (case a_BlockBuilder_init => k_is)
    (case i_BlockBuilder_init => k_is)
    (case l_BlockBuilder_init => k_is)
    (case c_BlockBuilder_init => k_is)
    (case kf_BlockBuilder_init => k_is)
    (case a_BlockBuilder_add_statement => k_is)
    (case i_BlockBuilder_add_statement => k_is)
    (case l_BlockBuilder_add_statement => k_is)
    (case c_BlockBuilder_add_statement => k_is)
    (case kf_BlockBuilder_add_statement => k_is)
    (case a_BlockBuilder_add_else => k_is)
    (case i_BlockBuilder_add_else => k_is)
    (case l_BlockBuilder_add_else => k_is)
    (case c_BlockBuilder_add_else => k_is)
    (case kf_BlockBuilder_add_else => k_is)
    (case a_read_program => k_is)
    (case l_read_program => k_is)
    (case c_read_program => k_is)
    (case kf_read_program => k_is)
    (case a_rows_of => k_is)
    (case l_rows_of => k_is)
    (case c_rows_of => k_is)
    (case kf_rows_of => k_is)
    (case a_bytes_of => k_is)
    (case l_bytes_of => k_is)
    (case c_bytes_of => k_is)
    (case kf_bytes_of => k_is)
    (case a_Step_init => k_is)
    (case i_Step_init => k_is)
    (case l_Step_init => k_is)
    (case c_Step_init => k_is)
    (case kf_Step_init => k_is)
    (case a_Run_init => k_is)
    (case i_Run_init => k_is)
    (case l_Run_init => k_is)
    (case c_Run_init => k_is)
    (case kf_Run_init => k_is)
    (case a_Run_do_block => k_is)
    (case i_Run_do_block => k_is)
    (case l_Run_do_block => k_is)
    (case c_Run_do_block => k_is)
    (case kf_Run_do_block => k_is)
    (case a_Run_do_line => k_is)
    (case i_Run_do_line => k_is)
    (case l_Run_do_line => k_is)
    (case c_Run_do_line => k_is)
    (case kf_Run_do_line => k_is)
    (case a_Run_do_rounds => k_is)
    (case i_Run_do_rounds => k_is)
    (case l_Run_do_rounds => k_is)
    (case c_Run_do_rounds => k_is)
    (case kf_Run_do_rounds => k_is)
    (case a_Run_make_step => k_is)
    (case i_Run_make_step => k_is)
    (case l_Run_make_step => k_is)
    (case c_Run_make_step => k_is)
    (case kf_Run_make_step => k_is)
    (case a_Run_note_effects => k_is)
    (case i_Run_note_effects => k_is)
    (case l_Run_note_effects => k_is)
    (case c_Run_note_effects => k_is)
    (case kf_Run_note_effects => k_is)
    (case a_Run_test_around => k_is)
    (case i_Run_test_around => k_is)
    (case l_Run_test_around => k_is)
    (case c_Run_test_around => k_is)
    (case kf_Run_test_around => k_is)
    (case a_Run_origins_of => k_is)
    (case i_Run_origins_of => k_is)
    (case l_Run_origins_of => k_is)
    (case c_Run_origins_of => k_is)
    (case kf_Run_origins_of => k_is)
    (case a_Run_uses_of => k_is)
    (case i_Run_uses_of => k_is)
    (case l_Run_uses_of => k_is)
    (case c_Run_uses_of => k_is)
    (case kf_Run_uses_of => k_is)
    (case a_Run_take_value => k_is)
    (case i_Run_take_value => k_is)
    (case l_Run_take_value => k_is)
    (case c_Run_take_value => k_is)
    (case kf_Run_take_value => k_is)
    (case a_Run_number_of => k_is)
    (case i_Run_number_of => k_is)
    (case l_Run_number_of => k_is)
    (case c_Run_number_of => k_is)
    (case kf_Run_number_of => k_is)
    (case a_Run_output => k_is)
    (case i_Run_output => k_is)
    (case l_Run_output => k_is)
    (case c_Run_output => k_is)
    (case kf_Run_output => k_is)
    (case a_Run_row_at => k_is)
    (case i_Run_row_at => k_is)
    (case l_Run_row_at => k_is)
    (case c_Run_row_at => k_is)
    (case kf_Run_row_at => k_is)
    (case a_reckon => k_is)
    (case l_reckon => k_is)
    (case c_reckon => k_is)
    (case kf_reckon => k_is)
    (case a_run_lines => k_is)
    (case l_run_lines => k_is)
    (case c_run_lines => k_is)
    (case kf_run_lines => k_is)
    (case a_Desk_init => k_is)
    (case i_Desk_init => k_is)
    (case l_Desk_init => k_is)
    (case c_Desk_init => k_is)
    (case kf_Desk_init => k_is)
    (case a_Desk_take_program => k_is)
    (case i_Desk_take_program => k_is)
    (case l_Desk_take_program => k_is)
    (case c_Desk_take_program => k_is)
    (case kf_Desk_take_program => k_is)
    (case a_Desk_tell_text => k_is)
    (case i_Desk_tell_text => k_is)
    (case l_Desk_tell_text => k_is)
    (case c_Desk_tell_text => k_is)
    (case kf_Desk_tell_text => k_is)
    (case a_Desk_take_numbers => k_is)
    (case i_Desk_take_numbers => k_is)
    (case l_Desk_take_numbers => k_is)
    (case c_Desk_take_numbers => k_is)
    (case kf_Desk_take_numbers => k_is)
    (case a_Desk_tell_account => k_is)
    (case i_Desk_tell_account => k_is)
    (case l_Desk_tell_account => k_is)
    (case c_Desk_tell_account => k_is)
    (case kf_Desk_tell_account => k_is)
    (case a_Desk_tell_row => k_is)
    (case i_Desk_tell_row => k_is)
    (case l_Desk_tell_row => k_is)
    (case c_Desk_tell_row => k_is)
    (case kf_Desk_tell_row => k_is)
    (case a_Desk_tell_trace => k_is)
    (case i_Desk_tell_trace => k_is)
    (case l_Desk_tell_trace => k_is)
    (case c_Desk_tell_trace => k_is)
    (case kf_Desk_tell_trace => k_is)
    (case a_Desk_tell_step => k_is)
    (case i_Desk_tell_step => k_is)
    (case l_Desk_tell_step => k_is)
    (case c_Desk_tell_step => k_is)
    (case kf_Desk_tell_step => k_is)
    (case a_Desk_tell_statement => k_is)
    (case i_Desk_tell_statement => k_is)
    (case l_Desk_tell_statement => k_is)
    (case c_Desk_tell_statement => k_is)
    (case kf_Desk_tell_statement => k_is)
    (case a_Desk_tell_text_alone => k_is)
    (case i_Desk_tell_text_alone => k_is)
    (case l_Desk_tell_text_alone => k_is)
    (case c_Desk_tell_text_alone => k_is)
    (case kf_Desk_tell_text_alone => k_is)
    (case a_Desk_tell_account_alone => k_is)
    (case i_Desk_tell_account_alone => k_is)
    (case l_Desk_tell_account_alone => k_is)
    (case c_Desk_tell_account_alone => k_is)
    (case kf_Desk_tell_account_alone => k_is)
    (case a_Desk_tell_same => k_is)
    (case i_Desk_tell_same => k_is)
    (case l_Desk_tell_same => k_is)
    (case c_Desk_tell_same => k_is)
    (case kf_Desk_tell_same => k_is)
    (case a_Desk_tell_size => k_is)
    (case i_Desk_tell_size => k_is)
    (case l_Desk_tell_size => k_is)
    (case c_Desk_tell_size => k_is)
    (case kf_Desk_tell_size => k_is)
    (case a_Desk_check_line => k_is)
    (case i_Desk_check_line => k_is)
    (case l_Desk_check_line => k_is)
    (case c_Desk_check_line => k_is)
    (case kf_Desk_check_line => k_is)
    (case a_Desk_check_lines => k_is)
    (case i_Desk_check_lines => k_is)
    (case l_Desk_check_lines => k_is)
    (case c_Desk_check_lines => k_is)
    (case kf_Desk_check_lines => k_is)
    (case a_Desk_make_run => k_is)
    (case i_Desk_make_run => k_is)
    (case l_Desk_make_run => k_is)
    (case c_Desk_make_run => k_is)
    (case kf_Desk_make_run => k_is)
    (case a_Desk_make_run_alone => k_is)
    (case i_Desk_make_run_alone => k_is)
    (case l_Desk_make_run_alone => k_is)
    (case c_Desk_make_run_alone => k_is)
    (case kf_Desk_make_run_alone => k_is)
    (case a_account_of => k_is)
    (case l_account_of => k_is)
    (case c_account_of => k_is)
    (case kf_account_of => k_is)
    (case a_traced => k_is)
    (case l_traced => k_is)
    (case c_traced => k_is)
    (case kf_traced => k_is)
    (case a_counted => k_is)
    (case l_counted => k_is)
    (case c_counted => k_is)
    (case kf_counted => k_is)
    (case a_counted_text => k_is)
    (case l_counted_text => k_is)
    (case c_counted_text => k_is)
    (case kf_counted_text => k_is)
    (case a_counted_texts => k_is)
    (case l_counted_texts => k_is)
    (case c_counted_texts => k_is)
    (case kf_counted_texts => k_is)
    (case a_first_difference => k_is)
    (case l_first_difference => k_is)
    (case c_first_difference => k_is)
    (case kf_first_difference => k_is)
    (case a_CallReader_init => k_is)
    (case i_CallReader_init => k_is)
    (case l_CallReader_init => k_is)
    (case c_CallReader_init => k_is)
    (case kf_CallReader_init => k_is)
    (case a_CallReader_has_more => k_is)
    (case i_CallReader_has_more => k_is)
    (case l_CallReader_has_more => k_is)
    (case c_CallReader_has_more => k_is)
    (case kf_CallReader_has_more => k_is)
    (case a_CallReader_take_number => k_is)
    (case i_CallReader_take_number => k_is)
    (case l_CallReader_take_number => k_is)
    (case c_CallReader_take_number => k_is)
    (case kf_CallReader_take_number => k_is)
    (case a_CallReader_take_row => k_is)
    (case i_CallReader_take_row => k_is)
    (case l_CallReader_take_row => k_is)
    (case c_CallReader_take_row => k_is)
    (case kf_CallReader_take_row => k_is)
    (case a_answers => k_is)
    (case l_answers => k_is)
    (case c_answers => k_is)
    (case kf_answers => k_is)
    (case a_answer_or_refusal => k_is)
    (case l_answer_or_refusal => k_is)
    (case c_answer_or_refusal => k_is)
    (case kf_answer_or_refusal => k_is)
    (case a_answer_next => k_is)
    (case l_answer_next => k_is)
    (case c_answer_next => k_is)
    (case kf_answer_next => k_is)
  case S =>
    intro K H xs a hO hwi hask hx
    cases hx with
    | cons h1 h2 =>
      cases h2
      cases h1 with
      | lst hs ha =>
        have e := L2.ints_dw a.1 _ ha
        subst e
        have q : ((Codec.inLen 0 17000 a.1 && a.1.all (Codec.inInt (-1000000000000000000) 1000000000000000000)) && true) = true := hwi
        rw [Bool.and_eq_true, Bool.and_eq_true] at q
        exact ⟨_, a.1, rfl, hs, (Codec.inNat_iff.mp q.1.1).2, VP.asked_is hask, fun p H' _ _ hp => .lst (L2.SqL.of hp) (L2.dw_ints _)⟩
