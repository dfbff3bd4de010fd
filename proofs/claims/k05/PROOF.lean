import PyProof.Rows.All
import Wide.All
import OpenK.AllK
import Wide.FinOn
import HandS.ForMost
import HandS.IsInst
import HandS.TupAny
import HandS.Style
import HandS.Codes
import HandS.TryOnly
import HandS.TupMul
import HandS.SetKeys
import HandS.StrMore
import HandS.Zip
import KE.GoesEnum
import HandS.ForExc
import HandS.ExcInit
import HandS.ExcIs
import HandS.ExcField
import HandS.FStr
import HandS.WordsExc
import HandS.ExcValue
import KE.KIntText
import KE.IntTextText
import HandS.More
import HandS.Text
import HandS.RaiseMore
import PySem.Challenge.RW_ownglass_k05_inputs_names_and_errors
set_option Elab.async false
set_option linter.all false
set_option maxRecDepth 100000
set_option maxHeartbeats 4000000
set_option Elab.async false
set_option linter.all false
set_option maxRecDepth 100000
/-! L0: what the proofs of all laws share: heaps that keep all but some lists, trees (words and lists of trees), the law's hand, callees. -/
namespace Og
open PySem PySem.Spec PyProof.Rows L2

/-! ### heaps: each tracked thing stays, but for lists at the places S -/
def Keep (S : List Addr) (H H' : Hp) : Prop := ∀ b o, H b = some o → H' b = some o ∨ (b ∈ S ∧ ∃ xs ys, o = .lst xs ∧ H' b = some (.lst ys))
theorem Keep.refl {S : List Addr} {H : Hp} : Keep S H H := fun _ _ e => .inl e
theorem Keep.trans {S : List Addr} {H H1 H2 : Hp} (a : Keep S H H1) (b : Keep S H1 H2) : Keep S H H2 := fun p o e => by
  rcases a p o e with h | ⟨h, xs, ys, e1, e2⟩
  · exact b p o h
  · rcases b p _ e2 with h' | ⟨_, xs', ys', e3, e4⟩
    · exact .inr ⟨h, xs, ys, e1, h'⟩
    · exact .inr ⟨h, xs, ys', e1, e4⟩
theorem Keep.mono {S S' : List Addr} {H H1 : Hp} (a : Keep S H H1) (h : ∀ x ∈ S, x ∈ S') : Keep S' H H1 := fun p o e => by
  rcases a p o e with q | ⟨q, r⟩
  · exact .inl q
  · exact .inr ⟨h _ q, r⟩
theorem Keep.new {S : List Addr} {H : Hp} {p : Addr} {o : HO} (h : H p = none) : Keep S H (upd H p o) := fun b u e => .inl (by rw [upd_ne (ne_of_none e h)]; exact e)
theorem Keep.newT {S : List Addr} {H H1 : Hp} {p : Addr} {o : HO} (a : Keep S H H1) (h : H1 p = none) : Keep S H (upd H1 p o) := a.trans (Keep.new h)
theorem Keep.set {S : List Addr} {H : Hp} {p : Addr} {xs ys : List V} (h : H p = some (.lst xs)) (m : p ∈ S) : Keep S H (upd H p (.lst ys)) := fun b u e => by
  by_cases hb : b = p
  · subst hb
    rw [h] at e
    cases e
    exact .inr ⟨m, xs, ys, rfl, upd_same⟩
  · exact .inl (by rw [upd_ne hb]; exact e)
theorem Keep.setT {S : List Addr} {H H1 : Hp} {p : Addr} {xs ys : List V} (a : Keep S H H1) (h : H1 p = some (.lst xs)) (m : p ∈ S) : Keep S H (upd H1 p (.lst ys)) := a.trans (Keep.set h m)
/-- a list that is new may change -/
theorem Keep.drop {S : List Addr} {H H1 : Hp} {p : Addr} (a : Keep (p :: S) H H1) (h : H p = none) : Keep S H H1 := fun b o e => by
  rcases a b o e with q | ⟨q, r⟩
  · exact .inl q
  · rcases List.mem_cons.mp q with q | q
    · subst q
      rw [h] at e
      cases e
    · exact .inr ⟨q, r⟩
theorem Keep.cons {S : List Addr} {H H1 : Hp} {p : Addr} (a : Keep S H H1) : Keep (p :: S) H H1 := a.mono fun _ h => List.mem_cons_of_mem _ h
theorem Keep.get {S : List Addr} {H H1 : Hp} {b : Addr} {o : HO} (a : Keep S H H1) (e : H b = some o) (h : b ∉ S) : H1 b = some o := by
  rcases a b o e with q | ⟨q, _⟩
  · exact q
  · exact absurd q h
theorem Keep.free {S : List Addr} {H H1 : Hp} {b : Addr} (a : Keep S H H1) (e : H1 b = none) : H b = none := by
  cases q : H b with
  | none => rfl
  | some o =>
    rcases a b o q with r | ⟨_, _, _, _, r⟩ <;> rw [r] at e <;> cases e
theorem Keep.rdT {S : List Addr} {H H1 : Hp} {b : Addr} {xs : List V} (a : Keep S H H1) (e : Rd H b (.tup xs)) : Rd H1 b (.tup xs) := by
  rcases e with e | ⟨o, e⟩
  · rcases a b _ e with q | ⟨_, _, _, q, _⟩
    · exact .inl q
    · cases q
  · rcases a b _ e with q | ⟨_, _, _, q, _⟩
    · exact .inr ⟨o, q⟩
    · cases q
theorem Keep.sqT {K : PySem.W.Frag} {S : List Addr} {H H1 : Hp} {b : Addr} {xs : List V} (a : Keep S H H1) (e : SqT K H b xs) : SqT K H1 b xs := by
  rcases e with e | e
  · exact .inl (a.rdT e)
  · exact .inr e
theorem Keep.sqL {K : PySem.W.Frag} {S : List Addr} {H H1 : Hp} {b : Addr} {xs : List V} (a : Keep S H H1) (h : b ∉ S) (e : SqL K H b xs) : SqL K H1 b xs := by
  rcases e with (e | ⟨o, e⟩) | e
  · exact .inl (.inl (a.get e h))
  · exact .inl (.inr ⟨o, a.get e h⟩)
  · exact .inr e
theorem Keep.tup {S : List Addr} {H H1 : Hp} {b : Addr} {xs : List V} (a : Keep S H H1) (e : H b = some (.tup xs)) : H1 b = some (.tup xs) := by
  rcases a b _ e with q | ⟨_, _, _, q, _⟩
  · exact q
  · cases q
theorem Keep.of_same {S : List Addr} {H H1 : Hp} (a : Same H H1) : Keep S H H1 := fun b o e => .inl (a b o e)
theorem Keep.same {H H1 : Hp} (a : Keep [] H H1) : Same H H1 := fun b o e => a.get e (by simp)

/-! ### texts by their codes -/
def tx (cs : List Nat) : Str := ⟨cs.toArray⟩
theorem tx_list (cs : List Nat) : (tx cs).cps.toList = cs := rfl
theorem tx_len (cs : List Nat) : (tx cs).length = cs.length := by
  show cs.toArray.size = cs.length
  simp
theorem tx_app (a b : List Nat) : tx a ++ tx b = tx (a ++ b) := by
  show Str.mk (a.toArray ++ b.toArray) = Str.mk (a ++ b).toArray
  simp
theorem tx_of (s : Str) : s = tx s.cps.toList := by
  cases s
  rfl
theorem tx_inj {a b : List Nat} (h : tx a = tx b) : a = b := by
  have q := congrArg (fun s : Str => s.cps.toList) h
  exact q
theorem tx_str {a b : List Nat} (h : V.str (tx a) = V.str (tx b)) : a = b := tx_inj (V.str.inj h)
theorem atI_tx {cs : List Nat} {z : Int} {c : Nat} (h : atI (tx cs).cps.toList z = some c) : atI cs z = some c := h
/-! ### trees -/
inductive Tree where
  | w (x : List Nat)
  | l (ts : List Tree)
mutual
def Tr (K : PySem.W.Frag) (H : Hp) : V → Tree → Prop
  | v, .w x => v = .str (tx x)
  | v, .l ts => ∃ a vs, v = .ref a ∧ SqT K H a vs ∧ Trs K H vs ts
def Trs (K : PySem.W.Frag) (H : Hp) : List V → List Tree → Prop
  | vs, [] => vs = []
  | vs, t :: ts => ∃ v r, vs = v :: r ∧ Tr K H v t ∧ Trs K H r ts
end
mutual
theorem Tr.keep {K : PySem.W.Frag} {S : List Addr} {H H1 : Hp} (a : Keep S H H1) : ∀ {v : V} {t : Tree}, Tr K H v t → Tr K H1 v t
  | v, .w x, h => by rw [Tr] at h ⊢; exact h
  | v, .l ts, h => by
    rw [Tr] at h ⊢
    obtain ⟨p, vs, e, h1, h2⟩ := h
    exact ⟨p, vs, e, a.sqT h1, Trs.keep a h2⟩
theorem Trs.keep {K : PySem.W.Frag} {S : List Addr} {H H1 : Hp} (a : Keep S H H1) : ∀ {vs : List V} {ts : List Tree}, Trs K H vs ts → Trs K H1 vs ts
  | vs, [], h => by rw [Trs] at h ⊢; exact h
  | vs, t :: ts, h => by
    rw [Trs] at h ⊢
    obtain ⟨v, r, e, h1, h2⟩ := h
    exact ⟨v, r, e, Tr.keep a h1, Trs.keep a h2⟩
end
section
variable {K : PySem.W.Frag} {H : Hp}
theorem tr_w {x : List Nat} : Tr K H (.str (tx x)) (.w x) := by rw [Tr]
theorem tr_l {a : Addr} {vs : List V} {ts : List Tree} (h : SqT K H a vs) (r : Trs K H vs ts) : Tr K H (.ref a) (.l ts) := by rw [Tr]; exact ⟨a, vs, rfl, h, r⟩
theorem trs_nil : Trs K H [] [] := by rw [Trs]
theorem trs_cons {v : V} {vs : List V} {t : Tree} {ts : List Tree} (h : Tr K H v t) (r : Trs K H vs ts) : Trs K H (v :: vs) (t :: ts) := by rw [Trs]; exact ⟨v, vs, rfl, h, r⟩
theorem Tr.word {v : V} {x : List Nat} (h : Tr K H v (.w x)) : v = .str (tx x) := by rw [Tr] at h; exact h
theorem Tr.list {v : V} {ts : List Tree} (h : Tr K H v (.l ts)) : ∃ a vs, v = .ref a ∧ SqT K H a vs ∧ Trs K H vs ts := by rw [Tr] at h; exact h
theorem Trs.nil {vs : List V} (h : Trs K H vs []) : vs = [] := by rw [Trs] at h; exact h
theorem Trs.cons {vs : List V} {t : Tree} {ts : List Tree} (h : Trs K H vs (t :: ts)) : ∃ v r, vs = v :: r ∧ Tr K H v t ∧ Trs K H r ts := by rw [Trs] at h; exact h
theorem Trs.length : ∀ {vs : List V} {ts : List Tree}, Trs K H vs ts → vs.length = ts.length
  | vs, [], h => by rw [h.nil]; rfl
  | vs, t :: ts, h => by
    obtain ⟨v, r, rfl, _, h2⟩ := h.cons
    rw [List.length_cons, List.length_cons, Trs.length h2]
theorem Trs.get : ∀ {vs : List V} {ts : List Tree} {i : Nat} {t : Tree}, Trs K H vs ts → ts[i]? = some t → ∃ v, vs[i]? = some v ∧ Tr K H v t
  | vs, [], i, t, h, e => by simp at e
  | vs, t' :: ts, 0, t, h, e => by
    obtain ⟨v, r, rfl, h1, h2⟩ := h.cons
    have e' : t' = t := Option.some.inj e
    subst e'
    exact ⟨v, rfl, h1⟩
  | vs, t' :: ts, i + 1, t, h, e => by
    obtain ⟨v, r, rfl, h1, h2⟩ := h.cons
    exact Trs.get (i := i) h2 e
theorem Trs.append : ∀ {vs ws : List V} {ts us : List Tree}, Trs K H vs ts → Trs K H ws us → Trs K H (vs ++ ws) (ts ++ us)
  | vs, ws, [], us, h, g => by rw [h.nil]; exact g
  | vs, ws, t :: ts, us, h, g => by
    obtain ⟨v, r, rfl, h1, h2⟩ := h.cons
    exact trs_cons h1 (Trs.append h2 g)
theorem Trs.take : ∀ {vs : List V} {ts : List Tree} (n : Nat), Trs K H vs ts → Trs K H (vs.take n) (ts.take n)
  | vs, ts, 0, h => trs_nil
  | vs, [], n + 1, h => by rw [h.nil]; exact trs_nil
  | vs, t :: ts, n + 1, h => by
    obtain ⟨v, r, rfl, h1, h2⟩ := h.cons
    exact trs_cons h1 (Trs.take n h2)
theorem Trs.drop : ∀ {vs : List V} {ts : List Tree} (n : Nat), Trs K H vs ts → Trs K H (vs.drop n) (ts.drop n)
  | vs, ts, 0, h => h
  | vs, [], n + 1, h => by rw [h.nil]; exact trs_nil
  | vs, t :: ts, n + 1, h => by
    obtain ⟨v, r, rfl, h1, h2⟩ := h.cons
    exact Trs.drop n h2
theorem tr_tup {a : Addr} {vs : List V} {ts : List Tree} (h : H a = some (.tup vs)) (r : Trs K H vs ts) : Tr K H (.ref a) (.l ts) := tr_l (.inl (.inl h)) r
end
theorem Trs.snoc {K : PySem.W.Frag} {H : Hp} {vs : List V} {its : List Tree} {x : Tree} (h : Trs K H vs (its ++ [x])) : ∃ vs' v, vs = vs' ++ [v] ∧ Trs K H vs' its ∧ Tr K H v x := by
  induction its generalizing vs with
  | nil =>
    obtain ⟨v, r, rfl, h1, h2⟩ := h.cons
    rw [h2.nil]
    exact ⟨[], v, rfl, trs_nil, h1⟩
  | cons t ts ih =>
    obtain ⟨v, r, rfl, h1, h2⟩ := h.cons
    obtain ⟨vs', v', rfl, h3, h4⟩ := ih h2
    exact ⟨v :: vs', v', rfl, trs_cons h1 h3, h4⟩
theorem Trs.one {K : PySem.W.Frag} {H : Hp} {v : V} {t : Tree} (h : Tr K H v t) : Trs K H [v] [t] := trs_cons h trs_nil
theorem last_get {α : Type} (xs : List α) (x : α) : (xs ++ [x])[(xs ++ [x]).length - 1]? = some x := by
  rw [List.length_append, List.length_singleton, Nat.add_sub_cancel, List.getElem?_append_right (Nat.le_refl _), Nat.sub_self]
  rfl
theorem snoc_of {α : Type} {xs : List α} (h : xs ≠ []) : ∃ ys y, xs = ys ++ [y] := ⟨xs.dropLast, xs.getLast h, (List.dropLast_concat_getLast h).symm⟩
theorem emp_iff {vs : List V} {its : List Tree} {K : PySem.W.Frag} {H : Hp} (h : Trs K H vs its) : vs.isEmpty = its.isEmpty := by
  cases its with
  | nil => rw [h.nil]; rfl
  | cons t r => obtain ⟨v, r', rfl, _⟩ := h.cons; rfl
theorem SqT.of_tup {K : PySem.W.Frag} {H : Hp} {a : Addr} {vs : List V} (h : H a = some (.tup vs)) : SqT K H a vs := .inl (.inl h)

/-- a comprehension without a test -/
theorem yes {σ : L2.St} {H : Hp} {A B : Hp → Prop} (h : A H) : tYes σ H fun b H3 => if b = true then A H3 else B H3 := by
  show (if true = true then A H else B H)
  rw [if_pos rfl]
  exact h
/-! ### lists of ints -/
theorem map_int_get {ns : List Int} {i : Nat} {x : V} (h : (ns.map V.int)[i]? = some x) : ∃ n, x = .int n ∧ ns[i]? = some n := by
  rw [List.getElem?_map] at h
  cases e : ns[i]? with
  | none => rw [e] at h; cases h
  | some n => rw [e] at h; exact ⟨n, (Option.some.inj h).symm, rfl⟩
theorem atI_of {α : Type} {xs : List α} {z : Int} (h0 : 0 ≤ z) (h : z < (xs.length : Int)) : ∃ x, atI xs z = some x ∧ xs[z.toNat]? = some x := by
  have l : z.toNat < xs.length := by omega
  refine ⟨xs[z.toNat], ?_, List.getElem?_eq_getElem l⟩
  have q := atI_nat (List.getElem?_eq_getElem l)
  rw [show ((z.toNat : Nat) : Int) = z by omega] at q
  exact q
theorem atI_zero {α : Type} (x : α) (xs : List α) : atI (x :: xs) 0 = some x := atI_nat (j := 0) rfl
theorem atI_int {ns : List Int} {z : Int} (h0 : 0 ≤ z) (h : z < (ns.length : Int)) : ∃ n, atI (ns.map V.int) z = some (.int n) := by
  obtain ⟨x, h1, h2⟩ := atI_of (xs := ns.map V.int) h0 (by rw [List.length_map]; exact h)
  obtain ⟨n, rfl, _⟩ := map_int_get h2
  exact ⟨n, h1⟩
theorem ixN_int {n : Nat} {z : Int} (h0 : 0 ≤ z) (h : z < (n : Int)) : ixN n z = some z.toNat := by
  unfold ixN
  rw [if_pos h0, if_pos h]
theorem map_int_set (ns : List Int) (j : Nat) (y : Int) : (ns.map V.int).set j (.int y) = (ns.set j y).map V.int := by
  rw [List.map_set]
theorem map_int_app (ns : List Int) (y : Int) : ns.map V.int ++ [V.int y] = (ns ++ [y]).map V.int := by
  rw [List.map_append]; rfl

/-! ### isinstance, truth -/
def Tree.isW : Tree → Bool
  | .w _ => true
  | .l _ => false
section
variable {K : PySem.W.Frag} {H : Hp}
theorem tyX_tup {a : Addr} {xs : List V} (h : SqT K H a xs) : TyX K H (.ref a) (.type "tuple") := by
  rcases h with (h | ⟨o, h⟩) | ⟨o, its, n, h, c, _⟩
  · exact .base (.tup h)
  · exact .fTuple h
  · exact .kTuple h c
theorem kit_ss : PySem.W.kitOne K (.type "str") (.type "str") = some true := kit_ty (by decide +kernel)
theorem kit_ts : PySem.W.kitOne K (.type "tuple") (.type "str") = some false := kit_ty (by decide +kernel)
theorem kit_st : PySem.W.kitOne K (.type "str") (.type "tuple") = some false := kit_ty (by decide +kernel)
theorem kit_tt : PySem.W.kitOne K (.type "tuple") (.type "tuple") = some true := kit_ty (by decide +kernel)
/-- the witnesses of isinstance(v, str), isinstance(v, tuple) for a tree v -/
theorem isi_str {v : V} {t : Tree} (h : Tr K H v t) : ∃ ty u, ClsV (.ty "str") u ∧ TyX K H v ty ∧ PySem.W.kitOne K ty u = some t.isW := by
  cases t with
  | w x => rw [h.word]; exact ⟨_, _, .ty _, .base (.str _), kit_ss⟩
  | l ts =>
    obtain ⟨a, vs, rfl, h1, _⟩ := h.list
    exact ⟨_, _, .ty _, tyX_tup h1, kit_ts⟩
theorem isi_tup {v : V} {t : Tree} (h : Tr K H v t) : ∃ ty u, ClsV (.ty "tuple") u ∧ TyX K H v ty ∧ PySem.W.kitOne K ty u = some (!t.isW) := by
  cases t with
  | w x => rw [h.word]; exact ⟨_, _, .ty _, .base (.str _), kit_st⟩
  | l ts =>
    obtain ⟨a, vs, rfl, h1, _⟩ := h.list
    exact ⟨_, _, .ty _, tyX_tup h1, kit_tt⟩
theorem isi_strS {x : Str} : ∃ ty u, ClsV (.ty "str") u ∧ TyX K H (.str x) ty ∧ PySem.W.kitOne K ty u = some true := ⟨_, _, .ty _, .base (.str _), kit_ty (by decide +kernel)⟩
theorem isi_boolB {x : Bool} : ∃ ty u, ClsV (.ty "bool") u ∧ TyX K H (.bl x) ty ∧ PySem.W.kitOne K ty u = some true := ⟨_, _, .ty _, .base (.bl _), kit_ty (by decide +kernel)⟩
/-- a test that is a value of True or False -/
theorem tru_list {p : Addr} {xs : List V} (h : H p = some (.lst xs)) : TruV K (.ref p) H (!xs.isEmpty) := .inl ⟨xs, SqL.of h, rfl⟩
end
theorem sIx0 (n : Nat) : HT.sIx n 0 none = 0 := rfl
/-- a text cut: from i to j -/
theorem cutS_nat (cs : List Nat) {i j : Nat} (h : i ≤ j) (hj : j ≤ cs.length) : cutS (tx cs) (some (i : Int)) (some (j : Int)) = tx ((cs.drop i).take (j - i)) := by
  unfold cutS
  rw [HT.sIx_nat, HT.sIx_nat, tx_len, tx_list]
  rw [Nat.min_eq_left hj, Nat.min_eq_left (Nat.le_trans h hj)]
  rfl
theorem cutS_to (cs : List Nat) {j : Nat} (hj : j ≤ cs.length) : cutS (tx cs) none (some (j : Int)) = tx (cs.take j) := by
  unfold cutS
  rw [HT.sIx_nat, tx_len, tx_list, Nat.min_eq_left hj, sIx0, Nat.sub_zero, List.drop_zero]
  rfl
theorem cutS_from (cs : List Nat) {i : Nat} (hj : i ≤ cs.length) : cutS (tx cs) (some (i : Int)) none = tx (cs.drop i) := by
  unfold cutS
  rw [HT.sIx_nat, tx_len, tx_list, Nat.min_eq_left hj, HT.sIx_none]
  show Str.mk (List.take (cs.length - i) (cs.drop i)).toArray = _
  rw [List.take_of_length_le (by rw [List.length_drop]; omega)]
  rfl

/-! ### callees -/
structure Callee (P : Program) (w : World) (K : PySem.W.Frag) (mg : Str → Option Value) (base : Heap) (CX : CXT) (k : Nat) (x : Str) (f : Addr) (fd : FuncData) (ps : List Str) (sp : Sp) : Prop where
  ok : FnOk P w K mg base CX k f fd ps sp
  mg : mg x = some (.ref f)
  kp : PySem.W.keepIn K (.ref f) = true
  bi : Binds K fd ps []
def Has (P : Program) (w : World) (K : PySem.W.Frag) (mg : Str → Option Value) (base : Heap) (k : Nat) (x : Str) (ps : List Str) (sp : Sp) : Prop := ∃ f fd, Callee P w K mg base CX0 k x f fd ps sp
theorem Has.mono {P : Program} {w : World} {K : PySem.W.Frag} {mg : Str → Option Value} {base : Heap} {j k : Nat} {x : Str} {ps : List Str} {sp : Sp} (h : Has P w K mg base j x ps sp) (l : j ≤ k) : Has P w K mg base k x ps sp := by
  obtain ⟨f, fd, c⟩ := h
  exact ⟨f, fd, c.ok.mono l, c.mg, c.kp, c.bi⟩
/-- a def with a promise for each n: one promise for all up to N -/
theorem has_upto {P : Program} {w : World} {K : PySem.W.Frag} {mg : Str → Option Value} {base : Heap} {k : Nat} {x : Str} {f : Addr} {fd : FuncData} {ps : List Str} {sp : Nat → Sp} (h : ∀ n, Callee P w K mg base CX0 (k + n + 1) x f fd ps (sp n)) (N : Nat) :
    Has P w K mg base (k + N + 1) x ps (fun vs H Q E => ∃ n, n ≤ N ∧ sp n vs H Q E) := by
  refine ⟨f, fd, ⟨fun vs H Q E q => ?_, fun A outer s H args us vs Q E hr e b v q => ?_⟩, (h 0).mg, (h 0).kp, (h 0).bi⟩
  · obtain ⟨n, _, q⟩ := q
    exact (h n).ok.len vs H Q E q
  · obtain ⟨n, hn, q⟩ := q
    exact ((h n).ok.mono (show k + n + 1 ≤ k + N + 1 by omega)).run A outer s H args us vs Q E hr e b v q
/-- a def as it stands behind the top -/
structure DefAt (K : PySem.W.Frag) (mg : Str → Option Value) (x : Str) (st : Stmt) (ps : List Str) : Prop where
  ex : ∃ f fd, Fun K x x st f fd ∧ mg x = some (.ref f) ∧ Binds K fd ps []
section
variable {X : Cx} {k : Nat} {x : Str} {f : Addr} {fd : FuncData} {ps : List Str} {sp : Sp} {p pos : Pos} {e : Expr} {es : List Expr} {t : TA}
theorem cal (C : Callee X.prog X.w X.K X.mg X.base CX0 k x f fd ps sp) (hr : Room k X.A) (hg : Gl X x) (ha : PA X (e :: es) t) (hdb : (x == ("__debug__" : Str)) = false := by decide)
    (he : starEach (e :: es) X.env = (false, eval e X.env) :: starEach es X.env := by rfl) (hpl : (backTo pos (starEach es X.env)).any (·.1) = false := by rfl) : PE X (.Call (.Name x p) (e :: es) [] pos) (tCall sp [] E0 t) :=
  pe_call C.ok hr hg C.mg C.kp C.bi .nil pass0 ha hdb he hpl
end
/-! ### the law's hand: a list of the draws (at d) and a number; all that is asked of it is that it is one -/
def Hd (H : Hp) (h d : Addr) : Prop := ∃ (n : Nat) (ds : List Int), H h = some (.lst [.ref d, .int n]) ∧ H d = some (.lst (ds.map V.int)) ∧ ds.length ≤ 100000
theorem Hd.ne {H : Hp} {h d : Addr} (a : Hd H h d) : d ≠ h := by
  intro q
  obtain ⟨n, ds, e, e2, _⟩ := a
  subst q
  rw [e] at e2
  have q := HO.lst.inj (Option.some.inj e2)
  cases ds with
  | nil => cases q
  | cons x r =>
    have := (List.cons.inj q).1
    cases this
theorem Hd.lst {H : Hp} {h d : Addr} (a : Hd H h d) : ∃ xs, H h = some (.lst xs) := by
  obtain ⟨n, ds, e, _⟩ := a
  exact ⟨_, e⟩
theorem Hd.neH {H : Hp} {h d p : Addr} (a : Hd H h d) (q : H p = none) : h ≠ p := by
  obtain ⟨n, ds, e, _⟩ := a
  exact ne_of_none e q
theorem Hd.neD {H : Hp} {h d p : Addr} (a : Hd H h d) (q : H p = none) : d ≠ p := by
  obtain ⟨n, ds, _, e, _⟩ := a
  exact ne_of_none e q
theorem Hd.keep {S : List Addr} {H H1 : Hp} {h d : Addr} (a : Hd H h d) (k : Keep S H H1) (hh : h ∉ S) (hd : d ∉ S) : Hd H1 h d := by
  obtain ⟨n, ds, e1, e2, l⟩ := a
  exact ⟨n, ds, k.get e1 hh, k.get e2 hd, l⟩
theorem Hd.keep0 {H H1 : Hp} {h d : Addr} (a : Hd H h d) (k : Keep [] H H1) : Hd H1 h d := a.keep k (by simp) (by simp)
theorem Hd.upd {H : Hp} {h d p : Addr} {o : HO} (a : Hd H h d) (q1 : h ≠ p) (q2 : d ≠ p) : Hd (upd H p o) h d := by
  obtain ⟨n, ds, e1, e2, l⟩ := a
  exact ⟨n, ds, by rw [upd_ne q1]; exact e1, by rw [upd_ne q2]; exact e2, l⟩
theorem Hd.new {H : Hp} {h d p : Addr} {o : HO} (a : Hd H h d) (q : H p = none) : Hd (L2.upd H p o) h d := a.upd (a.neH q) (a.neD q)
theorem sizeL {n : Nat} (h : n ≤ 100000) : n ≤ sizeLine := Nat.le_trans h (by decide)
theorem sizeLt {n : Nat} (h : n ≤ 100000) : n < sizeLine := Nat.lt_of_le_of_lt h (by decide)
end Og

namespace Og
open PySem PySem.Spec PyProof.Rows L2
/-! ### tuples of trees: index, slice, concatenation, length, making -/
def cutL {α : Type} (xs : List α) (lo hi : Option Int) : List α := (xs.drop (HT.sIx xs.length 0 lo)).take (HT.sIx xs.length xs.length hi - HT.sIx xs.length 0 lo)
theorem cutL_whole {α : Type} {xs : List α} {lo hi : Option Int} (h : HT.sIx xs.length 0 lo = 0 ∧ HT.sIx xs.length xs.length hi = xs.length) : cutL xs lo hi = xs := by
  unfold cutL
  rw [h.1, h.2, List.drop_zero, Nat.sub_zero, List.take_length]
theorem cutL_to {α : Type} (xs : List α) {j : Nat} (hj : j ≤ xs.length) : cutL xs none (some (j : Int)) = xs.take j := by
  unfold cutL
  rw [HT.sIx_nat, Nat.min_eq_left hj, sIx0, Nat.sub_zero, List.drop_zero]
theorem cutL_from {α : Type} (xs : List α) {i : Nat} (hj : i ≤ xs.length) : cutL xs (some (i : Int)) none = xs.drop i := by
  unfold cutL
  rw [HT.sIx_nat, Nat.min_eq_left hj, HT.sIx_none, List.take_of_length_le (by rw [List.length_drop]; exact Nat.le_refl _)]
theorem cutL_mid {α : Type} (xs : List α) {i j : Nat} (h : i ≤ j) (hj : j ≤ xs.length) : cutL xs (some (i : Int)) (some (j : Int)) = (xs.drop i).take (j - i) := by
  unfold cutL
  rw [HT.sIx_nat, HT.sIx_nat, Nat.min_eq_left hj, Nat.min_eq_left (Nat.le_trans h hj)]
theorem cutL_len {α : Type} (xs : List α) (lo hi : Option Int) : (cutL xs lo hi).length ≤ xs.length := by
  unfold cutL
  rw [List.length_take, List.length_drop]
  omega
theorem cutL_mem {α : Type} {xs : List α} {lo hi : Option Int} {x : α} (h : x ∈ cutL xs lo hi) : x ∈ xs := List.mem_of_mem_drop (List.mem_of_mem_take h)
section
variable {K : PySem.W.Frag} {H : Hp}
theorem Trs.cut {vs : List V} {ts : List Tree} (lo hi : Option Int) (h : Trs K H vs ts) : Trs K H (cutV vs lo hi) (cutL ts lo hi) := by
  unfold cutV cutL
  rw [h.length]
  exact (h.drop _).take _
theorem Tr.tup {v : V} {ts : List Tree} (h : Tr K H v (.l ts)) : ∃ a vs, v = .ref a ∧ SqT K H a vs ∧ vs.length = ts.length := by
  obtain ⟨a, vs, e, hs, r⟩ := h.list
  exact ⟨a, vs, e, hs, r.length⟩
/-- t[lo:hi] -/
theorem sl_tr {x : V} {ts : List Tree} {lo hi : Option Int} {Q : VK} (h : Tr K H x (.l ts)) (q : ∀ v H', Tr K H' v (.l (cutL ts lo hi)) → Keep [] H H' → Q v H') : rSlA K x lo hi H Q := by
  obtain ⟨a, vs, rfl, hs, r⟩ := h.list
  refine ⟨a, vs, rfl, hs, fun w => ?_, fun _ p np => ?_⟩
  · rw [r.length] at w
    exact q _ _ (by rw [cutL_whole w]; exact h) Keep.refl
  · exact q _ _ (tr_tup upd_same ((r.cut lo hi).keep (Keep.new (S := []) np))) (Keep.new np)
/-- t + u -/
theorem cat_tr {x y : V} {ts us : List Tree} {Q : VK} (hx : Tr K H x (.l ts)) (hy : Tr K H y (.l us)) (hz : ts.length + us.length ≤ sizeLine) (q : ∀ v H', Tr K H' v (.l (ts ++ us)) → Keep [] H H' → Q v H') : rCatA K x y H Q := by
  obtain ⟨a, vs, rfl, hs, r⟩ := hx.list
  obtain ⟨b, ws, rfl, hs2, r2⟩ := hy.list
  refine ⟨a, b, vs, ws, rfl, rfl, hs, hs2, by rw [r.length, r2.length]; exact hz, fun e => ?_, fun _ e => ?_, fun _ _ p np => ?_⟩
  · subst e
    have : ts = [] := List.length_eq_zero_iff.mp r.length.symm
    subst this
    exact q _ _ hy Keep.refl
  · subst e
    have : us = [] := List.length_eq_zero_iff.mp r2.length.symm
    subst this
    rw [List.append_nil] at q
    exact q _ _ hx Keep.refl
  · exact q _ _ (tr_tup upd_same ((r.append r2).keep (Keep.new (S := []) np))) (Keep.new np)
/-- t[i] -/
theorem ix_tr {x : V} {ts : List Tree} {i : Int} {t : Tree} {Q : VK} (h : Tr K H x (.l ts)) (e : atI ts i = some t) (q : ∀ v, Tr K H v t → Q v H) : rIxT K x (.int i) H Q := by
  obtain ⟨a, vs, rfl, hs, r⟩ := h.list
  unfold atI at e
  cases hi : ixN ts.length i with
  | none => rw [hi] at e; cases e
  | some j =>
    rw [hi] at e
    obtain ⟨v, hv, tv⟩ := r.get (i := j) e
    refine ⟨a, vs, i, v, rfl, rfl, hs, ?_, q v tv⟩
    unfold atI
    rw [r.length, hi]
    exact hv
/-- len(t) -/
theorem len_tr {x : V} {ts : List Tree} {Q : VK} (h : Tr K H x (.l ts)) (q : Q (.int (ts.length : Nat)) H) : ∃ p ys, [x] = [V.ref p] ∧ (SqL K H p ys ∨ SqT K H p ys) ∧ Q (.int ys.length) H := by
  obtain ⟨a, vs, rfl, hs, r⟩ := h.list
  exact ⟨a, vs, rfl, .inr hs, by rw [r.length]; exact q⟩
/-- (a, b, ..) -/
theorem mk_tr {p : Addr} {vs : List V} {ts : List Tree} (np : H p = none) (r : Trs K H vs ts) : Tr K (upd H p (.tup vs)) (.ref p) (.l ts) ∧ Keep [] H (upd H p (.tup vs)) :=
  ⟨tr_tup upd_same (r.keep (Keep.new (S := []) np)), Keep.new np⟩
end
/-- x != y, x == y of trees one of which is a word -/
def rNeTr (K : PySem.W.Frag) : R2 := fun x y H Q => ∃ t u : Tree, Tr K H x t ∧ Tr K H y u ∧ (t.isW = true ∨ u.isW = true) ∧ ∀ b : Bool, (b = true ↔ t ≠ u) → Q (.bl b) H
def rEqTr (K : PySem.W.Frag) : R2 := fun x y H Q => ∃ t u : Tree, Tr K H x t ∧ Tr K H y u ∧ (t.isW = true ∨ u.isW = true) ∧ ∀ b : Bool, (b = true ↔ t = u) → Q (.bl b) H
theorem op_neTr {X : Cx} (hu : X.A.units + 64 < cLine) : OpR X (compareOp .NotEq) (rNeTr X.K) := by
  intro pins s σ H x y v u Q I rx ry h
  obtain ⟨t, t', hx, hy, hw, q⟩ := h
  cases t with
  | w a =>
    have ex := hx.word
    subst ex
    cases t' with
    | w b =>
      have ey := hy.word
      subst ey
      refine op_ne pins s σ H _ _ v u Q I rx ry ⟨rfl, q _ ?_⟩
      by_cases e : a = b
      · subst e; simp
      · have : ¬ V.str (tx a) = V.str (tx b) := fun z => e (tx_str z)
        have e2 : ¬ Tree.w a = Tree.w b := fun z => e (Tree.w.inj z)
        simp [this, e2]
    | l us =>
      obtain ⟨p, ws, rfl, hs, _⟩ := hy.list
      obtain ⟨its, _, pt, _⟩ := I.tuple hs
      obtain ⟨tk, rfl⟩ := rx
      obtain rfl : u = Value.ref p := ry
      exact SeqAt.RcNeAt.str_tuple _ _ pt (by omega) _ _ _ _ ⟨.bl true, H, I, rfl, q true (by simp)⟩
  | l ts =>
    obtain ⟨p, ws, rfl, hs, _⟩ := hx.list
    cases t' with
    | w b =>
      have ey := hy.word
      subst ey
      obtain ⟨its, _, pt, _⟩ := I.tuple hs
      obtain ⟨tk, rfl⟩ := ry
      obtain rfl : v = Value.ref p := rx
      exact SeqAt.RcNeAt.tuple_str _ _ pt (by omega) _ _ _ _ ⟨.bl true, H, I, rfl, q true (by simp)⟩
    | l us => rcases hw with h | h <;> cases h
theorem op_eqTr {X : Cx} (hu : X.A.units + 64 < cLine) : OpR X (compareOp .Eq) (rEqTr X.K) := by
  intro pins s σ H x y v u Q I rx ry h
  obtain ⟨t, t', hx, hy, hw, q⟩ := h
  cases t with
  | w a =>
    have ex := hx.word
    subst ex
    cases t' with
    | w b =>
      have ey := hy.word
      subst ey
      refine op_eq pins s σ H _ _ v u Q I rx ry ⟨rfl, q _ ?_⟩
      by_cases e : a = b
      · subst e; simp
      · have : ¬ V.str (tx a) = V.str (tx b) := fun z => e (tx_str z)
        have e2 : ¬ Tree.w a = Tree.w b := fun z => e (Tree.w.inj z)
        simp [this, e2]
    | l us =>
      obtain ⟨p, ws, rfl, hs, _⟩ := hy.list
      obtain ⟨its, _, pt, _⟩ := I.tuple hs
      obtain ⟨tk, rfl⟩ := rx
      obtain rfl : u = Value.ref p := ry
      exact SeqAt.RcAt.str_tuple _ _ pt (by omega) _ _ _ _ ⟨.bl false, H, I, rfl, q false (by simp)⟩
  | l ts =>
    obtain ⟨p, ws, rfl, hs, _⟩ := hx.list
    cases t' with
    | w b =>
      have ey := hy.word
      subst ey
      obtain ⟨its, _, pt, _⟩ := I.tuple hs
      obtain ⟨tk, rfl⟩ := ry
      obtain rfl : v = Value.ref p := rx
      exact SeqAt.RcAt.tuple_str _ _ pt (by omega) _ _ _ _ ⟨.bl false, H, I, rfl, q false (by simp)⟩
    | l us => rcases hw with h | h <;> cases h
end Og

namespace Og
open PySem PySem.Spec PyProof.Rows L2
open AutoSeq1 (wpAny_loadPart')
/-! ### xs.extend(t), t a tuple -/
def rExtT (K : PySem.W.Frag) : V → List V → Hp → VK → Prop := fun x vs H Q => ∃ l b xs zs, x = .ref l ∧ vs = [.ref b] ∧ H l = some (.lst xs) ∧ SqT K H b zs ∧ xs.length + zs.length ≤ sizeLine ∧ Q .non (upd H l (.lst (xs ++ zs)))
theorem ext_tuple (l : Addr) (items : Array Value) (n : Nat) (b : Addr) (items2 : Array Value) (n2 : Nat) (dd : Option Addr) (sl : Array (Option Value)) (hs0 : ¬(!items.isEmpty && Builtin.List.listTooLong (items.size + items2.size)) = true) (hs1 : items.size ≤ sizeLine) (hs2 : items.size + items2.size ≤ sizeLine + 1) :
    Meets (Builtin.«list.extend» ⟨[.ref l, .ref b], []⟩) (fun _ R s => s.heap.get? l = some { cls := .type "list", dict := none, data := .seq items n, slots := #[] } ∧ s.heap.get? b = some { cls := .type "tuple", dict := dd, data := .seq items2 n2, slots := sl } ∧ R (.ok (.ret Value.none)) { s with heap := s.heap.update l (Obj.mapSeq fun x => x ++ items2), toks := s.toks }) :=
  .of_wp fun prog w A R s h => by
    obtain ⟨hp, g, d, tk, os⟩ := s; obtain ⟨hl, hb, h⟩ := h; have f1 := AutoSeq1.idx_int; have f2 := AutoSeq1.sub_tuple_tuple; have f3 := AutoSeq1.sub_list_list; have f4 := AutoSeq1.sub_tuple_list; have f5 := AutoSeq1.sub_list_tuple;
    have hz' : (items ++ items2).size ≤ sizeLine + 1 := by rw [Array.size_append]; exact hs2
    wp_walk using (wpAny_updateSeq hl rfl (hz := hs1) (_hz' := hz')), wpAny_loadPart' hl, wpAny_loadPart' hb; exact ⟨_, rfl, h⟩
theorem mt_extendT {X : Cx} : MtM X "list.extend" (rExtT X.K) := by
  intro pins s σ H x vs v us Q I rx rv h
  obtain ⟨l, b, xs, zs, rfl, rfl, hH, hB, hz, q⟩ := h
  cases rx
  obtain ⟨u, rfl, ru⟩ := rv.one
  cases ru
  obtain ⟨z, its, n, r, hl, e⟩ := I.lstM hH
  obtain ⟨its2, r2, ⟨⟨cls, dd, data, sl⟩, e2, hc2, n2, hd2⟩, hz2⟩ := I.tuple hB
  simp only at hc2 hd2
  subst hc2 hd2
  have hl2 := r2.length
  have hsz : its.toArray.size + its2.toArray.size ≤ sizeLine := by rw [List.size_toArray, List.size_toArray]; omega
  have hlong : ¬ (!its.toArray.isEmpty && Builtin.List.listTooLong (its.toArray.size + its2.toArray.size)) = true := by
    rw [notLongL hsz, Bool.and_false]
    exact Bool.false_ne_true
  refine call_meets F.slot_list_extend ⟨_, e, rfl⟩ F.entry_list_extend (F.args_list_extend_2 _ _)
    (ext_tuple l its.toArray n b its2.toArray n2 dd sl hlong (by rw [List.size_toArray]; omega) (by omega)) ⟨e, e2, ?_⟩
  refine ⟨.non, _, I.lset (its' := its ++ its2) hH e (by simp) (r.append r2) ?_, rfl, q⟩
  rw [List.length_append]
  omega
/-! ### t * n -/
theorem tuple_mul1 (l : Addr) (items : Array Value) (n : Nat) (dd : Option Addr) (sl : Array (Option Value)) (u : Tok) :
    Meets (Builtin.«tuple.__mul__» ⟨[.ref l, .int 1 u], []⟩) (fun _ R s => s.heap.get? l = some { cls := .type "tuple", dict := dd, data := .seq items n, slots := sl } ∧ R (.ok (.ret (Value.ref l))) s) :=
  .of_wp fun prog w A R s h => by
    obtain ⟨hp, g, d, tk, os⟩ := s
    obtain ⟨hl, h⟩ := h
    have f1 := AutoSeq1.idx_int
    have c1 : (items.isEmpty || (1 : Int) == 1) = true := by simp
    wp_walk using wpAny_loadPart' hl
    exact ⟨_, rfl, h⟩
theorem tuple_mul0 (l : Addr) (items : Array Value) (n : Nat) (dd : Option Addr) (sl : Array (Option Value)) (u : Tok) (hi : items.isEmpty = false) :
    Meets (Builtin.«tuple.__mul__» ⟨[.ref l, .int 0 u], []⟩) (fun _ R s => s.heap.get? l = some { cls := .type "tuple", dict := dd, data := .seq items n, slots := sl } ∧
      R (.ok (.ret (Value.ref s.heap.objs.size))) { s with heap := s.heap.push { cls := Value.type "tuple", data := Data.seq #[] }, toks := s.toks }) :=
  .of_wp fun prog w A R s h => by
    obtain ⟨hp, g, d, tk, os⟩ := s
    obtain ⟨hl, h⟩ := h
    have f1 := AutoSeq1.idx_int
    have c1 : (items.isEmpty || (0 : Int) == 1) = false := by rw [hi]; rfl
    wp_walk using wpAny_loadPart' hl
    repeat (first
      | (refine wpAny_ite_false (decide_eq_false (by rw [c1]; exact Bool.false_ne_true)) ?_; wp_walk using wpAny_loadPart' hl))
    exact ⟨_, rfl, h⟩
/-- t * k, t not empty, k from 0 -/
def rRepA (K : PySem.W.Frag) : R2 := fun x y H Q => ∃ (l : Addr) (k : Nat) (xs : List V), x = .ref l ∧ y = .int k ∧ SqT K H l xs ∧ xs ≠ [] ∧ k ≤ 1000 ∧ xs.length ≤ 1000 ∧
  (k = 1 → Q (.ref l) H) ∧ (k ≠ 1 → ∀ p, H p = none → Q (.ref p) (upd H p (.tup (List.replicate k xs).flatten)))
theorem op_repA {X : Cx} : OpR X (binaryOp .Mult) (rRepA X.K) := by
  intro pins s σ H x y v u Q I rx ry h
  obtain ⟨l, k, xs, rfl, rfl, hT, hne, h2, hz, q1, q⟩ := h
  by_cases hk2 : 2 ≤ k
  · exact op_repT pins s σ H _ _ v u Q I rx ry ⟨l, k, xs, rfl, rfl, hT, hne, by omega, by omega, hz, by rw [Int.toNat_natCast]; exact q (by omega)⟩
  cases rx
  obtain ⟨t, rfl⟩ := ry
  obtain ⟨its, r, ⟨⟨cls, dd, data, sl⟩, ho, hc, n, hd⟩, hs⟩ := I.tuple hT
  simp only at hc hd
  subst hc hd
  have hle : its.length = xs.length := r.length.symm
  have hi : its.toArray.isEmpty = false := by
    cases its with
    | nil => exact absurd (List.eq_nil_of_length_eq_zero hle.symm) hne
    | cons a b => rfl
  have c : k = 0 ∨ k = 1 := by omega
  rcases c with rfl | rfl
  · refine wpAny_binaryOp_repeat_ref (T := "tuple") (U := "int") (by decide) ⟨_, ho, rfl⟩ (fun s' => typeIs_int s' _ t) noFill_tuple_mul F.fills_int_mul F.slot_int_rmul repeat_tuple F.slot_int_index.lookup
      (call_meets F.slot_int_rmul (typeIs_int s _ t) F.entry_int_rmul (F.args_int_rmul_2 _ _) (int_rmul_tuple _ t l its.toArray n dd sl)
        ⟨ho, rfl, ⟨_, ho, rfl⟩, call_meets F.slot_tuple_mul ⟨_, ho, rfl⟩ F.entry_tuple_mul (F.args_tuple_mul_2 _ _) (tuple_mul0 l its.toArray n dd sl t hi) ⟨ho, ?_⟩⟩)
    refine ⟨.ref s.heap.objs.size, _, I.laid (t' := s.toks) (o := .tup []) (fun b ob q => Heap.get?_push_of_some _ q) (Nat.le_refl _) ?_, rfl, q (by decide) _ (I.hok.fresh (Nat.le_refl _))⟩
    exact ⟨Nat.zero_le _, [], .nil, IsTup.new _ _⟩
  · refine wpAny_binaryOp_repeat_ref (T := "tuple") (U := "int") (by decide) ⟨_, ho, rfl⟩ (fun s' => typeIs_int s' _ t) noFill_tuple_mul F.fills_int_mul F.slot_int_rmul repeat_tuple F.slot_int_index.lookup
      (call_meets F.slot_int_rmul (typeIs_int s _ t) F.entry_int_rmul (F.args_int_rmul_2 _ _) (int_rmul_tuple _ t l its.toArray n dd sl)
        ⟨ho, rfl, ⟨_, ho, rfl⟩, call_meets F.slot_tuple_mul ⟨_, ho, rfl⟩ F.entry_tuple_mul (F.args_tuple_mul_2 _ _) (tuple_mul1 l its.toArray n dd sl t) ⟨ho, ?_⟩⟩)
    exact ⟨.ref l, H, I, rfl, q1 rfl⟩
/-! ### t[::-1], t of two items -/
theorem sliceApplied_rev2 {prog : Program} {w : World} {A : Around} {E : Value → Shared → Prop} {s : Shared} {sl : Addr} {vl vu vs : Value} {Q : Int × Int × Nat → Shared → Prop} (hs : s.heap.IsSliceOf sl vl vu vs) (pl : IsPart vl none) (pu : IsPart vu none) (ps : IsPart vs (some (-1)))
    (h : Q (1, -1, 2) s) : wpAny (model prog w) A (Builtin.Slice.sliceApplied (.ref sl) (pure (2 : Int))) Q E s := by
  obtain ⟨os, hos, hcs, hds⟩ := id hs
  unfold Builtin.Slice.sliceApplied Builtin.Slice.sliceFields
  refine wpAny_bind (wpAny_bind (wpAny_field hos hds (x := vl) rfl (wpAny_bind (wpAny_field hos hds (x := vu) rfl (wpAny_bind (wpAny_field hos hds (x := vs) rfl (wpAny_pure ?_)))))))
  refine wpAny_bind (HT.slicePart_ ps ?_)
  show wpAny _ _ (if ((-1 : Int) == 0) = true then _ else _) _ _ s
  rw [if_neg (by decide)]
  refine wpAny_bind (HT.slicePart_ pl (wpAny_bind (HT.slicePart_ pu (wpAny_bind (wpAny_pure ?_)))))
  exact wpAny_pure h
theorem getItem_tuple_rev2 {prog : Program} {w : World} {A : Around} {E : Value → Shared → Prop} {s : Shared} {t sl : Addr} {u1 u2 : Value} {vl vu vs : Value} {Q : Value → Shared → Prop} (ht : IsTup s.heap t #[u1, u2]) (hs : s.heap.IsSliceOf sl vl vu vs) (pl : IsPart vl none) (pu : IsPart vu none) (ps : IsPart vs (some (-1)))
    (h : Q (.ref s.heap.objs.size) { s with heap := s.heap.push { cls := .type "tuple", data := .seq #[u2, u1] } }) : wpAny (model prog w) A (getItem (.ref t) (.ref sl)) Q E s := by
  obtain ⟨os, hos, hcs, hds⟩ := id hs
  have hTs : s.TypeIs (.ref sl) "slice" := ⟨os, hos, hcs⟩
  unfold getItem
  try with_reducible refine wpAny_holding ?_
  first | refine wpAny_bind (wpAny_pure ?_) | skip
  refine wpAny_bind (wpAny_sequenceKey ht.typeIs (by decide) ?_)
  refine wpAny_bind (wpAny_callSpecial?_slot (name := Str.ofString "__getitem__") ht.typeIs PyProof.Rows.slot_tuple_getitem
    (wpAny_call_entry PyProof.Rows.slot_tuple_getitem ht.typeIs PyProof.Rows.entry_tuple_getitem ?_ (PyProof.Rows.args_tuple_getitem _ _)))
  show wpAny _ _ (Builtin.Tuple.tupleItemsOf (.ref t) >>= _) _ _ s
  refine wpAny_bind (PyProof.Rows.tupleItemsOf_ ht ?_)
  refine wpAny_bind (wpAny_typeOf hTs ?_)
  rw [if_pos (by decide)]
  refine wpAny_bind (sliceApplied_rev2 hs pl pu ps ?_)
  show wpAny _ _ (if ((1 : Int) == 0 && (-1 : Int) == 1 && (2 : Nat) == 2) = true then _ else _) _ _ s
  rw [if_neg (by decide)]
  have e : ((List.range 2).filterMap fun (k : Nat) => (#[u1, u2] : Array Value)[((1 : Int) + (k : Int) * (-1)).toNat]?).toArray = #[u2, u1] := rfl
  rw [e]
  have htake : sizeOk (.seq #[u2, u1]) := by show 2 ≤ sizeLine; decide
  first
    | exact wpAny_bind (m := Builtin.Tuple.tupleExact _) (wpAny_newObj_type (wpAny_pure ⟨_, rfl, wpAny_pure h⟩) htake)
    | exact wpAny_bind (m := Builtin.Tuple.tupleExact _) (wpAny_newObj_type (wpAny_bind (wpAny_pure (wpAny_pure ⟨_, rfl, wpAny_pure h⟩))) htake)
    | exact wpAny_bind (wpAny_bind (m := Builtin.Tuple.tupleExact _) (wpAny_newObj_type (wpAny_pure (wpAny_pure ⟨_, rfl, wpAny_pure h⟩)) htake))
    | exact wpAny_bind (wpAny_bind (m := Builtin.Tuple.tupleExact _) (wpAny_newObj_type (wpAny_pure ⟨_, rfl, wpAny_pure h⟩) htake))
def tRevT2 (K : PySem.W.Frag) (te : TE) : TE := fun σ H Q => te σ H fun x H1 => ∃ a x1 x2, x = .ref a ∧ SqT K H1 a [x1, x2] ∧ ∀ p, H1 p = none → Q (.ref p) (upd H1 p (.tup [x2, x1]))
theorem pe_revT2 {X : Cx} {e : Expr} {te : TE} {k : Nat} {p1 p2 p3 pos : Pos} (he : PE X e te) : PE X (.Subscript e (.Slice none none (some (.UnaryOp .USub (.Constant (.int 1) k p1) p2)) p3) pos) (tRevT2 X.K te) := by
  refine ⟨fun pins s σ H Q I h => ?_⟩
  refine Subscript_ (thn (he.run pins s σ H _ I h) fun v s1 ⟨x, H1, I1, r1, q1⟩ => ?_)
  obtain ⟨a, x1, x2, ex, hx, q⟩ := q1
  subst ex
  cases r1
  have hst : PO X (some (.UnaryOp .USub (.Constant (.int 1) k p1) p2)) (tPart (tUn (rU fun i => .int (-i)) (tC (.int 1)))) := po_some (pe_un un_neg pe_int)
  refine wpAny_Slice (thn (po_none.run pins s1 σ H1 (fun o H2 => o = none ∧ H2 = H1) I1 ⟨rfl, rfl⟩) fun vl s2 ⟨l, H2, I2, pl, el, e2⟩ => ?_)
  subst el e2
  refine thn (po_none.run pins s2 σ H2 (fun o H3 => o = none ∧ H3 = H2) I2 ⟨rfl, rfl⟩) fun vu s3 ⟨u, H3, I3, pu, eu, e3⟩ => ?_
  subst eu e3
  refine thn (hst.run pins s3 σ H3 (fun o H4 => o = some (-1) ∧ H4 = H3) I3 ⟨1, rfl, -1, rfl, rfl, rfl⟩) fun vs s4 ⟨o, H4, I4, ps, eo, e4⟩ => ?_
  subst eo e4
  have I5 : Inv X pins σ H4 { s4 with heap := s4.heap.push { cls := .type "slice", data := .fields #[vl, vu, vs] } } := I4.kept (t' := s4.toks) fun b ob q => Heap.get?_push_of_some _ q
  obtain ⟨its, r, ht, hz⟩ := I5.tuple hx
  obtain ⟨w1, w2, rfl, rw1, rw2⟩ := vals2 r
  show wpAny (model X.prog X.w) X.A (subscriptTail e (.Slice none none (some (.UnaryOp .USub (.Constant (.int 1) k p1) p2)) p3) (.ref a) (.ref s4.heap.objs.size)) (EP X pins σ Q) X.xe { s4 with heap := s4.heap.push { cls := .type "slice", data := .fields #[vl, vu, vs] } }
  refine tail_any (ops := [.ref a, .ref s4.heap.objs.size]) ht.typeIs (PyProof.Rows.slot_tuple_getitem.lookup) ?_ (by with_unfolding_all rfl)
  refine getItem_tuple_rev2 ht (Heap.IsSliceOf.new _ vl vu vs) pl pu ps ?_
  refine ⟨.ref _, _, I5.laid (t' := s4.toks) (o := .tup [x2, x1]) (fun b ob q => Heap.get?_push_of_some _ q) (Nat.le_refl _) ?_, rfl, q _ (I5.hok.fresh (Nat.le_refl _))⟩
  exact ⟨by show 2 ≤ sizeLine; decide, [w2, w1], .cons rw2 (.cons rw1 .nil), IsTup.new _ _⟩
end Og

namespace Og
open PySem
theorem meets_enum1 {v : Value} {o : Obj} {H : Heap → Prop} (B : Begins v o H) :
    Meets (Builtin.«enumerate.__new__» ⟨[.type "enumerate", v], []⟩) (fun _ R s => H s.heap ∧
      R (.ok (.ret (.ref (s.heap.push o).objs.size))) { s with heap := (s.heap.push o).push { cls := .type "enumerate", data := .fields #[.none, .bool false, .ref s.heap.objs.size, rawInt 0, .none, .none] } }) :=
  .of_wp fun prog w A R s h => by
    obtain ⟨hp, g, d, tk, os⟩ := s; obtain ⟨h1, h⟩ := h
    have hsub := sub_enumerate
    have q1 : ∀ {A' : Around} {E : Value → Shared → Prop} {Q : Value → Shared → Prop}, Q (.ref hp.objs.size) ⟨hp.push o, g, d, tk, os⟩ → wpAny (model prog w) A' (pyIter v) Q E ⟨hp, g, d, tk, os⟩ :=
      fun q => B.iter prog w _ _ ⟨hp, g, d, tk, os⟩ _ h1 q
    wp_walk using q1
    refine wpAny_stack_any fun st => wpAny_pure ?_
    split
    · rename_i c _ _ _ _ _
      cases (c == Value.type "enumerate")
      · wp_walk using q1
        exact ⟨_, rfl, h⟩
      · wp_walk using q1
        exact ⟨_, rfl, h⟩
    · wp_walk using q1
      exact ⟨_, rfl, h⟩
section
variable {prog : Program} {w : World} {A : Around} {E : Value → Shared → Prop} {s : Shared}
theorem call_enum1 {v : Value} {o : Obj} {H : Heap → Prop} {Q : Value → Shared → Prop} (B : Begins v o H) (h1 : H s.heap)
    (h : ∀ h', IsEnum h' (s.heap.objs.size + 1) s.heap.objs.size 0 .none → h'.get? s.heap.objs.size = some o → h'.objs.size = s.heap.objs.size + 2 →
      (∀ b o, s.heap.get? b = some o → h'.get? b = some o) → Q (.ref (s.heap.objs.size + 1)) { s with heap := h' }) :
    wpAny (model prog w) A (call (.type "enumerate") [v]) Q E s := by
  refine callType_new F.called_enumerate (by decide) (F.typeCall_enumerate_1 _) (F.newCall_enumerate_1 _) (fun obj => F.args_object_init_2 obj _) F.entry_enumerate_new
    (meets_enum1 B) ⟨h1, ?_⟩
  have hz : (s.heap.push o).objs.size = s.heap.objs.size + 1 := Heap.size_push ..
  show _ ∧ _
  rw [hz]
  have he : IsEnum ((s.heap.push o).push { cls := .type "enumerate", data := .fields #[.none, .bool false, .ref s.heap.objs.size, rawInt 0, .none, .none] }) (s.heap.objs.size + 1) s.heap.objs.size 0 .none := by
    have := Heap.get?_push_size (s.heap.push o) (o := { cls := .type "enumerate", data := .fields #[.none, .bool false, .ref s.heap.objs.size, rawInt 0, .none, .none] }) rfl
    rw [hz] at this; exact this
  refine ⟨⟨_, he, rfl⟩, h _ he (Heap.get?_push_of_some _ (Heap.get?_push_size _ B.free)) (by rw [Heap.size_push, hz]) fun b o x => Heap.get?_push_of_some _ (Heap.get?_push_of_some _ x)⟩
end
end Og
namespace Og
open PySem PySem.Spec PyProof.Rows L2
/-- the tuple at a as it stands at each turn, each item in a new pair -/
def IteT (K : PySem.W.Frag) (a : Addr) : It :=
  ⟨fun i H => ∃ (xs : List V) (x : V), SqT K H a xs ∧ xs[i]? = some x, fun i H v H' => ∃ T x, v = .ref T ∧ H T = none ∧ H' = upd H T (.tup [.int (i : Nat), x]) ∧ ∀ xs, SqT K H a xs → xs[i]? = some x, fun i H => ∃ xs : List V, SqT K H a xs ∧ xs.length = i⟩
theorem turn_enumT {P : Program} {w : World} {K : PySem.W.Frag} {elts : List Expr} {kk : Nat} {tpos : Pos} (a e it : Addr) :
    Turn P w K (.Tuple elts kk tpos) (IteT K a) [e, it] e (fun i h => (∃ old, IsEnum h e it ((i : Nat) : Int) old) ∧ h.IsTupleIter it a i ∧ e ≠ it ∧ a ≠ it ∧ a ≠ e) where
  mem := by simp
  obj := fun i h st b hb => by
    obtain ⟨⟨old, he⟩, ⟨o, ho, hc, hd⟩, _⟩ := st
    have e' : b = e ∨ b = it := by simpa using hb
    rcases e' with z | z
    · rw [z]; exact ⟨_, he, fun v q => nomatch q⟩
    · rw [z]; exact ⟨o, ho, fun v q => by rw [hd] at q; cases q⟩
  keep := fun i h h' st k => let ⟨⟨old, he⟩, hi, hne⟩ := st; ⟨⟨old, k e (by simp) _ he⟩, hi.at fun o q => k it (by simp) o q, hne⟩
  item := by
    intro X hP hw hK hc i pins s σ H E I hf st hg
    subst hP hw hK
    obtain ⟨⟨old, he⟩, hit, hne, hai, hae⟩ := st
    obtain ⟨xs, x, hq, hx⟩ := hg
    obtain ⟨its, rv, p, hz⟩ := I.tuple hq
    obtain ⟨u, hu, ru⟩ := rv.get hx
    have hel : e < s.heap.objs.size := Heap.lt_size he
    have hil : it < s.heap.objs.size := by obtain ⟨_, q, _⟩ := hit; exact Heap.lt_size q
    have hlt : i < its.toArray.size := by
      have := (List.getElem?_eq_some_iff.mp hu).1
      simpa using this
    refine wpAny_pyNext_enum_itemC (Draws.tuple (A := X.A.in1) (show X.A.in1.handled = none from I.ok.hd hc) it a hai its.toArray) he ⟨hit, p⟩ hlt hne (by simp [hne, hae.symm]) fun y h' tk hy ho hit' hT hsz hk => ?_
    have hy' : y = u := by
      have : its.toArray[i]? = some u := by simpa using hu
      rw [this] at hy
      exact (Option.some.inj hy).symm
    subst hy'
    refine ⟨_, rfl, wpAny_letOwnedTupleGo_enum (s := { s with heap := h', toks := tk + 1 }) ho fun h'' he' sb => ?_⟩
    have hT2 : h''.get? s.heap.objs.size = some { cls := .type "tuple", data := .seq #[.int i tk, y] } := (sb.2 _ (Nat.ne_of_gt hel)).trans hT
    have new : ObjOk X.prog X.w (upd H s.heap.objs.size (.tup [.int (i : Nat), x])) h'' s.heap.objs.size (.tup [.int (i : Nat), x]) :=
      ⟨by show 2 ≤ sizeLine; decide, [.int i tk, y], .cons ⟨_, rfl⟩ (.cons ru .nil), ⟨_, hT2, rfl, _, rfl⟩⟩
    have I1 : Inv X pins σ (upd H s.heap.objs.size (.tup [.int (i : Nat), x])) { s with heap := h'', toks := tk + 1 } :=
      I.turnedNew (ch := [e, it]) (fun b ob hb q => (sb.2 b (fun z => hb (by simp [z]))).trans (hk b ob (fun z => hb (by simp [z])) (fun z => hb (by simp [z])) q)) hf (Nat.le_refl _) new
    refine ⟨.ref s.heap.objs.size, _, I1, rfl, ⟨_, x, rfl, I.hok.fresh (Nat.le_refl _), rfl, fun ys hy => by rw [I.tuple_inj hy hq]; exact hx⟩, ⟨⟨y, ?_⟩, hit'.1.at fun o q => (sb.2 it (Ne.symm hne)).trans q, hne, hai, hae⟩, fun b hb => ?_⟩
    · have e1 : ((i + 1 : Nat) : Int) = (i : Int) + 1 := by omega
      rw [e1]; exact he'
    · have hb' : b < s.heap.objs.size := by
        have e' : b = e ∨ b = it := by simpa using hb
        rcases e' with z | z
        · rw [z]; exact hel
        · rw [z]; exact hil
      rw [upd_ne (Nat.ne_of_lt hb')]
      exact (hf b hb).1
  done := by
    intro X hP hw hK hc i pins s σ H E I hf st hg
    subst hP hw hK
    obtain ⟨⟨old, he⟩, hit, hne, hai, hae⟩ := st
    obtain ⟨xs, hq, hx⟩ := hg
    obtain ⟨its, rv, p, hz⟩ := I.tuple hq
    obtain ⟨f0, f1, f2, f3, f4, f5⟩ := hf it (by simp)
    have hl := rv.length
    have hi : i = its.toArray.size := by simp; omega
    rw [hi] at hit
    exact wpAny_pyNext_enum_endD (Draws.tuple (A := X.A.in1) (show X.A.in1.handled = none from I.ok.hd hc) it a hai its.toArray) he ⟨hit, p⟩ fun h' eb => ⟨rfl, I.turned (t' := s.toks) (fun b o hb q => eb b o hb q) f0 f1 f3 f4 f5⟩
  self := fun A i s Q E st h => let ⟨⟨_, he⟩, _⟩ := st; wpAny_pyIter_enum he h
def iEnumT (K : PySem.W.Frag) (ta : TA) : TI := fun σ H R => ta σ H fun vs H1 => ∃ a xs, vs = [.ref a] ∧ SqT K H1 a xs ∧ R (IteT K a) H1
theorem pi_enumT {X : Cx} {e : Expr} {ta : TA} {p pos tpos : Pos} {elts : List Expr} {kk : Nat} (hg : Gl X "enumerate") (hm : X.mg "enumerate" = none) (ha : PA X [e] ta) (hs : starEach [e] X.env = [(false, eval e X.env)] := by rfl) :
    PI X (.Tuple elts kk tpos) (.Call (.Name "enumerate" p) [e] [] pos) (iEnumT X.K ta) := by
  refine ⟨fun pins s σ H R I h => ?_⟩
  refine Call_ (ld_blt I hg hm boot_enumerate (PyProof.Rows.callWith_type1 (thn (ha.run pos pins s σ H _ I h) fun us s1 ⟨vs, H1, I1, r1, q1⟩ => ?_) hs rfl))
  obtain ⟨a, xs, ex, hq, q⟩ := q1
  subst ex
  cases r1 with
  | cons r rr =>
    cases rr
    cases r
    obtain ⟨its, rv, p', hz⟩ := I1.tuple hq
    obtain ⟨oa, hoa, _⟩ := id p'
    have hal := Heap.lt_size hoa
    refine call_enum1 (begins_tuple a its.toArray) p' fun h' he hit hsz hk => wpAny_pyIter_enum he ?_
    have I2 : Inv X pins σ H1 { s1 with heap := h' } := I1.kept (t' := s1.toks) hk
    refine ⟨s1.heap.objs.size + 1, [s1.heap.objs.size + 1, s1.heap.objs.size], _, _, H1, rfl, I2, turn_enumT a (s1.heap.objs.size + 1) s1.heap.objs.size, ⟨⟨.none, he⟩, ⟨_, hit, rfl, rfl⟩, Nat.succ_ne_self _, Nat.ne_of_lt hal, Nat.ne_of_lt (Nat.lt_succ_of_lt hal)⟩, fun b hb => ?_, q⟩
    have e' : b = s1.heap.objs.size + 1 ∨ b = s1.heap.objs.size := by simpa using hb
    have hle : s1.heap.objs.size ≤ b := by
      rcases e' with z | z
      · rw [z]; exact Nat.le_add_right _ _
      · rw [z]; exact Nat.le_refl _
    exact I1.fpOk hle (I1.hok.fresh hle)
/-- a loop over enumerate of a tuple -/
theorem for_enumT {K : PySem.W.Frag} {a : Addr} {xs : List V} {g : TG} {tb : TS} {D : Ends} {σ : L2.St} {H : Hp} (Pv : Nat → L2.St → Hp → Prop) (h0 : Pv 0 σ H) (hq : ∀ i σ H, Pv i σ H → SqT K H a xs)
    (hs : ∀ (i : Nat) (x : V) (T : Addr) (σ : L2.St) (H : Hp), xs[i]? = some x → Pv i σ H → H T = none → g (.ref T) σ (upd H T (.tup [.int (i : Nat), x])) fun σ2 H2 => tb { D with nx := Pv (i + 1), ct := Pv (i + 1), bk := D.nx } σ2 H2) (hd : ∀ σ H, Pv xs.length σ H → D.nx σ H) :
    ∃ W : Nat → Nat → L2.St → Hp → Prop, (∃ m, W 0 m σ H) ∧ ∀ i m σ H, W i m σ H →
      ((IteT K a).stop i H ∧ D.nx σ H) ∨ ((IteT K a).go i H ∧ ∃ N : L2.St → Hp → Prop, (∀ σ' H', N σ' H' → ∃ m', m' < m ∧ W (i + 1) m' σ' H') ∧ ∀ v H', (IteT K a).yld i H v H' → g v σ H' fun σ2 H2 => tb { D with nx := N, ct := N, bk := D.nx } σ2 H2) := by
  refine ⟨fun i m σ H => m = xs.length - i ∧ i ≤ xs.length ∧ Pv i σ H, ⟨xs.length, rfl, Nat.zero_le _, h0⟩, ?_⟩
  rintro i m σ H ⟨rfl, hi, p⟩
  have qx := hq i σ H p
  by_cases hlt : i < xs.length
  · have hx : xs[i]? = some xs[i] := List.getElem?_eq_getElem hlt
    refine .inr ⟨⟨xs, _, qx, hx⟩, Pv (i + 1), fun σ' H' p' => ⟨xs.length - (i + 1), by omega, rfl, hlt, p'⟩, fun v H' y => ?_⟩
    obtain ⟨T, x', rfl, hT, rfl, f1⟩ := y
    exact hs i x' T σ H (f1 xs qx) p hT
  · have e : i = xs.length := by omega
    subst e
    exact .inl ⟨⟨xs, qx, rfl⟩, hd σ H p⟩
end Og

namespace Og
open PySem PySem.Spec PyProof.Rows L2
section
variable {X : Cx} {G : Addr} {e : Expr} {es : List Expr} {ta : TA} {x : Str} {p1 p2 pos : Pos}
/-- C.__init__(self, ..) of an own class C over ValueError that has no __init__ itself -/
theorem pe_clsinit {pl : Sem Bool} (hg : Gl X x) (hm : X.mg x = some (.ref G)) (rd : PySem.W.readsIn X.K G (.type "type") = true) (sg : PySem.W.specialIn X.K (.ref G) "__getattribute__" = some (some (.builtin "type.__getattribute__")))
    (vV : PySem.W.findCls X.K (.ref G) (.type "type") "__init__" = some (.val (.builtin "ValueError.__init__"))) (ha : PA X (e :: es) ta) (hdb : (x == ("__debug__" : Str)) = false := by decide)
    (hc : eval (.Call (.Attribute (.Name x p1) "__init__" p2) (e :: es) [] pos) X.env = (do
      let ob ← eval (.Name x p1) X.env
      standAt p2.atName
      let (fn, fst) ← holding [ob] (getMethod ob "__init__" pl)
      callWith pos fn fst (backTo pos (starEach (e :: es) X.env)) (backToKw pos (keywordEach [] X.env))) := by rfl)
    (hpl : (backTo pos (starEach es X.env)).any (·.1) = false := by rfl)
    (he : starEach (e :: es) X.env = (false, eval e X.env) :: starEach es X.env := by rfl) : PE X (.Call (.Attribute (.Name x p1) "__init__" p2) (e :: es) [] pos) (tVeI X.K ta) := by
  constructor
  intro pins s σ H Q I hQ
  refine PySem.W.methodCall_KW (ld_glob I hg hm ?_ hdb) hc
  refine PySem.W.method_cls I.kIn sg (PySem.W.cls_value I.kIn rd vV (by decide +kernel) ?_)
  refine PyProof.Rows.callWith_method1 (id := "ValueError.__init__") (thn (ha.run pos pins _ σ H _ (I.tok _) hQ) fun us s1 q => ?_) he hpl
  obtain ⟨vs, H1, I1, r1, a, C, ws, rfl, hl, T, ea, q⟩ := q
  cases r1 with
  | cons ra rw' =>
    cases ra
    have few := Paired.length rw'
    exact oinit_ok T I1 ea (by rw [← few, sizeLine_eq]; omega) fun s' J => ⟨.non, H1, J, rfl, q⟩
end
/-! ### callees that may raise -/
def HasX (P : Program) (w : World) (K : PySem.W.Frag) (mg : Str → Option Value) (base : Heap) (k : Nat) (x : Str) (ps : List Str) (sp : Sp) : Prop := ∃ f fd, Callee P w K mg base (L2.CX P w) k x f fd ps sp
theorem HasX.mono {P : Program} {w : World} {K : PySem.W.Frag} {mg : Str → Option Value} {base : Heap} {j k : Nat} {x : Str} {ps : List Str} {sp : Sp} (h : HasX P w K mg base j x ps sp) (l : j ≤ k) : HasX P w K mg base k x ps sp := by
  obtain ⟨f, fd, c⟩ := h
  exact ⟨f, fd, c.ok.mono l, c.mg, c.kp, c.bi⟩
section
variable {X : Cx} {CX : CXT} {E : XK} {k : Nat} {x : Str} {f : Addr} {fd : FuncData} {ps : List Str} {sp : Sp} {p pos : Pos} {e : Expr} {es : List Expr} {t : TA}
theorem calX (C : Callee X.prog X.w X.K X.mg X.base CX k x f fd ps sp) (hr : Room k X.A) (hg : Gl X x) (hx : Passes CX X E) (ha : PA X (e :: es) t) (hdb : (x == ("__debug__" : Str)) = false := by decide)
    (he : starEach (e :: es) X.env = (false, eval e X.env) :: starEach es X.env := by rfl) (hpl : (backTo pos (starEach es X.env)).any (·.1) = false := by rfl) : PE X (.Call (.Name x p) (e :: es) [] pos) (tCall sp [] E t) :=
  pe_call C.ok hr hg C.mg C.kp C.bi .nil hx ha hdb he hpl
end
/-- what a raise C(i) leaves: the error's own dict -/
theorem keep_raised {S : List Addr} {H : Hp} {a dx C : Addr} {f : Str} {i : Int} (na : H a = none) (nd : (upd H a (exo a C none)) dx = none) (ne : dx ≠ a) :
    Keep S H (upd (del (upd (upd (upd H a (exo a C none)) dx (exd dx [(f, .int i)])) a (exo a C (some dx))) a) dx (.xd [(f, .int i)])) := fun b o e => by
  have nd0 : H dx = none := by rw [upd_ne ne] at nd; exact nd
  have ba : b ≠ a := ne_of_none e na
  have bd : b ≠ dx := ne_of_none e nd0
  exact .inl (by rw [upd_ne bd, del_ne ba, upd_ne ba, upd_ne bd, upd_ne ba]; exact e)
/-! ### an own error class C (under GlassError, at G) with a number at one field -/
structure ErrT (K : PySem.W.Frag) (mg : Str → Option Value) (x qual field : Str) (st : Stmt) (C G fI : Addr) (fd : FuncData) : Prop where
  gC : mg x = some (.ref C)
  gG : mg "GlassError" = some (.ref G)
  ox : OexC K C
  iC : PySem.W.findIn K (.ref C) "__init__" = some (some (.ref fI))
  tI : PySem.W.typeIn K (.ref fI) = some (.type "function")
  no : PySem.W.findIn K (.ref C) field = some none
  rd : PySem.W.readsIn K G (.type "type") = true
  sg : PySem.W.specialIn K (.ref G) "__getattribute__" = some (some (.builtin "type.__getattribute__"))
  vV : PySem.W.findCls K (.ref G) (.type "type") "__init__" = some (.val (.builtin "ValueError.__init__"))
  fn : Fun K "__init__" qual st fI fd
  bi : Binds K fd ["self", field] []
structure ErrH (K : PySem.W.Frag) (C G : Addr) : Prop where
  ga : PySem.W.findIn K (.ref C) "__getattribute__" = some (some (.builtin "BaseException.__getattribute__"))
  gg : PySem.W.findIn K (.ref C) "__getattr__" = some none
  hd : PySem.W.hasDictIn K C = true
  ic : PySem.W.isClsIn K C = true
  se : PySem.W.subIn K (.ref C) (.ref C) = some true
  ck : PySem.W.findIn K (.ref C) "__class__" = some (some (.builtin "object.__class__"))
  kG : PySem.W.kitOne K (.ref C) (.ref G) = some true
  kV : PySem.W.kitOne K (.ref C) (.type "ValueError") = some true
  cg : PySem.W.specialIn K (.builtin "object.__class__") "__get__" = some (some (.builtin "getset_descriptor.__get__"))
  ct : PySem.W.takesIn K (.builtin "object.__class__") = some true
  cm : PySem.W.mroIn K C (.type "object") = some true
structure ErrAll (K : PySem.W.Frag) (mg : Str → Option Value) (x qual field : Str) (st : Stmt) : Prop where
  ex : ∃ C G fI fd, ErrT K mg x qual field st C G fI fd ∧ ErrH K C G
/-- an error of the one class is none of the other -/
structure ErrNot (K : PySem.W.Frag) (mg : Str → Option Value) (x y : Str) : Prop where
  no : ∀ a b : Addr, mg x = some (.ref a) → mg y = some (.ref b) → PySem.W.kitOne K (.ref a) (.ref b) = some false
/-- what the __init__ of such a class promises -/
def spErr (K : PySem.W.Frag) (field : Str) : Sp := fun vs H Q _ => ∃ (a C : Addr) (i : Int), vs = [.ref a, .int i] ∧ OexC K C ∧ PySem.W.findIn K (.ref C) field = some none ∧ i.natAbs < 10 ^ 9 ∧ H a = some (exo a C none) ∧
  ∀ dx : Addr, H dx = none → dx ≠ a → Q .non (upd (upd H dx (exd dx [(field, .int i)])) a (exo a C (some dx)))
end Og

namespace Og
open PySem PySem.W PySem.Calls PyProof.Rows
section
variable {prog : Program} {w : World} {A : Around} {E : Value → Shared → Prop} {s : Shared} {K : Frag} {x D : Addr} {ox : Obj} {od : Obj}
/-- e.__class__ of an error with a dict of its own -/
theorem exc_class {Q : Option Value → Shared → Prop} (g1 : findIn K (.ref D) "__getattribute__" = some (some (.builtin "BaseException.__getattribute__"))) (g2 : findIn K (.ref D) "__getattr__" = some none)
    (g3 : subIn K (.ref D) (.type "BaseException") = some true) (g4 : (clsIn K D).isSome = true) (g5 : findIn K (.ref D) "__class__" = some (some (.builtin "object.__class__")))
    (g6 : specialIn K (.builtin "object.__class__") "__get__" = some (some (.builtin "getset_descriptor.__get__"))) (g7 : takesIn K (.builtin "object.__class__") = some true) (g8 : mroIn K D (.type "object") = some true)
    (X : K.In s.heap) (I : InstAt s.heap x ox D (some od)) (fin : Q (some (.ref D)) { s with toks := s.toks + 1 }) : wpAny (model prog w) A (getAttr? (.ref x) "__class__") Q E s := by
  have found : findObj K D (some od) "__class__" = some (.bind (.builtin "getset_descriptor.__get__") (.builtin "object.__class__")) := findObj_data g4 g5 g6 g7
  obtain ⟨hp, ge, dr, tk, os⟩ := s
  have ty := I.type (M := model prog w)
  have la := looks_findIn (M := model prog w) X g1
  have lb := looks_findIn (M := model prog w) X g2
  have lc := looks_find (M := model prog w) X I found
  have isB : Looks (model prog w) hp (isInstance (.ref x) (.type "BaseException")) true := ty.andThen (looks_subIn X g3)
  have ne : (Value.builtin "BaseException.__getattribute__" == Value.builtin "object.__getattribute__") = false := by decide +kernel
  unfold getAttr? getAttrBy? getAttrBy
  refine wpAny_bind (wpAny_mkText (wpAny_bind (wpAny_attempt (wpAny_holding (wpAny_bind (ty.at (wpAny_bind (la.at ?_))))))))
  dsimp only
  rw [ne, Bool.and_false, if_neg Bool.false_ne_true]
  unfold getAttrByItsOwn hookBefore
  refine wpAny_bind ?_
  rw [if_pos (show onTheHeap (Value.ref D) = true from rfl)]
  refine lb.at ?_
  refine wpAny_bind (wpAny_attempt (wpAny_holding ?_))
  unfold callGetattribute
  rw [Bool.false_and, if_neg Bool.false_ne_true]
  unfold boundAndCalled
  rw [PySem.F.excAttr_ValueError.ga.bind (.ref x)]
  refine wpAny_bind (wpAny_pure ?_)
  refine wpAny_call (codeAny_call_builtin PySem.F.excAttr_ValueError.ga.plain PySem.F.entry_bexc_ga ?_)
  refine @check_slot (model prog w) _ _ ⟨hp, ge, dr, tk + 1, os⟩ "BaseException.__getattribute__" "BaseException" "__getattribute__" (.ref x) [.str "__class__" tk] [] _ (by decide +kernel) (by decide +kernel) isB (PySem.F.args_bexc_ga (.ref x) (.str "__class__" tk)) ?_
  unfold Builtin.«object.__getattribute__»
  refine wpAny_bind (wpAny_of_eq (a := ((Value.ref x : Value), [Value.str "__class__" tk])) (by first | rfl | (simp only [slotArgs]; rfl)) ?_)
  refine wpAny_bind (wpAny_pure (wpAny_bind (ty.at (wpAny_bind (lc.at ?_)))))
  refine wpAny_bind (wpAny_holding (wpAny_call (class_get (s := ⟨hp, ge, dr, tk + 1, os⟩) (ox := ox) (od := some od) X I g8 ?_)))
  refine wpAny_pure ?_
  show wpAny _ _ (handedOut (.ref D)) _ _ _
  rw [handedOut_of (v := .ref D) rfl]
  first
    | exact wpAny_pure (wpAny_pure fin)
    | exact wpAny_pure fin
    | exact wpAny_pure (wpAny_bind (wpAny_pure (wpAny_pure fin)))
theorem exc_kit (g1 : findIn K (.ref D) "__getattribute__" = some (some (.builtin "BaseException.__getattribute__"))) (g2 : findIn K (.ref D) "__getattr__" = some none)
    (g3 : subIn K (.ref D) (.type "BaseException") = some true) (g4 : hasDictIn K D = true) (g5 : findIn K (.ref D) "__class__" = some (some (.builtin "object.__class__")))
    (g6 : specialIn K (.builtin "object.__class__") "__get__" = some (some (.builtin "getset_descriptor.__get__"))) (g7 : takesIn K (.builtin "object.__class__") = some true) (g8 : mroIn K D (.type "object") = some true) :
    KitX K (.ref x) (.ref D) (fun h => InstAt h x ox D (some od)) where
  ty := fun _ _ _ I => I.type
  it := fun _ _ X _ => by
    obtain ⟨cd, hc, _⟩ := any_some g4
    unfold clsIn at hc
    split at hc
    · rename_i ho
      intro A' Q' E' s' k q
      unfold isType loadHead
      exact wpAny_bind (wpAny_loadPart (k _ _ (X _ _ ho)) (wpAny_pure q))
    · cases hc
  ne := fun h tp dd its n sl X htp => by
    obtain ⟨cd, hc, _⟩ := any_some g4
    refine Bool.eq_false_iff.mpr fun q => ?_
    have e : D = tp := Value.ref.inj (beq_iff_eq.mp q)
    subst e
    unfold clsIn at hc
    split at hc
    · rename_i ho
      exact nomatch (X _ _ ho).symm.trans htp
    · cases hc
  ca := fun X I k => exc_class g1 g2 g3 (by obtain ⟨cd, hc, _⟩ := any_some g4; rw [hc]; rfl) g5 g6 g7 g8 X I k
end
end Og
namespace Og
open PySem PySem.Spec PyProof.Rows L2
/-- what a suite's reading takes as given -/
theorem pss_ex {α : Type} {X : Cx} {sts : List Stmt} {t : α → TS} (h : ∀ x, PSs X sts (t x)) : PSs X sts (fun D σ H => ∃ x, t x D σ H) := ⟨fun pins s σ H D I q => by
  obtain ⟨x, q⟩ := q
  exact (h x).run pins s σ H D I q⟩
theorem pss_when {C : Prop} {X : Cx} {sts : List Stmt} {t : TS} (h : C → PSs X sts t) : PSs X sts (fun D σ H => C ∧ t D σ H) := ⟨fun pins s σ H D I q => (h q.1).run pins s σ H D I q.2⟩
/-- isinstance(e, c) of the error e that a suite holds, which has a dict of its own -/
def rIsD (K : PySem.W.Frag) (D a dd : Addr) : List V → Hp → VK → Prop := fun xs H Q => ∃ (c : V) (cv : Value) (b : Bool) (fs : List (Str × V)), xs = [.ref a, c] ∧ ClsV c cv ∧ H dd = some (.xd fs) ∧ PySem.W.kitOne K (.ref D) cv = some b ∧ Q (.bl b) H
theorem call_isD {X : Cx} {a D dd : Addr} {oe : Obj} {pn : List (Addr × Obj)} (C : ExcC X.K D) (hz : Zc (.ref D) (some dd) oe) (hf : ∃ vs, oe.data = .fields vs) : CallR (X.suite a ((a, oe) :: pn)) (.builtin "isinstance") (rIsD X.K D a dd) := by
  intro pins s σ H xs us Q I r h
  obtain ⟨c, cv, b, fs, rfl, hcv, ed, e, q⟩ := h
  obtain ⟨u1, u2, rfl, r1, r2⟩ := vals2 r
  have ec := hcv.eq r2
  subst ec
  obtain rfl : u1 = Value.ref a := r1
  obtain ⟨hget, _⟩ := I.pin (a, oe) (List.mem_append.mpr (.inl List.mem_cons_self))
  obtain ⟨vs, hv⟩ := hf
  have hx : ObjOk X.prog X.w H s.heap dd (.xd fs) := I.hok dd _ ed
  obtain ⟨mA, hns, _⟩ := hx
  obtain ⟨odd, ho, _⟩ := lookIn_ns hns
  have J : PySem.W.InstAt s.heap a oe D (some odd) := ⟨hget, hz.1, by unfold PySem.W.notCls; rw [hv], by rw [hz.2]; exact ho⟩
  exact PySem.W.kia_one (exc_kit C.hg C.hk C.hs C.hd C.ha C.hn C.ht C.hm) I.kIn J e (fun z => nomatch z) fun tk => ⟨.bl b, H, I.kept (t' := tk) fun _ _ z => z, rfl, q⟩
end Og

namespace Og
open PySem PySem.Spec PyProof.Rows L2
/-- an error of the class cls with the dict d, held as a value at a -/
def ErV (cls : Value) (d : Option Addr) (a : Addr) : HO := .ext fun h => ∃ (oe : Obj) (vs : Array Value), h.get? a = some oe ∧ Zc cls d oe ∧ oe.data = .fields vs
/-- isinstance(e, c) of such an error -/
def rIsV (K : PySem.W.Frag) : List V → Hp → VK → Prop := fun xs H Q => ∃ (a C dd : Addr) (c : V) (cv : Value) (b : Bool) (fs : List (Str × V)), xs = [.ref a, c] ∧ ClsV c cv ∧ ExcC K C ∧ H a = some (ErV (.ref C) (some dd) a) ∧ H dd = some (.xd fs) ∧ PySem.W.kitOne K (.ref C) cv = some b ∧ Q (.bl b) H
/-- e.f of such an error -/
def tXv (K : PySem.W.Frag) (f : Str) (te : TE) : TE := fun σ H Q => te σ H fun x H1 => ∃ (a C dd : Addr) (fs : List (Str × V)) (v : V), x = .ref a ∧ XfC K C ∧ PySem.W.findIn K (.ref C) f = some none ∧ H1 a = some (ErV (.ref C) (some dd) a) ∧ H1 dd = some (.xd fs) ∧ fs.lookup f = some v ∧ Q v H1
section
variable {X : Cx} {e : Expr} {te : TE} {p pos : Pos}
/-- what makes an error to raise it makes it as a value as well -/
theorem pe_made {t : L2.St → Hp → XK → Prop} (h : PMk X e t) : PE X e (fun σ H Q => t σ H fun cls d H1 => ∀ a : Addr, H1 a = none → Q (.ref a) (upd H1 a (ErV cls d a))) := by
  constructor
  intro pins s0 σ H Q I q
  refine wpAny_mono (h pins s0 σ H _ I q) (fun u s1 hu => ?_) fun _ _ no => no
  obtain ⟨a, oe, vs, sI, H', cls, d, rfl, J, grows, fresh, there, zc, dt, _, na, os, bare, _, q1⟩ := hu
  have new : ObjOk X.prog X.w (upd H' a (ErV cls d a)) s1.heap a (ErV cls d a) := ⟨⟨oe, vs, there, zc, dt⟩, ⟨oe, there⟩, fun _ _ ⟨o, w, y, r⟩ k => ⟨o, w, k o y, r⟩⟩
  exact ⟨.ref a, _, J.call' (ch := []) os (Un.laidN grows fresh na) (J.hok.laidN grows na new) bare (fun b z => absurd z (by simp)), rfl, q1 a na⟩
/-- the error and its dict, in the model's heap -/
theorem erv_at {H : Hp} {s1 : Shared} {a C dd : Addr} {fs : List (Str × V)} (hok : HOk X.prog X.w H s1.heap) (ea : H a = some (ErV (.ref C) (some dd) a)) (ed : H dd = some (.xd fs)) :
    ∃ (oe odd : Obj) (mA : Str → Option Value), PySem.W.InstAt s1.heap a oe C (some odd) ∧ (∀ f, RelO (fs.lookup f) (mA f)) ∧ ∀ f, PySem.W.lookIn f odd = some (mA f) := by
  have xa : ObjOk X.prog X.w H s1.heap a (.ext fun h => ∃ (oe : Obj) (vs : Array Value), h.get? a = some oe ∧ Zc (.ref C) (some dd) oe ∧ oe.data = .fields vs) := hok a _ ea
  have xd : ObjOk X.prog X.w H s1.heap dd (.xd fs) := hok dd _ ed
  obtain ⟨oe, vs, there, zc, dt⟩ := xa.1
  obtain ⟨mA, hns, rel⟩ := xd
  obtain ⟨odd, hd, look⟩ := lookIn_ns hns
  exact ⟨oe, odd, mA, ⟨there, zc.1, by unfold PySem.W.notCls; rw [dt], by rw [zc.2]; exact hd⟩, rel, look⟩
theorem call_isV : CallR X (.builtin "isinstance") (rIsV X.K) := by
  intro pins s1 σ H xs us Q I r h
  obtain ⟨a, C, dd, c, cv, b, fs, rfl, hcv, ec, ea, ed, z, q⟩ := h
  obtain ⟨u1, u2, rfl, v1, v2⟩ := vals2 r
  have ev := hcv.eq v2
  subst ev
  obtain rfl : u1 = Value.ref a := v1
  obtain ⟨oe, odd, mA, J, _, _⟩ := erv_at I.hok ea ed
  exact PySem.W.kia_one (exc_kit ec.hg ec.hk ec.hs ec.hd ec.ha ec.hn ec.ht ec.hm) I.kIn J z (fun y => nomatch y) fun tk => ⟨.bl b, H, I.kept (t' := tk) fun _ _ y => y, rfl, q⟩
theorem pe_xv {n : Str} (he : PE X e te) (hb : attributeBase e n X.env (eval e X.env) = eval e X.env := by rfl) : PE X (.Attribute e n pos) (tXv X.K n te) := by
  constructor
  intro pins s0 σ H Q I h
  refine attr_of hb (thn (he.run pins s0 σ H _ I h) fun u0 s1 g => ?_)
  obtain ⟨x, H1, I1, rx, a, C, dd, fs, v, ex, T, hno, ea, ed, l, q⟩ := g
  subst ex
  obtain rfl : u0 = Value.ref a := rx
  obtain ⟨oe, odd, mA, J, rel, look⟩ := erv_at I1.hok ea ed
  obtain ⟨u, hu, ru⟩ := RelO.some_of (v := v) (o := mA n) (by have := rel n; rw [l] at this; exact this)
  exact HandSPX.exc_get I1.kIn J T.ga T.gg T.exC (PySem.W.findObj_own T.hdC hno rfl (by rw [look, hu])) (handed_of ru) ⟨v, H1, I1.tok _, ru, q⟩
end
end Og

namespace Og
open PySem PySem.Spec PyProof.Rows L2
open PySem.NumText (AllDigits digitsVal)
/-! ### programs as trees, and which are good -/
def qw : List Nat := [113, 117, 111, 116, 101]
def specials : List (List Nat × Nat) := [(qw, 1), ([105, 102], 3), ([115, 97, 109, 101], 2), ([119, 111, 114, 100], 1), ([104, 101, 97, 100], 1), ([116, 97, 105, 108], 1), ([106, 111, 105, 110], 2)]
def spAr (x : List Nat) : Option Nat := (specials.find? fun p => decide (p.1 = x)).map (·.2)
def fn? : Tree → Option (List Nat × List Tree × Tree)
  | .l [.w n, .l ps, b] => some (n, ps, b)
  | _ => none
theorem fn?_iff {t : Tree} {n : List Nat} {ps : List Tree} {b : Tree} : fn? t = some (n, ps, b) ↔ t = .l [.w n, .l ps, b] := by
  unfold fn?
  split
  · rename_i n' ps' b'
    constructor
    · intro h
      have h1 := Option.some.inj h
      have h2 := (Prod.mk.inj h1).1
      have h3 := (Prod.mk.inj h1).2
      have h4 := (Prod.mk.inj h3).1
      have h5 := (Prod.mk.inj h3).2
      rw [h2, h4, h5]
    · intro h
      have h1 := Tree.l.inj h
      have h2 := Tree.w.inj (List.cons.inj h1).1
      have h3 := (List.cons.inj h1).2
      have h4 := Tree.l.inj (List.cons.inj h3).1
      have h5 := (List.cons.inj (List.cons.inj h3).2).1
      rw [h2, h4, h5]
  · rename_i no
    constructor
    · intro h; cases h
    · intro h; exact absurd h (no n ps b)
def arity : List Tree → List Nat → Option Nat
  | [], _ => none
  | t :: r, x => match fn? t with
    | some (n, ps, _) => if n = x then some ps.length else arity r x
    | none => arity r x
/-- how many parts stand behind the word x -/
def parts (fs : List Tree) (x : List Nat) : Option Nat := match spAr x with
  | some k => some k
  | none => arity fs x
mutual
def GoodE (fs ps : List Tree) : Tree → Prop
  | .w x => Tree.w x ∈ ps
  | .l [] => False
  | .l (.l _ :: _) => False
  | .l (.w n :: ts) => parts fs n = some ts.length ∧ (n = qw ∨ GoodEs fs ps ts)
def GoodEs (fs ps : List Tree) : List Tree → Prop
  | [] => True
  | t :: ts => GoodE fs ps t ∧ GoodEs fs ps ts
end
theorem goodE_w {fs ps : List Tree} {x : List Nat} : GoodE fs ps (.w x) ↔ Tree.w x ∈ ps := by rw [GoodE]
theorem goodEs_iff {fs ps : List Tree} : ∀ {ts : List Tree}, GoodEs fs ps ts ↔ ∀ t ∈ ts, GoodE fs ps t
  | [] => by rw [GoodEs]; exact ⟨fun _ t m => absurd m (List.not_mem_nil), fun _ => trivial⟩
  | u :: ts => by
    rw [GoodEs, goodEs_iff]
    constructor
    · rintro ⟨h1, h2⟩ t m
      rcases List.mem_cons.mp m with e | m
      · rw [e]; exact h1
      · exact h2 t m
    · intro h
      exact ⟨h u (List.mem_cons_self ..), fun t m => h t (List.mem_cons_of_mem _ m)⟩
/-- the list's first item is a word, with the right number of parts behind it -/
def Right (fs ts : List Tree) : Prop := ∃ n r, ts = .w n :: r ∧ parts fs n = some r.length
theorem goodE_l {fs ps ts : List Tree} : GoodE fs ps (.l ts) ↔ Right fs ts ∧ (ts.head? = some (.w qw) ∨ ∀ t ∈ ts.tail, GoodE fs ps t) := by
  cases ts with
  | nil =>
    rw [GoodE]
    constructor
    · intro h; exact h.elim
    · rintro ⟨⟨n, r, e, _⟩, _⟩; cases e
  | cons t r =>
    cases t with
    | l us =>
      rw [GoodE]
      constructor
      · intro h; exact h.elim
      · rintro ⟨⟨n, r', e, _⟩, _⟩
        have := (List.cons.inj e).1
        cases this
    | w n =>
      rw [GoodE, goodEs_iff]
      constructor
      · rintro ⟨h1, h2⟩
        refine ⟨⟨n, r, rfl, h1⟩, ?_⟩
        rcases h2 with h2 | h2
        · exact .inl (by rw [h2]; rfl)
        · exact .inr h2
      · rintro ⟨⟨n', r', e, h1⟩, h2⟩
        have e1 := Tree.w.inj (List.cons.inj e).1
        have e2 := (List.cons.inj e).2
        subst e1 e2
        refine ⟨h1, ?_⟩
        rcases h2 with h2 | h2
        · exact .inl (Tree.w.inj (Option.some.inj h2))
        · exact .inr h2
def GoodName (n : Nat) (x : List Nat) : Prop := spAr x = none ∧ ∀ ds, x = 102 :: ds → ds ≠ [] → AllDigits ds → (ds = [48] ∨ ds.head? ≠ some 48) ∧ digitsVal ds < n
def GoodPs (ps : List Tree) : Prop := ps.length ≤ 12 ∧ ∀ (i : Nat) (t : Tree), ps[i]? = some t → ∃ x, t = .w x ∧ spAr x = none ∧ ∀ j : Nat, j < i → ps[j]? ≠ some (.w x)
def Dupe (fs : List Tree) (i : Nat) (x : List Nat) : Prop := ∃ (j : Nat) (r : List Tree), j < i ∧ fs[j]? = some (.l (.w x :: r))
/-- the function is good, but for its name being used earlier -/
def GoodFn (fs : List Tree) (t : Tree) : Prop := ∃ n ps b, t = .l [.w n, .l ps, b] ∧ GoodName fs.length n ∧ GoodPs ps ∧ GoodE fs ps b
def GoodAt (fs : List Tree) (i : Nat) : Prop := ∃ n ps b, fs[i]? = some (.l [.w n, .l ps, b]) ∧ GoodName fs.length n ∧ GoodPs ps ∧ GoodE fs ps b ∧ ¬ Dupe fs i n
/-- what is found: none, or the number of the first function that is not good -/
def BadNo : Tree → Option Nat → Prop
  | .w _, o => o = some 0
  | .l fs, o => (fs = [] ∧ o = some 0) ∨ (fs ≠ [] ∧ ((o = none ∧ ∀ i, i < fs.length → GoodAt fs i) ∨ ∃ i, o = some i ∧ i < fs.length ∧ ¬ GoodAt fs i ∧ ∀ j, j < i → GoodAt fs j))
theorem BadNo.uniq {t : Tree} {a b : Option Nat} (h1 : BadNo t a) (h2 : BadNo t b) : a = b := by
  cases t with
  | w x => rw [show a = some 0 from h1, show b = some 0 from h2]
  | l fs =>
    rcases h1 with ⟨e1, o1⟩ | ⟨n1, h1⟩ <;> rcases h2 with ⟨e2, o2⟩ | ⟨n2, h2⟩
    · rw [o1, o2]
    · exact absurd e1 n2
    · exact absurd e2 n1
    · rcases h1 with ⟨o1, g1⟩ | ⟨i, o1, l1, b1, g1⟩ <;> rcases h2 with ⟨o2, g2⟩ | ⟨j, o2, l2, b2, g2⟩
      · rw [o1, o2]
      · exact absurd (g1 j l2) b2
      · exact absurd (g2 i l1) b1
      · rw [o1, o2]
        rcases Nat.lt_trichotomy i j with h | h | h
        · exact absurd (g2 i h) b1
        · rw [h]
        · exact absurd (g1 j h) b2
theorem arity_app {x : List Nat} : ∀ (a b : List Tree), arity (a ++ b) x = match arity a x with
    | some k => some k
    | none => arity b x
  | [], b => rfl
  | t :: a, b => by
    rw [List.cons_append, arity, arity, arity_app a b]
    cases fn? t with
    | none => rfl
    | some p =>
      obtain ⟨n, ps, bd⟩ := p
      show (if n = x then _ else _) = match (if n = x then _ else _) with | some k => some k | none => arity b x
      by_cases h : n = x
      · rw [if_pos h, if_pos h]
      · rw [if_neg h, if_neg h]
        cases arity a x <;> rfl
theorem arity_one_no {t : Tree} {x : List Nat} (h : fn? t = none) : arity [t] x = none := by
  rw [arity, h]; rfl
theorem arity_one {t : Tree} {n x : List Nat} {ps : List Tree} {b : Tree} (h : fn? t = some (n, ps, b)) : arity [t] x = if n = x then some ps.length else none := by
  rw [arity, h]; rfl
/-! ### numbers in names -/
theorem digitsVal_lt : ∀ (n : Nat) (ds : List Nat), ds.length = n → AllDigits ds → digitsVal ds < 10 ^ n := fun n => by
  induction n with
  | zero =>
    intro ds h _
    rw [List.length_eq_zero_iff.mp h]
    decide
  | succ n ih =>
    intro ds h a
    have ne : ds ≠ [] := by intro e; rw [e] at h; cases h
    obtain ⟨ys, y, rfl⟩ := snoc_of ne
    rw [List.length_append, List.length_singleton] at h
    have h1 := ih ys (by omega) fun c m => a c (List.mem_append.mpr (.inl m))
    have h2 := a y (List.mem_append.mpr (.inr (List.mem_singleton.mpr rfl)))
    rw [NumText.digitsVal_snoc, Nat.pow_succ]
    omega
/-- str(int(ds)) is ds just where there is no leading zero -/
theorem str_digits {ds : List Nat} (h : AllDigits ds) (ne : ds ≠ []) : Str.ofString (toString ((digitsVal ds : Nat) : Int)) = tx ds ↔ (ds = [48] ∨ ds.head? ≠ some 48) := by
  have e := PySem.W.KIN.signs_num (digitsVal ds)
  have chr : ∀ cs : List Nat, AllDigits cs → (cs.map Char.ofNat).map Char.toNat = cs := fun cs hc => by
    rw [List.map_map]
    conv => rhs; rw [← List.map_id cs]
    refine List.map_congr_left fun c m => ?_
    have := hc c m
    have v : ∀ k, k < 58 → (Char.ofNat k).toNat = k := by decide
    exact v c (by omega)
  obtain ⟨c, r, rfl⟩ : ∃ c r, ds = c :: r := by
    cases ds with
    | nil => exact absurd rfl ne
    | cons c r => exact ⟨c, r, rfl⟩
  have hc := h c (List.mem_cons_self ..)
  constructor
  · intro q
    rw [q] at e
    have e' : c :: r = (Nat.toDigits 10 (digitsVal (c :: r))).map Char.toNat := e
    by_cases z : c = 48
    · left
      subst z
      rw [NumText.toDigits_all _ h] at e'
      have d : ((48 :: r).dropWhile (· == 48)).length ≤ r.length := by
        rw [List.dropWhile_cons]
        exact (List.dropWhile_sublist _).length_le
      cases hd : (48 :: r).dropWhile (· == 48) with
      | nil =>
        rw [hd] at e'
        exact e'
      | cons a b =>
        rw [hd] at e' d
        have := congrArg List.length e'
        simp at this
        simp at d
        omega
    · right
      intro q2
      exact z (Option.some.inj q2)
  · intro q
    have key : (Nat.toDigits 10 (digitsVal (c :: r))).map Char.toNat = c :: r := by
      rcases q with q | q
      · rw [q]; decide
      · have z : c ≠ 48 := fun e => q (by rw [e]; rfl)
        rw [NumText.toDigits_digitsVal r.length (c :: r) (by rw [List.length_cons]) h (.inr ⟨c, r, rfl, by omega⟩)]
        exact chr _ h
    rw [key] at e
    rw [tx_of (Str.ofString (toString ((digitsVal (c :: r) : Nat) : Int))), e]
end Og

namespace Og
open PySem PySem.Spec PyProof.Rows L2
open PySem.NumText (AllDigits digitsVal)
/-! ### a dict of the module, of texts and numbers -/
def Ents : List DictEntry → List (List Nat × Nat) → Prop
  | [], [] => True
  | e :: r, p :: q => (∃ t, e.key = .str (tx p.1) t) ∧ (∃ t, e.val = .int (p.2 : Nat) t) ∧ Ents r q
  | _, _ => False
theorem Ents.find {z : List Nat} : ∀ {es : List DictEntry} {L : List (List Nat × Nat)}, Ents es L →
    match L.find? (fun p => decide (p.1 = z)) with
    | some p => ∃ e t, es.find? (·.key.isStr (tx z)) = some e ∧ e.val = .int (p.2 : Nat) t
    | none => es.find? (·.key.isStr (tx z)) = none ∧ es.any (·.refKey) = false
  | [], [], _ => ⟨rfl, rfl⟩
  | [], p :: q, h => h.elim
  | e :: r, [], h => h.elim
  | e :: r, p :: q, h => by
    obtain ⟨⟨t1, h1⟩, ⟨t2, h2⟩, h3⟩ := h
    have ih := Ents.find (z := z) h3
    have k1 : e.key.isStr (tx z) = decide (p.1 = z) := by
      rw [h1]
      show (tx p.1 == tx z) = _
      by_cases c : p.1 = z
      · rw [c, decide_eq_true rfl]; simp
      · rw [decide_eq_false c]
        exact beq_eq_false_iff_ne.mpr fun e => c (tx_inj e)
    have k2 : e.refKey = false := by
      unfold DictEntry.refKey
      rw [h1]
    rw [List.find?_cons, List.find?_cons, k1, List.any_cons, k2]
    by_cases c : p.1 = z
    · rw [decide_eq_true c]
      exact ⟨e, t2, rfl, h2⟩
    · rw [decide_eq_false c]
      exact ih
structure DictC (K : PySem.W.Frag) (w : World) (mg : Str → Option Value) (x : Str) (L : List (List Nat × Nat)) : Prop where
  ex : ∃ d es n, mg x = some (.ref d) ∧ KDict K w d es n ∧ Ents es.toList L
/-- the same, at d -/
structure DictD (K : PySem.W.Frag) (w : World) (L : List (List Nat × Nat)) (d : Addr) : Prop where
  ex : ∃ es n, KDict K w d es n ∧ Ents es.toList L
section
variable {K : PySem.W.Frag} {w : World} {L : List (List Nat × Nat)} {d : Addr} {X : Cx}
theorem DictD.get (D : DictD K w L d) (z : List Nat) : match L.find? (fun p => decide (p.1 = z)) with
    | some p => ∃ t, PySem.W.nsIn K d (tx z) = some (some (.int (p.2 : Nat) t))
    | none => PySem.W.nsIn K d (tx z) = some none := by
  obtain ⟨es, n, kd, en⟩ := D.ex
  have h := Ents.find (z := z) en
  cases hf : L.find? (fun p => decide (p.1 = z)) with
  | some p =>
    rw [hf] at h
    obtain ⟨e, t, h1, h2⟩ := h
    refine ⟨t, ?_⟩
    unfold PySem.W.nsIn
    rw [kd.at_]
    show (match es.toList.find? (·.key.isStr (tx z)) with | some e => some (some e.val) | none => _) = _
    rw [h1]
    show some (some e.val) = _
    rw [h2]
  | none =>
    rw [hf] at h
    unfold PySem.W.nsIn
    rw [kd.at_]
    show (match es.toList.find? (·.key.isStr (tx z)) with | some e => some (some e.val) | none => if es.toList.any (·.refKey) then none else some none) = _
    rw [h.1]
    show (if es.toList.any (·.refKey) then none else some none) = _
    rw [h.2]
    rfl
/-- x in D -/
def rInC (L : List (List Nat × Nat)) (d : Addr) : R2 := fun x y H Q => ∃ z, x = .str (tx z) ∧ y = .ref d ∧ Q (.bl (L.find? (fun p => decide (p.1 = z))).isSome) H
theorem op_inC (D : DictD X.K X.w L d) : OpR X (compareOp .In) (rInC L d) := by
  intro pins s σ H x y v u Q I rx ry h
  obtain ⟨z, rfl, rfl, q⟩ := h
  have g := D.get z
  obtain ⟨es, n, kd, en⟩ := D.ex
  cases hf : L.find? (fun p => decide (p.1 = z)) with
  | some p =>
    rw [hf] at g q
    obtain ⟨tk, g⟩ := g
    exact op_in_kd kd pins s σ H _ _ v u Q I rx ry ⟨tx z, _, rfl, rfl, g, q⟩
  | none =>
    rw [hf] at g q
    exact op_in_kd kd pins s σ H _ _ v u Q I rx ry ⟨tx z, _, rfl, rfl, g, q⟩
theorem DictD.item (D : DictD K w L d) {z : List Nat} {p : List Nat × Nat} (hf : L.find? (fun p => decide (p.1 = z)) = some p) : KDct K w d (tx z) (.int (p.2 : Nat)) := by
  have g := D.get z
  rw [hf] at g
  obtain ⟨tk, g⟩ := g
  obtain ⟨es, n, kd, en⟩ := D.ex
  exact ⟨es, n, _, kd.at_, kd.lit, g, tk, rfl⟩
end
theorem spAr_isSome (z : List Nat) : (specials.find? (fun p => decide (p.1 = z))).isSome = (spAr z).isSome := by
  unfold spAr
  cases specials.find? (fun p => decide (p.1 = z)) <;> rfl
/-! ### texts -/
theorem lit_f : ("f" : Str) = tx [102] := by decide +kernel
theorem sw_f (x : List Nat) : Txt.startswith (tx x) (tx [102]) = decide (x.head? = some 102) := by
  unfold Txt.startswith
  rw [PySem.StrLaws.subAt_eq, tx_list, tx_list, tx_len, tx_len]
  cases x with
  | nil => rfl
  | cons c r =>
    rw [List.drop_zero]
    show (decide (0 + 1 ≤ (c :: r).length) && (List.take 1 (c :: r) == [102])) = _
    have h : decide (0 + 1 ≤ (c :: r).length) = true := decide_eq_true (by rw [List.length_cons]; omega)
    rw [h, Bool.true_and]
    show ([c] == [102]) = decide (some c = some 102)
    by_cases e : c = 102
    · subst e; rfl
    · rw [decide_eq_false (fun z => e (Option.some.inj z))]
      exact beq_eq_false_iff_ne.mpr fun z => e (List.cons.inj z).1
theorem isdigit_iff {x : List Nat} (h : ∀ c ∈ x, c < 128) : Txt.isdigit (tx x) = true ↔ x ≠ [] ∧ AllDigits x := by
  unfold Txt.isdigit
  rw [tx_len, ← Array.all_toList]
  show (decide (x.length > 0) && x.all Unicode.isDigit) = true ↔ _
  rw [Bool.and_eq_true, decide_eq_true_eq, List.all_eq_true]
  have d : ∀ c, c < 128 → Unicode.isDigit c = decide (48 ≤ c ∧ c ≤ 57) := by decide +kernel
  constructor
  · rintro ⟨h1, h2⟩
    refine ⟨by intro e; rw [e] at h1; exact absurd h1 (by decide), fun c m => ?_⟩
    have := h2 c m
    rw [d c (h c m)] at this
    exact of_decide_eq_true this
  · rintro ⟨h1, h2⟩
    refine ⟨List.length_pos_iff.mpr h1, fun c m => ?_⟩
    rw [d c (h c m)]
    exact decide_eq_true (h2 c m)
end Og

namespace Og
open PySem PySem.Spec PyProof.Rows L2
def topS (i : Nat) : Stmt := PySem.Challenge.pw_ownglass_k05_inputs_names_and_errors.main.body.getD i (.Pass ⟨0, 0, 0, 0⟩)
abbrev s_check_program : Stmt := topS 8
abbrev n_check_program : List Str := ["value", "called", "earlier_names", "number", "function"]
abbrev p_check_program : List Str := ["value"]
theorem sc_check_program : FnScope n_check_program p_check_program (defScope s_check_program) := ⟨rfl, rfl, rfl, by decide +kernel, rfl, by decide +kernel, by decide +kernel⟩
abbrev s_inputs_of : Stmt := topS 9
abbrev n_inputs_of : List Str := ["program"]
abbrev p_inputs_of : List Str := ["program"]
theorem sc_inputs_of : FnScope n_inputs_of p_inputs_of (defScope s_inputs_of) := ⟨rfl, rfl, rfl, by decide +kernel, rfl, by decide +kernel, by decide +kernel⟩
abbrev s_names_of : Stmt := topS 10
abbrev n_names_of : List Str := ["program", "function"]
abbrev p_names_of : List Str := ["program"]
theorem sc_names_of : FnScope n_names_of p_names_of (defScope s_names_of) := ⟨rfl, rfl, rfl, by decide +kernel, rfl, by decide +kernel, by decide +kernel⟩
abbrev s_called_functions : Stmt := topS 11
abbrev n_called_functions : List Str := ["program", "called", "item"]
abbrev p_called_functions : List Str := ["program"]
theorem sc_called_functions : FnScope n_called_functions p_called_functions (defScope s_called_functions) := ⟨rfl, rfl, rfl, by decide +kernel, rfl, by decide +kernel, by decide +kernel⟩
abbrev s_looks_like_function : Stmt := topS 12
abbrev n_looks_like_function : List Str := ["item"]
abbrev p_looks_like_function : List Str := ["item"]
theorem sc_looks_like_function : FnScope n_looks_like_function p_looks_like_function (defScope s_looks_like_function) := ⟨rfl, rfl, rfl, by decide +kernel, rfl, by decide +kernel, by decide +kernel⟩
abbrev s_is_good_function : Stmt := topS 13
abbrev n_is_good_function : List Str := ["function", "called", "many_items", "name", "parameters", "body"]
abbrev p_is_good_function : List Str := ["function", "called", "many_items"]
theorem sc_is_good_function : FnScope n_is_good_function p_is_good_function (defScope s_is_good_function) := ⟨rfl, rfl, rfl, by decide +kernel, rfl, by decide +kernel, by decide +kernel⟩
abbrev s_is_good_name : Stmt := topS 14
abbrev n_is_good_name : List Str := ["name", "many_items", "digits", "number"]
abbrev p_is_good_name : List Str := ["name", "many_items"]
theorem sc_is_good_name : FnScope n_is_good_name p_is_good_name (defScope s_is_good_name) := ⟨rfl, rfl, rfl, by decide +kernel, rfl, by decide +kernel, by decide +kernel⟩
abbrev s_are_good_parameters : Stmt := topS 15
abbrev n_are_good_parameters : List Str := ["parameters", "earlier", "parameter"]
abbrev p_are_good_parameters : List Str := ["parameters"]
theorem sc_are_good_parameters : FnScope n_are_good_parameters p_are_good_parameters (defScope s_are_good_parameters) := ⟨rfl, rfl, rfl, by decide +kernel, rfl, by decide +kernel, by decide +kernel⟩
abbrev s_is_good_body : Stmt := topS 16
abbrev n_is_good_body : List Str := ["body", "parameters", "called", "waiting", "part"]
abbrev p_is_good_body : List Str := ["body", "parameters", "called"]
theorem sc_is_good_body : FnScope n_is_good_body p_is_good_body (defScope s_is_good_body) := ⟨rfl, rfl, rfl, by decide +kernel, rfl, by decide +kernel, by decide +kernel⟩
abbrev s_has_right_parts : Stmt := topS 17
abbrev n_has_right_parts : List Str := ["expression", "called", "word", "many_parts"]
abbrev p_has_right_parts : List Str := ["expression", "called"]
theorem sc_has_right_parts : FnScope n_has_right_parts p_has_right_parts (defScope s_has_right_parts) := ⟨rfl, rfl, rfl, by decide +kernel, rfl, by decide +kernel, by decide +kernel⟩
abbrev s_fill : Stmt := topS 20
abbrev n_fill : List Str := ["program", "value", "many_inputs"]
abbrev p_fill : List Str := ["program", "value"]
theorem sc_fill : FnScope n_fill p_fill (defScope s_fill) := ⟨rfl, rfl, rfl, by decide +kernel, rfl, by decide +kernel, by decide +kernel⟩
abbrev s_made_name : Stmt := topS 21
abbrev n_made_name : List Str := ["number"]
abbrev p_made_name : List Str := ["number"]
theorem sc_made_name : FnScope n_made_name p_made_name (defScope s_made_name) := ⟨rfl, rfl, rfl, by decide +kernel, rfl, by decide +kernel, by decide +kernel⟩
abbrev s_made_parameters : Stmt := topS 22
abbrev n_made_parameters : List Str := ["count", "number"]
abbrev p_made_parameters : List Str := ["count"]
theorem sc_made_parameters : FnScope n_made_parameters p_made_parameters (defScope s_made_parameters) := ⟨rfl, rfl, rfl, by decide +kernel, rfl, by decide +kernel, by decide +kernel⟩
abbrev s_filled : Stmt := topS 23
abbrev n_filled : List Str := ["program", "value", "parameters", "body"]
abbrev p_filled : List Str := ["program", "value"]
theorem sc_filled : FnScope n_filled p_filled (defScope s_filled) := ⟨rfl, rfl, rfl, by decide +kernel, rfl, by decide +kernel, by decide +kernel⟩
abbrev s_with_front : Stmt := topS 24
abbrev n_with_front : List Str := ["functions", "parameters", "body"]
abbrev p_with_front : List Str := ["functions", "parameters", "body"]
theorem sc_with_front : FnScope n_with_front p_with_front (defScope s_with_front) := ⟨rfl, rfl, rfl, by decide +kernel, rfl, by decide +kernel, by decide +kernel⟩
abbrev s_law_draws : Stmt := topS 26
abbrev n_law_draws : List Str := ["script", "many", "rests", "cell", "draws", "k", "at", "mixed"]
abbrev p_law_draws : List Str := ["script", "many"]
theorem sc_law_draws : FnScope n_law_draws p_law_draws (defScope s_law_draws) := ⟨rfl, rfl, rfl, by decide +kernel, rfl, by decide +kernel, by decide +kernel⟩
abbrev s_law_take : Stmt := topS 27
abbrev n_law_take : List Str := ["hand", "many", "at", "draws"]
abbrev p_law_take : List Str := ["hand", "many"]
theorem sc_law_take : FnScope n_law_take p_law_take (defScope s_law_take) := ⟨rfl, rfl, rfl, by decide +kernel, rfl, by decide +kernel, by decide +kernel⟩
abbrev s_law_value : Stmt := topS 28
abbrev n_law_value : List Str := ["hand", "depth", "k"]
abbrev p_law_value : List Str := ["hand", "depth"]
theorem sc_law_value : FnScope n_law_value p_law_value (defScope s_law_value) := ⟨rfl, rfl, rfl, by decide +kernel, rfl, by decide +kernel, by decide +kernel⟩
abbrev s_law_expression : Stmt := topS 29
abbrev n_law_expression : List Str := ["hand", "parameters", "calls", "depth", "kind", "parts", "k", "left", "name", "many"]
abbrev p_law_expression : List Str := ["hand", "parameters", "calls", "depth"]
theorem sc_law_expression : FnScope n_law_expression p_law_expression (defScope s_law_expression) := ⟨rfl, rfl, rfl, by decide +kernel, rfl, by decide +kernel, by decide +kernel⟩
abbrev s_law_library : Stmt := topS 30
abbrev n_law_library : List Str := ["has", "within", "put", "turn"]
abbrev p_law_library : List Str := []
theorem sc_law_library : FnScope n_law_library p_law_library (defScope s_law_library) := ⟨rfl, rfl, rfl, by decide +kernel, rfl, by decide +kernel, by decide +kernel⟩
abbrev s_law_program : Stmt := topS 31
abbrev n_law_program : List Str := ["hand", "inputs", "more", "calls", "one", "functions", "k", "name", "parameters", "main"]
abbrev p_law_program : List Str := ["hand", "inputs"]
theorem sc_law_program : FnScope n_law_program p_law_program (defScope s_law_program) := ⟨rfl, rfl, rfl, by decide +kernel, rfl, by decide +kernel, by decide +kernel⟩
abbrev s_law_many : Stmt := topS 32
abbrev n_law_many : List Str := ["program", "name", "one"]
abbrev p_law_many : List Str := ["program", "name"]
theorem sc_law_many : FnScope n_law_many p_law_many (defScope s_law_many) := ⟨rfl, rfl, rfl, by decide +kernel, rfl, by decide +kernel, by decide +kernel⟩
abbrev s_law_special : Stmt := topS 33
abbrev n_law_special : List Str := []
abbrev p_law_special : List Str := []
theorem sc_law_special : FnScope n_law_special p_law_special (defScope s_law_special) := ⟨rfl, rfl, rfl, by decide +kernel, rfl, by decide +kernel, by decide +kernel⟩
abbrev s_law_expression_good : Stmt := topS 34
abbrev n_law_expression_good : List Str := ["program", "parameters", "body", "todo", "step", "one", "parts", "many"]
abbrev p_law_expression_good : List Str := ["program", "parameters", "body"]
theorem sc_law_expression_good : FnScope n_law_expression_good p_law_expression_good (defScope s_law_expression_good) := ⟨rfl, rfl, rfl, by decide +kernel, rfl, by decide +kernel, by decide +kernel⟩
abbrev s_law_name_good : Stmt := topS 35
abbrev n_law_name_good : List Str := ["program", "at", "name", "one", "digits", "sign"]
abbrev p_law_name_good : List Str := ["program", "at"]
theorem sc_law_name_good : FnScope n_law_name_good p_law_name_good (defScope s_law_name_good) := ⟨rfl, rfl, rfl, by decide +kernel, rfl, by decide +kernel, by decide +kernel⟩
abbrev s_law_function_good : Stmt := topS 36
abbrev n_law_function_good : List Str := ["program", "at", "one", "k"]
abbrev p_law_function_good : List Str := ["program", "at"]
theorem sc_law_function_good : FnScope n_law_function_good p_law_function_good (defScope s_law_function_good) := ⟨rfl, rfl, rfl, by decide +kernel, rfl, by decide +kernel, by decide +kernel⟩
abbrev s_law_bad_function : Stmt := topS 37
abbrev n_law_bad_function : List Str := ["program", "at"]
abbrev p_law_bad_function : List Str := ["program"]
theorem sc_law_bad_function : FnScope n_law_bad_function p_law_bad_function (defScope s_law_bad_function) := ⟨rfl, rfl, rfl, by decide +kernel, rfl, by decide +kernel, by decide +kernel⟩
abbrev s_law_told : Stmt := topS 38
abbrev n_law_told : List Str := ["which", "value", "e"]
abbrev p_law_told : List Str := ["which", "value"]
theorem sc_law_told : FnScope n_law_told p_law_told (defScope s_law_told) := ⟨rfl, rfl, rfl, by decide +kernel, rfl, by decide +kernel, by decide +kernel⟩
abbrev s_law_is_right : Stmt := topS 39
abbrev n_law_is_right : List Str := ["program", "many", "due", "one", "step", "found"]
abbrev p_law_is_right : List Str := ["program"]
theorem sc_law_is_right : FnScope n_law_is_right p_law_is_right (defScope s_law_is_right) := ⟨rfl, rfl, rfl, by decide +kernel, rfl, by decide +kernel, by decide +kernel⟩
abbrev s_law_errors_right : Stmt := topS 40
abbrev n_law_errors_right : List Str := ["place", "errors", "e", "kinds", "one"]
abbrev p_law_errors_right : List Str := ["place"]
theorem sc_law_errors_right : FnScope n_law_errors_right p_law_errors_right (defScope s_law_errors_right) := ⟨rfl, rfl, rfl, by decide +kernel, rfl, by decide +kernel, by decide +kernel⟩
abbrev s_law : Stmt := topS 41
abbrev n_law : List Str := ["script", "hand", "program", "letters", "many", "small", "k", "names", "named", "name", "at", "parameters", "body", "bad", "bent", "due", "one", "told", "which", "found"]
abbrev p_law : List Str := ["script"]
theorem sc_law : FnScope n_law p_law (defScope s_law) := ⟨rfl, rfl, rfl, by decide +kernel, rfl, by decide +kernel, by decide +kernel⟩
abbrev s_BadText_init : Stmt := inClass (topS 2) 0
abbrev n_BadText_init : List Str := ["self", "place"]
abbrev p_BadText_init : List Str := ["self", "place"]
theorem sc_BadText_init : FnScope n_BadText_init p_BadText_init (defScope s_BadText_init) := ⟨rfl, rfl, rfl, by decide +kernel, rfl, by decide +kernel, by decide +kernel⟩
abbrev s_BadProgram_init : Stmt := inClass (topS 3) 0
abbrev n_BadProgram_init : List Str := ["self", "function"]
abbrev p_BadProgram_init : List Str := ["self", "function"]
theorem sc_BadProgram_init : FnScope n_BadProgram_init p_BadProgram_init (defScope s_BadProgram_init) := ⟨rfl, rfl, rfl, by decide +kernel, rfl, by decide +kernel, by decide +kernel⟩
/-- the constants of the module -/
structure Mc (mg : Str → Option Value) : Prop where
  MOST_PARAMETERS : ∃ t, mg "MOST_PARAMETERS" = some (.int 12 t)
  MOST_INPUTS : ∃ t, mg "MOST_INPUTS" = some (.int 8 t)
/-- the names of built-ins that no row of the program gives another meaning -/
structure Bn (mg : Str → Option Value) : Prop where
  len : mg "len" = none
  range : mg "range" = none
  int : mg "int" = none
  abs : mg "abs" = none
  str : mg "str" = none
  tuple : mg "tuple" = none
  list : mg "list" = none
  bool : mg "bool" = none
  isinstance : mg "isinstance" = none
  ValueError : mg "ValueError" = none
  enumerate : mg "enumerate" = none
  set : mg "set" = none
/-- what law(script) promises: for a list of at most 63 ints the answer is True -/
def spLaw (K : PySem.W.Frag) : Sp := fun vs H Q _ => ∃ (a : Addr) (ns : List Int), vs = [.ref a] ∧ SqL K H a (ns.map V.int) ∧ ns.length ≤ 63 ∧ ∀ H', Q (.bl true) H'
end Og

namespace Og
open PySem PySem.Spec PyProof.Rows L2
section
variable {P : Program} {w : World} {K : PySem.W.Frag} {mg : Str → Option Value} {base : Heap}
def spDraws (K : PySem.W.Frag) : Sp := fun vs H Q _ => ∃ (a : Addr) (ns : List Int) (m : Nat), vs = [.ref a, .int m] ∧ SqL K H a (ns.map V.int) ∧ ns.length ≤ 63 ∧ m ≤ 100000 ∧
  ∀ (p : Addr) (ds : List Int) (H' : Hp), Keep [] H H' → H p = none → H' p = some (.lst (ds.map V.int)) → ds.length = m → Q (.ref p) H'
theorem has_draws {k : Nat} (D : DefAt K mg "_law_draws" s_law_draws p_law_draws) (B : Bn mg) : Has P w K mg base (k + 1) "_law_draws" p_law_draws (spDraws K) := by
  obtain ⟨f, fd, F, hm, hb⟩ := D.ex
  refine ⟨f, fd, F.ok sc_law_draws (fun vs H Q E h => ?_) (fun cdv A outer s H vs Q E hr h => ?_), hm, F.kp, hb⟩
  · obtain ⟨a, ns, m, rfl, _⟩ := h
    rfl
  obtain ⟨a, ns, m, rfl, hS, h63, hm1, q⟩ := h
  refine ⟨_, (pss_cons (ps_setLc (i := 2) (own := [("cell", 3)]) (g := gName 3) (tt := tYes) rfl sc_law_draws.nd rfl rfl (sw_true rfl rfl rfl (by decide +kernel)) (pi_list (pv 0)) (blkOk_by (N := n_law_draws) (sc := defScope s_law_draws) (by decide +kernel)) (fun _ _ _ _ _ => pg_name (i := 3) sc_law_draws.nd rfl (Or.inl rfl)) (fun _ _ _ _ _ => pts_nil) (fun _ _ _ _ _ => (pe_callB call_abs (by rfl) B.abs (by decide +kernel) (pa_cons (pe_callTy call_int1 (by rfl) B.int (by decide +kernel) (pa_cons (pv 3) pa_nil)) pa_nil))))
    (pss_cons (ps_set (i := 4) sc_law_draws.nd rfl (.inl rfl) (pe_lst pa_nil))
    (pss_cons (ps_for PassesOwn.never rfl (pi_range1 (by rfl) B.range (pa_cons (pv 1) pa_nil)) (pg_name (i := 5) sc_law_draws.nd rfl (.inl rfl))
      (pss_cons (ps_set (i := 3) sc_law_draws.nd rfl (.inl rfl) (pv 5))
      (C8.pss_cut (ps_if (pt_cmpR op_gt (pe_callB call_len_seq (by rfl) B.len PySem.boot_len (pa_cons (pv 0) pa_nil)) pe_int (nomark _)) (pss_cons (ps_set (i := 6) sc_law_draws.nd rfl (.inl rfl) (pe_op op_mod (pv 5) (pe_callB call_len_seq (by rfl) B.len PySem.boot_len (pa_cons (pv 0) pa_nil))))
        (pss_cons (ps_set (i := 3) sc_law_draws.nd rfl (.inl rfl) (pe_callTy call_int1 (by rfl) B.int (by decide +kernel) (pa_cons (pe_ix ix_list (pv 0) (pv 6) (fun _ _ => rfl)) pa_nil)))
        (pss_one (ps_if (PW.pt (pw_and (pt_cmpR op_ge (pv 3) (pe_op op_pow pe_int pe_int) (nomark _)) (pw_and1 (pt_cmpR op_gt (pe_ix ix_list (pv 2) (pv 6) (fun _ _ => rfl)) pe_int (nomark _))))) (pss_cons (ps_expr (pe_bm PySem.F.plainAttrs_list PySem.F.slot_list_append PySem.F.type_list_append mt_append (pv 4) (pa_cons (pe_op op_mod (pe_callTy call_int1 (by rfl) B.int (by decide +kernel) (pa_cons (pe_ix ix_list (pv 2) (pv 6) (fun _ _ => rfl)) pa_nil)) pe_int) pa_nil)))
          (pss_cons (ps_asg (pe_op op_fdiv (pe_callTy call_int1 (by rfl) B.int (by decide +kernel) (pa_cons (pe_ix ix_list (pv 2) (pv 6) (fun _ _ => rfl)) pa_nil)) pe_int) (pg_sub (pv 2) (pv 6) set_list))
          (pss_one ps_continue))) pss_nil)))) pss_nil)
      (pss_cons (ps_set (i := 7) sc_law_draws.nd rfl (.inl rfl) (pe_op op_mod (pe_callTy call_int1 (by rfl) B.int (by decide +kernel) (pa_cons (pe_op op_add (pe_op op_add (pe_op op_mul (pv 3) pe_int) (pe_op op_mul (pv 5) pe_int)) pe_int) pa_nil)) pe_int))
      (pss_cons (ps_set (i := 7) sc_law_draws.nd rfl (.inl rfl) (pe_op op_mod (pe_callTy call_int1 (by rfl) B.int (by decide +kernel) (pa_cons (pe_op op_add (pe_op op_fdiv (pe_op op_mul (pv 7) (pv 7)) pe_int) (pv 7)) pa_nil)) pe_int))
      (pss_one (ps_expr (pe_bm PySem.F.plainAttrs_list PySem.F.slot_list_append PySem.F.type_list_append mt_append (pv 4) (pa_cons (pe_op op_mod (pe_callTy call_int1 (by rfl) B.int (by decide +kernel) (pa_cons (pe_op op_add (pe_op op_fdiv (pe_op op_mul (pv 7) (pv 7)) pe_int) (pe_op op_mul (pv 5) pe_int)) pa_nil)) pe_int) pa_nil)))))))))
    (pss_one (ps_ret (pv 4)))))), ?_⟩
  -- rests
  refine ⟨_, rfl, a, rfl, ⟨_, hS⟩, fun r nr => ?_⟩
  refine lc_list (K := K) (a := a) (xs := ns.map V.int) (fun i H' => Keep [] H H' ∧ ∃ rs : List Int, rs.length = i ∧ H' r = some (.lst (rs.map V.int))) ⟨Keep.new nr, [], rfl, upd_same⟩ (fun i H' _ p => p.1.sqL (by simp) hS) (fun i x H1 hx p => ?_) (fun H1 p => ?_)
  · obtain ⟨n, rfl, hn⟩ := map_int_get hx
    obtain ⟨k1, rs, e1, e2⟩ := p
    have hi : i < ns.length := (List.getElem?_eq_some_iff.mp hn).1
    refine ⟨rfl, yes ?_⟩
    refine ⟨_, rfl, .inl ⟨_, rfl, _, rfl, _, e2, ?_, ?_⟩⟩
    · rw [List.length_map]
      exact sizeLt (by omega)
    · refine ⟨(k1.cons.setT e2 (List.mem_cons_self ..)).drop nr, rs ++ [if n < 0 then -n else n], (by rw [List.length_append, e1]; rfl), ?_⟩
      rw [upd_same, map_int_app]
  -- draws
  obtain ⟨k1, rs, e1, e2⟩ := p
  rw [List.length_map] at e1
  refine ⟨Nat.zero_le _, fun d nd => ?_⟩
  have k2 : Keep [] H (upd H1 d (.lst [])) := k1.newT nd
  have drn : d ≠ r := (ne_of_none e2 nd).symm
  have nd0 : H d = none := k1.free nd
  have nr0 : H r = none := nr
  refine ⟨_, rfl, (m : Int), rfl, by omega, by omega, ?_⟩
  refine for_range (lo := 0) (n := (m : Int).toNat) (fun i σ H' => ∃ y3 y5 y6 y7, σ = [some (.ref a), some (.int m), some (.ref r), y3, some (.ref d), y5, y6, y7] ∧ Keep [] H H' ∧ (∃ rs : List Int, rs.length = ns.length ∧ H' r = some (.lst (rs.map V.int))) ∧ ∃ ds : List Int, ds.length = i ∧ H' d = some (.lst (ds.map V.int)))
    ⟨_, _, _, _, rfl, k2, ⟨rs, e1, by rw [upd_ne drn.symm]; exact e2⟩, [], rfl, upd_same⟩ (fun i σ H2 hi p => ?_) (fun σ H2 p => ?_)
  · obtain ⟨y3, y5, y6, y7, rfl, k3, ⟨rs, e3, e4⟩, ds, e5, e6⟩ := p
    have sL : SqL K H2 a (ns.map V.int) := k3.sqL (by simp) hS
    have dsz : (ds.map V.int).length < sizeLine := by rw [List.length_map]; exact sizeLt (by omega)
    -- cell = k
    refine ⟨_, rfl, ?_⟩
    refine ⟨fun σ' H' => H' = H2 ∧ ∃ (cell : Int) (y6 y7 : Option V), σ' = [some (.ref a), some (.int m), some (.ref r), some (.int cell), some (.ref d), some (.int (0 + i)), y6, y7], ?_, fun σ' H' hmid => ?_⟩
    refine ⟨_, rfl, _, _, rfl, .inl sL, _, _, rfl, rfl, _, rfl, ?_⟩
    refine ite2 (fun c => ?_) (fun c => ?_)
    · have c0 : (0 : Int) < ((ns.map V.int).length : Nat) := of_decide_eq_true c
      rw [List.length_map] at c0
      have at0 : 0 ≤ (0 + (i : Int)) % (ns.length : Int) := Int.emod_nonneg _ (by omega)
      have at1 : (0 + (i : Int)) % (ns.length : Int) < (ns.length : Int) := Int.emod_lt_of_pos _ c0
      obtain ⟨x, hx⟩ := atI_int (ns := ns) at0 at1
      obtain ⟨y, hy⟩ := atI_int (ns := rs) at0 (by rw [e3]; exact at1)
      refine ⟨_, rfl, _, rfl, _, _, rfl, .inl sL, _, _, rfl, rfl, (by show (0 : Int) < _; rw [List.length_map]; exact c0), ?_⟩
      rw [List.length_map]
      refine ⟨_, rfl, _, rfl, _, _, _, _, rfl, rfl, sL, hx, .inl ⟨_, rfl, ?_⟩⟩
      refine ⟨_, rfl, _, _, rfl, rfl, ⟨by decide, by decide, by decide⟩, _, _, rfl, rfl, _, rfl, ?_⟩
      refine ite2 (fun c1 => ?_) (fun c1 => ?_)
      · refine ⟨_, rfl, _, rfl, _, _, _, _, rfl, rfl, SqL.of e4, hy, _, _, rfl, rfl, _, rfl, ?_⟩
        refine ite2 (fun c2 => ?_) (fun c2 => ?_)
        · -- draws.append(..), rests[at] = .., continue
          refine ⟨_, rfl, .inl ⟨rfl, _, SqL.of e6⟩, _, rfl, _, rfl, _, _, _, _, rfl, rfl, SqL.of e4, hy, .inl ⟨_, rfl, _, _, rfl, rfl, by show (0 : Int) < 1000003; decide, _, _, _, rfl, rfl, e6, dsz, ?_⟩⟩
          have e4' : (upd H2 d (.lst (ds.map V.int ++ [.int (y % 1000003)]))) r = some (.lst (rs.map V.int)) := by rw [upd_ne drn.symm]; exact e4
          refine ⟨_, rfl, _, rfl, _, _, _, _, rfl, rfl, SqL.of e4', hy, .inl ⟨_, rfl, _, _, rfl, rfl, ⟨by decide, by decide⟩, _, rfl, _, rfl, _, _, _, _, rfl, rfl, e4', ixN_int at0 (by rw [List.length_map, e3]; exact at1), ?_⟩⟩
          refine ⟨_, _, _, _, rfl, ?_, ⟨rs.set ((0 + (i : Int)) % (ns.length : Int)).toNat (y / 1000003), by rw [List.length_set]; exact e3, by rw [upd_same, map_int_set]⟩, ds ++ [y % 1000003], by rw [List.length_append, e5]; rfl, by rw [upd_ne drn, upd_same, map_int_app]⟩
          exact (((k3.cons (p := d)).setT e6 (List.mem_cons_self ..)).cons (p := r)).setT e4' (List.mem_cons_self ..) |>.drop nr0 |>.drop nd0
        · exact ⟨rfl, _, _, _, rfl⟩
      · exact ⟨rfl, _, _, _, rfl⟩
    · exact ⟨rfl, _, _, _, rfl⟩
    · obtain ⟨rfl, cell, y6, y7, rfl⟩ := hmid
      have big : ∀ z : Int, 0 ≤ z % 2147483647 ∧ z % 2147483647 < 2147483647 := fun z => ⟨Int.emod_nonneg _ (by decide), Int.emod_lt_of_pos _ (by decide)⟩
      have big2 : ∀ z : Int, 0 ≤ z % 2147483629 ∧ z % 2147483629 < 2147483629 := fun z => ⟨Int.emod_nonneg _ (by decide), Int.emod_lt_of_pos _ (by decide)⟩
      refine ⟨_, rfl, _, _, rfl, rfl, .inr ⟨by decide, by decide⟩, _, rfl, _, _, rfl, rfl, .inr ⟨by decide, by decide⟩, _, _, rfl, rfl, _, _, rfl, rfl, .inl ⟨_, rfl, _, _, rfl, rfl, by show (0 : Int) < 2147483647; decide, ?_⟩⟩
      generalize e1 : (cell * 48271 + (0 + (i : Int)) * 69621 + 11) % 2147483647 = m1
      have b1 := big (cell * 48271 + (0 + (i : Int)) * 69621 + 11)
      rw [e1] at b1
      refine ⟨_, rfl, _, rfl, _, _, rfl, rfl, .inl ⟨by omega, by omega⟩, _, _, rfl, rfl, ⟨by decide, by decide⟩, _, rfl, _, _, rfl, rfl, .inl ⟨_, rfl, _, _, rfl, rfl, by show (0 : Int) < 2147483629; decide, ?_⟩⟩
      generalize e2 : (m1 * m1 / 4096 + m1) % 2147483629 = m2
      have b2 := big2 (m1 * m1 / 4096 + m1)
      rw [e2] at b2
      refine ⟨_, rfl, .inl ⟨rfl, _, SqL.of e6⟩, _, rfl, _, rfl, _, _, rfl, rfl, .inl ⟨by omega, by omega⟩, _, _, rfl, rfl, ⟨by decide, by decide⟩, _, rfl, _, _, rfl, rfl, .inr ⟨by decide, by decide⟩, _, _, rfl, rfl, .inl ⟨_, rfl, _, _, rfl, rfl, by show (0 : Int) < 2147483629; decide, _, _, _, rfl, rfl, e6, dsz, ?_⟩⟩
      exact ⟨_, _, _, _, rfl, (k3.cons.setT e6 (List.mem_cons_self ..)).drop nd0, ⟨rs, e3, by rw [upd_ne drn.symm]; exact e4⟩, ds ++ [_], by rw [List.length_append, e5]; rfl, by rw [upd_same, map_int_app]⟩
  · obtain ⟨y3, y5, y6, y7, rfl, k3, _, ds, e5, e6⟩ := p
    refine ⟨_, rfl, ?_⟩
    exact q d ds H2 k3 nd0 e6 (by omega)
end
end Og

namespace Og
open PySem PySem.Spec PyProof.Rows L2
section
variable {P : Program} {w : World} {K : PySem.W.Frag} {mg : Str → Option Value} {base : Heap}
def spTake : Sp := fun vs H Q _ => ∃ (h d : Addr) (m : Int), vs = [.ref h, .int m] ∧ Hd H h d ∧ 0 < m ∧
  ∀ (i : Int) (H' : Hp), 0 ≤ i → i < m → Keep [h] H H' → Hd H' h d → Q (.int i) H'
theorem has_take {k : Nat} (D : DefAt K mg "_law_take" s_law_take p_law_take) (B : Bn mg) : Has P w K mg base (k + 1) "_law_take" p_law_take spTake := by
  obtain ⟨f, fd, F, hm, hb⟩ := D.ex
  refine ⟨f, fd, F.ok sc_law_take (fun vs H Q E h => ?_) (fun cdv A outer s H vs Q E hr h => ?_), hm, F.kp, hb⟩
  · obtain ⟨a, d, m, rfl, _⟩ := h
    rfl
  obtain ⟨a, d, m, rfl, hd, hm1, q⟩ := h
  refine ⟨_, (pss_cons (ps_set (i := 2) sc_law_take.nd rfl (.inl rfl) (pe_ix ix_list (pv 0) pe_int (fun _ _ => rfl)))
    (pss_cons (ps_asg (pe_op op_add (pv 2) pe_int) (pg_sub (pv 0) pe_int set_list))
    (pss_cons (ps_set (i := 3) sc_law_take.nd rfl (.inl rfl) (pe_ix ix_list (pv 0) pe_int (fun _ _ => rfl)))
    (pss_cons (ps_if (pt_cmpR op_ge (pv 2) (pe_callB call_len_seq (by rfl) B.len PySem.boot_len (pa_cons (pv 3) pa_nil)) (nomark _)) (pss_one (ps_ret pe_int)) pss_nil)
    (pss_one (ps_ret (pe_op op_mod (pe_op op_fdiv (pe_callTy call_int1 (by rfl) B.int (by decide +kernel) (pa_cons (pe_ix ix_list (pv 3) (pv 2) (fun _ _ => rfl)) pa_nil)) pe_int) (pv 1)))))))), ?_⟩
  obtain ⟨n, ds, e1, e2, l⟩ := id hd
  refine ⟨_, rfl, _, _, _, _, rfl, rfl, SqL.of e1, rfl, ?_⟩
  refine ⟨_, rfl, _, _, rfl, rfl, _, rfl, _, _, _, _, rfl, rfl, e1, rfl, ?_⟩
  have e3 : (upd H a (.lst [.ref d, .int ((n : Int) + 1)])) a = some (.lst [.ref d, .int ((n : Int) + 1)]) := upd_same
  have e4 : (upd H a (.lst [.ref d, .int ((n : Int) + 1)])) d = some (.lst (ds.map V.int)) := by rw [upd_ne hd.ne]; exact e2
  have k1 : Keep [a] H (upd H a (.lst [.ref d, .int ((n : Int) + 1)])) := Keep.set e1 (List.mem_cons_self ..)
  have hd2 : Hd (upd H a (.lst [.ref d, .int ((n : Int) + 1)])) a d := ⟨n + 1, ds, upd_same, e4, l⟩
  refine ⟨_, rfl, _, _, _, _, rfl, rfl, SqL.of e3, rfl, ?_⟩
  refine ⟨_, rfl, _, rfl, _, _, rfl, .inl (SqL.of e4), _, _, rfl, rfl, _, rfl, ?_⟩
  refine ite2 (fun c => ?_) (fun c => ?_)
  · exact q 0 _ (by omega) hm1 k1 hd2
  · have c' : ¬ (((ds.map V.int).length : Nat) : Int) ≤ (n : Int) := of_decide_eq_false (Bool.eq_false_iff.mpr c)
    rw [List.length_map] at c'
    obtain ⟨x, hx⟩ := atI_int (ns := ds) (z := (n : Int)) (by omega) (by omega)
    refine ⟨_, rfl, _, rfl, _, _, _, _, rfl, rfl, SqL.of e4, hx, .inl ⟨_, rfl, _, _, rfl, rfl, ⟨by decide, by decide⟩, _, rfl, _, _, rfl, rfl, hm1, ?_⟩⟩
    exact q _ _ (Int.emod_nonneg _ (by omega)) (Int.emod_lt_of_pos _ hm1) k1 hd2
end
end Og

namespace Og
open PySem PySem.Spec PyProof.Rows L2
section
variable {P : Program} {w : World} {K : PySem.W.Frag} {mg : Str → Option Value} {base : Heap}
theorem str_len_app (a b : Str) : (a ++ b).length = a.length + b.length := by
  show (a.cps ++ b.cps).size = a.cps.size + b.cps.size
  simp
theorem num_fits {i : Int} (h : i.natAbs < 10 ^ 9) : (toString i : String).length ≤ 10 ∧ i.natAbs.log2 < 1920 := by
  refine ⟨int_text_length_le10 (by decide) h, ?_⟩
  have : i.natAbs.log2 ≤ i.natAbs.log2 := Nat.le_refl _
  by_cases hz : i.natAbs = 0
  · rw [hz]; decide
  · exact Nat.lt_trans ((Nat.log2_lt hz).mpr (show i.natAbs < 2 ^ 30 from Nat.lt_trans h (by decide))) (by decide)
theorem ok_BadProgram' {C G fI : Addr} {fd : FuncData} (T : ErrT K mg "BadProgram" "BadProgram.__init__" "function" s_BadProgram_init C G fI fd) : FnOk P w K mg base CX0 1 fI fd ["self", "function"] (spErr K "function") := by
  refine T.fn.ok sc_BadProgram_init (fun vs H Q E h => ?_) (fun cdv A outer s H vs Q E hr h => ?_)
  · obtain ⟨_, _, _, rfl, _⟩ := h
    rfl
  obtain ⟨a, C', i, rfl, ox, no, hi, ea, q⟩ := h
  refine ⟨_, pss_cons (ps_expr (pe_clsinit rfl T.gG T.rd T.sg T.vV (pa_cons (pv 0) (pa_cons (pe_joined (.cons pe_str (.cons (pe_fmt (pv 1)) (.cons pe_str .nil)))) pa_nil)))) (pss_one (ps_ost (pv 0) (pv 1))), ?_⟩
  have nf := num_fits hi
  have l1 : (Str.ofString (toString i)).length ≤ 10 := by rw [PySem.ofString_length]; exact nf.1
  have l0 : (Str.empty ++ Str.ofString "function ").length ≤ 100 := by decide +kernel
  have l2 : (Str.ofString " of the program is not good").length ≤ 100 := by decide +kernel
  refine ⟨_, rfl, _, rfl, ?_, _, rfl, .inr ⟨i, rfl, nf.2, _, rfl, ?_, _, rfl, ?_, ?_⟩⟩
  · exact Nat.le_trans l0 (by decide)
  · rw [str_len_app]
    exact Nat.le_trans (show _ ≤ 1000 by omega) (by decide)
  · rw [str_len_app, str_len_app]
    exact Nat.le_trans (show _ ≤ 1000 by omega) (by decide)
  · refine ⟨a, C', _, rfl, by show 1 ≤ 1000; decide, ox, ea, ?_⟩
    exact ⟨_, rfl, _, rfl, a, C', rfl, ox, no, .inl ⟨ea, fun dx hd ne => q dx hd ne⟩⟩
end
end Og

namespace Og
open PySem PySem.Spec PyProof.Rows L2
/-- a small letter; a letter or a digit -/
def Letter (c : Nat) : Prop := 97 ≤ c ∧ c ≤ 122
def Sign (c : Nat) : Prop := (97 ≤ c ∧ c ≤ 122) ∨ (48 ≤ c ∧ c ≤ 57)
/-- a word of the document -/
def IsWord (x : List Nat) : Prop := ∃ c cs, x = c :: cs ∧ Letter c ∧ (∀ y ∈ cs, Sign y) ∧ cs.length ≤ 11
theorem IsWord.ne {x : List Nat} (h : IsWord x) : x ≠ [] := by
  obtain ⟨c, cs, rfl, _⟩ := h
  simp
theorem IsWord.len {x : List Nat} (h : IsWord x) : x.length ≤ 12 := by
  obtain ⟨c, cs, rfl, _, _, l⟩ := h
  rw [List.length_cons]
  omega
theorem lit_letters : ("abcdefghijklmnopqrstuvwxyz" : Str) = tx ((List.range 26).map (· + 97)) := by decide +kernel
theorem lit_digits : ("0123456789" : Str) = tx ((List.range 10).map (· + 48)) := by decide +kernel
theorem letters_at {z : Int} (h0 : 0 ≤ z) (h : z < 26) : ∃ c, atI ((List.range 26).map (· + 97)) z = some c ∧ Letter c := by
  obtain ⟨x, h1, h2⟩ := atI_of (xs := (List.range 26).map (· + 97)) h0 (by simpa using h)
  refine ⟨x, h1, ?_⟩
  have m := List.mem_of_getElem? h2
  obtain ⟨y, hy, rfl⟩ := List.mem_map.mp m
  have := List.mem_range.mp hy
  exact ⟨by omega, by omega⟩
theorem signs_at {z : Int} (h0 : 0 ≤ z) (h : z < 36) : ∃ c, atI ((List.range 26).map (· + 97) ++ (List.range 10).map (· + 48)) z = some c ∧ Sign c := by
  obtain ⟨x, h1, h2⟩ := atI_of (xs := (List.range 26).map (· + 97) ++ (List.range 10).map (· + 48)) h0 (by simpa using h)
  refine ⟨x, h1, ?_⟩
  have m := List.mem_of_getElem? h2
  rcases List.mem_append.mp m with m | m
  · obtain ⟨y, hy, rfl⟩ := List.mem_map.mp m
    have := List.mem_range.mp hy
    exact .inl ⟨by omega, by omega⟩
  · obtain ⟨y, hy, rfl⟩ := List.mem_map.mp m
    have := List.mem_range.mp hy
    exact .inr ⟨by omega, by omega⟩
theorem four {j : Int} (h0 : 0 ≤ j) (h : j < 4) : j = 0 ∨ j = 1 ∨ j = 2 ∨ j = 3 := by omega
end Og

namespace Og
open PySem PySem.Spec PyProof.Rows L2
/-! ### drawn trees -/
mutual
def WT : Tree → Prop
  | .w x => IsWord x
  | .l ts => WTs ts
def WTs : List Tree → Prop
  | [] => True
  | t :: ts => WT t ∧ WTs ts
end
mutual
def Tree.size : Tree → Nat
  | .w _ => 1
  | .l ts => sizes ts + 1
def sizes : List Tree → Nat
  | [] => 0
  | t :: ts => t.size + sizes ts
end
theorem wt_w {x : List Nat} (h : IsWord x) : WT (.w x) := by rw [WT]; exact h
theorem wt_l {ts : List Tree} (h : WTs ts) : WT (.l ts) := by rw [WT]; exact h
theorem WT.word {x : List Nat} (h : WT (.w x)) : IsWord x := by rw [WT] at h; exact h
theorem WT.list {ts : List Tree} (h : WT (.l ts)) : WTs ts := by rw [WT] at h; exact h
theorem wts_nil : WTs [] := by rw [WTs]; trivial
theorem wts_cons {t : Tree} {ts : List Tree} (h : WT t) (r : WTs ts) : WTs (t :: ts) := by rw [WTs]; exact ⟨h, r⟩
theorem WTs.head {t : Tree} {ts : List Tree} (h : WTs (t :: ts)) : WT t := by rw [WTs] at h; exact h.1
theorem WTs.tail {t : Tree} {ts : List Tree} (h : WTs (t :: ts)) : WTs ts := by rw [WTs] at h; exact h.2
theorem WTs.app : ∀ {ts us : List Tree}, WTs ts → WTs us → WTs (ts ++ us)
  | [], us, _, g => g
  | t :: ts, us, h, g => wts_cons h.head (WTs.app h.tail g)
theorem WTs.all : ∀ {ts : List Tree}, WTs ts → ∀ t ∈ ts, WT t
  | [], _, t, m => absurd m (List.not_mem_nil)
  | u :: ts, h, t, m => by
    rcases List.mem_cons.mp m with e | m
    · rw [e]; exact h.head
    · exact WTs.all h.tail t m
theorem WTs.of : ∀ {ts : List Tree}, (∀ t ∈ ts, WT t) → WTs ts
  | [], _ => wts_nil
  | u :: ts, h => wts_cons (h u (List.mem_cons_self ..)) (WTs.of fun t m => h t (List.mem_cons_of_mem _ m))
theorem size_w (x : List Nat) : (Tree.w x).size = 1 := by rw [Tree.size]
theorem size_l (ts : List Tree) : (Tree.l ts).size = sizes ts + 1 := by rw [Tree.size]
theorem sizes_nil : sizes [] = 0 := by rw [sizes]
theorem sizes_cons (t : Tree) (ts : List Tree) : sizes (t :: ts) = t.size + sizes ts := by rw [sizes]
theorem sizes_app : ∀ (ts us : List Tree), sizes (ts ++ us) = sizes ts + sizes us
  | [], us => by rw [List.nil_append, sizes_nil, Nat.zero_add]
  | t :: ts, us => by rw [List.cons_append, sizes_cons, sizes_cons, sizes_app ts us, Nat.add_assoc]
theorem size_pos : ∀ t : Tree, 0 < t.size
  | .w x => by rw [size_w]; omega
  | .l ts => by rw [size_l]; omega
theorem len_sizes : ∀ ts : List Tree, ts.length ≤ sizes ts
  | [] => by rw [sizes_nil]; exact Nat.le_refl _
  | t :: ts => by
    have h := len_sizes ts
    have h2 := size_pos t
    rw [sizes_cons, List.length_cons]
    omega
theorem sizes_take : ∀ (ts : List Tree) (n : Nat), sizes (ts.take n) ≤ sizes ts
  | ts, 0 => by rw [List.take_zero, sizes_nil]; omega
  | [], n + 1 => by rw [List.take_nil]; omega
  | t :: ts, n + 1 => by
    rw [List.take_succ_cons, sizes_cons, sizes_cons]
    have := sizes_take ts n
    omega
theorem sizes_drop : ∀ (ts : List Tree) (n : Nat), sizes (ts.drop n) ≤ sizes ts
  | ts, 0 => by rw [List.drop_zero]; omega
  | [], n + 1 => by rw [List.drop_nil]; omega
  | t :: ts, n + 1 => by
    rw [List.drop_succ_cons, sizes_cons]
    have := sizes_drop ts n
    omega
theorem size_of_get {ts : List Tree} {i : Nat} {t : Tree} (h : ts[i]? = some t) : t.size ≤ sizes ts := by
  induction ts generalizing i with
  | nil => simp at h
  | cons u r ih =>
    rw [sizes_cons]
    cases i with
    | zero =>
      have e : u = t := Option.some.inj h
      rw [e]
      omega
    | succ j =>
      have := ih (i := j) h
      omega
/-- how many parts a drawn value has at most -/
def Most : Nat → Nat
  | 0 => 1
  | n + 1 => 1 + 11 * Most n
/-- nested at most n deep -/
def Deep : Nat → Tree → Prop
  | _, .w _ => True
  | 0, .l _ => False
  | n + 1, .l ts => ∀ t ∈ ts, Deep n t
theorem deep_w (n : Nat) (x : List Nat) : Deep n (.w x) := by cases n <;> trivial
theorem Deep.mono : ∀ {m n : Nat} {t : Tree}, m ≤ n → Deep m t → Deep n t
  | _, n, .w x, _, _ => deep_w n x
  | 0, _, .l _, _, h => h.elim
  | m + 1, 0, .l _, l, _ => absurd l (by omega)
  | m + 1, n + 1, .l ts, l, h => fun t q => Deep.mono (Nat.le_of_succ_le_succ l) (h t q)
def Drawn (n : Nat) (t : Tree) : Prop := WT t ∧ t.size ≤ Most n ∧ Deep n t
theorem Most.le (n : Nat) : Most n ≤ Most (n + 1) := by rw [show Most (n + 1) = 1 + 11 * Most n from rfl]; omega
theorem Most.mono {m n : Nat} (h : m ≤ n) : Most m ≤ Most n := by
  induction h with
  | refl => exact Nat.le_refl _
  | step _ ih => exact Nat.le_trans ih (Most.le _)
theorem most_pos (n : Nat) : 1 ≤ Most n := by
  have := Most.mono (Nat.zero_le n)
  exact this
theorem sizes_le {ts : List Tree} {b : Nat} (h : ∀ t ∈ ts, t.size ≤ b) : sizes ts ≤ ts.length * b := by
  induction ts with
  | nil => rw [sizes_nil]; omega
  | cons t r ih =>
    have h1 := h t (List.mem_cons_self ..)
    have h2 := ih fun u m => h u (List.mem_cons_of_mem _ m)
    rw [sizes_cons, List.length_cons, Nat.add_mul]
    omega
theorem sizes_split : ∀ {ts : List Tree} {n : Nat} {t : Tree}, ts[n]? = some t → sizes (ts.take n) + t.size + sizes (ts.drop (n + 1)) = sizes ts
  | [], n, t, h => by simp at h
  | u :: r, 0, t, h => by
    have e : u = t := Option.some.inj h
    subst e
    rw [List.take_zero, sizes_nil, sizes_cons, List.drop_succ_cons, List.drop_zero]
    omega
  | u :: r, n + 1, t, h => by
    have ih := sizes_split (ts := r) (n := n) (t := t) h
    rw [List.take_succ_cons, sizes_cons, sizes_cons, List.drop_succ_cons]
    omega
theorem sizes_two (ts : List Tree) (n : Nat) : sizes (ts.take n) + sizes (ts.drop n) = sizes ts := by
  have h := sizes_app (ts.take n) (ts.drop n)
  rw [List.take_append_drop] at h
  exact h.symm
theorem cutS_len2 (z : Str) (lo hi : Option Int) : (cutS z lo hi).length ≤ z.length := by
  unfold cutS
  show (List.toArray _).size ≤ _
  rw [List.size_toArray, List.length_take, List.length_drop]
  have e : z.cps.toList.length = z.length := by show z.cps.toList.length = z.cps.size; simp
  omega
end Og

namespace Og
open PySem PySem.Spec PyProof.Rows L2
theorem dT {i j : Int} (h : i = j) : decide (V.int i = V.int j) = true := by rw [h]; simp
theorem dF {i j : Int} (h : i ≠ j) : decide (V.int i = V.int j) = false := decide_eq_false fun e => h (V.int.inj e)
theorem nT {i j : Int} (h : i ≠ j) : (!decide (V.int i = V.int j)) = true := by rw [dF h]; rfl
theorem nF {i j : Int} (h : i = j) : (!decide (V.int i = V.int j)) = false := by rw [dT h]; rfl
theorem sT {a b : List Nat} (h : a = b) : decide (V.str (tx a) = V.str (tx b)) = true := by rw [h]; simp
theorem sF {a b : List Nat} (h : a ≠ b) : decide (V.str (tx a) = V.str (tx b)) = false := decide_eq_false fun e => h (tx_str e)
theorem nsT {a b : List Nat} (h : a ≠ b) : (!decide (V.str (tx a) = V.str (tx b))) = true := by rw [sF h]; rfl
theorem nsF {a b : List Nat} (h : a = b) : (!decide (V.str (tx a) = V.str (tx b))) = false := by rw [sT h]; rfl
theorem three_of {α : Type} {xs : List α} (h : xs.length = 3) : ∃ a b c, xs = [a, b, c] := by
  match xs, h with
  | [a, b, c], _ => exact ⟨a, b, c, rfl⟩
theorem Trs.three {K : PySem.W.Frag} {H : Hp} {vs : List V} {a b c : Tree} (h : Trs K H vs [a, b, c]) : ∃ x y z, vs = [x, y, z] ∧ Tr K H x a ∧ Tr K H y b ∧ Tr K H z c := by
  obtain ⟨x, r, rfl, h1, h2⟩ := h.cons
  obtain ⟨y, r, rfl, h3, h4⟩ := h2.cons
  obtain ⟨z, r, rfl, h5, h6⟩ := h4.cons
  rw [h6.nil]
  exact ⟨x, y, z, rfl, h1, h3, h5⟩
theorem Keep.updNew {S : List Addr} {H H1 : Hp} {p : Addr} {o : HO} (a : Keep S H H1) (h : H p = none) : Keep S H (upd H1 p o) := fun b u e => by
  have ne : b ≠ p := fun q => by rw [q, h] at e; cases e
  rw [upd_ne ne]
  exact a b u e
end Og
namespace Og
open PySem PySem.Spec PyProof.Rows L2
section
variable {X : Cx} {k : Nat} {x : Str} {f : Addr} {fd : FuncData} {ps : List Str} {sp : Sp} {p pos : Pos}
theorem cal0 (C : Callee X.prog X.w X.K X.mg X.base CX0 k x f fd ps sp) (hr : Room k X.A) (hg : Gl X x := by rfl) (hdb : (x == ("__debug__" : Str)) = false := by decide) : PE X (.Call (.Name x p) [] [] pos) (tCall sp [] E0 tNil) :=
  pe_call0 C.ok hr hg C.mg C.kp C.bi .nil pass0 hdb
end
/-- a loop over the signs of a text -/
theorem for_str {z : Str} {g : TG} {tb : TS} {D : Ends} {σ : L2.St} {H : Hp} (Pv : Nat → L2.St → Hp → Prop) (h0 : Pv 0 σ H)
    (hs : ∀ (i : Nat) (c : Nat) (σ : L2.St) (H : Hp), z.cps.toList[i]? = some c → Pv i σ H → g (.str ⟨#[c]⟩) σ H fun σ2 H2 => tb { D with nx := Pv (i + 1), ct := Pv (i + 1), bk := D.nx } σ2 H2) (hd : ∀ σ H, Pv z.cps.toList.length σ H → D.nx σ H) :
    ∃ W : Nat → Nat → L2.St → Hp → Prop, (∃ m, W 0 m σ H) ∧ ∀ i m σ H, W i m σ H →
      ((Its z).stop i H ∧ D.nx σ H) ∨ ((Its z).go i H ∧ ∃ N : L2.St → Hp → Prop, (∀ σ' H', N σ' H' → ∃ m', m' < m ∧ W (i + 1) m' σ' H') ∧ ∀ v H', (Its z).yld i H v H' → g v σ H' fun σ2 H2 => tb { D with nx := N, ct := N, bk := D.nx } σ2 H2) := by
  refine ⟨fun i m σ H => m = z.cps.toList.length - i ∧ i ≤ z.cps.toList.length ∧ Pv i σ H, ⟨z.cps.toList.length, rfl, Nat.zero_le _, h0⟩, ?_⟩
  rintro i m σ H ⟨rfl, hi, p⟩
  by_cases hlt : i < z.cps.toList.length
  · have hx : z.cps.toList[i]? = some z.cps.toList[i] := List.getElem?_eq_getElem hlt
    refine .inr ⟨?_, Pv (i + 1), fun σ' H' p' => ⟨z.cps.toList.length - (i + 1), by omega, rfl, hlt, p'⟩, fun v H' y => ?_⟩
    · show i < z.cps.size
      simpa using hlt
    · obtain ⟨rfl, c, hc, rfl⟩ := y
      exact hs i c σ _ (by rw [Array.getElem?_toList]; exact hc) p
  · have e : i = z.cps.toList.length := by omega
    subst e
    exact .inl ⟨by show z.cps.size ≤ _; simp, hd σ H p⟩
end Og
namespace Og
open PySem PySem.Spec PyProof.Rows L2
/-- len of a list or tuple -/
def rLenK (K : PySem.W.Frag) : List V → Hp → VK → Prop := fun xs H Q => ∃ p ys, xs = [V.ref p] ∧ (SqL K H p ys ∨ SqT K H p ys) ∧ Q (.int (ys.length : Nat)) H
end Og

namespace Og
open PySem PySem.Spec PyProof.Rows L2
open PySem.NumText (AllDigits digitsVal)
theorem isi_strV {K : PySem.W.Frag} {H : Hp} {v : V} {t : Tree} (h : Tr K H v t) : ∃ ty u, ClsV (.ty "str") u ∧ TyX K H v ty ∧ PySem.W.kitOne K ty u = some t.isW := isi_str h
section
variable {P : Program} {w : World} {K : PySem.W.Frag} {mg : Str → Option Value} {base : Heap}
/-! ### _looks_like_function -/
def spLooks (K : PySem.W.Frag) : Sp := fun vs H Q _ => ∃ (v : V) (t : Tree), vs = [v] ∧ Tr K H v t ∧ ∀ b : Bool, (b = true ↔ ∃ n ps bd, t = .l [.w n, .l ps, bd]) → Q (.bl b) H
theorem has_looks {k : Nat} (D : DefAt K mg "_looks_like_function" s_looks_like_function p_looks_like_function) (B : Bn mg) : Has P w K mg base (k + 1) "_looks_like_function" p_looks_like_function (spLooks K) := by
  obtain ⟨f, fd, F, hm, hb⟩ := D.ex
  refine ⟨f, fd, F.ok sc_looks_like_function (fun vs H Q E h => ?_) (fun cdv A outer s H vs Q E hr h => ?_), hm, F.kp, hb⟩
  · obtain ⟨_, _, rfl, _⟩ := h
    rfl
  obtain ⟨v, t, rfl, tv, q⟩ := h
  refine ⟨_, (pss_cons (ps_if (PW.pt (pw_or (pt_not (pt_val (pe_callB call_isi (by rfl) B.isinstance (by decide +kernel) (pa_cons (pv 0) (pa_cons (pe_bltn (v := .ty "tuple") rfl B.tuple (by decide +kernel) rfl) pa_nil))))) (pw_or1 (pt_cmpR op_ne (pe_callB call_len_seq (by rfl) B.len PySem.boot_len (pa_cons (pv 0) pa_nil)) pe_int (nomark _))))) (pss_one (ps_ret pe_bl)) pss_nil)
    (pss_one (ps_ret (pe_and (pe_callB call_isi (by rfl) B.isinstance (by decide +kernel) (pa_cons (pe_ix ix_tup (pv 0) pe_int (fun _ _ => rfl)) (pa_cons (pe_bltn (v := .ty "str") rfl B.str (by decide +kernel) rfl) pa_nil))) (pe_one (pe_callB call_isi (by rfl) B.isinstance (by decide +kernel) (pa_cons (pe_ix ix_tup (pv 0) pe_int (fun _ _ => rfl)) (pa_cons (pe_bltn (v := .ty "tuple") rfl B.tuple (by decide +kernel) rfl) pa_nil)))))))), ?_⟩
  obtain ⟨ty, u, q1, q2, q3⟩ := isi_tup tv
  refine ⟨_, rfl, _, _, ty, u, _, rfl, q1, q2, q3, _, rfl, ?_⟩
  cases t with
  | w x => exact iteT (iteT (q false ⟨fun h => (by cases h), fun ⟨_, _, _, h⟩ => (by cases h)⟩))
  | l ts =>
    refine iteF ?_
    obtain ⟨a, vs, rfl, hS, r⟩ := tv.list
    have lv := r.length
    refine ⟨_, rfl, a, vs, rfl, .inr hS, rfl, _, rfl, ?_⟩
    by_cases l3 : ts.length = 3
    · rw [nF (by rw [lv, l3]; rfl)]
      refine iteF ?_
      obtain ⟨t0, t1, t2, rfl⟩ := three_of l3
      obtain ⟨x, y, z, rfl, r0, r1, r2⟩ := r.three
      obtain ⟨ty0, u0, p1, p2, p3⟩ := isi_str r0
      refine ⟨_, rfl, a, _, _, x, rfl, rfl, hS, rfl, _, _, ty0, u0, _, rfl, p1, p2, p3, _, rfl, ?_⟩
      cases t0 with
      | l us =>
        refine iteF ?_
        exact q false ⟨fun h => (by cases h), fun ⟨_, _, _, h⟩ => (by have := (List.cons.inj (Tree.l.inj h)).1; cases this)⟩
      | w n =>
        refine iteT ?_
        obtain ⟨ty1, u1, w1, w2, w3⟩ := isi_tup r1
        refine ⟨_, rfl, a, _, _, y, rfl, rfl, hS, rfl, _, _, ty1, u1, _, rfl, w1, w2, w3, ?_⟩
        cases t1 with
        | w m => exact q _ ⟨fun h => (by cases h), fun ⟨_, _, _, h⟩ => (by have := (List.cons.inj (List.cons.inj (Tree.l.inj h)).2).1; cases this)⟩
        | l ps => exact q _ ⟨fun _ => ⟨n, ps, t2, rfl⟩, fun _ => rfl⟩
    · rw [nT (by rw [lv]; intro e; exact l3 (by omega))]
      refine iteT ?_
      refine q false ⟨fun h => (by cases h), fun ⟨n, ps, bd, h⟩ => absurd (by rw [Tree.l.inj h]; rfl) l3⟩
end
end Og

namespace Og
open PySem PySem.Spec PyProof.Rows L2
open PySem.NumText (AllDigits digitsVal)
section
variable {P : Program} {w : World} {K : PySem.W.Frag} {mg : Str → Option Value} {base : Heap}
/-! ### _is_good_name -/
def Ascii (x : List Nat) : Prop := ∀ c ∈ x, c < 128
def spGName : Sp := fun vs H Q _ => ∃ (x : List Nat) (n : Nat), vs = [.str (tx x), .int n] ∧ Ascii x ∧ x ≠ [] ∧ x.length ≤ 12 ∧ ∀ b : Bool, (b = true ↔ GoodName n x) → Q (.bl b) H
theorem has_gname {k : Nat} {d_SPECIAL_WORDS : Addr} (m_SPECIAL_WORDS : mg "SPECIAL_WORDS" = some (.ref d_SPECIAL_WORDS)) (D_SPECIAL_WORDS : DictD K w specials d_SPECIAL_WORDS) (D : DefAt K mg "_is_good_name" s_is_good_name p_is_good_name) (B : Bn mg) : Has P w K mg base (k + 1) "_is_good_name" p_is_good_name spGName := by
  obtain ⟨f, fd, F, hm, hb⟩ := D.ex
  refine ⟨f, fd, F.ok sc_is_good_name (fun vs H Q E h => ?_) (fun cdv A outer s H vs Q E hr h => ?_), hm, F.kp, hb⟩
  · obtain ⟨_, _, rfl, _⟩ := h
    rfl
  obtain ⟨x, n, rfl, asc, ne, len, q⟩ := h
  refine ⟨_, (pss_cons (ps_if (pt_cmpR (op_inC D_SPECIAL_WORDS) (pv 0) (pe_glob (v := .ref d_SPECIAL_WORDS) rfl m_SPECIAL_WORDS rfl) (by rfl)) (pss_one (ps_ret pe_bl)) pss_nil)
    (pss_cons (ps_set (i := 2) sc_is_good_name.nd rfl (.inl rfl) (pe_slice sl_str (pv 0) (po_some pe_int) po_none))
    (pss_cons (ps_if (PW.pt (pw_or (pt_not (pt_val (pe_m1 PySem.F.slot_str_startswith PySem.F.type_str_startswith mt_startswith (pv 0) pe_str))) (pw_or1 (pt_not (pt_val (pe_m0 PySem.F.slot_str_isdigit PySem.F.type_str_isdigit mt_isdigit (pv 2))))))) (pss_one (ps_ret pe_bl)) pss_nil)
    (pss_cons (ps_set (i := 3) sc_is_good_name.nd rfl (.inl rfl) (pe_callTy call_int_str (by rfl) B.int (by decide +kernel) (pa_cons (pv 2) pa_nil)))
    (pss_one (ps_ret (pe_and (pe_cmpR op_eq (pv 2) (pe_callTy call_str_int (by rfl) B.str (by decide +kernel) (pa_cons (pv 3) pa_nil)) (nomark _)) (pe_one (pe_cmpR op_lt (pv 3) (pv 1) (nomark _)))))))))), ?_⟩
  refine ⟨_, rfl, x, rfl, rfl, _, rfl, ?_⟩
  rw [spAr_isSome]
  cases hs : spAr x with
  | some k0 => exact iteT (q false ⟨fun h => (by cases h), fun h => (by have := h.1; rw [hs] at this; cases this)⟩)
  | none =>
  refine iteF ?_
  have l1 : 1 ≤ x.length := List.length_pos_iff.mpr ne
  have e1 := cutS_from x (i := 1) l1
  refine ⟨_, rfl, _, rfl, _, rfl, by rw [tx_len]; exact sizeL (by omega), ?_⟩
  rw [show (some (1 : Int)) = some ((1 : Nat) : Int) from rfl, e1]
  have yes : (∀ ds, x = 102 :: ds → ds ≠ [] → AllDigits ds → False) → Q (.bl true) H := fun h => q true ⟨fun _ => ⟨hs, fun ds e1 e2 e3 => (h ds e1 e2 e3).elim⟩, fun _ => rfl⟩
  refine ⟨_, rfl, ⟨_, rfl⟩, _, _, rfl, rfl, _, rfl, ?_⟩
  rw [lit_f, sw_f]
  by_cases hf : x.head? = some 102
  rotate_left
  · rw [decide_eq_false hf]
    exact iteT (iteT (yes fun ds e _ _ => hf (by rw [e]; rfl)))
  rw [decide_eq_true hf]
  obtain ⟨ds, rfl⟩ : ∃ ds, x = 102 :: ds := by
    cases x with
    | nil => cases hf
    | cons c r => exact ⟨r, by rw [Option.some.inj hf]⟩
  have asc2 : ∀ c ∈ ds, c < 128 := fun c m => asc c (List.mem_cons_of_mem _ m)
  refine iteF ?_
  refine ⟨_, rfl, ⟨_, rfl⟩, _, rfl, rfl, trivial, _, rfl, ?_⟩
  rw [show List.drop 1 (102 :: ds) = ds from rfl]
  cases hd : Txt.isdigit (tx ds) with
  | false =>
    refine iteT (yes fun ds' e h1 h2 => ?_)
    have := (List.cons.inj e).2
    subst this
    rw [(isdigit_iff asc2).mpr ⟨h1, h2⟩] at hd
    cases hd
  | true =>
    obtain ⟨dn, da⟩ := (isdigit_iff asc2).mp hd
    have dl : ds.length ≤ 11 := by rw [List.length_cons] at len; omega
    have dv : digitsVal ds < 10 ^ 11 := Nat.lt_of_lt_of_le (digitsVal_lt _ ds rfl da) (Nat.pow_le_pow_right (by decide) dl)
    refine iteF ?_
    refine ⟨_, rfl, tx ds, ((digitsVal ds : Nat) : Int), rfl, intText_digits da dn (by rw [tx_len]; omega), by rw [tx_len]; omega, ?_⟩
    have gn : GoodName n (102 :: ds) ↔ (ds = [48] ∨ ds.head? ≠ some 48) ∧ digitsVal ds < n := by
      constructor
      · intro h
        exact h.2 ds rfl dn da
      · intro h
        refine ⟨hs, fun ds' e _ _ => ?_⟩
        have := (List.cons.inj e).2
        subst this
        exact h
    refine ⟨_, rfl, _, rfl, _, rfl, ?_, rfl, _, rfl, ?_⟩
    · rw [Int.natAbs_natCast]
      by_cases z : digitsVal ds = 0
      · rw [z]; decide
      · exact Nat.lt_trans ((Nat.log2_lt z).mpr (show digitsVal ds < 2 ^ 40 from Nat.lt_trans dv (by decide))) (by decide)
    by_cases hz : ds = [48] ∨ ds.head? ≠ some 48
    · rw [(str_digits da dn).mpr hz, sT rfl]
      refine iteT ⟨_, rfl, _, rfl, _, _, rfl, rfl, q _ ?_⟩
      rw [gn, decide_eq_true_eq]
      constructor
      · intro h
        exact ⟨hz, by omega⟩
      · intro h
        have := h.2
        omega
    · have : ¬ V.str (tx ds) = V.str (Str.ofString (toString ((digitsVal ds : Nat) : Int))) := fun e => hz ((str_digits da dn).mp (V.str.inj e).symm)
      rw [decide_eq_false this]
      exact iteF (q false ⟨fun h => (by cases h), fun h => absurd (gn.mp h).1 hz⟩)
end
end Og

namespace Og
open PySem PySem.Spec PyProof.Rows L2
open PySem.NumText (AllDigits digitsVal)
/-- the dict of what can be called -/
def CallD (H : Hp) (cd : Addr) (fs : List Tree) : Prop := ∃ kvs : List (L2.Key × V), H cd = some (.dK kvs) ∧ ∀ x : List Nat, valV kvs (Sum.inr (tx x)) = (arity fs x).map fun k => V.int (k : Nat)
theorem CallD.keep {S : List Addr} {H H1 : Hp} {cd : Addr} {fs : List Tree} (h : CallD H cd fs) (k : Keep S H H1) : CallD H1 cd fs := by
  obtain ⟨kvs, e, r⟩ := h
  refine ⟨kvs, ?_, r⟩
  rcases k cd _ e with q | ⟨_, _, _, q, _⟩
  · exact q
  · cases q
theorem tru_tup {K : PySem.W.Frag} {H : Hp} {p : Addr} {xs : List V} (h : SqT K H p xs) : TruV K (.ref p) H (!xs.isEmpty) := .inr (.inl ⟨xs, h, rfl⟩)
section
variable {P : Program} {w : World} {K : PySem.W.Frag} {mg : Str → Option Value} {base : Heap}
/-! ### _are_good_parameters -/
def spGPs (K : PySem.W.Frag) : Sp := fun vs H Q _ => ∃ (v : V) (ps : List Tree), vs = [v] ∧ Tr K H v (.l ps) ∧ ∀ (b : Bool) (H' : Hp), (b = true ↔ GoodPs ps) → Keep [] H H' → Q (.bl b) H'
theorem has_gps {k : Nat} {d_SPECIAL_WORDS : Addr} (m_SPECIAL_WORDS : mg "SPECIAL_WORDS" = some (.ref d_SPECIAL_WORDS)) (D_SPECIAL_WORDS : DictD K w specials d_SPECIAL_WORDS) (D : DefAt K mg "_are_good_parameters" s_are_good_parameters p_are_good_parameters) (B : Bn mg) (M : Mc mg) : Has P w K mg base (k + 1) "_are_good_parameters" p_are_good_parameters (spGPs K) := by
  obtain ⟨f, fd, F, hm, hb⟩ := D.ex
  obtain ⟨_, M_MOST_PARAMETERS⟩ := M.MOST_PARAMETERS
  refine ⟨f, fd, F.ok sc_are_good_parameters (fun vs H Q E h => ?_) (fun cdv A outer s H vs Q E hr h => ?_), hm, F.kp, hb⟩
  · obtain ⟨_, _, rfl, _⟩ := h
    rfl
  obtain ⟨v, ps, rfl, tv, q⟩ := h
  refine ⟨_, (pss_cons (ps_if (pt_cmpR op_gt (pe_callB call_len_seq (by rfl) B.len PySem.boot_len (pa_cons (pv 0) pa_nil)) (pe_glob (v := .int 12) rfl M_MOST_PARAMETERS ⟨_, rfl⟩) (nomark _)) (pss_one (ps_ret pe_bl)) pss_nil)
    (pss_cons (ps_set (i := 1) sc_are_good_parameters.nd rfl (.inl rfl) (pe_callTy0 cr_set0K (by rfl) B.set (by decide +kernel)))
    (pss_cons (ps_for PassesOwn.never rfl (pi_tup (pv 0)) (pg_name (i := 2) sc_are_good_parameters.nd rfl (.inl rfl))
      (pss_cons (ps_if (PW.pt (pw_or (pt_not (pt_val (pe_callB call_isi (by rfl) B.isinstance (by decide +kernel) (pa_cons (pv 2) (pa_cons (pe_bltn (v := .ty "str") rfl B.str (by decide +kernel) rfl) pa_nil))))) (pw_or (pt_cmpR (op_inC D_SPECIAL_WORDS) (pv 2) (pe_glob (v := .ref d_SPECIAL_WORDS) rfl m_SPECIAL_WORDS rfl) (by rfl)) (pw_or1 (pt_cmpR or_sinK (pv 2) (pv 1) (by rfl)))))) (pss_one (ps_ret pe_bl)) pss_nil)
      (pss_one (ps_expr (pe_saddK (pv 1) (pa_cons (pv 2) pa_nil))))))
    (pss_one (ps_ret pe_bl))))), ?_⟩
  obtain ⟨a, vs, rfl, hS, r⟩ := tv.list
  have lv := r.length
  refine ⟨_, rfl, a, vs, rfl, .inr hS, _, _, rfl, rfl, _, rfl, ?_⟩
  by_cases hl : ps.length ≤ 12
  rotate_left
  · rw [decide_eq_true (show (12 : Int) < ((vs.length : Nat) : Int) by omega)]
    exact iteT (q false H ⟨fun h => (by cases h), fun h => absurd h.1 hl⟩ Keep.refl)
  rw [decide_eq_false (show ¬ (12 : Int) < ((vs.length : Nat) : Int) by omega)]
  refine iteF ?_
  refine ⟨rfl, fun e ne => ?_⟩
  refine ⟨_, rfl, a, rfl, ⟨_, (Keep.new (S := []) ne).sqT hS⟩, ?_⟩
  refine for_tup (K := K) (a := a) (xs := vs) (fun i σ H' => ∃ (y2 : Option V) (S : L2.Key → Bool) (n : Nat), σ = [some (.ref a), some (.ref e), y2] ∧ Keep [] H H' ∧ H' e = some (SetK P w e S n) ∧ n ≤ i ∧
      (∀ x : List Nat, S (Sum.inr (tx x)) = true ↔ ∃ j, j < i ∧ ps[j]? = some (.w x)) ∧ ∀ (j : Nat) (t : Tree), j < i → ps[j]? = some t → ∃ x, t = .w x ∧ spAr x = none ∧ ∀ j', j' < j → ps[j']? ≠ some (.w x))
    ⟨none, _, 0, rfl, Keep.new ne, upd_same, Nat.le_refl _, fun x => ⟨fun h => (by cases h), fun ⟨j, h, _⟩ => absurd h (Nat.not_lt_zero _)⟩, fun j t h => absurd h (Nat.not_lt_zero _)⟩ (fun i σ H' _ pw => ?_) (fun i z σ H1 hz pw => ?_) (fun σ H1 pw => ?_)
  · obtain ⟨_, _, _, _, k1, _⟩ := pw
    exact k1.sqT hS
  · obtain ⟨y2, S, n, rfl, k1, eS, ni, hS1, good⟩ := pw
    have il : i < vs.length := (List.getElem?_eq_some_iff.mp hz).1
    have hg : ps[i]? = some ps[i] := List.getElem?_eq_getElem (by omega)
    obtain ⟨z', hz', tz⟩ := r.get hg
    rw [hz] at hz'
    cases hz'
    generalize ht : ps[i] = t at hg tz
    have tz1 := tz.keep k1
    have no : (¬ ∃ x, t = .w x ∧ spAr x = none ∧ ∀ j', j' < i → ps[j']? ≠ some (.w x)) → Q (.bl false) H1 := fun h => q false H1 ⟨fun h => (by cases h), fun g => absurd (g.2 i t hg) h⟩ k1
    obtain ⟨ty, u, q1, q2, q3⟩ := isi_str tz1
    refine ⟨_, rfl, _, _, ty, u, _, rfl, q1, q2, q3, _, rfl, ?_⟩
    cases t with
    | l us => exact iteT (iteT (no fun ⟨x, e, _⟩ => (by cases e)))
    | w x =>
      refine iteF ?_
      have ez := tz1.word
      subst ez
      refine ⟨_, rfl, x, rfl, rfl, _, rfl, ?_⟩
      rw [spAr_isSome]
      cases hs : spAr x with
      | some k0 => exact iteT (iteT (no fun ⟨x', e, h, _⟩ => (by have := Tree.w.inj e; subst this; rw [hs] at h; cases h)))
      | none =>
        refine iteF ?_
        refine ⟨_, rfl, _, rfl, Sum.inr (tx x), e, S, n, rfl, rfl, eS, S (Sum.inr (tx x)), rfl, ?_⟩
        cases hk : S (Sum.inr (tx x)) with
        | true =>
          obtain ⟨j, j1, j2⟩ := (hS1 x).mp hk
          exact iteT (no fun ⟨x', e', _, h⟩ => (by have := Tree.w.inj e'; subst this; exact h j j1 j2))
        | false =>
          have fresh : ∀ j', j' < i → ps[j']? ≠ some (.w x) := fun j' l h => by
            rw [(hS1 x).mpr ⟨j', l, h⟩] at hk
            cases hk
          refine iteF ?_
          refine ⟨_, rfl, ⟨_, _, _, rfl, eS⟩, _, rfl, e, Sum.inr (tx x), S, n, rfl, rfl, eS, ?_, ?_⟩
          · exact Nat.lt_of_le_of_lt (show n + 1 ≤ 1000 by omega) (by decide)
          refine ⟨_, _, _, rfl, k1.updNew ne, upd_same, ?_, fun y => ?_, fun j t h1 h2 => ?_⟩
          · split <;> omega
          · rw [Bool.or_eq_true, decide_eq_true_eq, hS1]
            constructor
            · rintro (⟨j, h1, h2⟩ | h)
              · exact ⟨j, by omega, h2⟩
              · have := tx_inj (Sum.inr.inj h)
                subst this
                exact ⟨i, Nat.lt_succ_self _, hg⟩
            · rintro ⟨j, h1, h2⟩
              by_cases ji : j < i
              · exact .inl ⟨j, ji, h2⟩
              · have : j = i := by omega
                subst this
                rw [hg] at h2
                right
                rw [Tree.w.inj (Option.some.inj h2)]
          · by_cases ji : j < i
            · exact good j t ji h2
            · have : j = i := by omega
              subst this
              rw [hg] at h2
              exact ⟨x, (Option.some.inj h2).symm, hs, fresh⟩
  · obtain ⟨y2, S, n, rfl, k1, eS, ni, hS1, good⟩ := pw
    exact q true H1 ⟨fun _ => ⟨hl, fun i t h => good i t (by have := (List.getElem?_eq_some_iff.mp h).1; omega) h⟩, fun _ => rfl⟩ k1
/-! ### _has_right_parts -/
def spRp (K : PySem.W.Frag) : Sp := fun vs H Q _ => ∃ (v : V) (cd : Addr) (ts fs : List Tree), vs = [v, .ref cd] ∧ Tr K H v (.l ts) ∧ CallD H cd fs ∧ ∀ b : Bool, (b = true ↔ Right fs ts) → Q (.bl b) H
theorem has_rp {k : Nat} {d_SPECIAL_WORDS : Addr} (m_SPECIAL_WORDS : mg "SPECIAL_WORDS" = some (.ref d_SPECIAL_WORDS)) (D_SPECIAL_WORDS : DictD K w specials d_SPECIAL_WORDS) (D : DefAt K mg "_has_right_parts" s_has_right_parts p_has_right_parts) (B : Bn mg) : Has P w K mg base (k + 1) "_has_right_parts" p_has_right_parts (spRp K) := by
  obtain ⟨f, fd, F, hm, hb⟩ := D.ex
  refine ⟨f, fd, F.ok sc_has_right_parts (fun vs H Q E h => ?_) (fun cdv A outer s H vs Q E hr h => ?_), hm, F.kp, hb⟩
  · obtain ⟨_, _, _, _, rfl, _⟩ := h
    rfl
  obtain ⟨v, cd, ts, fs, rfl, tv, cD, q⟩ := h
  refine ⟨_, (pss_cons (ps_if (PW.pt (pw_or (pt_not (pt_truth (pv 0) (by intro _; rfl))) (pw_or1 (pt_not (pt_val (pe_callB call_isi (by rfl) B.isinstance (by decide +kernel) (pa_cons (pe_ix ix_tup (pv 0) pe_int (fun _ _ => rfl)) (pa_cons (pe_bltn (v := .ty "str") rfl B.str (by decide +kernel) rfl) pa_nil)))))))) (pss_one (ps_ret pe_bl)) pss_nil)
    (pss_cons (ps_set (i := 2) sc_has_right_parts.nd rfl (.inl rfl) (pe_ix ix_tup (pv 0) pe_int (fun _ _ => rfl)))
    (pss_cons (ps_set (i := 3) sc_has_right_parts.nd rfl (.inl rfl) (pe_op op_sub (pe_callB call_len_seq (by rfl) B.len PySem.boot_len (pa_cons (pv 0) pa_nil)) pe_int))
    (pss_cons (ps_if (pt_cmpR (op_inC D_SPECIAL_WORDS) (pv 2) (pe_glob (v := .ref d_SPECIAL_WORDS) rfl m_SPECIAL_WORDS rfl) (by rfl)) (pss_one (ps_ret (pe_cmpR op_eq (pv 3) (pe_ix ix_kdict (pe_glob (v := .ref d_SPECIAL_WORDS) rfl m_SPECIAL_WORDS rfl) (pv 2) (fun _ _ => rfl)) (nomark _)))) pss_nil)
    (pss_one (ps_ret (pe_and (pe_cmp (pc_din (hu_of hr) (pv 2) (pv 1)) rfl) (pe_one (pe_cmpR op_eq (pv 3) (pe_dget (hu_of hr) (pv 1) (pv 2) (fun _ _ => rfl)) (nomark _)))))))))), ?_⟩
  obtain ⟨a, vs, rfl, hS, r⟩ := tv.list
  refine ⟨_, rfl, _, tru_tup hS, ?_⟩
  rw [emp_iff r]
  cases ts with
  | nil => exact iteT (iteT (q false ⟨fun h => (by cases h), fun ⟨n, r, e, _⟩ => (by cases e)⟩))
  | cons t0 rest =>
    refine iteF ?_
    obtain ⟨v0, vr, rfl, r0, rr⟩ := r.cons
    have lr := rr.length
    obtain ⟨ty, u, q1, q2, q3⟩ := isi_str r0
    refine ⟨_, rfl, a, _, _, v0, rfl, rfl, hS, atI_zero _ _, _, _, ty, u, _, rfl, q1, q2, q3, _, rfl, ?_⟩
    cases t0 with
    | l us => exact iteT (q false ⟨fun h => (by cases h), fun ⟨n, r, e, _⟩ => (by have := (List.cons.inj e).1; cases this)⟩)
    | w n =>
      refine iteF ?_
      have e0 := r0.word
      subst e0
      have right : Right fs (.w n :: rest) ↔ parts fs n = some rest.length := by
        constructor
        · rintro ⟨n', r', e, h⟩
          have e1 := Tree.w.inj (List.cons.inj e).1
          have e2 := (List.cons.inj e).2
          subst e1 e2
          exact h
        · intro h
          exact ⟨n, rest, rfl, h⟩
      refine ⟨_, rfl, a, _, _, _, rfl, rfl, hS, atI_zero _ _, ?_⟩
      refine ⟨_, rfl, a, _, rfl, .inr hS, _, _, rfl, rfl, ?_⟩
      refine ⟨_, rfl, n, rfl, rfl, _, rfl, ?_⟩
      rw [spAr_isSome]
      have el : (((V.str (tx n) :: vr).length : Nat) : Int) - 1 = (rest.length : Nat) := by rw [List.length_cons, lr]; omega
      cases hs : spAr n with
      | some k0 =>
        have pe : parts fs n = some k0 := by unfold parts; rw [hs]
        have hf : ∃ p, specials.find? (fun p => decide (p.1 = n)) = some p ∧ p.2 = k0 := by
          unfold spAr at hs
          cases h : specials.find? (fun p => decide (p.1 = n)) with
          | none => rw [h] at hs; cases hs
          | some p => rw [h] at hs; exact ⟨p, rfl, Option.some.inj hs⟩
        obtain ⟨p, hf1, hf2⟩ := hf
        refine iteT ⟨_, rfl, _, rfl, d_SPECIAL_WORDS, tx n, _, rfl, rfl, D_SPECIAL_WORDS.item hf1, rfl, q _ ?_⟩
        rw [right, pe, decide_eq_true_eq, hf2]
        show V.int ((((V.str (tx n) :: vr).length : Nat) : Int) - 1) = _ ↔ _
        rw [el]
        constructor
        · intro h
          have := V.int.inj h
          exact congrArg some (by omega)
        · intro h
          rw [Option.some.inj h]
      | none =>
        have pe : parts fs n = arity fs n := by unfold parts; rw [hs]
        obtain ⟨kvs, ek, rel⟩ := id cD
        have rn := rel n
        refine iteF ⟨_, rfl, _, rfl, cd, _, rfl, DGet.k (k := Sum.inr (tx n)) ek, ?_⟩
        cases ha : arity fs n with
        | none =>
          rw [rn, ha]
          exact ⟨_, rfl, iteF (q false ⟨fun h => (by cases h), fun h => (by rw [right, pe, ha] at h; cases h)⟩)⟩
        | some m =>
          have dg : DGet H cd (.str (tx n)) (some (V.int (m : Nat))) := by
            have := DGet.k (k := Sum.inr (tx n)) ek
            rw [rn, ha] at this
            exact this
          rw [rn, ha]
          refine ⟨_, rfl, iteT ⟨_, rfl, _, rfl, _, rfl, cd, _, rfl, dg, rfl, q _ ?_⟩⟩
          rw [right, pe, ha, decide_eq_true_eq]
          show V.int ((((V.str (tx n) :: vr).length : Nat) : Int) - 1) = _ ↔ _
          rw [el]
          constructor
          · intro h
            have := V.int.inj h
            exact congrArg some (by omega)
          · intro h
            rw [Option.some.inj h]
end
end Og

namespace Og
open PySem PySem.Spec PyProof.Rows L2
open PySem.NumText (AllDigits digitsVal)
/-- a text among texts -/
theorem inV_words {x : List Nat} : ∀ {ps : List Tree} {vs : List V} {K : PySem.W.Frag} {H : Hp}, Trs K H vs ps → (∀ t ∈ ps, t.isW = true) → (inV (.str (tx x)) vs = true ↔ Tree.w x ∈ ps)
  | [], vs, K, H, r, _ => by
    rw [r.nil]
    exact ⟨fun h => (by cases h), fun h => absurd h (List.not_mem_nil)⟩
  | t :: ps, vs, K, H, r, hw => by
    obtain ⟨v, vr, rfl, r0, rr⟩ := r.cons
    have ih := inV_words (x := x) rr fun u m => hw u (List.mem_cons_of_mem _ m)
    cases t with
    | l us => have := hw _ (List.mem_cons_self ..); cases this
    | w y =>
      have e := r0.word
      subst e
      show (eqV (.str (tx y)) (.str (tx x)) || inV (.str (tx x)) vr) = true ↔ _
      rw [Bool.or_eq_true, ih, List.mem_cons]
      have h1 : eqV (.str (tx y)) (.str (tx x)) = true ↔ Tree.w x = Tree.w y := by
        show (tx y == tx x) = true ↔ _
        rw [beq_iff_eq]
        exact ⟨fun e => by rw [tx_inj e], fun e => by rw [Tree.w.inj e]⟩
      rw [h1]
theorem flat_words : ∀ {ps : List Tree} {vs : List V} {K : PySem.W.Frag} {H : Hp}, Trs K H vs ps → (∀ t ∈ ps, t.isW = true) → vs.all flatV = true
  | [], vs, K, H, r, _ => by rw [r.nil]; rfl
  | t :: ps, vs, K, H, r, hw => by
    obtain ⟨v, vr, rfl, r0, rr⟩ := r.cons
    have ih := flat_words rr fun u m => hw u (List.mem_cons_of_mem _ m)
    cases t with
    | l us => have := hw _ (List.mem_cons_self ..); cases this
    | w y =>
      rw [r0.word, List.all_cons, ih]
      rfl
theorem lit_q : ("quote" : Str) = tx qw := by decide +kernel
section
variable {P : Program} {w : World} {K : PySem.W.Frag} {mg : Str → Option Value} {base : Heap}
/-! ### _is_good_body -/
def spGBody (K : PySem.W.Frag) : Sp := fun vs H Q _ => ∃ (v pv : V) (cd : Addr) (t : Tree) (ps fs : List Tree), vs = [v, pv, .ref cd] ∧ Tr K H v t ∧ Tr K H pv (.l ps) ∧ (∀ t ∈ ps, t.isW = true) ∧ CallD H cd fs ∧ t.size ≤ 300000 ∧
  ∀ (b : Bool) (H' : Hp), (b = true ↔ GoodE fs ps t) → Keep [] H H' → Q (.bl b) H'
theorem has_gbody {k : Nat} (D : DefAt K mg "_is_good_body" s_is_good_body p_is_good_body) (B : Bn mg) (c1 : Has P w K mg base k "_has_right_parts" p_has_right_parts (spRp K)) : Has P w K mg base (k + 1) "_is_good_body" p_is_good_body (spGBody K) := by
  obtain ⟨f, fd, F, hm, hb⟩ := D.ex
  obtain ⟨_, _, c_has_right_parts⟩ := c1
  refine ⟨f, fd, F.ok sc_is_good_body (fun vs H Q E h => ?_) (fun cdv A outer s H vs Q E hr h => ?_), hm, F.kp, hb⟩
  · obtain ⟨_, _, _, _, _, _, rfl, _⟩ := h
    rfl
  obtain ⟨v, pv0, cd, t, ps, fs, rfl, tv, tp, pw, cD, sz, q⟩ := h
  refine ⟨_, (pss_cons (ps_set (i := 3) sc_is_good_body.nd rfl (.inl rfl) (pe_lst (pa_cons (pv 0) pa_nil)))
    (pss_cons (ps_while PassesOwn.never (pt_truth (pv 3) (by intro _; rfl)) (pss_cons (ps_set (i := 4) sc_is_good_body.nd rfl (.inl rfl) (pe_bm0 PySem.F.plainAttrs_list PySem.F.slot_list_pop PySem.F.type_list_pop mt_pop (pv 3)))
      (pss_one (ps_if (pt_val (pe_callB call_isi (by rfl) B.isinstance (by decide +kernel) (pa_cons (pv 4) (pa_cons (pe_bltn (v := .ty "str") rfl B.str (by decide +kernel) rfl) pa_nil)))) (pss_one (ps_if (pt_cmpR op_notIn_seq (pv 4) (pv 1) (by rfl)) (pss_one (ps_ret pe_bl)) pss_nil)) (pss_one (ps_if (pt_not (pt_val (cal c_has_right_parts hr rfl (pa_cons (pv 4) (pa_cons (pv 2) pa_nil))))) (pss_one (ps_ret pe_bl)) (pss_one (ps_if (pt_cmpR op_ne (pe_ix ix_tup (pv 4) pe_int (fun _ _ => rfl)) pe_str (nomark _)) (pss_one (ps_expr (pe_bm PySem.F.plainAttrs_list PySem.F.slot_list_extend PySem.F.type_list_extend mt_extendT (pv 3) (pa_cons (pe_slice sl_tupA (pv 4) (po_some pe_int) po_none) pa_nil)))) pss_nil))))))))
    (pss_one (ps_ret pe_bl)))), ?_⟩
  refine ⟨_, rfl, by show (1 : Nat) ≤ sizeLine; decide, fun p np => ?_⟩
  have k0 : Keep [] H (upd H p (.lst [v])) := Keep.new np
  obtain ⟨W, hW⟩ : ∃ W : Nat → L2.St → Hp → Prop, W = fun m σ H' => ∃ (y4 : Option V) (vs : List V) (ts : List Tree), σ = [some v, some pv0, some (.ref cd), some (.ref p), y4] ∧ m = sizes ts ∧ Keep [] H H' ∧ H' p = some (.lst vs) ∧ Trs K H' vs ts ∧ sizes ts ≤ 300000 ∧ (GoodE fs ps t ↔ ∀ z ∈ ts, GoodE fs ps z) := ⟨_, rfl⟩
  refine ⟨W, ⟨sizes [t], ?_⟩, fun m σ H1 pw0 => ?_⟩
  · rw [hW]
    refine ⟨none, _, [t], rfl, rfl, k0, upd_same, Trs.one (tv.keep k0), by rw [sizes_cons, sizes_nil]; omega, ?_⟩
    exact ⟨fun h z m => (by rw [List.mem_singleton.mp m]; exact h), fun h => h t (List.mem_singleton.mpr rfl)⟩
  rw [hW] at pw0
  obtain ⟨y4, vs, ts, rfl, rfl, k1, e1, tr, sz1, iff⟩ := pw0
  have vl := tr.length
  have tl := len_sizes ts
  refine ⟨_, rfl, _, tru_list e1, ?_⟩
  rw [emp_iff tr]
  by_cases hne : ts = []
  · subst hne
    refine iteF ?_
    exact q true H1 ⟨fun _ => iff.mpr fun z m => absurd m (List.not_mem_nil), fun _ => rfl⟩ k1
  obtain ⟨ts', z, rfl⟩ := snoc_of hne
  have b0 : (!(ts' ++ [z]).isEmpty) = true := by cases ts' <;> rfl
  rw [b0]
  refine iteT ⟨fun σ' H' => ∃ m', m' < sizes (ts' ++ [z]) ∧ W m' σ' H', fun _ _ h => h, ?_⟩
  obtain ⟨vs', zv, rfl, tr', tz⟩ := tr.snoc
  rw [sizes_app, sizes_cons, sizes_nil] at sz1 ⊢
  refine ⟨_, rfl, .inl ⟨rfl, _, SqL.of e1⟩, p, _, _, rfl, rfl, e1, last_get _ _, ?_⟩
  rw [List.dropLast_concat]
  generalize hH2 : upd H1 p (.lst vs') = H2
  have k2 : Keep [p] H1 H2 := by rw [← hH2]; exact Keep.set e1 (List.mem_cons_self ..)
  have e2 : H2 p = some (.lst vs') := by rw [← hH2, upd_same]
  have k2' : Keep [] H H2 := (k1.cons.trans (k2.mono (by simp))).drop np
  have tz2 := tz.keep k2
  have tr2 := tr'.keep k2
  have tp2 := tp.keep k2'
  have cD2 := cD.keep k2'
  have split : (∀ y ∈ ts' ++ [z], GoodE fs ps y) ↔ (∀ y ∈ ts', GoodE fs ps y) ∧ GoodE fs ps z := by
    constructor
    · intro h
      exact ⟨fun y m => h y (List.mem_append.mpr (.inl m)), h z (by simp)⟩
    · rintro ⟨h1, h2⟩ y m
      rcases List.mem_append.mp m with m | m
      · exact h1 y m
      · rw [List.mem_singleton.mp m]; exact h2
  have no : ¬ GoodE fs ps z → Q (.bl false) H2 := fun h => q false H2 ⟨fun e => (by cases e), fun e => absurd (split.mp (iff.mp e)).2 h⟩ k2'
  have zp := size_pos z
  have go : GoodE fs ps z → ∃ m', m' < sizes ts' + (z.size + 0) ∧ W m' [some v, some pv0, some (.ref cd), some (.ref p), some zv] H2 := fun h => by
    refine ⟨sizes ts', by omega, ?_⟩
    rw [hW]
    exact ⟨_, vs', ts', rfl, rfl, k2', e2, tr2, by omega, by rw [iff, split]; exact ⟨fun h => h.1, fun h2 => ⟨h2, h⟩⟩⟩
  obtain ⟨ty, u, q1, q2, q3⟩ := isi_str tz2
  refine ⟨_, rfl, _, _, ty, u, _, rfl, q1, q2, q3, _, rfl, ?_⟩
  cases z with
  | w x =>
    refine iteT ?_
    have ez := tz2.word
    subst ez
    obtain ⟨pa, pvs, rfl, hP, rP⟩ := tp2.list
    refine ⟨_, rfl, _, rfl, pa, _, rfl, .inr hP, rfl, ?_, _, rfl, ?_⟩
    · exact flat_words rP pw
    have iv := inV_words (x := x) rP pw
    by_cases hx : Tree.w x ∈ ps
    · rw [iv.mpr hx]
      exact iteF (go (goodE_w.mpr hx))
    · rw [Bool.eq_false_iff.mpr fun h => hx (iv.mp h)]
      exact iteT (no fun h => hx (goodE_w.mp h))
  | l us =>
    refine iteF ?_
    refine ⟨_, rfl, _, rfl, zv, cd, us, fs, rfl, tz2, cD2, fun b hb1 => ?_⟩
    refine ⟨_, rfl, ?_⟩
    cases b with
    | false => exact iteT (no fun h => (by have := hb1.mpr (goodE_l.mp h).1; cases this))
    | true =>
      refine iteF ?_
      obtain ⟨n, r, rfl, hp⟩ := hb1.mp rfl
      obtain ⟨za, zvs, rfl, hZ, rZ⟩ := tz2.list
      obtain ⟨v0, vr, rfl, r0, rr⟩ := rZ.cons
      have e0 := r0.word
      subst e0
      refine ⟨_, rfl, za, _, _, _, rfl, rfl, hZ, atI_zero _ _, rfl, _, rfl, ?_⟩
      rw [lit_q]
      have lr := rr.length
      have lz := len_sizes r
      rw [size_l, sizes_cons, size_w] at sz1 zp ⊢
      by_cases hq : n = qw
      · rw [nsF hq]
        have g : GoodE fs ps (.l (.w n :: r)) := goodE_l.mpr ⟨⟨n, r, rfl, hp⟩, .inl (by rw [hq]; rfl)⟩
        refine iteF ?_
        refine ⟨sizes ts', by omega, ?_⟩
        rw [hW]
        exact ⟨_, vs', ts', rfl, rfl, k2', e2, tr2, by omega, by rw [iff, split]; exact ⟨fun h => h.1, fun h2 => ⟨h2, g⟩⟩⟩
      · rw [nsT hq]
        refine iteT ?_
        have g : GoodE fs ps (.l (.w n :: r)) ↔ ∀ y ∈ r, GoodE fs ps y := by
          rw [goodE_l]
          constructor
          · rintro ⟨_, h | h⟩
            · exact absurd (Tree.w.inj (Option.some.inj h)) hq
            · exact h
          · intro h
            exact ⟨⟨n, r, rfl, hp⟩, .inr h⟩
        refine ⟨_, rfl, .inl ⟨rfl, _, SqL.of e2⟩, _, rfl, _, rfl, ?_⟩
        dsimp only [tNoPart]
        refine sl_tr tz2 fun v3 H3 tv3 k3 => ?_
        have d1 := cutL_from (Tree.w n :: r) (i := 1) (by rw [List.length_cons]; omega)
        rw [show (some (1 : Int)) = some ((1 : Nat) : Int) from rfl, d1, show List.drop 1 (Tree.w n :: r) = r from rfl] at tv3
        obtain ⟨xa, xvs, rfl, hX, rX⟩ := tv3.list
        have e3 : H3 p = some (.lst vs') := k3.get e2 (by simp)
        have lx := rX.length
        have lts := len_sizes ts'
        have lvs := tr2.length
        refine ⟨p, xa, vs', xvs, rfl, rfl, e3, hX, ?_, ?_⟩
        · exact Nat.le_trans (show _ ≤ 600000 by omega) (by decide)
        have k4 : Keep [p] H3 (upd H3 p (.lst (vs' ++ xvs))) := Keep.set e3 (List.mem_cons_self ..)
        refine ⟨sizes (ts' ++ r), by rw [sizes_app]; omega, ?_⟩
        rw [hW]
        refine ⟨_, vs' ++ xvs, ts' ++ r, rfl, rfl, ((k2'.trans k3).cons.trans k4).drop np, upd_same, ((tr2.keep k3).append rX).keep k4, by rw [sizes_app]; omega, ?_⟩
        rw [iff, split, g]
        constructor
        · rintro ⟨h1, h2⟩ y m
          rcases List.mem_append.mp m with m | m
          · exact h1 y m
          · exact h2 y m
        · intro h
          exact ⟨fun y m => h y (List.mem_append.mpr (.inl m)), fun y m => h y (List.mem_append.mpr (.inr m))⟩
end
end Og

namespace Og
open PySem PySem.Spec PyProof.Rows L2
open PySem.NumText (AllDigits digitsVal)
theorem IsWord.ascii {x : List Nat} (h : IsWord x) : Ascii x := by
  obtain ⟨c, cs, rfl, h1, h2, _⟩ := h
  intro y m
  rcases List.mem_cons.mp m with e | m
  · have := h1.2; omega
  · rcases h2 y m with h | h <;> omega
section
variable {P : Program} {w : World} {K : PySem.W.Frag} {mg : Str → Option Value} {base : Heap}
/-! ### _is_good_function -/
def spGFn (K : PySem.W.Frag) : Sp := fun vs H Q _ => ∃ (v : V) (cd : Addr) (t : Tree) (fs : List Tree), vs = [v, .ref cd, .int (fs.length : Nat)] ∧ Tr K H v t ∧ WT t ∧ CallD H cd fs ∧ t.size ≤ 300000 ∧ ∀ (b : Bool) (H' : Hp), (b = true ↔ GoodFn fs t) → Keep [] H H' → Q (.bl b) H'
theorem has_gfn {k : Nat} (D : DefAt K mg "_is_good_function" s_is_good_function p_is_good_function) (B : Bn mg) (c1 : Has P w K mg base k "_looks_like_function" p_looks_like_function (spLooks K)) (c2 : Has P w K mg base k "_is_good_name" p_is_good_name spGName) (c3 : Has P w K mg base k "_are_good_parameters" p_are_good_parameters (spGPs K)) (c4 : Has P w K mg base k "_is_good_body" p_is_good_body (spGBody K)) :
    Has P w K mg base (k + 1) "_is_good_function" p_is_good_function (spGFn K) := by
  obtain ⟨f, fd, F, hm, hb⟩ := D.ex
  obtain ⟨_, _, c_looks_like_function⟩ := c1
  obtain ⟨_, _, c_is_good_name⟩ := c2
  obtain ⟨_, _, c_are_good_parameters⟩ := c3
  obtain ⟨_, _, c_is_good_body⟩ := c4
  refine ⟨f, fd, F.ok sc_is_good_function (fun vs H Q E h => ?_) (fun cdv A outer s H vs Q E hr h => ?_), hm, F.kp, hb⟩
  · obtain ⟨_, _, _, _, rfl, _⟩ := h
    rfl
  obtain ⟨v, cd, t, fs, rfl, tv, wt, cD, sz, q⟩ := h
  refine ⟨_, (pss_cons (ps_if (pt_not (pt_val (cal c_looks_like_function hr rfl (pa_cons (pv 0) pa_nil)))) (pss_one (ps_ret pe_bl)) pss_nil)
    (pss_cons (ps_asg (pv 0) (pg_tup (by rfl) (pgs_cons (pg_name (i := 3) sc_is_good_function.nd rfl (.inl rfl)) (pgs_cons (pg_name (i := 4) sc_is_good_function.nd rfl (.inl rfl)) (pgs_cons (pg_name (i := 5) sc_is_good_function.nd rfl (.inl rfl)) pgs_nil)))))
    (pss_cons (ps_if (PW.pt (pw_or (pt_not (pt_val (cal c_is_good_name hr rfl (pa_cons (pv 3) (pa_cons (pv 2) pa_nil))))) (pw_or1 (pt_not (pt_val (cal c_are_good_parameters hr rfl (pa_cons (pv 4) pa_nil))))))) (pss_one (ps_ret pe_bl)) pss_nil)
    (pss_one (ps_ret (cal c_is_good_body hr rfl (pa_cons (pv 5) (pa_cons (pv 4) (pa_cons (pv 1) pa_nil))))))))), ?_⟩
  refine ⟨_, rfl, v, t, rfl, tv, fun b hb1 => ⟨_, rfl, ?_⟩⟩
  cases b with
  | false => exact iteT (q false H ⟨fun h => (by cases h), fun ⟨n, ps, bd, e, _⟩ => (by have := hb1.mpr ⟨n, ps, bd, e⟩; cases this)⟩ Keep.refl)
  | true =>
    refine iteF ?_
    obtain ⟨n, ps, bd, rfl⟩ := hb1.mp rfl
    have uniq : GoodFn fs (.l [.w n, .l ps, bd]) ↔ GoodName fs.length n ∧ GoodPs ps ∧ GoodE fs ps bd := by
      constructor
      · rintro ⟨n', ps', bd', e, h⟩
        have h1 := Tree.l.inj e
        have h2 := Tree.w.inj (List.cons.inj h1).1
        have h3 := (List.cons.inj h1).2
        have h4 := Tree.l.inj (List.cons.inj h3).1
        have h5 := (List.cons.inj (List.cons.inj h3).2).1
        rw [h2, h4, h5]
        exact h
      · intro h
        exact ⟨n, ps, bd, rfl, h⟩
    obtain ⟨a, vs, rfl, hS, r⟩ := tv.list
    obtain ⟨x, y, z, rfl, r0, r1, r2⟩ := r.three
    have e0 := r0.word
    subst e0
    have wn := wt.list.head.word
    refine ⟨_, rfl, a, _, rfl, hS, rfl, _, _, rfl, y, _, rfl, z, _, rfl, rfl, ?_⟩
    refine ⟨_, rfl, _, rfl, n, fs.length, rfl, wn.ascii, wn.ne, wn.len, fun b1 hb2 => ⟨_, rfl, ?_⟩⟩
    cases b1 with
    | false => exact iteT (iteT (q false H ⟨fun h => (by cases h), fun h => (by have := hb2.mpr (uniq.mp h).1; cases this)⟩ Keep.refl))
    | true =>
      refine iteF ?_
      refine ⟨_, rfl, y, ps, rfl, r1, fun b2 H1 hb3 k1 => ⟨_, rfl, ?_⟩⟩
      cases b2 with
      | false => exact iteT (q false H1 ⟨fun h => (by cases h), fun h => (by have := hb3.mpr (uniq.mp h).2.1; cases this)⟩ k1)
      | true =>
        refine iteF ?_
        have gp := hb3.mp rfl
        rw [size_l, sizes_cons, sizes_cons, sizes_cons, sizes_nil] at sz
        refine ⟨_, rfl, _, rfl, _, rfl, z, y, cd, bd, ps, fs, rfl, r2.keep k1, r1.keep k1, fun t m => ?_, cD.keep k1, by omega, fun b3 H2 hb4 k2 => ?_⟩
        · obtain ⟨i, hi⟩ := List.mem_iff_getElem?.mp m
          obtain ⟨x', e, _⟩ := gp.2 i t hi
          rw [e]; rfl
        · refine q b3 H2 ?_ (k1.trans k2)
          rw [uniq, hb4]
          exact ⟨fun h => ⟨hb2.mp rfl, gp, h⟩, fun h => h.2.2⟩
/-! ### _called_functions -/
def spCalled (K : PySem.W.Frag) : Sp := fun vs H Q _ => ∃ (v : V) (fs : List Tree), vs = [v] ∧ Tr K H v (.l fs) ∧ fs.length ≤ 300000 ∧ ∀ (cd : Addr) (H' : Hp), CallD H' cd fs → Keep [] H H' → H cd = none → Q (.ref cd) H'
theorem has_called {k : Nat} (D : DefAt K mg "_called_functions" s_called_functions p_called_functions) (B : Bn mg) (c1 : Has P w K mg base k "_looks_like_function" p_looks_like_function (spLooks K)) :
    Has P w K mg base (k + 1) "_called_functions" p_called_functions (spCalled K) := by
  obtain ⟨f, fd, F, hm, hb⟩ := D.ex
  obtain ⟨_, _, c_looks_like_function⟩ := c1
  refine ⟨f, fd, F.ok sc_called_functions (fun vs H Q E h => ?_) (fun cdv A outer s H vs Q E hr h => ?_), hm, F.kp, hb⟩
  · obtain ⟨_, _, rfl, _⟩ := h
    rfl
  obtain ⟨v, fs, rfl, tv, hl, q⟩ := h
  refine ⟨_, (pss_cons (ps_set (i := 1) sc_called_functions.nd rfl (.inl rfl) pe_dnewK)
    (pss_cons (ps_for PassesOwn.never rfl (pi_tup (pv 0)) (pg_name (i := 2) sc_called_functions.nd rfl (.inl rfl))
      (pss_one (ps_if (PW.pt (pw_and (pt_val (cal c_looks_like_function hr rfl (pa_cons (pv 2) pa_nil))) (pw_and1 (pt_cmp (pc_dnotin (hu_of hr) (pe_ix ix_tup (pv 2) pe_int (fun _ _ => rfl)) (pv 1)))))) (pss_one (ps_dput (hu_of hr) (pv 1) (pe_ix ix_tup (pv 2) pe_int (fun _ _ => rfl)) (pe_callB call_len_seq (by rfl) B.len PySem.boot_len (pa_cons (pe_ix ix_tup (pv 2) pe_int (fun _ _ => rfl)) pa_nil)) rfl)) pss_nil)))
    (pss_one (ps_ret (pv 1))))), ?_⟩
  obtain ⟨a, vs, rfl, hS, r⟩ := tv.list
  have lv := r.length
  refine fun cd nc => ?_
  refine ⟨_, rfl, a, rfl, ⟨_, (Keep.new (S := []) nc).sqT hS⟩, ?_⟩
  refine for_tup (K := K) (a := a) (xs := vs) (fun i σ H' => ∃ (y2 : Option V) (kvs : List (L2.Key × V)), σ = [some (.ref a), some (.ref cd), y2] ∧ Keep [] H H' ∧ H' cd = some (.dK kvs) ∧ kvs.length ≤ i ∧ ∀ x : List Nat, valV kvs (Sum.inr (tx x)) = (arity (fs.take i) x).map fun k => V.int (k : Nat))
    ⟨none, [], rfl, Keep.new nc, upd_same, Nat.le_refl _, fun x => rfl⟩ (fun i σ H' _ pw => ?_) (fun i z σ H1 hz pw => ?_) (fun σ H1 pw => ?_)
  · obtain ⟨_, _, _, k1, _⟩ := pw
    exact k1.sqT hS
  · obtain ⟨y2, kvs, rfl, k1, eD, ln, rel⟩ := pw
    have il : i < vs.length := (List.getElem?_eq_some_iff.mp hz).1
    have hg : fs[i]? = some fs[i] := List.getElem?_eq_getElem (by omega)
    obtain ⟨z', hz', tz⟩ := r.get hg
    rw [hz] at hz'
    cases hz'
    have tk : fs.take (i + 1) = fs.take i ++ [fs[i]] := by rw [List.take_add_one, hg]; rfl
    generalize fs[i] = t at hg tz tk
    have tz1 := tz.keep k1
    refine ⟨_, rfl, z, t, rfl, tz1, fun b hb1 => ⟨_, rfl, ?_⟩⟩
    cases b with
    | false =>
      refine iteF ?_
      have nf : fn? t = none := by
        cases h : fn? t with
        | none => rfl
        | some p =>
          obtain ⟨n, ps, bd⟩ := p
          have := hb1.mpr ⟨n, ps, bd, fn?_iff.mp h⟩
          cases this
      refine ⟨_, _, rfl, k1, eD, by omega, fun x => ?_⟩
      rw [rel, tk, arity_app]
      cases arity (fs.take i) x with
      | some k0 => rfl
      | none =>
        show _ = (arity [t] x).map _
        rw [arity_one_no nf]
    | true =>
      refine iteT ?_
      obtain ⟨n, ps, bd, rfl⟩ := hb1.mp rfl
      have ar : ∀ x, arity [Tree.l [.w n, .l ps, bd]] x = if n = x then some ps.length else none := fun x => arity_one (fn?_iff.mpr rfl)
      obtain ⟨za, zvs, rfl, hZ, rZ⟩ := tz1.list
      obtain ⟨x0, y0, z0, rfl, r0, r1, r2⟩ := rZ.three
      have e0 := r0.word
      subst e0
      refine ⟨_, rfl, za, _, _, _, rfl, rfl, hZ, atI_zero _ _, _, rfl, cd, _, rfl, DGet.k (k := Sum.inr (tx n)) eD, ?_⟩
      have rn := rel n
      rw [rn]
      cases ha : arity (fs.take i) n with
      | some k0 =>
        refine ⟨_, rfl, iteF ?_⟩
        refine ⟨_, _, rfl, k1, eD, by omega, fun x => ?_⟩
        rw [rel, tk, arity_app]
        cases hx : arity (fs.take i) x with
        | some k1 => rfl
        | none =>
          show _ = (arity [_] x).map _
          rw [ar]
          by_cases e : n = x
          · rw [e, hx] at ha; cases ha
          · rw [if_neg e]
      | none =>
        obtain ⟨pa, pvs, rfl, hP, rP⟩ := r1.list
        refine ⟨_, rfl, iteT ?_⟩
        refine ⟨_, rfl, za, _, _, _, rfl, rfl, hZ, atI_nat (j := 1) rfl, pa, pvs, rfl, .inr hP, _, rfl, _, rfl, za, _, _, _, rfl, rfl, hZ, atI_zero _ _, cd, _, rfl, DPut.k (k := Sum.inr (tx n)) eD ?_, ?_⟩
        · exact Nat.lt_of_le_of_lt (show kvs.length ≤ 300000 by omega) (by decide)
        refine ⟨_, _, rfl, k1.updNew nc, upd_same, Nat.le_trans (length_putK _ _ _) (by omega), fun x => ?_⟩
        rw [valV_put, tk, arity_app]
        by_cases e : n = x
        · subst e
          rw [if_pos rfl, ha]
          show _ = (arity [_] n).map _
          rw [ar, if_pos rfl, rP.length]
          rfl
        · rw [if_neg (fun z => e (tx_inj (Sum.inr.inj z)).symm), rel]
          cases hx : arity (fs.take i) x with
          | some k1 => rfl
          | none =>
            show _ = (arity [_] x).map _
            rw [ar, if_neg e]
  · obtain ⟨y2, kvs, rfl, k1, eD, ln, rel⟩ := pw
    refine ⟨_, rfl, ?_⟩
    rw [lv, List.take_length] at rel
    exact q cd H1 ⟨kvs, eD, rel⟩ k1 nc
end
end Og

namespace Og
open PySem PySem.Spec PyProof.Rows L2
open PySem.NumText (AllDigits digitsVal)
section
variable {P : Program} {w : World} {K : PySem.W.Frag} {mg : Str → Option Value} {base : Heap}
/-! ### check_program -/
/-- what is wished where an error with the number n leaves -/
def Wish (f : Str) (C : Addr) (n : Nat) (H : Hp) (E : XK) : Prop := ∀ (d : Addr) (H' : Hp), H' d = some (.xd [(f, .int n)]) → Keep [] H H' → E (.ref C) (some d) H'
def spCheckX (K : PySem.W.Frag) (C : Addr) : Sp := fun vs H Q E => ∃ (v : V) (t : Tree), vs = [v] ∧ Tr K H v t ∧ WT t ∧ t.size ≤ 300000 ∧ (∀ fs, t = .l fs → fs.length ≤ 1000) ∧ (∀ n, BadNo t (some n) → Wish "function" C n H E) ∧ (∀ H' : Hp, BadNo t none → Keep [] H H' → Q .non H')
theorem has_checkX {C G fI : Addr} {fdI : FuncData} {k : Nat} (T_BadProgram : ErrT K mg "BadProgram" "BadProgram.__init__" "function" s_BadProgram_init C G fI fdI) (D : DefAt K mg "check_program" s_check_program p_check_program) (B : Bn mg)
    (c1 : Has P w K mg base (k + 3) "_called_functions" p_called_functions (spCalled K)) (c2 : Has P w K mg base (k + 3) "_is_good_function" p_is_good_function (spGFn K)) : HasX P w K mg base (k + 4) "check_program" p_check_program (spCheckX K C) := by
  obtain ⟨f, fd, F, hm, hb⟩ := D.ex
  obtain ⟨_, _, c_called_functions⟩ := c1
  obtain ⟨_, _, c_is_good_function⟩ := c2
  have ok_BadProgram := ok_BadProgram' (P := P) (w := w) (base := base) T_BadProgram
  refine ⟨f, fd, F.okX sc_check_program (fun vs H Q E h => ?_) (fun cdv A outer s H vs Q E hr h => ?_), hm, F.kp, hb⟩
  · obtain ⟨_, _, rfl, _⟩ := h
    rfl
  obtain ⟨v, t, rfl, tv, wt, sz, few, bad, q⟩ := h
  have hr_BadProgram := hr.mono (show 2 ≤ k + 3 by omega)
  refine ⟨_, (pss_cons (ps_if (PW.pt (pw_or (pt_not (pt_val (pe_callB call_isi (by rfl) B.isinstance (by decide +kernel) (pa_cons (pv 0) (pa_cons (pe_bltn (v := .ty "tuple") rfl B.tuple (by decide +kernel) rfl) pa_nil))))) (pw_or1 (pt_not (pt_truth (pv 0) (by intro _; rfl)))))) (pss_one (ps_raise rfl (takes_of rfl rfl rfl rfl) (pmk_oex T_BadProgram.ox T_BadProgram.iC T_BadProgram.tI ok_BadProgram hr_BadProgram T_BadProgram.bi .nil pass0 rfl T_BadProgram.gC (pa_cons pe_int pa_nil)))) pss_nil)
    (pss_cons (ps_set (i := 1) sc_check_program.nd rfl (.inl rfl) (cal c_called_functions hr rfl (pa_cons (pv 0) pa_nil)))
    (pss_cons (ps_set (i := 2) sc_check_program.nd rfl (.inl rfl) (pe_callTy0 cr_set0K (by rfl) B.set (by decide +kernel)))
    (pss_one (ps_for (passes_of rfl) rfl (pi_enumT (by rfl) B.enumerate (pa_cons (pv 0) pa_nil)) (pg_tup (by rfl) (pgs_cons (pg_name (i := 3) sc_check_program.nd rfl (.inl rfl)) (pgs_cons (pg_name (i := 4) sc_check_program.nd rfl (.inl rfl)) pgs_nil)))
      (pss_cons (ps_if (pt_not (pt_val (cal c_is_good_function hr rfl (pa_cons (pv 4) (pa_cons (pv 1) (pa_cons (pe_callB call_len_seq (by rfl) B.len PySem.boot_len (pa_cons (pv 0) pa_nil)) pa_nil)))))) (pss_one (ps_raise rfl (takes_of rfl rfl rfl rfl) (pmk_oex T_BadProgram.ox T_BadProgram.iC T_BadProgram.tI ok_BadProgram hr_BadProgram T_BadProgram.bi .nil pass0 rfl T_BadProgram.gC (pa_cons (pv 3) pa_nil)))) pss_nil)
      (pss_cons (ps_if (pt_cmpR or_sinK (pe_ix ix_tup (pv 4) pe_int (fun _ _ => rfl)) (pv 2) (by rfl)) (pss_one (ps_raise rfl (takes_of rfl rfl rfl rfl) (pmk_oex T_BadProgram.ox T_BadProgram.iC T_BadProgram.tI ok_BadProgram hr_BadProgram T_BadProgram.bi .nil pass0 rfl T_BadProgram.gC (pa_cons (pv 3) pa_nil)))) pss_nil)
      (pss_one (ps_expr (pe_saddK (pv 2) (pa_cons (pe_ix ix_tup (pv 4) pe_int (fun _ _ => rfl)) pa_nil))))))))))), ?_⟩
  have raise : ∀ (n : Nat) (H1 : Hp), Keep [] H H1 → n ≤ 400000 → BadNo t (some n) → ∀ a : Addr, H1 a = none → spErr K "function" [V.ref a, V.int n] (upd H1 a (exo a C none)) (fun v H2 => v = .non ∧ ∃ (d : Addr) (fs : List (Str × V)), H2 a = some (exo a C (some d)) ∧ H2 d = some (exd d fs) ∧ H1 d = none ∧ E (.ref C) (some d) (upd (del H2 a) d (.xd fs))) (fun _ _ _ => False) := by
    intro n H1 kk hn hres a na
    refine ⟨a, C, n, rfl, T_BadProgram.ox, T_BadProgram.no, by omega, upd_same, fun dx hd ne => ⟨rfl, dx, _, upd_same, by rw [upd_ne ne, upd_same], by rw [upd_ne ne] at hd; exact hd, bad n hres dx _ upd_same (kk.trans (keep_raised na hd ne))⟩⟩
  obtain ⟨ty, u, q1, q2, q3⟩ := isi_tup tv
  refine ⟨_, rfl, _, _, ty, u, _, rfl, q1, q2, q3, _, rfl, ?_⟩
  cases t with
  | w x =>
    refine iteT (iteT ⟨by show 1 ≤ 1000; decide, fun a na => ?_⟩)
    exact raise 0 H Keep.refl (by omega) rfl a na
  | l fs =>
    refine iteF ?_
    obtain ⟨a, vs, rfl, hS, r⟩ := tv.list
    have lv := r.length
    have szl := sz
    rw [size_l] at szl
    have lsz := len_sizes fs
    have few := few fs rfl
    refine ⟨_, rfl, _, tru_tup hS, ?_⟩
    rw [emp_iff r]
    by_cases hne : fs = []
    · subst hne
      refine iteT ⟨by show 1 ≤ 1000; decide, fun a na => ?_⟩
      exact raise 0 H Keep.refl (by omega) (.inl ⟨rfl, rfl⟩) a na
    have b0 : fs.isEmpty = false := by
      cases fs with
      | nil => exact absurd rfl hne
      | cons _ _ => rfl
    rw [b0]
    refine iteF ?_
    refine ⟨_, rfl, _, fs, rfl, tv, by omega, fun cd H1 cD k1 ncd => ?_⟩
    refine ⟨rfl, fun e nE => ?_⟩
    have nE0 : H e = none := k1.free nE
    have cde : cd ≠ e := let ⟨_, ek, _⟩ := cD; ne_of_none ek nE
    have k2 : Keep [] H1 (upd H1 e (SetK P w e (fun _ => false) 0)) := Keep.new nE
    refine ⟨_, rfl, a, vs, rfl, (k1.trans k2).sqT hS, ?_⟩
    refine for_enumT (K := K) (a := a) (xs := vs) (fun i σ H' => ∃ (y3 y4 : Option V) (S : L2.Key → Bool) (n : Nat), σ = [some (.ref a), some (.ref cd), some (.ref e), y3, y4] ∧ Keep [] H H' ∧ CallD H' cd fs ∧ H' e = some (SetK P w e S n) ∧ n ≤ i ∧
        (∀ x : List Nat, S (Sum.inr (tx x)) = true ↔ Dupe fs i x) ∧ ∀ j, j < i → GoodAt fs j)
      ⟨none, none, _, 0, rfl, k1.trans k2, cD.keep k2, upd_same, Nat.le_refl _, fun x => ⟨fun h => (by cases h), fun ⟨j, _, h, _⟩ => absurd h (Nat.not_lt_zero _)⟩, fun j h => absurd h (Nat.not_lt_zero _)⟩ (fun i σ H' pw => ?_) (fun i z T σ H3 hz pw nT => ?_) (fun σ H3 pw => ?_)
    · obtain ⟨_, _, _, _, _, k3, _⟩ := pw
      exact k3.sqT hS
    · obtain ⟨y3, y4, S, n, rfl, k3, cD3, eS, ni, hS1, good⟩ := pw
      have il : i < vs.length := (List.getElem?_eq_some_iff.mp hz).1
      have hg : fs[i]? = some fs[i] := List.getElem?_eq_getElem (by omega)
      have mem := List.getElem_mem (show i < fs.length by omega)
      obtain ⟨z', hz', tz⟩ := r.get hg
      rw [hz] at hz'
      cases hz'
      have wz := wt.list.all _ mem
      have sg := size_of_get hg
      generalize fs[i] = u at hg tz wz sg mem
      have k4 : Keep [] H3 (upd H3 T (.tup [.int (i : Nat), z])) := Keep.new nT
      have eS4 : (upd H3 T (.tup [.int (i : Nat), z])) e = some (SetK P w e S n) := k4.get eS (by simp)
      have eT : (upd H3 T (.tup [.int (i : Nat), z])) T = some (.tup [.int (i : Nat), z]) := upd_same
      generalize upd H3 T (.tup [.int (i : Nat), z]) = H4 at k4 eS4 eT
      have k4' := k3.trans k4
      have cD4 := cD3.keep k4
      refine ⟨T, _, rfl, SqT.of_tup eT, rfl, _, _, rfl, _, _, rfl, rfl, ?_⟩
      have badi : ¬ GoodAt fs i → BadNo (.l fs) (some i) := fun h => .inr ⟨hne, .inr ⟨i, rfl, by omega, h, good⟩⟩
      refine ⟨_, rfl, _, rfl, _, rfl, a, vs, rfl, .inr (k4'.sqT hS), z, cd, u, fs, ?_, tz.keep k4', wz, cD4, by omega, fun b H5 hb1 k5 => ⟨_, rfl, ?_⟩⟩
      · rw [lv]; rfl
      have k5' := k4'.trans k5
      cases b with
      | false =>
        refine iteT ⟨_, rfl, by show 1 ≤ 1000; decide, fun a na => ?_⟩
        refine raise i H5 k5' (by omega) (badi fun ⟨n', ps, bd, e1, g1, g2, g3, _⟩ => ?_) a na
        rw [hg] at e1
        have := hb1.mpr ⟨n', ps, bd, Option.some.inj e1, g1, g2, g3⟩
        cases this
      | true =>
        refine iteF ?_
        obtain ⟨nm, ps, bd, rfl, g1, g2, g3⟩ := hb1.mp rfl
        have tz5 := tz.keep k5'
        obtain ⟨za, zvs, rfl, hZ, rZ⟩ := tz5.list
        obtain ⟨x0, y0, z0, rfl, r0, r1, r2⟩ := rZ.three
        have e0 := r0.word
        subst e0
        have eS5 := k5.get eS4 (by simp)
        refine ⟨_, rfl, za, _, _, _, rfl, rfl, hZ, atI_zero _ _, _, rfl, Sum.inr (tx nm), e, S, n, rfl, rfl, eS5, S (Sum.inr (tx nm)), rfl, ?_⟩
        have gi : GoodAt fs i ↔ ¬ Dupe fs i nm := by
          constructor
          · rintro ⟨n', ps', bd', e1, _, _, _, h⟩
            rw [hg] at e1
            have h1 := Tree.l.inj (Option.some.inj e1)
            have h2 := Tree.w.inj (List.cons.inj h1).1
            rw [h2]; exact h
          · intro h
            exact ⟨nm, ps, bd, hg, g1, g2, g3, h⟩
        cases hk : S (Sum.inr (tx nm)) with
        | true =>
          refine iteT ⟨_, rfl, by show 1 ≤ 1000; decide, fun a na => ?_⟩
          exact raise i H5 k5' (by omega) (badi fun h => gi.mp h ((hS1 nm).mp hk)) a na
        | false =>
          refine iteF ?_
          have nd : ¬ Dupe fs i nm := fun h => by rw [(hS1 nm).mpr h] at hk; cases hk
          refine ⟨_, rfl, ⟨_, _, _, rfl, eS5⟩, _, rfl, za, _, _, _, rfl, rfl, hZ, atI_zero _ _, e, Sum.inr (tx nm), S, n, rfl, rfl, eS5, ?_, ?_⟩
          · exact Nat.lt_of_le_of_lt (show n + 1 ≤ 1001 by omega) (by decide)
          refine ⟨_, _, _, _, rfl, k5'.updNew nE0, ?_, upd_same, ?_, fun y => ?_, fun j h => ?_⟩
          · obtain ⟨kvs, ek, rel⟩ := cD4.keep k5
            exact ⟨kvs, by rw [upd_ne cde]; exact ek, rel⟩
          · split <;> omega
          · rw [Bool.or_eq_true, decide_eq_true_eq, hS1]
            constructor
            · rintro (⟨j, rr, h1, h2⟩ | h)
              · exact ⟨j, rr, by omega, h2⟩
              · have := tx_inj (Sum.inr.inj h)
                subst this
                exact ⟨i, _, Nat.lt_succ_self _, hg⟩
            · rintro ⟨j, rr, h1, h2⟩
              by_cases ji : j < i
              · exact .inl ⟨j, rr, ji, h2⟩
              · have : j = i := by omega
                subst this
                rw [hg] at h2
                right
                have := Tree.w.inj (List.cons.inj (Tree.l.inj (Option.some.inj h2))).1
                rw [this]
          · by_cases ji : j < i
            · exact good j ji
            · have : j = i := by omega
              subst this
              exact gi.mpr nd
    · obtain ⟨y3, y4, S, n, rfl, k3, cD3, eS, ni, hS1, good⟩ := pw
      exact q H3 (.inr ⟨hne, .inl ⟨rfl, fun i h => good i (by omega)⟩⟩) k3
end
end Og

namespace Og
open PySem PySem.Spec PyProof.Rows L2
open PySem.NumText (AllDigits digitsVal)
def spw : List V := [.str "quote", .str "if", .str "same", .str "word", .str "head", .str "tail", .str "join"]
theorem spw_eq : spw = specials.map fun p => V.str (tx p.1) := by decide +kernel
theorem eqV_tx {a b : List Nat} : eqV (.str (tx a)) (.str (tx b)) = decide (a = b) := by
  show (tx a == tx b) = _
  by_cases e : a = b
  · rw [e]; simp
  · rw [decide_eq_false e]
    exact beq_eq_false_iff_ne.mpr fun z => e (tx_inj z)
theorem any_find {x : List Nat} : ∀ L : List (List Nat × Nat), (L.map fun p => V.str (tx p.1)).any (fun y => eqV y (.str (tx x))) = (L.find? fun p => decide (p.1 = x)).isSome
  | [] => rfl
  | p :: L => by
    rw [List.map_cons, List.any_cons, List.find?_cons, eqV_tx, any_find L]
    by_cases e : p.1 = x
    · rw [decide_eq_true e]; rfl
    · rw [decide_eq_false e]; rfl
theorem inV_spw (x : List Nat) : inV (.str (tx x)) spw = (spAr x).isSome := by
  rw [spw_eq, ← spAr_isSome]
  exact any_find specials
theorem flat_spw : spw.all flatV = true := by decide
section
variable {P : Program} {w : World} {K : PySem.W.Frag} {mg : Str → Option Value} {base : Heap}
/-! ### _law_special, _law_many -/
def spSpecial : Sp := fun vs H Q _ => vs = [] ∧ ∀ p : Addr, H p = none → Q (.ref p) (upd H p (.lst spw))
theorem has_special {k : Nat} (D : DefAt K mg "_law_special" s_law_special p_law_special) (B : Bn mg) : Has P w K mg base (k + 1) "_law_special" p_law_special spSpecial := by
  obtain ⟨f, fd, F, hm, hb⟩ := D.ex
  refine ⟨f, fd, F.ok sc_law_special (fun vs H Q E h => ?_) (fun cdv A outer s H vs Q E hr h => ?_), hm, F.kp, hb⟩
  · obtain ⟨rfl, _⟩ := h
    rfl
  obtain ⟨rfl, q⟩ := h
  refine ⟨_, (pss_one (ps_ret (pe_lst (pa_cons pe_str (pa_cons pe_str (pa_cons pe_str (pa_cons pe_str (pa_cons pe_str (pa_cons pe_str (pa_cons pe_str pa_nil)))))))))), ?_⟩
  exact ⟨by show (7 : Nat) ≤ sizeLine; decide, fun p np => q p np⟩
def spMany (K : PySem.W.Frag) : Sp := fun vs H Q _ => ∃ (v : V) (fs : List Tree) (x : List Nat), vs = [v, .str (tx x)] ∧ Tr K H v (.l fs) ∧ ∀ i : Int, (∀ k : Nat, arity fs x = some k → i = k) → (arity fs x = none → i = -1) → Q (.int i) H
theorem has_many {k : Nat} (D : DefAt K mg "_law_many" s_law_many p_law_many) (B : Bn mg) : Has P w K mg base (k + 1) "_law_many" p_law_many (spMany K) := by
  obtain ⟨f, fd, F, hm, hb⟩ := D.ex
  refine ⟨f, fd, F.ok sc_law_many (fun vs H Q E h => ?_) (fun cdv A outer s H vs Q E hr h => ?_), hm, F.kp, hb⟩
  · obtain ⟨_, _, _, rfl, _⟩ := h
    rfl
  obtain ⟨v, fs, x, rfl, tv, q⟩ := h
  refine ⟨_, (pss_cons (ps_for PassesOwn.never rfl (pi_tup (pv 0)) (pg_name (i := 2) sc_law_many.nd rfl (.inl rfl))
      (pss_one (ps_if (PW.pt (pw_and (pt_val (pe_callB call_isi (by rfl) B.isinstance (by decide +kernel) (pa_cons (pv 2) (pa_cons (pe_bltn (v := .ty "tuple") rfl B.tuple (by decide +kernel) rfl) pa_nil)))) (pw_and (pt_cmpR op_eq (pe_callB call_len_seq (by rfl) B.len PySem.boot_len (pa_cons (pv 2) pa_nil)) pe_int (nomark _)) (pw_and (pt_val (pe_callB call_isi (by rfl) B.isinstance (by decide +kernel) (pa_cons (pe_ix ix_tup (pv 2) pe_int (fun _ _ => rfl)) (pa_cons (pe_bltn (v := .ty "str") rfl B.str (by decide +kernel) rfl) pa_nil)))) (pw_and1 (pt_val (pe_callB call_isi (by rfl) B.isinstance (by decide +kernel) (pa_cons (pe_ix ix_tup (pv 2) pe_int (fun _ _ => rfl)) (pa_cons (pe_bltn (v := .ty "tuple") rfl B.tuple (by decide +kernel) rfl) pa_nil))))))))) (pss_one (ps_if (pt_cmpR op_eq (pe_ix ix_tup (pv 2) pe_int (fun _ _ => rfl)) (pv 1) (nomark _)) (pss_one (ps_ret (pe_callB call_len_seq (by rfl) B.len PySem.boot_len (pa_cons (pe_ix ix_tup (pv 2) pe_int (fun _ _ => rfl)) pa_nil)))) pss_nil)) pss_nil)))
    (pss_one (ps_ret (pe_un un_neg pe_int)))), ?_⟩
  obtain ⟨a, vs, rfl, hS, r⟩ := tv.list
  have lv := r.length
  refine ⟨_, rfl, a, rfl, ⟨_, hS⟩, ?_⟩
  refine for_tup (K := K) (a := a) (xs := vs) (fun i σ H' => ∃ (y2 : Option V), σ = [some (.ref a), some (.str (tx x)), y2] ∧ H' = H ∧ arity (fs.take i) x = none)
    ⟨none, rfl, rfl, rfl⟩ (fun i σ H' _ pw => ?_) (fun i z σ H1 hz pw => ?_) (fun σ H1 pw => ?_)
  · obtain ⟨_, _, rfl, _⟩ := pw
    exact hS
  · obtain ⟨y2, rfl, rfl, none_⟩ := pw
    have il : i < vs.length := (List.getElem?_eq_some_iff.mp hz).1
    have hg : fs[i]? = some fs[i] := List.getElem?_eq_getElem (by omega)
    obtain ⟨z', hz', tz⟩ := r.get hg
    rw [hz] at hz'
    cases hz'
    have tk : fs.take (i + 1) = fs.take i ++ [fs[i]] := by rw [List.take_add_one, hg]; rfl
    have dr : fs = fs.take i ++ (fs[i] :: fs.drop (i + 1)) := by rw [← List.drop_eq_getElem_cons, List.take_append_drop]
    generalize fs[i] = t at hg tz tk dr
    have next : (fn? t = none ∨ ∃ n ps b, fn? t = some (n, ps, b) ∧ n ≠ x) → ∃ y2 : Option V, ([some (V.ref a), some (V.str (tx x)), some z] : L2.St) = [some (.ref a), some (.str (tx x)), y2] ∧ H1 = H1 ∧ arity (fs.take (i + 1)) x = none := fun h => by
      refine ⟨_, rfl, rfl, ?_⟩
      rw [tk, arity_app, none_]
      rcases h with h | ⟨n, ps, b, h, ne⟩
      · exact arity_one_no h
      · show arity [t] x = none
        rw [arity_one h, if_neg ne]
    obtain ⟨ty, u, q1, q2, q3⟩ := isi_tup tz
    refine ⟨_, rfl, _, _, ty, u, _, rfl, q1, q2, q3, _, rfl, ?_⟩
    cases t with
    | w y => exact iteF (iteF (next (.inl rfl)))
    | l ts =>
      refine iteT ?_
      obtain ⟨za, zvs, rfl, hZ, rZ⟩ := tz.list
      have lz := rZ.length
      refine ⟨_, rfl, za, zvs, rfl, .inr hZ, rfl, _, rfl, ?_⟩
      by_cases l3 : ts.length = 3
      rotate_left
      · rw [dF (by rw [lz]; intro e; exact l3 (by omega))]
        refine iteF (iteF (next (.inl ?_)))
        cases h : fn? (.l ts) with
        | none => rfl
        | some p =>
          obtain ⟨n, ps, b⟩ := p
          have := Tree.l.inj (fn?_iff.mp h)
          exact absurd (by rw [this]; rfl) l3
      rw [dT (by rw [lz, l3]; rfl)]
      refine iteT ?_
      obtain ⟨t0, t1, t2, rfl⟩ := three_of l3
      obtain ⟨x0, y0, z0, rfl, r0, r1, r2⟩ := rZ.three
      obtain ⟨ty0, u0, p1, p2, p3⟩ := isi_str r0
      refine ⟨_, rfl, za, _, _, x0, rfl, rfl, hZ, rfl, _, _, ty0, u0, _, rfl, p1, p2, p3, _, rfl, ?_⟩
      cases t0 with
      | l us => exact iteF (iteF (next (.inl rfl)))
      | w n =>
        refine iteT ?_
        obtain ⟨ty1, u1, w1, w2, w3⟩ := isi_tup r1
        refine ⟨_, rfl, za, _, _, y0, rfl, rfl, hZ, rfl, _, _, ty1, u1, _, rfl, w1, w2, w3, _, rfl, ?_⟩
        cases t1 with
        | w m => exact iteF (next (.inl rfl))
        | l ps =>
          refine iteT ?_
          have e0 := r0.word
          subst e0
          refine ⟨_, rfl, za, _, _, _, rfl, rfl, hZ, rfl, _, rfl, rfl, _, rfl, ?_⟩
          by_cases e : n = x
          · rw [sT e]
            obtain ⟨pa, pvs, rfl, hP, rP⟩ := r1.list
            refine iteT ⟨_, rfl, za, _, _, _, rfl, rfl, hZ, rfl, pa, pvs, rfl, .inr hP, ?_⟩
            refine q _ (fun k hk => ?_) fun hk => ?_
            · rw [dr, arity_app, none_] at hk
              have hk : arity (Tree.l [.w n, .l ps, t2] :: fs.drop (i + 1)) x = some k := hk
              rw [arity, show fn? (Tree.l [.w n, .l ps, t2]) = some (n, ps, t2) from rfl] at hk
              have hk : (if n = x then some ps.length else arity (fs.drop (i + 1)) x) = some k := hk
              rw [if_pos e] at hk
              rw [rP.length, Option.some.inj hk]
            · rw [dr, arity_app, none_] at hk
              have hk : arity (Tree.l [.w n, .l ps, t2] :: fs.drop (i + 1)) x = none := hk
              rw [arity, show fn? (Tree.l [.w n, .l ps, t2]) = some (n, ps, t2) from rfl] at hk
              have hk : (if n = x then some ps.length else arity (fs.drop (i + 1)) x) = none := hk
              rw [if_pos e] at hk
              cases hk
          · rw [sF e]
            exact iteF (next (.inr ⟨n, ps, t2, rfl, e⟩))
  · obtain ⟨y2, rfl, rfl, none_⟩ := pw
    rw [lv, List.take_length] at none_
    exact ⟨_, rfl, q (-1) (fun k hk => by rw [none_] at hk; cases hk) fun _ => rfl⟩
end
end Og

namespace Og
open PySem PySem.Spec PyProof.Rows L2
open PySem.NumText (AllDigits digitsVal)
theorem find_idx {x : List Nat} {p : List Nat × Nat} : ∀ {L : List (List Nat × Nat)}, L.find? (fun p => decide (p.1 = x)) = some p → ∃ j : Nat, L[j]? = some p ∧ p.1 = x ∧ ∀ (m : Nat) (q : List Nat × Nat), m < j → L[m]? = some q → q.1 ≠ x
  | [], h => by cases h
  | q :: L, h => by
    rw [List.find?_cons] at h
    by_cases e : q.1 = x
    · rw [decide_eq_true e] at h
      have := Option.some.inj h
      subst this
      exact ⟨0, rfl, e, fun m q h => absurd h (Nat.not_lt_zero _)⟩
    · rw [decide_eq_false e] at h
      obtain ⟨j, h1, h2, h3⟩ := find_idx (L := L) h
      refine ⟨j + 1, h1, h2, fun m r hm hr => ?_⟩
      cases m with
      | zero =>
        have := Option.some.inj hr
        rw [← this]
        exact e
      | succ m => exact h3 m r (by omega) hr
def pvals : List V := [.int 1, .int 3, .int 2, .int 1, .int 1, .int 1, .int 2, .int (-1)]
theorem pvals_at {j : Nat} {p : List Nat × Nat} (h : specials[j]? = some p) : pvals[j]? = some (.int (p.2 : Nat)) := by
  have l : j < 7 := (List.getElem?_eq_some_iff.mp h).1
  have c : j = 0 ∨ j = 1 ∨ j = 2 ∨ j = 3 ∨ j = 4 ∨ j = 5 ∨ j = 6 := by omega
  rcases c with rfl | rfl | rfl | rfl | rfl | rfl | rfl <;> (rw [← Option.some.inj h]; rfl)
section
variable {P : Program} {w : World} {K : PySem.W.Frag} {mg : Str → Option Value} {base : Heap}
def spEGood (K : PySem.W.Frag) : Sp := fun vs H Q _ => ∃ (v pv bv : V) (fs ps : List Tree) (t : Tree), vs = [v, pv, bv] ∧ Tr K H v (.l fs) ∧ Tr K H pv (.l ps) ∧ (∀ t ∈ ps, t.isW = true) ∧ Tr K H bv t ∧ t.size ≤ 19990 ∧
  ∀ (b : Bool) (H' : Hp), (b = true ↔ GoodE fs ps t) → Keep [] H H' → Q (.bl b) H'
theorem has_egood {k : Nat} (D : DefAt K mg "_law_expression_good" s_law_expression_good p_law_expression_good) (B : Bn mg) (c1 : Has P w K mg base k "_law_special" p_law_special spSpecial) (c2 : Has P w K mg base k "_law_many" p_law_many (spMany K)) :
    Has P w K mg base (k + 1) "_law_expression_good" p_law_expression_good (spEGood K) := by
  obtain ⟨f, fd, F, hm, hb⟩ := D.ex
  obtain ⟨_, _, c_law_special⟩ := c1
  obtain ⟨_, _, c_law_many⟩ := c2
  refine ⟨f, fd, F.ok sc_law_expression_good (fun vs H Q E h => ?_) (fun cdv A outer s H vs Q E hr h => ?_), hm, F.kp, hb⟩
  · obtain ⟨_, _, _, _, _, _, rfl, _⟩ := h
    rfl
  obtain ⟨v, pv0, bv, fs, ps, t, rfl, tv, tp, pw, tb, sz, q⟩ := h
  refine ⟨_, (pss_cons (ps_set (i := 3) sc_law_expression_good.nd rfl (.inl rfl) (pe_lst (pa_cons (pv 2) pa_nil)))
    (pss_cons (ps_for PassesOwn.never rfl (pi_range1 (by rfl) B.range (pa_cons pe_int pa_nil)) (pg_name (i := 4) sc_law_expression_good.nd rfl (.inl rfl))
      (pss_cons (ps_if (pt_cmpR op_eq (pe_callB call_len_seq (by rfl) B.len PySem.boot_len (pa_cons (pv 3) pa_nil)) pe_int (nomark _)) (pss_one (ps_ret pe_bl)) pss_nil)
      (pss_cons (ps_set (i := 5) sc_law_expression_good.nd rfl (.inl rfl) (pe_bm0 PySem.F.plainAttrs_list PySem.F.slot_list_pop PySem.F.type_list_pop mt_pop (pv 3)))
      (pss_cons (ps_if (pt_val (pe_callB call_isi (by rfl) B.isinstance (by decide +kernel) (pa_cons (pv 5) (pa_cons (pe_bltn (v := .ty "str") rfl B.str (by decide +kernel) rfl) pa_nil)))) (pss_cons (ps_if (pt_cmpR op_notIn_seq (pv 5) (pv 1) (by rfl)) (pss_one (ps_ret pe_bl)) pss_nil)
        (pss_one ps_continue)) pss_nil)
      (pss_cons (ps_if (PW.pt (pw_or (pt_cmpR op_eq (pe_callB call_len_seq (by rfl) B.len PySem.boot_len (pa_cons (pv 5) pa_nil)) pe_int (nomark _)) (pw_or1 (pt_not (pt_val (pe_callB call_isi (by rfl) B.isinstance (by decide +kernel) (pa_cons (pe_ix ix_tup (pv 5) pe_int (fun _ _ => rfl)) (pa_cons (pe_bltn (v := .ty "str") rfl B.str (by decide +kernel) rfl) pa_nil)))))))) (pss_one (ps_ret pe_bl)) pss_nil)
      (pss_cons (ps_set (i := 6) sc_law_expression_good.nd rfl (.inl rfl) (pe_lst (pa_cons pe_int (pa_cons pe_int (pa_cons pe_int (pa_cons pe_int (pa_cons pe_int (pa_cons pe_int (pa_cons pe_int (pa_cons (pe_un un_neg pe_int) pa_nil))))))))))
      (C8.pss_cut (ps_if (pt_cmpR op_in_seq (pe_ix ix_tup (pv 5) pe_int (fun _ _ => rfl)) (cal0 c_law_special hr) (by rfl)) (pss_one (ps_set (i := 7) sc_law_expression_good.nd rfl (.inl rfl) (pe_ix ix_list (pv 6) (pe_bm PySem.F.plainAttrs_list PySem.F.slot_list_index PySem.F.type_list_index mt_index (cal0 c_law_special hr) (pa_cons (pe_ix ix_tup (pv 5) pe_int (fun _ _ => rfl)) pa_nil)) (fun _ _ => rfl)))) (pss_one (ps_set (i := 7) sc_law_expression_good.nd rfl (.inl rfl) (cal c_law_many hr rfl (pa_cons (pv 0) (pa_cons (pe_ix ix_tup (pv 5) pe_int (fun _ _ => rfl)) pa_nil))))))
      (pss_cons (ps_if (pt_cmpR op_ne (pv 7) (pe_op op_sub (pe_callB call_len_seq (by rfl) B.len PySem.boot_len (pa_cons (pv 5) pa_nil)) pe_int) (nomark _)) (pss_one (ps_ret pe_bl)) pss_nil)
      (pss_one (ps_if (pt_cmpR op_ne (pe_ix ix_tup (pv 5) pe_int (fun _ _ => rfl)) pe_str (nomark _)) (pss_one (ps_set (i := 3) sc_law_expression_good.nd rfl (.inl rfl) (pe_op op_cat (pv 3) (pe_callTy call_list_of (by rfl) B.list (by decide +kernel) (pa_cons (pe_slice sl_tupA (pv 5) (po_some pe_int) po_none) pa_nil))))) pss_nil))))))))))
    (pss_one (ps_ret pe_bl)))), ?_⟩
  refine ⟨_, rfl, by show (1 : Nat) ≤ sizeLine; decide, fun p np => ?_⟩
  refine ⟨(20000 : Int), rfl, by decide, by decide, ?_⟩
  refine for_range (lo := 0) (n := (20000 : Int).toNat) (fun i σ H' => ∃ (y4 y5 y6 y7 : Option V) (p : Addr) (vs : List V) (ts : List Tree), σ = [some v, some pv0, some bv, some (.ref p), y4, y5, y6, y7] ∧ Keep [] H H' ∧ H p = none ∧ H' p = some (.lst vs) ∧ Trs K H' vs ts ∧ sizes ts + i ≤ 19990 ∧ (GoodE fs ps t ↔ ∀ z ∈ ts, GoodE fs ps z))
    ⟨none, none, none, none, p, _, [t], rfl, Keep.new np, np, upd_same, Trs.one (tb.keep (Keep.new (S := []) np)), by rw [sizes_cons, sizes_nil]; omega, fun h z m => (by rw [List.mem_singleton.mp m]; exact h), fun h => h t (List.mem_singleton.mpr rfl)⟩ (fun i σ H1 hi pw0 => ?_) (fun σ H1 pw0 => ?_)
  rotate_left
  · obtain ⟨_, _, _, _, p, vs, ts, _, _, _, _, _, h, _⟩ := pw0
    exact absurd h (by have : (20000 : Int).toNat = 20000 := rfl; omega)
  obtain ⟨y4, y5, y6, y7, p, vs, ts, rfl, k1, np, e1, tr, sz1, iff⟩ := pw0
  have vl := tr.length
  have tl := len_sizes ts
  refine ⟨_, rfl, p, vs, rfl, .inl (SqL.of e1), rfl, _, rfl, ?_⟩
  by_cases hne : ts = []
  · subst hne
    rw [tr.nil]
    exact iteT (q true H1 ⟨fun _ => iff.mpr fun z m => absurd m (List.not_mem_nil), fun _ => rfl⟩ k1)
  obtain ⟨ts', z, rfl⟩ := snoc_of hne
  obtain ⟨vs', zv, rfl, tr', tz⟩ := tr.snoc
  rw [dF (by rw [List.length_append, List.length_singleton]; omega)]
  refine iteF ?_
  rw [sizes_app, sizes_cons, sizes_nil] at sz1
  refine ⟨_, rfl, .inl ⟨rfl, _, SqL.of e1⟩, p, _, _, rfl, rfl, e1, last_get _ _, ?_⟩
  rw [List.dropLast_concat]
  generalize hH2 : upd H1 p (.lst vs') = H2
  have k2 : Keep [p] H1 H2 := by rw [← hH2]; exact Keep.set e1 (List.mem_cons_self ..)
  have e2 : H2 p = some (.lst vs') := by rw [← hH2, upd_same]
  have k2' : Keep [] H H2 := (k1.cons.trans (k2.mono (by simp))).drop np
  have tz2 := tz.keep k2
  have tr2 := tr'.keep k2
  have tp2 := tp.keep k2'
  have tv2 := tv.keep k2'
  have split : (∀ y ∈ ts' ++ [z], GoodE fs ps y) ↔ (∀ y ∈ ts', GoodE fs ps y) ∧ GoodE fs ps z := by
    constructor
    · intro h
      exact ⟨fun y m => h y (List.mem_append.mpr (.inl m)), h z (by simp)⟩
    · rintro ⟨h1, h2⟩ y m
      rcases List.mem_append.mp m with m | m
      · exact h1 y m
      · rw [List.mem_singleton.mp m]; exact h2
  have no : ∀ H3, Keep [] H2 H3 → ¬ GoodE fs ps z → Q (.bl false) H3 := fun H3 k3 h => q false H3 ⟨fun e => (by cases e), fun e => absurd (split.mp (iff.mp e)).2 h⟩ (k2'.trans k3)
  have zp := size_pos z
  obtain ⟨ty, u, q1, q2, q3⟩ := isi_str tz2
  refine ⟨_, rfl, _, _, ty, u, _, rfl, q1, q2, q3, _, rfl, ?_⟩
  cases z with
  | w x =>
    refine iteT ?_
    have ez := tz2.word
    subst ez
    obtain ⟨pa, pvs, rfl, hP, rP⟩ := tp2.list
    refine ⟨_, rfl, _, rfl, pa, _, rfl, .inr hP, rfl, flat_words rP pw, _, rfl, ?_⟩
    have iv := inV_words (x := x) rP pw
    by_cases hx : Tree.w x ∈ ps
    · rw [iv.mpr hx]
      refine iteF ⟨_, _, _, _, p, vs', ts', rfl, k2', np, e2, tr2, by omega, ?_⟩
      rw [iff, split]
      exact ⟨fun h => h.1, fun h2 => ⟨h2, goodE_w.mpr hx⟩⟩
    · rw [Bool.eq_false_iff.mpr fun h => hx (iv.mp h)]
      exact iteT (no H2 Keep.refl fun h => hx (goodE_w.mp h))
  | l us =>
    refine iteF ?_
    obtain ⟨za, zvs, rfl, hZ, rZ⟩ := tz2.list
    have lz := rZ.length
    refine ⟨_, rfl, za, zvs, rfl, .inr hZ, rfl, _, rfl, ?_⟩
    cases us with
    | nil =>
      rw [rZ.nil]
      exact iteT (iteT (no H2 Keep.refl fun h => (by obtain ⟨n, r, e, _⟩ := (goodE_l.mp h).1; cases e)))
    | cons u0 r =>
      rw [dF (by rw [lz, List.length_cons]; omega)]
      refine iteF ?_
      obtain ⟨v0, vr, rfl, r0, rr⟩ := rZ.cons
      have lr := rr.length
      obtain ⟨ty0, u0', p1, p2, p3⟩ := isi_str r0
      refine ⟨_, rfl, za, _, _, v0, rfl, rfl, hZ, atI_zero _ _, _, _, ty0, u0', _, rfl, p1, p2, p3, _, rfl, ?_⟩
      cases u0 with
      | l us' => exact iteT (no H2 Keep.refl fun h => (by obtain ⟨n, r', e, _⟩ := (goodE_l.mp h).1; have := (List.cons.inj e).1; cases this))
      | w n =>
        refine iteF ?_
        have e0 := r0.word
        subst e0
        -- parts
        refine ⟨_, rfl, by show (8 : Nat) ≤ sizeLine; decide, fun p5 np5 => ?_⟩
        generalize hG : upd H2 p5 (HO.lst [V.int 1, V.int 3, V.int 2, V.int 1, V.int 1, V.int 1, V.int 2, (fun i : Int => V.int (-i)) 1]) = H3
        have k3 : Keep [] H2 H3 := by rw [← hG]; exact Keep.new np5
        have e5 : H3 p5 = some (.lst pvals) := by rw [← hG, upd_same]; rfl
        have hZ3 := k3.sqT hZ
        refine ⟨fun σ' H' => ∃ (m : Int), σ' = [some v, some pv0, some bv, some (.ref p), some (.int (0 + (i : Int))), some (.ref za), some (.ref p5), some (.int m)] ∧ Keep [] H3 H' ∧ (∀ k : Nat, parts fs n = some k → m = k) ∧ (parts fs n = none → m = -1), ?_, ?_⟩
        · refine ⟨_, rfl, za, _, _, _, rfl, rfl, hZ3, atI_zero _ _, rfl, fun s1 ns1 => ?_⟩
          have k4 : Keep [] H3 (upd H3 s1 (.lst spw)) := Keep.new ns1
          have es1 : (upd H3 s1 (.lst spw)) s1 = some (.lst spw) := upd_same
          generalize upd H3 s1 (.lst spw) = H4 at k4 es1
          refine ⟨s1, spw, rfl, .inl (SqL.of es1), rfl, flat_spw, _, rfl, ?_⟩
          rw [show (if false = true then !inV (V.str (tx n)) spw else inV (V.str (tx n)) spw) = inV (V.str (tx n)) spw from rfl, inV_spw]
          cases hs : spAr n with
          | some k0 =>
            have hf : ∃ pr, specials.find? (fun p => decide (p.1 = n)) = some pr ∧ pr.2 = k0 := by
              unfold spAr at hs
              cases h : specials.find? (fun p => decide (p.1 = n)) with
              | none => rw [h] at hs; cases hs
              | some pr => rw [h] at hs; exact ⟨pr, rfl, Option.some.inj hs⟩
            obtain ⟨pr, hf1, hf2⟩ := hf
            obtain ⟨j, j1, j2, j3⟩ := find_idx hf1
            refine iteT ⟨_, rfl, rfl, fun s2 ns2 => ?_⟩
            have k5 : Keep [] H4 (upd H4 s2 (.lst spw)) := Keep.new ns2
            have es2 : (upd H4 s2 (.lst spw)) s2 = some (.lst spw) := upd_same
            generalize upd H4 s2 (.lst spw) = H5 at k5 es2
            have k45 := k4.trans k5
            refine ⟨.inl ⟨rfl, _, SqL.of es2⟩, _, rfl, za, _, _, _, rfl, rfl, k45.sqT hZ3, atI_zero _ _, s2, spw, _, j, .str (tx pr.1), rfl, rfl, SqL.of es2, rfl, flat_spw, ?_, ?_, fun m z' hm hz' => ?_, ?_⟩
            · rw [spw_eq, List.getElem?_map, j1]; rfl
            · rw [eqV_tx, decide_eq_true j2]
            · rw [spw_eq, List.getElem?_map] at hz'
              cases hq : specials[m]? with
              | none => rw [hq] at hz'; cases hz'
              | some qq =>
                rw [hq] at hz'
                have e : V.str (tx qq.1) = z' := Option.some.inj hz'
                rw [← e, eqV_tx]
                exact decide_eq_false (j3 m qq hm hq)
            refine ⟨p5, pvals, _, _, rfl, rfl, SqL.of (k45.get e5 (by simp)), atI_nat (pvals_at j1), ?_⟩
            have pe : parts fs n = some k0 := by unfold parts; rw [hs]
            refine ⟨_, rfl, k45, fun k hk => ?_, fun hk => ?_⟩
            · rw [pe] at hk
              rw [hf2, Option.some.inj hk]
            · rw [pe] at hk; cases hk
          | none =>
            have pe : parts fs n = arity fs n := by unfold parts; rw [hs]
            refine iteF ⟨_, rfl, _, rfl, za, _, _, _, rfl, rfl, k4.sqT hZ3, atI_zero _ _, v, fs, n, rfl, (tv2.keep k3).keep k4, fun m m1 m2 => ?_⟩
            exact ⟨m, rfl, k4, by rw [pe]; exact m1, by rw [pe]; exact m2⟩
        rintro σ' H6 ⟨m, rfl, k6, m1, m2⟩
        have k36 := k3.trans k6
        have hZ6 := k36.sqT hZ
        have el : (((V.str (tx n) :: vr).length : Nat) : Int) - 1 = (r.length : Nat) := by rw [List.length_cons, lr]; omega
        refine ⟨_, rfl, _, rfl, za, _, rfl, .inr hZ6, _, _, rfl, rfl, rfl, _, rfl, ?_⟩
        rw [show (!decide (V.int m = (fun i j : Int => V.int (i - j)) (((V.str (tx n) :: vr).length : Nat) : Int) 1)) = !decide (V.int m = V.int (r.length : Nat)) by
          show (!decide (V.int m = V.int (_ - 1))) = _
          rw [el]]
        have right : Right fs (.w n :: r) ↔ m = (r.length : Nat) := by
          constructor
          · rintro ⟨n', r', e, h⟩
            have h1 := Tree.w.inj (List.cons.inj e).1
            have h2 := (List.cons.inj e).2
            subst h1 h2
            exact m1 _ h
          · intro h
            cases hp : parts fs n with
            | none => have := m2 hp; omega
            | some k0 =>
              have := m1 k0 hp
              exact ⟨n, r, rfl, by rw [hp]; exact congrArg some (by omega)⟩
        by_cases hm : m = (r.length : Nat)
        rotate_left
        · rw [nT hm]
          exact iteT (no H6 k36 fun h => hm (right.mp (goodE_l.mp h).1))
        rw [nF hm]
        refine iteF ?_
        refine ⟨_, rfl, za, _, _, _, rfl, rfl, hZ6, atI_zero _ _, rfl, _, rfl, ?_⟩
        rw [lit_q]
        have lrz := len_sizes r
        rw [size_l, sizes_cons, size_w] at sz1
        have e6 := k36.get e2 (by simp)
        have tr6 := tr2.keep k36
        by_cases hq : n = qw
        · rw [nsF hq]
          have g : GoodE fs ps (.l (.w n :: r)) := goodE_l.mpr ⟨right.mpr hm, .inl (by rw [hq]; rfl)⟩
          refine iteF ⟨_, _, _, _, p, vs', ts', rfl, k2'.trans k36, np, e6, tr6, by omega, ?_⟩
          rw [iff, split]
          exact ⟨fun h => h.1, fun h2 => ⟨h2, g⟩⟩
        · rw [nsT hq]
          have g : GoodE fs ps (.l (.w n :: r)) ↔ ∀ y ∈ r, GoodE fs ps y := by
            rw [goodE_l]
            constructor
            · rintro ⟨_, h | h⟩
              · exact absurd (Tree.w.inj (Option.some.inj h)) hq
              · exact h
            · intro h
              exact ⟨right.mpr hm, .inr h⟩
          refine iteT ⟨_, rfl, _, rfl, _, rfl, ?_⟩
          dsimp only [tNoPart]
          refine sl_tr (tz2.keep k36) fun v7 H7 tv7 k7 => ?_
          have d1 := cutL_from (Tree.w n :: r) (i := 1) (by rw [List.length_cons]; omega)
          rw [show (some (1 : Int)) = some ((1 : Nat) : Int) from rfl, d1, show List.drop 1 (Tree.w n :: r) = r from rfl] at tv7
          obtain ⟨xa, xvs, rfl, hX, rX⟩ := tv7.list
          have lx := rX.length
          have lts := len_sizes ts'
          have lvs := tr2.length
          refine ⟨xa, xvs, rfl, .inr hX, fun l nl => ?_⟩
          have k8 : Keep [] H7 (upd H7 l (.lst xvs)) := Keep.new nl
          have el8 : (upd H7 l (.lst xvs)) l = some (.lst xvs) := upd_same
          generalize upd H7 l (.lst xvs) = H8 at k8 el8
          have k68 := k7.trans k8
          refine ⟨p, l, vs', xvs, rfl, rfl, k68.get e6 (by simp), el8, Nat.le_trans (show _ ≤ 60000 by omega) (by decide), fun p9 np9 => ?_⟩
          have k9 : Keep [] H8 (upd H8 p9 (.lst (vs' ++ xvs))) := Keep.new np9
          have kall := (k2'.trans k36).trans k68
          refine ⟨_, _, _, _, p9, vs' ++ xvs, ts' ++ r, rfl, kall.trans k9, kall.free np9, upd_same, (((tr6.keep k68).append (rX.keep k8))).keep k9, by rw [sizes_app]; omega, ?_⟩
          rw [iff, split, g]
          constructor
          · rintro ⟨h1, h2⟩ y m
            rcases List.mem_append.mp m with m | m
            · exact h1 y m
            · exact h2 y m
          · intro h
            exact ⟨fun y m => h y (List.mem_append.mpr (.inl m)), fun y m => h y (List.mem_append.mpr (.inr m))⟩
end
end Og

namespace Og
open PySem PySem.Spec PyProof.Rows L2
open PySem.NumText (AllDigits digitsVal)
theorem lit_ten : ("0123456789" : Str) = tx [48, 49, 50, 51, 52, 53, 54, 55, 56, 57] := by decide +kernel
theorem lit_none : ("" : Str) = tx [] := by decide +kernel
theorem lit_zero : ("0" : Str) = tx [48] := by decide +kernel
theorem mem_ten {c : Nat} : c ∈ [48, 49, 50, 51, 52, 53, 54, 55, 56, 57] ↔ 48 ≤ c ∧ c ≤ 57 := by
  constructor
  · intro h
    simp only [List.mem_cons, List.not_mem_nil, or_false] at h
    omega
  · intro h
    simp only [List.mem_cons, List.not_mem_nil, or_false]
    omega
theorem tx_one (c : Nat) : (⟨#[c]⟩ : Str) = tx [c] := rfl
section
variable {P : Program} {w : World} {K : PySem.W.Frag} {mg : Str → Option Value} {base : Heap}
def spNGood (K : PySem.W.Frag) : Sp := fun vs H Q _ => ∃ (v : V) (fs rest : List Tree) (i : Nat) (x : List Nat), vs = [v, .int i] ∧ Tr K H v (.l fs) ∧ fs[i]? = some (.l (.w x :: rest)) ∧ Ascii x ∧ x ≠ [] ∧ x.length ≤ 12 ∧
  ∀ (b : Bool) (H' : Hp), (b = true ↔ GoodName fs.length x ∧ ¬ Dupe fs i x) → Keep [] H H' → Q (.bl b) H'
theorem has_ngood {k : Nat} (D : DefAt K mg "_law_name_good" s_law_name_good p_law_name_good) (B : Bn mg) (c1 : Has P w K mg base k "_law_special" p_law_special spSpecial) :
    Has P w K mg base (k + 1) "_law_name_good" p_law_name_good (spNGood K) := by
  obtain ⟨f, fd, F, hm, hb⟩ := D.ex
  obtain ⟨_, _, c_law_special⟩ := c1
  refine ⟨f, fd, F.ok sc_law_name_good (fun vs H Q E h => ?_) (fun cdv A outer s H vs Q E hr h => ?_), hm, F.kp, hb⟩
  · obtain ⟨_, _, _, _, _, rfl, _⟩ := h
    rfl
  obtain ⟨v, fs, rest, i, x, rfl, tv, hg, asc, ne, len, q⟩ := h
  refine ⟨_, (pss_cons (ps_set (i := 2) sc_law_name_good.nd rfl (.inl rfl) (pe_ix ix_tup (pe_ix ix_tup (pv 0) (pv 1) (fun _ _ => rfl)) pe_int (fun _ _ => rfl)))
    (pss_cons (ps_if (pt_cmpR op_in_seq (pv 2) (cal0 c_law_special hr) (by rfl)) (pss_one (ps_ret pe_bl)) pss_nil)
    (pss_cons (ps_for PassesOwn.never rfl (pi_tup (pe_slice sl_tupA (pv 0) po_none (po_some (pv 1)))) (pg_name (i := 3) sc_law_name_good.nd rfl (.inl rfl))
      (pss_one (ps_if (PW.pt (pw_and (pt_val (pe_callB call_isi (by rfl) B.isinstance (by decide +kernel) (pa_cons (pv 3) (pa_cons (pe_bltn (v := .ty "tuple") rfl B.tuple (by decide +kernel) rfl) pa_nil)))) (pw_and (pt_cmpR op_gt (pe_callB call_len_seq (by rfl) B.len PySem.boot_len (pa_cons (pv 3) pa_nil)) pe_int (nomark _)) (pw_and1 (pt_cmpR (op_eqTr hr.units) (pe_ix ix_tup (pv 3) pe_int (fun _ _ => rfl)) (pv 2) (nomark _)))))) (pss_one (ps_ret pe_bl)) pss_nil)))
    (pss_cons (ps_set (i := 4) sc_law_name_good.nd rfl (.inl rfl) (pe_slice sl_str (pv 2) (po_some pe_int) po_none))
    (pss_cons (ps_if (PW.pt (pw_or (pt_cmpR op_ne (pe_ix ix_str (pv 2) pe_int (fun _ _ => rfl)) pe_str (nomark _)) (pw_or1 (pt_cmpR op_eq (pv 4) pe_str (nomark _))))) (pss_one (ps_ret pe_bl)) pss_nil)
    (pss_cons (ps_for PassesOwn.never rfl (pi_str (pv 4)) (pg_name (i := 5) sc_law_name_good.nd rfl (.inl rfl))
      (pss_one (ps_if (pt_cmpR op_notIn_sign (pv 5) pe_str (by rfl)) (pss_one (ps_ret pe_bl)) pss_nil)))
    (pss_cons (ps_if (PW.pt (pw_and (pt_cmpR op_gt (pe_callB call_len_str (by rfl) B.len PySem.boot_len (pa_cons (pv 4) pa_nil)) pe_int (nomark _)) (pw_and1 (pt_cmpR op_eq (pe_ix ix_str (pv 4) pe_int (fun _ _ => rfl)) pe_str (nomark _))))) (pss_one (ps_ret pe_bl)) pss_nil)
    (pss_one (ps_ret (pe_cmpR op_lt (pe_callTy call_int_str (by rfl) B.int (by decide +kernel) (pa_cons (pv 4) pa_nil)) (pe_callB call_len_seq (by rfl) B.len PySem.boot_len (pa_cons (pv 0) pa_nil)) (nomark _))))))))))), ?_⟩
  obtain ⟨a, vs, rfl, hS, r⟩ := tv.list
  have lv := r.length
  have il : i < fs.length := (List.getElem?_eq_some_iff.mp hg).1
  obtain ⟨z, hz, tz⟩ := r.get hg
  obtain ⟨za, zvs, rfl, hZ, rZ⟩ := tz.list
  obtain ⟨v0, vr, rfl, r0, rr⟩ := rZ.cons
  have e0 := r0.word
  subst e0
  refine ⟨_, rfl, _, rfl, a, _, _, _, rfl, rfl, hS, atI_nat hz, za, _, _, _, rfl, rfl, hZ, atI_zero _ _, ?_⟩
  refine ⟨_, rfl, rfl, fun s1 ns1 => ?_⟩
  have k1 : Keep [] H (upd H s1 (.lst spw)) := Keep.new ns1
  have es1 : (upd H s1 (.lst spw)) s1 = some (.lst spw) := upd_same
  generalize upd H s1 (.lst spw) = H1 at k1 es1
  refine ⟨s1, spw, rfl, .inl (SqL.of es1), rfl, flat_spw, _, rfl, ?_⟩
  rw [show (if false = true then !inV (V.str (tx x)) spw else inV (V.str (tx x)) spw) = inV (V.str (tx x)) spw from rfl, inV_spw]
  cases hs : spAr x with
  | some k0 => exact iteT (q false H1 ⟨fun h => (by cases h), fun h => (by have := h.1.1; rw [hs] at this; cases this)⟩ k1)
  | none =>
  refine iteF ?_
  have tv1 := tv.keep k1
  -- the names ahead
  refine ⟨_, rfl, _, rfl, _, rfl, sl_tr tv1 fun v2 H2 tv2 k2 => ?_⟩
  rw [cutL_to fs (j := i) (by omega)] at tv2
  obtain ⟨a2, vs2, rfl, hS2, r2⟩ := tv2.list
  have l2 := r2.length
  rw [List.length_take, Nat.min_eq_left (by omega)] at l2
  refine ⟨a2, rfl, ⟨_, hS2⟩, ?_⟩
  have k02 := k1.trans k2
  refine for_tup (K := K) (a := a2) (xs := vs2) (fun j σ H' => ∃ (y3 y4 y5 : Option V), σ = [some (.ref a), some (.int i), some (.str (tx x)), y3, y4, y5] ∧ H' = H2 ∧ ∀ (j' : Nat) (r : List Tree), j' < j → fs[j']? ≠ some (.l (.w x :: r)))
    ⟨none, none, none, rfl, rfl, fun j' r h => absurd h (Nat.not_lt_zero _)⟩ (fun j σ H' _ pw => ?_) (fun j z σ H' hz2 pw => ?_) (fun σ H' pw => ?_)
  · obtain ⟨_, _, _, _, rfl, _⟩ := pw
    exact hS2
  · obtain ⟨y3, y4, y5, rfl, rfl, no⟩ := pw
    have jl : j < vs2.length := (List.getElem?_eq_some_iff.mp hz2).1
    have hgj : fs[j]? = some fs[j] := List.getElem?_eq_getElem (by omega)
    have hgj2 : (fs.take i)[j]? = some fs[j] := by rw [List.getElem?_take, if_pos (by omega)]; exact hgj
    obtain ⟨z', hz', tz2⟩ := r2.get hgj2
    rw [hz2] at hz'
    cases hz'
    generalize fs[j] = t at hgj tz2
    have next : (∀ r : List Tree, t ≠ .l (.w x :: r)) → ∀ y3' : V, ∃ (y3 y4' y5' : Option V), ([some (.ref a), some (.int i), some (.str (tx x)), some y3', y4, y5] : L2.St) = [some (.ref a), some (.int i), some (.str (tx x)), y3, y4', y5'] ∧ H' = H' ∧ ∀ (j' : Nat) (r : List Tree), j' < j + 1 → fs[j']? ≠ some (.l (.w x :: r)) := fun h y3' => by
      refine ⟨_, _, _, rfl, rfl, fun j' r hj => ?_⟩
      by_cases e : j' < j
      · exact no j' r e
      · have : j' = j := by omega
        subst this
        rw [hgj]
        intro e2
        exact h r (Option.some.inj e2)
    have dup : ∀ r : List Tree, t = .l (.w x :: r) → Q (.bl false) H' := fun r e => q false H' ⟨fun h => (by cases h), fun h => absurd ⟨j, r, by omega, by rw [hgj, e]⟩ h.2⟩ k02
    obtain ⟨ty, u, q1, q2, q3⟩ := isi_tup tz2
    refine ⟨_, rfl, _, _, ty, u, _, rfl, q1, q2, q3, _, rfl, ?_⟩
    cases t with
    | w y => exact iteF (iteF (next (fun r e => (by cases e)) _))
    | l ts =>
      refine iteT ?_
      obtain ⟨ta, tvs, rfl, hT, rT⟩ := tz2.list
      have lt := rT.length
      refine ⟨_, rfl, ta, tvs, rfl, .inr hT, _, _, rfl, rfl, _, rfl, ?_⟩
      cases ts with
      | nil =>
        rw [rT.nil]
        exact iteF (iteF (next (fun r e => (by have := Tree.l.inj e; cases this)) _))
      | cons u0 us =>
        rw [decide_eq_true (show (0 : Int) < ((tvs.length : Nat) : Int) by rw [lt, List.length_cons]; omega)]
        refine iteT ?_
        obtain ⟨w0, wr, rfl, s0, sr⟩ := rT.cons
        refine ⟨_, rfl, ta, _, _, w0, rfl, rfl, hT, atI_zero _ _, _, rfl, u0, .w x, s0, tr_w, .inr rfl, fun b hb => ⟨b, rfl, ?_⟩⟩
        cases b with
        | true => exact iteT (dup us (by rw [hb.mp rfl]))
        | false => exact iteF (next (fun r e => by have := hb.mpr (List.cons.inj (Tree.l.inj e)).1; cases this) _)
  · obtain ⟨y3, y4, y5, rfl, rfl, no⟩ := pw
    have nd : ¬ Dupe fs i x := fun ⟨j, r, h1, h2⟩ => no j r (by omega) h2
    have l1 : 1 ≤ x.length := List.length_pos_iff.mpr ne
    have e1 := cutS_from x (i := 1) l1
    have szx : (tx x).length ≤ sizeLine := by rw [tx_len]; exact sizeL (by omega)
    refine ⟨_, rfl, _, rfl, _, rfl, szx, ?_⟩
    rw [show (some (1 : Int)) = some ((1 : Nat) : Int) from rfl, e1]
    have yes : (∀ ds, x = 102 :: ds → ds ≠ [] → AllDigits ds → False) → Q (.bl true) H' := fun h => q true H' ⟨fun _ => ⟨⟨hs, fun ds e1 e2 e3 => (h ds e1 e2 e3).elim⟩, nd⟩, fun _ => rfl⟩ k02
    obtain ⟨c, ds, rfl⟩ : ∃ c ds, x = c :: ds := by
      cases x with
      | nil => exact absurd rfl ne
      | cons c ds => exact ⟨c, ds, rfl⟩
    refine ⟨_, rfl, _, _, c, rfl, rfl, szx, atI_zero _ _, rfl, _, rfl, ?_⟩
    rw [lit_f, tx_one]
    by_cases hc : c = 102
    rotate_left
    · rw [nsT (a := [c]) (b := [102]) (fun e => hc (List.cons.inj e).1)]
      exact iteT (iteT (yes fun ds' e _ _ => hc (List.cons.inj e).1))
    subst hc
    rw [nsF (a := [102]) (b := [102]) rfl]
    refine iteF ?_
    rw [show List.drop 1 (102 :: ds) = ds from rfl]
    refine ⟨_, rfl, rfl, _, rfl, ?_⟩
    rw [lit_none]
    by_cases hd : ds = []
    · rw [sT hd]
      exact iteT (yes fun ds' e h _ => h (by rw [← (List.cons.inj e).2]; exact hd))
    rw [sF hd]
    refine iteF ?_
    refine ⟨_, rfl, tx ds, rfl, ?_⟩
    refine for_str (z := tx ds) (fun j σ H'' => ∃ (y5 : Option V), σ = [some (.ref a), some (.int i), some (.str (tx (102 :: ds))), y3, some (.str (tx ds)), y5] ∧ H'' = H' ∧ ∀ (j' c : Nat), j' < j → ds[j']? = some c → 48 ≤ c ∧ c ≤ 57)
      ⟨_, rfl, rfl, fun j' c h => absurd h (Nat.not_lt_zero _)⟩ (fun j c σ H'' hcj pw => ?_) (fun σ H'' pw => ?_)
    · obtain ⟨y5, rfl, rfl, dig⟩ := pw
      rw [tx_list] at hcj
      refine ⟨_, rfl, c, _, rfl, rfl, _, rfl, ?_⟩
      rw [lit_ten, tx_list]
      by_cases hm : 48 ≤ c ∧ c ≤ 57
      · rw [decide_eq_true (mem_ten.mpr hm)]
        refine iteF ⟨_, rfl, rfl, fun j' c' h1 h2 => ?_⟩
        by_cases e : j' < j
        · exact dig j' c' e h2
        · have : j' = j := by omega
          subst this
          rw [hcj] at h2
          rw [← Option.some.inj h2]
          exact hm
      · rw [decide_eq_false (fun h => hm (mem_ten.mp h))]
        exact iteT (yes fun ds' e _ h => hm (h c (by rw [← (List.cons.inj e).2]; exact List.mem_of_getElem? hcj)))
    · obtain ⟨y5, rfl, rfl, dig⟩ := pw
      rw [tx_list] at dig
      have da : AllDigits ds := fun c m => by
        obtain ⟨j, hj⟩ := List.mem_iff_getElem?.mp m
        exact dig j c (List.getElem?_eq_some_iff.mp hj).1 hj
      have dl : ds.length ≤ 11 := by rw [List.length_cons] at len; omega
      have gn : GoodName fs.length (102 :: ds) ↔ (ds = [48] ∨ ds.head? ≠ some 48) ∧ digitsVal ds < fs.length := by
        constructor
        · intro h
          exact h.2 ds rfl hd da
        · intro h
          refine ⟨hs, fun ds' e _ _ => ?_⟩
          have := (List.cons.inj e).2
          subst this
          exact h
      have szd : (tx ds).length ≤ sizeLine := by rw [tx_len]; exact sizeL (by omega)
      obtain ⟨d0, dr, rfl⟩ : ∃ d0 dr, ds = d0 :: dr := by
        cases ds with
        | nil => exact absurd rfl hd
        | cons d0 dr => exact ⟨d0, dr, rfl⟩
      have last : (d0 :: dr = [48] ∨ (d0 :: dr).head? ≠ some 48) → (tRet (tOp (rI0 fun i j => V.bl (decide (i < j))) (tCB (fun xs H Q => ∃ a n, xs = [V.str a] ∧ intText? a = some n ∧ a.length ≤ 640 ∧ Q (V.int n) H) (tCons (tVar 4) tNil))
          (tCB (fun xs H_1 Q => ∃ p ys, xs = [V.ref p] ∧ (SqL K H_1 p ys ∨ SqT K H_1 p ys) ∧ Q (V.int (ys.length : Nat)) H_1) (tCons (tVar 0) tNil)))) { nx := fun _ _ => True, rt := Q } [some (.ref a), some (.int i), some (.str (tx (102 :: d0 :: dr))), y3, some (.str (tx (d0 :: dr))), y5] H'' := fun h => by
        refine ⟨_, rfl, tx (d0 :: dr), ((digitsVal (d0 :: dr) : Nat) : Int), rfl, intText_digits da hd (by rw [tx_len]; omega), by rw [tx_len]; omega, ?_⟩
        refine ⟨_, rfl, a, vs, rfl, .inr (k02.sqT hS), _, _, rfl, rfl, q _ H'' ?_ k02⟩
        rw [gn, decide_eq_true_eq, lv]
        exact ⟨fun h2 => ⟨⟨h, by omega⟩, nd⟩, fun h2 => by have := h2.1.2; omega⟩
      refine ⟨_, rfl, tx (d0 :: dr), rfl, szd, _, _, rfl, rfl, _, rfl, ?_⟩
      rw [tx_len]
      by_cases h1 : dr = []
      · subst h1
        rw [decide_eq_false (by simp)]
        refine iteF (iteF (last ?_))
        by_cases z : d0 = 48
        · left; rw [z]
        · right; intro e; exact z (Option.some.inj e)
      · have : 1 ≤ dr.length := List.length_pos_iff.mpr h1
        rw [decide_eq_true (by rw [List.length_cons]; omega)]
        refine iteT ?_
        refine ⟨_, rfl, _, _, d0, rfl, rfl, szd, atI_zero _ _, rfl, _, rfl, ?_⟩
        rw [lit_zero, tx_one]
        by_cases z : d0 = 48
        · rw [sT (a := [d0]) (b := [48]) (by rw [z])]
          refine iteT (q false H'' ⟨fun h => (by cases h), fun h => ?_⟩ k02)
          rcases (gn.mp h.1).1 with e | e
          · exact absurd (List.cons.inj e).2 h1
          · exact absurd (by rw [z]; rfl) e
        · rw [sF (a := [d0]) (b := [48]) (fun e => z (List.cons.inj e).1)]
          exact iteF (last (.inr fun e => z (Option.some.inj e)))
end
end Og

namespace Og
open PySem PySem.Spec PyProof.Rows L2
open PySem.NumText (AllDigits digitsVal)
section
variable {P : Program} {w : World} {K : PySem.W.Frag} {mg : Str → Option Value} {base : Heap}
def spFnGood (K : PySem.W.Frag) : Sp := fun vs H Q _ => ∃ (v : V) (fs : List Tree) (i : Nat), vs = [v, .int i] ∧ Tr K H v (.l fs) ∧ WT (.l fs) ∧ (Tree.l fs).size ≤ 19990 ∧ i < fs.length ∧
  ∀ (b : Bool) (H' : Hp), (b = true ↔ GoodAt fs i) → Keep [] H H' → Q (.bl b) H'
theorem has_fngood {k : Nat} (D : DefAt K mg "_law_function_good" s_law_function_good p_law_function_good) (B : Bn mg) (c1 : Has P w K mg base k "_law_special" p_law_special spSpecial) (c2 : Has P w K mg base k "_law_name_good" p_law_name_good (spNGood K)) (c3 : Has P w K mg base k "_law_expression_good" p_law_expression_good (spEGood K)) :
    Has P w K mg base (k + 1) "_law_function_good" p_law_function_good (spFnGood K) := by
  obtain ⟨f, fd, F, hm, hb⟩ := D.ex
  obtain ⟨_, _, c_law_special⟩ := c1
  obtain ⟨_, _, c_law_name_good⟩ := c2
  obtain ⟨_, _, c_law_expression_good⟩ := c3
  refine ⟨f, fd, F.ok sc_law_function_good (fun vs H Q E h => ?_) (fun cdv A outer s H vs Q E hr h => ?_), hm, F.kp, hb⟩
  · obtain ⟨_, _, _, rfl, _⟩ := h
    rfl
  obtain ⟨v, fs, i, rfl, tv, wt, sz, il, q⟩ := h
  refine ⟨_, (pss_cons (ps_set (i := 2) sc_law_function_good.nd rfl (.inl rfl) (pe_ix ix_tup (pv 0) (pv 1) (fun _ _ => rfl)))
    (pss_cons (ps_if (PW.pt (pw_or (pt_not (pt_val (pe_callB call_isi (by rfl) B.isinstance (by decide +kernel) (pa_cons (pv 2) (pa_cons (pe_bltn (v := .ty "tuple") rfl B.tuple (by decide +kernel) rfl) pa_nil))))) (pw_or (pt_cmpR op_ne (pe_callB call_len_seq (by rfl) B.len PySem.boot_len (pa_cons (pv 2) pa_nil)) pe_int (nomark _)) (pw_or (pt_not (pt_val (pe_callB call_isi (by rfl) B.isinstance (by decide +kernel) (pa_cons (pe_ix ix_tup (pv 2) pe_int (fun _ _ => rfl)) (pa_cons (pe_bltn (v := .ty "str") rfl B.str (by decide +kernel) rfl) pa_nil))))) (pw_or1 (pt_not (pt_val (pe_callB call_isi (by rfl) B.isinstance (by decide +kernel) (pa_cons (pe_ix ix_tup (pv 2) pe_int (fun _ _ => rfl)) (pa_cons (pe_bltn (v := .ty "tuple") rfl B.tuple (by decide +kernel) rfl) pa_nil)))))))))) (pss_one (ps_ret pe_bl)) pss_nil)
    (pss_cons (ps_if (pt_cmpR op_gt (pe_callB call_len_seq (by rfl) B.len PySem.boot_len (pa_cons (pe_ix ix_tup (pv 2) pe_int (fun _ _ => rfl)) pa_nil)) pe_int (nomark _)) (pss_one (ps_ret pe_bl)) pss_nil)
    (pss_cons (ps_for PassesOwn.never rfl (pi_range1 (by rfl) B.range (pa_cons (pe_callB call_len_seq (by rfl) B.len PySem.boot_len (pa_cons (pe_ix ix_tup (pv 2) pe_int (fun _ _ => rfl)) pa_nil)) pa_nil)) (pg_name (i := 3) sc_law_function_good.nd rfl (.inl rfl))
      (pss_one (ps_if (PW.pt (pw_or (pt_not (pt_val (pe_callB call_isi (by rfl) B.isinstance (by decide +kernel) (pa_cons (pe_ix ix_tup (pe_ix ix_tup (pv 2) pe_int (fun _ _ => rfl)) (pv 3) (fun _ _ => rfl)) (pa_cons (pe_bltn (v := .ty "str") rfl B.str (by decide +kernel) rfl) pa_nil))))) (pw_or (pt_cmpR op_in_seq (pe_ix ix_tup (pe_ix ix_tup (pv 2) pe_int (fun _ _ => rfl)) (pv 3) (fun _ _ => rfl)) (cal0 c_law_special hr) (by rfl)) (pw_or1 (pt_cmpR op_in_seq (pe_ix ix_tup (pe_ix ix_tup (pv 2) pe_int (fun _ _ => rfl)) (pv 3) (fun _ _ => rfl)) (pe_slice sl_tupA (pe_ix ix_tup (pv 2) pe_int (fun _ _ => rfl)) po_none (po_some (pv 3))) (by rfl)))))) (pss_one (ps_ret pe_bl)) pss_nil)))
    (pss_one (ps_ret (pe_and (cal c_law_name_good hr rfl (pa_cons (pv 0) (pa_cons (pv 1) pa_nil))) (pe_one (cal c_law_expression_good hr rfl (pa_cons (pv 0) (pa_cons (pe_ix ix_tup (pv 2) pe_int (fun _ _ => rfl)) (pa_cons (pe_ix ix_tup (pv 2) pe_int (fun _ _ => rfl)) pa_nil)))))))))))), ?_⟩
  obtain ⟨a, vs, rfl, hS, r⟩ := tv.list
  have lv := r.length
  have hg : fs[i]? = some fs[i] := List.getElem?_eq_getElem il
  have mem := List.getElem_mem il
  obtain ⟨z, hz, tz⟩ := r.get hg
  have wz := wt.list.all _ mem
  have sg := size_of_get hg
  rw [size_l] at sz
  generalize fs[i] = t at hg tz wz sg mem
  refine ⟨_, rfl, _, rfl, a, _, _, _, rfl, rfl, hS, atI_nat hz, ?_⟩
  have no : (∀ n ps b, t ≠ .l [.w n, .l ps, b]) → Q (.bl false) H := fun h => q false H ⟨fun h => (by cases h), fun ⟨n, ps, b, e, _⟩ => (by rw [hg] at e; exact absurd (Option.some.inj e) (h n ps b))⟩ Keep.refl
  obtain ⟨ty, u, q1, q2, q3⟩ := isi_tup tz
  refine ⟨_, rfl, _, _, ty, u, _, rfl, q1, q2, q3, _, rfl, ?_⟩
  cases t with
  | w x => exact iteT (iteT (no fun n ps b e => (by cases e)))
  | l ts =>
    refine iteF ?_
    obtain ⟨za, zvs, rfl, hZ, rZ⟩ := tz.list
    have lz := rZ.length
    refine ⟨_, rfl, za, zvs, rfl, .inr hZ, rfl, _, rfl, ?_⟩
    by_cases l3 : ts.length = 3
    rotate_left
    · rw [nT (by rw [lz]; intro e; exact l3 (by omega))]
      exact iteT (iteT (no fun n ps b e => l3 (by rw [Tree.l.inj e]; rfl)))
    rw [nF (by rw [lz, l3]; rfl)]
    refine iteF ?_
    obtain ⟨t0, t1, t2, rfl⟩ := three_of l3
    obtain ⟨x0, y0, z0, rfl, r0, r1, r2⟩ := rZ.three
    obtain ⟨ty0, u0, p1, p2, p3⟩ := isi_str r0
    refine ⟨_, rfl, za, _, _, x0, rfl, rfl, hZ, rfl, _, _, ty0, u0, _, rfl, p1, p2, p3, _, rfl, ?_⟩
    cases t0 with
    | l us => exact iteT (iteT (no fun n ps b e => (by have := (List.cons.inj (Tree.l.inj e)).1; cases this)))
    | w n =>
      refine iteF ?_
      have e0 := r0.word
      subst e0
      obtain ⟨ty1, u1, w1, w2, w3⟩ := isi_tup r1
      refine ⟨_, rfl, za, _, _, y0, rfl, rfl, hZ, rfl, _, _, ty1, u1, _, rfl, w1, w2, w3, _, rfl, ?_⟩
      cases t1 with
      | w m => exact iteT (no fun n ps b e => (by have := (List.cons.inj (List.cons.inj (Tree.l.inj e)).2).1; cases this))
      | l ps =>
        refine iteF ?_
        have uniq : GoodAt fs i ↔ GoodName fs.length n ∧ GoodPs ps ∧ GoodE fs ps t2 ∧ ¬ Dupe fs i n := by
          constructor
          · rintro ⟨n', ps', bd', e, h⟩
            rw [hg] at e
            have h1 := Tree.l.inj (Option.some.inj e)
            have h2 := Tree.w.inj (List.cons.inj h1).1
            have h3 := (List.cons.inj h1).2
            have h4 := Tree.l.inj (List.cons.inj h3).1
            have h5 := (List.cons.inj (List.cons.inj h3).2).1
            rw [h2, h4, h5]
            exact h
          · intro h
            exact ⟨n, ps, t2, hg, h⟩
        obtain ⟨pa, pvs, rfl, hP, rP⟩ := r1.list
        have lp := rP.length
        refine ⟨_, rfl, za, _, _, _, rfl, rfl, hZ, rfl, pa, pvs, rfl, .inr hP, _, _, rfl, rfl, _, rfl, ?_⟩
        by_cases hl : ps.length ≤ 12
        rotate_left
        · rw [decide_eq_true (show (12 : Int) < ((pvs.length : Nat) : Int) by omega)]
          exact iteT (q false H ⟨fun h => (by cases h), fun h => absurd (uniq.mp h).2.1.1 hl⟩ Keep.refl)
        rw [decide_eq_false (show ¬ (12 : Int) < ((pvs.length : Nat) : Int) by omega)]
        refine iteF ?_
        refine ⟨_, rfl, za, _, _, _, rfl, rfl, hZ, rfl, pa, pvs, rfl, .inr hP, _, rfl, by omega, by omega, ?_⟩
        refine for_range (lo := 0) (n := ((pvs.length : Nat) : Int).toNat) (fun j σ H' => ∃ (y3 : Option V), σ = [some (.ref a), some (.int i), some (.ref za), y3] ∧ Keep [] H H' ∧ ∀ (j' : Nat) (t : Tree), j' < j → ps[j']? = some t → ∃ x, t = .w x ∧ spAr x = none ∧ ∀ j'', j'' < j' → ps[j'']? ≠ some (.w x))
          ⟨none, rfl, Keep.refl, fun j' t h => absurd h (Nat.not_lt_zero _)⟩ (fun j σ H1 hj pw => ?_) (fun σ H1 pw => ?_)
        · obtain ⟨y3, rfl, k1, good⟩ := pw
          have jl : j < ps.length := by omega
          have hgj : ps[j]? = some ps[j] := List.getElem?_eq_getElem jl
          obtain ⟨pvj, hpj, tj⟩ := rP.get hgj
          generalize ps[j] = tt at hgj tj
          have ej : (0 : Int) + (j : Int) = (j : Int) := by omega
          have hZ1 := k1.sqT hZ
          have hP1 := k1.sqT hP
          have tj1 := tj.keep k1
          have bad : ∀ H2, Keep [] H H2 → (¬ ∃ x, tt = .w x ∧ spAr x = none ∧ ∀ j'', j'' < j → ps[j'']? ≠ some (.w x)) → Q (.bl false) H2 := fun H2 k2 h => q false H2 ⟨fun h => (by cases h), fun g => absurd ((uniq.mp g).2.1.2 j tt hgj) h⟩ k2
          obtain ⟨ty2, u2, b1, b2, b3⟩ := isi_str tj1
          refine ⟨_, rfl, za, _, _, _, rfl, rfl, hZ1, rfl, _, rfl, pa, _, _, _, rfl, rfl, hP1, by rw [ej]; exact atI_nat hpj, _, _, ty2, u2, _, rfl, b1, b2, b3, _, rfl, ?_⟩
          cases tt with
          | l us => exact iteT (iteT (bad H1 k1 fun ⟨x, e, _⟩ => (by cases e)))
          | w x =>
            refine iteF ?_
            have ex := tj1.word
            subst ex
            refine ⟨_, rfl, za, _, _, _, rfl, rfl, hZ1, rfl, _, rfl, pa, _, _, _, rfl, rfl, hP1, by rw [ej]; exact atI_nat hpj, rfl, fun s1 ns1 => ?_⟩
            have k2 : Keep [] H1 (upd H1 s1 (.lst spw)) := Keep.new ns1
            have es1 : (upd H1 s1 (.lst spw)) s1 = some (.lst spw) := upd_same
            generalize upd H1 s1 (.lst spw) = H2 at k2 es1
            have k12 := k1.trans k2
            refine ⟨s1, spw, rfl, .inl (SqL.of es1), rfl, flat_spw, _, rfl, ?_⟩
            rw [show (if false = true then !inV (V.str (tx x)) spw else inV (V.str (tx x)) spw) = inV (V.str (tx x)) spw from rfl, inV_spw]
            cases hs : spAr x with
            | some k0 => exact iteT (iteT (bad H2 k12 fun ⟨x', e, h, _⟩ => (by have := Tree.w.inj e; subst this; rw [hs] at h; cases h)))
            | none =>
              refine iteF ?_
              have hZ2 := k12.sqT hZ
              have hP2 := k12.sqT hP
              refine ⟨_, rfl, za, _, _, _, rfl, rfl, hZ2, rfl, _, rfl, pa, _, _, _, rfl, rfl, hP2, by rw [ej]; exact atI_nat hpj, ?_⟩
              refine ⟨_, rfl, za, _, _, _, rfl, rfl, hZ2, rfl, ?_⟩
              dsimp only [tNoPart]
              refine ⟨_, rfl, _, rfl, ?_⟩
              refine sl_tr (r1.keep k12) fun v3 H3 tv3 k3 => ?_
              rw [ej, cutL_to ps (j := j) (by omega)] at tv3
              obtain ⟨ca, cvs, rfl, hC, rC⟩ := tv3.list
              have words : ∀ t ∈ ps.take j, t.isW = true := fun t m => by
                obtain ⟨j', hj'⟩ := List.mem_iff_getElem?.mp m
                have lj : j' < j := by
                  have := (List.getElem?_eq_some_iff.mp hj').1
                  rw [List.length_take] at this
                  omega
                rw [List.getElem?_take, if_pos lj] at hj'
                obtain ⟨x', e, _⟩ := good j' t lj hj'
                rw [e]; rfl
              have iv := inV_words (x := x) rC words
              refine ⟨ca, cvs, rfl, .inr hC, rfl, flat_words rC words, _, rfl, ?_⟩
              rw [show (if false = true then !inV (V.str (tx x)) cvs else inV (V.str (tx x)) cvs) = inV (V.str (tx x)) cvs from rfl]
              have fresh : Tree.w x ∈ ps.take j ↔ ∃ j'', j'' < j ∧ ps[j'']? = some (.w x) := by
                constructor
                · intro m
                  obtain ⟨j', hj'⟩ := List.mem_iff_getElem?.mp m
                  have lj : j' < j := by
                    have := (List.getElem?_eq_some_iff.mp hj').1
                    rw [List.length_take] at this
                    omega
                  rw [List.getElem?_take, if_pos lj] at hj'
                  exact ⟨j', lj, hj'⟩
                · rintro ⟨j', lj, hj'⟩
                  exact List.mem_iff_getElem?.mpr ⟨j', by rw [List.getElem?_take, if_pos lj]; exact hj'⟩
              by_cases hx : Tree.w x ∈ ps.take j
              · rw [iv.mpr hx]
                obtain ⟨j'', h1, h2⟩ := fresh.mp hx
                exact iteT (bad H3 (k12.trans k3) fun ⟨x', e, _, h⟩ => (by have := Tree.w.inj e; subst this; exact h j'' h1 h2))
              · rw [Bool.eq_false_iff.mpr fun h => hx (iv.mp h)]
                refine iteF ⟨_, rfl, k12.trans k3, fun j' t h1 h2 => ?_⟩
                by_cases lj : j' < j
                · exact good j' t lj h2
                · have : j' = j := by omega
                  subst this
                  rw [hgj] at h2
                  exact ⟨x, (Option.some.inj h2).symm, hs, fun j'' h3 h4 => hx (fresh.mpr ⟨j'', h3, h4⟩)⟩
        · obtain ⟨y3, rfl, k1, good⟩ := pw
          have gp : GoodPs ps := ⟨hl, fun j t h => good j t (by have := (List.getElem?_eq_some_iff.mp h).1; omega) h⟩
          have wn := wz.list.head.word
          refine ⟨_, rfl, _, rfl, _, fs, _, i, n, rfl, tv.keep k1, hg, wn.ascii, wn.ne, wn.len, fun b H2 hb2 k2 => ⟨_, rfl, ?_⟩⟩
          have k12 := k1.trans k2
          cases b with
          | false => exact iteF (q false H2 ⟨fun h => (by cases h), fun h => (by have g := uniq.mp h; have := hb2.mpr ⟨g.1, g.2.2.2⟩; cases this)⟩ k12)
          | true =>
            have g0 := hb2.mp rfl
            rw [size_l, sizes_cons, sizes_cons, sizes_cons, sizes_nil] at sg
            refine iteT ⟨_, rfl, _, rfl, za, _, _, _, rfl, rfl, k12.sqT hZ, rfl, _, rfl, za, _, _, _, rfl, rfl, k12.sqT hZ, rfl, _, _, _, fs, ps, t2, rfl, tv.keep k12, r1.keep k12, fun t m => ?_, r2.keep k12, by omega, fun b H3 hb3 k3 => ?_⟩
            · obtain ⟨i, hi⟩ := List.mem_iff_getElem?.mp m
              obtain ⟨x', e, _⟩ := gp.2 i t hi
              rw [e]; rfl
            · refine q b H3 ?_ (k12.trans k3)
              rw [uniq, hb3]
              exact ⟨fun h => ⟨g0.1, gp, h, g0.2⟩, fun h => h.2.2.1⟩
/-! ### _law_bad_function -/
def spBadF (K : PySem.W.Frag) : Sp := fun vs H Q _ => ∃ (v : V) (t : Tree), vs = [v] ∧ Tr K H v t ∧ WT t ∧ t.size ≤ 19990 ∧
  ∀ (i : Int) (H' : Hp), ((∃ n : Nat, BadNo t (some n) ∧ i = n) ∨ (BadNo t none ∧ i = -1)) → Keep [] H H' → Q (.int i) H'
theorem has_badf {k : Nat} (D : DefAt K mg "_law_bad_function" s_law_bad_function p_law_bad_function) (B : Bn mg) (c1 : Has P w K mg base k "_law_function_good" p_law_function_good (spFnGood K)) : Has P w K mg base (k + 1) "_law_bad_function" p_law_bad_function (spBadF K) := by
  obtain ⟨f, fd, F, hm, hb⟩ := D.ex
  obtain ⟨_, _, c_law_function_good⟩ := c1
  refine ⟨f, fd, F.ok sc_law_bad_function (fun vs H Q E h => ?_) (fun cdv A outer s H vs Q E hr h => ?_), hm, F.kp, hb⟩
  · obtain ⟨_, _, rfl, _⟩ := h
    rfl
  obtain ⟨v, t, rfl, tv, wt, sz, q⟩ := h
  refine ⟨_, (pss_cons (ps_if (PW.pt (pw_or (pt_not (pt_val (pe_callB call_isi (by rfl) B.isinstance (by decide +kernel) (pa_cons (pv 0) (pa_cons (pe_bltn (v := .ty "tuple") rfl B.tuple (by decide +kernel) rfl) pa_nil))))) (pw_or1 (pt_cmpR op_eq (pe_callB call_len_seq (by rfl) B.len PySem.boot_len (pa_cons (pv 0) pa_nil)) pe_int (nomark _))))) (pss_one (ps_ret pe_int)) pss_nil)
    (pss_cons (ps_for PassesOwn.never rfl (pi_range1 (by rfl) B.range (pa_cons (pe_callB call_len_seq (by rfl) B.len PySem.boot_len (pa_cons (pv 0) pa_nil)) pa_nil)) (pg_name (i := 1) sc_law_bad_function.nd rfl (.inl rfl))
      (pss_one (ps_if (pt_not (pt_val (cal c_law_function_good hr rfl (pa_cons (pv 0) (pa_cons (pv 1) pa_nil))))) (pss_one (ps_ret (pe_callTy call_int1 (by rfl) B.int (by decide +kernel) (pa_cons (pv 1) pa_nil)))) pss_nil)))
    (pss_one (ps_ret (pe_un un_neg pe_int))))), ?_⟩
  obtain ⟨ty, u, q1, q2, q3⟩ := isi_tup tv
  refine ⟨_, rfl, _, _, ty, u, _, rfl, q1, q2, q3, _, rfl, ?_⟩
  cases t with
  | w x => exact iteT (iteT (q 0 H (.inl ⟨0, rfl, rfl⟩) Keep.refl))
  | l fs =>
    refine iteF ?_
    obtain ⟨a, vs, rfl, hS, r⟩ := tv.list
    have lv := r.length
    have szl := sz
    rw [size_l] at szl
    have lsz := len_sizes fs
    refine ⟨_, rfl, a, vs, rfl, .inr hS, rfl, _, rfl, ?_⟩
    by_cases hne : fs = []
    · rw [dT (by rw [lv, hne]; rfl)]
      exact iteT (q 0 H (.inl ⟨0, .inl ⟨hne, rfl⟩, rfl⟩) Keep.refl)
    have lp : 1 ≤ fs.length := List.length_pos_iff.mpr hne
    rw [dF (by omega)]
    refine iteF ?_
    refine ⟨_, rfl, a, vs, rfl, .inr hS, _, rfl, by omega, by omega, ?_⟩
    refine for_range (lo := 0) (n := ((vs.length : Nat) : Int).toNat) (fun j σ H' => ∃ (y1 : Option V), σ = [some (.ref a), y1] ∧ Keep [] H H' ∧ ∀ j', j' < j → GoodAt fs j')
      ⟨none, rfl, Keep.refl, fun j' h => absurd h (Nat.not_lt_zero _)⟩ (fun j σ H1 hj pw => ?_) (fun σ H1 pw => ?_)
    · obtain ⟨y1, rfl, k1, good⟩ := pw
      have jl : j < fs.length := by omega
      have ej : (0 : Int) + (j : Int) = (j : Int) := by omega
      refine ⟨_, rfl, _, rfl, _, fs, j, by rw [ej]; rfl, tv.keep k1, wt, sz, jl, fun b H2 hb2 k2 => ⟨_, rfl, ?_⟩⟩
      cases b with
      | true =>
        refine iteF ⟨_, rfl, k1.trans k2, fun j' h => ?_⟩
        by_cases lj : j' < j
        · exact good j' lj
        · have : j' = j := by omega
          subst this
          exact hb2.mp rfl
      | false =>
        refine iteT ?_
        have nb : ¬ GoodAt fs j := fun h => by have := hb2.mpr h; cases this
        exact ⟨_, rfl, .inl ⟨_, rfl, q _ H2 (.inl ⟨j, .inr ⟨hne, .inr ⟨j, rfl, jl, nb, good⟩⟩, ej⟩) (k1.trans k2)⟩⟩
    · obtain ⟨y1, rfl, k1, good⟩ := pw
      exact ⟨_, rfl, q (-1) H1 (.inr ⟨.inr ⟨hne, .inl ⟨rfl, fun i h => good i (by omega)⟩⟩, rfl⟩) k1⟩
end
end Og

namespace Og
open PySem PySem.Spec PyProof.Rows L2
/-! ### written words and tuples of such, as trees -/
def tL (K : PySem.W.Frag) (t : Tree) : TE := fun _ H Q => ∀ (v : V) (H' : Hp), Tr K H' v t → Keep [] H H' → Q v H'
def tLs (K : PySem.W.Frag) (ts : List Tree) : TA := fun _ H R => ∀ (vs : List V) (H' : Hp), Trs K H' vs ts → Keep [] H H' → R vs H'
section
variable {X : Cx} {e : Expr} {es : List Expr} {t : Tree} {ts : List Tree}
theorem pe_weak {e : Expr} {t t' : TE} (h : PE X e t) (w : ∀ σ H Q, t' σ H Q → t σ H Q) : PE X e t' := ⟨fun pins s σ H Q I q => h.run pins s σ H Q I (w σ H Q q)⟩
theorem pa_weak {es : List Expr} {t t' : TA} (h : PA X es t) (w : ∀ σ H R, t' σ H R → t σ H R) : PA X es t' := ⟨fun pos pins s σ H R I q => h.run pos pins s σ H R I (w σ H R q)⟩
theorem pe_lw {s : Str} {k : Nat} {pos : Pos} {x : List Nat} (h : s = tx x) : PE X (.Constant (.str s) k pos) (tL X.K (.w x)) :=
  pe_weak pe_str fun σ H Q q => q _ H (by rw [h]; exact tr_w) Keep.refl
theorem pl_nil : PA X [] (tLs X.K []) := pa_weak pa_nil fun σ H R q => q [] H trs_nil Keep.refl
theorem pl_cons (h : PE X e (tL X.K t)) (r : PA X es (tLs X.K ts)) (hs : starEach (e :: es) X.env = (false, eval e X.env) :: starEach es X.env := by rfl) : PA X (e :: es) (tLs X.K (t :: ts)) :=
  pa_weak (pa_cons h r hs) fun σ H R q v H1 tv k1 vs H2 tvs k2 => q (v :: vs) H2 (trs_cons (tv.keep k2) tvs) (k1.trans k2)
theorem pe_lt {k : Nat} {pos : Pos} (r : PA X es (tLs X.K ts)) (l : ts.length ≤ sizeLine) : PE X (.Tuple es k pos) (tL X.K (.l ts)) :=
  pe_weak (pe_tup r) fun σ H Q q vs H1 tvs k1 => ⟨by rw [tvs.length]; exact l, fun p np => q _ _ (tr_tup upd_same (tvs.keep (Keep.new (S := []) np))) (k1.trans (Keep.new np))⟩
end
/-! ### one of some written words -/
def isWordB : List Nat → Bool
  | [] => false
  | c :: cs => decide (97 ≤ c) && decide (c ≤ 122) && cs.all (fun y => (decide (97 ≤ y) && decide (y ≤ 122)) || (decide (48 ≤ y) && decide (y ≤ 57))) && decide (cs.length ≤ 11)
theorem isWord_of : ∀ {x : List Nat}, isWordB x = true → IsWord x
  | [], h => by cases h
  | c :: cs, h => by
    simp only [isWordB, Bool.and_eq_true, decide_eq_true_eq, List.all_eq_true, Bool.or_eq_true] at h
    exact ⟨c, cs, rfl, h.1.1, h.1.2, h.2⟩
theorem pick {L : List (List Nat)} {xs : List V} (e : xs = L.map fun c => V.str (tx c)) (w : L.all isWordB = true) {j : Int} (h0 : 0 ≤ j) (h1 : j < (L.length : Int)) : ∃ c, atI xs j = some (.str (tx c)) ∧ IsWord c ∧ c ∈ L := by
  obtain ⟨n, rfl⟩ := Int.eq_ofNat_of_zero_le h0
  have l : n < L.length := by omega
  refine ⟨L[n], ?_, isWord_of (List.all_eq_true.mp w _ (List.getElem_mem l)), List.getElem_mem l⟩
  exact atI_nat (by rw [e, List.getElem?_map, List.getElem?_eq_getElem l]; rfl)
mutual
def wtB : Tree → Bool
  | .w x => isWordB x
  | .l ts => wtsB ts
def wtsB : List Tree → Bool
  | [] => true
  | t :: ts => wtB t && wtsB ts
end
mutual
theorem wt_of : ∀ {t : Tree}, wtB t = true → WT t
  | .w x, h => by rw [wtB] at h; exact wt_w (isWord_of h)
  | .l ts, h => by rw [wtB] at h; exact wt_l (wts_of h)
theorem wts_of : ∀ {ts : List Tree}, wtsB ts = true → WTs ts
  | [], _ => wts_nil
  | t :: ts, h => by
    rw [wtsB, Bool.and_eq_true] at h
    exact wts_cons (wt_of h.1) (wts_of h.2)
end
mutual
def deepB : Nat → Tree → Bool
  | _, .w _ => true
  | 0, .l _ => false
  | n + 1, .l ts => deepsB n ts
def deepsB : Nat → List Tree → Bool
  | _, [] => true
  | n, t :: ts => deepB n t && deepsB n ts
end
mutual
theorem deep_of : ∀ {n : Nat} {t : Tree}, deepB n t = true → Deep n t
  | n, .w x, _ => deep_w n x
  | 0, .l _, h => by rw [deepB] at h; cases h
  | n + 1, .l ts, h => by rw [deepB] at h; exact deeps_of h
theorem deeps_of : ∀ {n : Nat} {ts : List Tree}, deepsB n ts = true → ∀ t ∈ ts, Deep n t
  | n, [], _ => fun t m => absurd m (List.not_mem_nil)
  | n, u :: ts, h => fun t m => by
    rw [deepsB, Bool.and_eq_true] at h
    rcases List.mem_cons.mp m with e | m
    · rw [e]; exact deep_of h.1
    · exact deeps_of h.2 t m
end
end Og

namespace Og
open PySem PySem.Spec PyProof.Rows L2
/-! ### _law_value, _law_expression -/
def MV : Nat → Nat
  | 0 => 1
  | n + 1 => 1 + 3 * MV n
theorem MV.pos (n : Nat) : 1 ≤ MV n := by
  cases n with
  | zero => exact Nat.le_refl _
  | succ n => show 1 ≤ 1 + 3 * MV n; omega
def vwords : List (List Nat) := [[121, 101, 115], [97], [113, 117, 111, 116, 101], [102, 48], [98, 50], [100, 111, 110, 101], [115, 112, 105, 110], [120]]
section
variable {P : Program} {w : World} {K : PySem.W.Frag} {mg : Str → Option Value} {base : Heap}
def spVal (K : PySem.W.Frag) (n : Nat) : Sp := fun vs H Q _ => ∃ (h d : Addr), vs = [.ref h, .int n] ∧ Hd H h d ∧
  ∀ (v : V) (t : Tree) (H' : Hp), Tr K H' v t → WT t → t.size ≤ MV n → Deep n t → Keep [h] H H' → Hd H' h d → Q v H'
theorem has_val {k : Nat} (D : DefAt K mg "_law_value" s_law_value p_law_value) (B : Bn mg) (c1 : Has P w K mg base k "_law_take" p_law_take spTake) : ∀ n, Has P w K mg base (k + n + 1) "_law_value" p_law_value (spVal K n) := by
  obtain ⟨f, fd, F, hm, hb⟩ := D.ex
  have step : ∀ n sp, Callee P w K mg base CX0 (k + n) "_law_value" f fd p_law_value sp → (∀ m, n = m + 1 → ∀ vs H Q E, spVal K m vs H Q E → sp vs H Q E) → FnOk P w K mg base CX0 (k + n + 1) f fd p_law_value (spVal K n) := fun n sp c_law_value hsp => by
    obtain ⟨_, _, c_law_take⟩ := c1.mono (show k ≤ k + n by omega)
    refine F.ok sc_law_value (fun vs H Q E h => ?_) (fun cdv A outer s H vs Q E hr h => ?_)
    · obtain ⟨_, _, rfl, _⟩ := h
      rfl
    obtain ⟨a, d, rfl, hd, q⟩ := h
    refine ⟨_, (pss_cons (ps_if (PW.pt (pw_or (pt_cmpR op_eq (pv 1) pe_int (nomark _)) (pw_or1 (pt_cmpR op_eq (cal c_law_take hr rfl (pa_cons (pv 0) (pa_cons pe_int pa_nil))) pe_int (nomark _))))) (pss_one (ps_ret (pe_ix ix_list (pe_lst (pa_cons pe_str (pa_cons pe_str (pa_cons pe_str (pa_cons pe_str (pa_cons pe_str (pa_cons pe_str (pa_cons pe_str (pa_cons pe_str pa_nil))))))))) (cal c_law_take hr rfl (pa_cons (pv 0) (pa_cons pe_int pa_nil))) (fun _ _ => rfl)))) pss_nil)
    (pss_one (ps_ret (pe_callTy call_tuple_of (by rfl) B.tuple (by decide +kernel) (pa_cons (pe_lc (own := [("k", 2)]) (g := gName 2) (tt := tYes) rfl sc_law_value.nd (pi_range1 (by rfl) B.range (pa_cons (cal c_law_take hr rfl (pa_cons (pv 0) (pa_cons pe_int pa_nil))) pa_nil)) (blkOk_by (N := n_law_value) (sc := defScope s_law_value) (by decide +kernel)) (fun _ _ _ _ _ => pg_name (i := 2) sc_law_value.nd rfl (Or.inl rfl)) (fun _ _ _ _ _ => pts_nil) (fun _ _ _ _ _ => (cal c_law_value hr rfl (pa_cons (pv 0) (pa_cons (pe_op op_sub (pv 1) pe_int) pa_nil))))) pa_nil))))), ?_⟩
    have word : ∀ (p : Addr) (H1 : Hp), Keep [a] H H1 → Hd H1 a d → H1 p = none → spTake [.ref a, .int 8] (upd H1 p (.lst [.str "yes", .str "a", .str "quote", .str "f0", .str "b2", .str "done", .str "spin", .str "x"])) (fun y H2 => rIxL K (.ref p) y H2 Q) E0 := fun p H1 k1 hd1 np => by
      refine ⟨a, d, 8, rfl, hd1.new np, by decide, fun j H2 j0 j1 k2 hd2 => ?_⟩
      have pa : p ≠ a := (hd1.neH np).symm
      obtain ⟨c, hc, wc, _⟩ := pick (L := vwords) (xs := [.str "yes", .str "a", .str "quote", .str "f0", .str "b2", .str "done", .str "spin", .str "x"]) (by decide +kernel) (by decide) j0 j1
      refine ⟨p, _, j, _, rfl, rfl, SqL.of (k2.get upd_same (by simpa using pa)), hc, ?_⟩
      exact q _ _ H2 tr_w (wt_w wc) (by rw [size_w]; exact MV.pos n) (deep_w _ _) ((k1.trans (Keep.new np)).trans k2) hd2
    refine ⟨_, rfl, rfl, _, rfl, ?_⟩
    cases n with
    | zero => exact iteT (iteT ⟨by show (8 : Nat) ≤ sizeLine; decide, fun p np => ⟨_, rfl, word p H Keep.refl hd np⟩⟩)
    | succ m =>
      rw [dF (by omega)]
      refine iteF ?_
      refine ⟨_, rfl, a, d, 3, rfl, hd, by decide, fun i H1 i0 i1 k1 hd1 => ?_⟩
      refine ⟨rfl, _, rfl, ite2 (fun c => ?_) (fun c => ?_)⟩
      · exact ⟨by show (8 : Nat) ≤ sizeLine; decide, fun p np => ⟨_, rfl, word p H1 k1 hd1 np⟩⟩
      refine ⟨_, rfl, a, d, 4, rfl, hd1, by decide, fun z H2 z0 z1 k2 hd2 => ?_⟩
      refine ⟨_, rfl, by omega, by omega, fun L nL => ?_⟩
      have La : L ≠ a := (hd2.neH nL).symm
      have Ld : L ≠ d := (hd2.neD nL).symm
      have k12 := k1.trans k2
      have nL0 : H L = none := k12.free nL
      refine lc_range (lo := 0) (n := z.toNat) (fun i H' => ∃ vs ts, H' L = some (.lst vs) ∧ Trs K H' vs ts ∧ ts.length = i ∧ (∀ t ∈ ts, WT t ∧ t.size ≤ MV m ∧ Deep m t) ∧ Keep [a] H H' ∧ Hd H' a d)
        ⟨[], [], upd_same, trs_nil, rfl, by simp, k12.newT nL, hd2.new nL⟩ (fun i H5 hi p => ?_) (fun H5 p => ?_)
      · obtain ⟨vs, ts, e1, e2, e3, e4, k6, hd5⟩ := p
        refine ⟨rfl, yes ?_⟩
        refine ⟨_, rfl, _, rfl, _, _, rfl, rfl, hsp m rfl _ _ _ _ ⟨a, d, ?_, hd5, fun v t H6 tv wt sz dp k7 hd6 => ?_⟩⟩
        · show [V.ref a, V.int ((((m + 1 : Nat)) : Int) - 1)] = [V.ref a, V.int (m : Int)]
          rw [show (((m + 1 : Nat)) : Int) - 1 = (m : Int) by omega]
        have e1' : H6 L = some (.lst vs) := k7.get e1 (by simpa using La)
        have k8 : Keep [L] H6 (upd H6 L (.lst (vs ++ [v]))) := Keep.set e1' (List.mem_cons_self ..)
        refine ⟨vs, e1', ?_, vs ++ [v], ts ++ [t], upd_same, (e2.keep k7 |>.append (trs_cons tv trs_nil)).keep k8, by rw [List.length_append, e3]; rfl, ?_, ((k6.trans k7).cons.trans (k8.mono (by simp))).drop nL0, hd6.upd La.symm Ld.symm⟩
        · rw [e2.length]
          exact sizeLt (by omega)
        · intro u hu
          rcases List.mem_append.mp hu with m | m
          · exact e4 u m
          · rw [List.mem_singleton.mp m]
            exact ⟨wt, sz, dp⟩
      · obtain ⟨vs, ts, e1, e2, e3, e4, k6, hd5⟩ := p
        refine ⟨L, vs, rfl, .inl ⟨SqL.of e1, fun T nT => ?_⟩⟩
        refine q _ (.l ts) _ (tr_tup upd_same (e2.keep (Keep.new (S := []) nT))) (wt_l (WTs.of fun t m => (e4 t m).1)) ?_ (fun t m => (e4 t m).2.2) (k6.newT nT) (hd5.new nT)
        rw [size_l]
        have h1 := sizes_le fun t m => (e4 t m).2.1
        have l : ts.length ≤ 3 := by omega
        have h2 := Nat.mul_le_mul_right (MV m) l
        show _ ≤ 1 + 3 * MV m
        omega
  have all : ∀ n, FnOk P w K mg base CX0 (k + n + 1) f fd p_law_value (spVal K n) := fun n => by
    induction n with
    | zero => exact step 0 (fun _ _ _ _ => False) ⟨⟨fun _ _ _ _ h => h.elim, fun _ _ _ _ _ _ _ _ _ _ _ _ _ h => h.elim⟩, hm, F.kp, hb⟩ fun m e => by cases e
    | succ m ih => exact step (m + 1) (spVal K m) ⟨ih, hm, F.kp, hb⟩ fun m' e vs H Q E q => by cases e; exact q
  exact fun n => ⟨f, fd, all n, hm, F.kp, hb⟩
end
end Og

namespace Og
open PySem PySem.Spec PyProof.Rows L2
def ME : Nat → Nat
  | 0 => 15
  | n + 1 => 2 + 4 * ME n
theorem ME.ge (n : Nat) : 15 ≤ ME n := by
  cases n with
  | zero => exact Nat.le_refl _
  | succ n => have := ME.ge n; show 15 ≤ 2 + 4 * ME n; omega
/-- what may be called, with how many parts -/
abbrev Cs := List (List Nat × Nat)
def CallOk (fs : List Tree) (c : List Nat × Nat) : Prop := parts fs c.1 = some c.2
/-- a good expression of a function with these parameters, in each program that holds what is called -/
def GoodIn (cs : Cs) (ps : List Tree) (t : Tree) : Prop := ∀ fs, (∀ c ∈ cs, CallOk fs c) → GoodE fs ps t
theorem good_word {cs : Cs} {ps : List Tree} {t : Tree} (m : t ∈ ps) (iw : t.isW = true) : GoodIn cs ps t := fun fs _ => by
  cases t with
  | l us => cases iw
  | w x => rw [goodE_w]; exact m
theorem good_quote {cs : Cs} {ps : List Tree} {t : Tree} : GoodIn cs ps (.l [.w qw, t]) := fun fs _ => goodE_l.mpr ⟨⟨qw, [t], rfl, by unfold parts; rw [show spAr qw = some 1 by decide +kernel]; rfl⟩, .inl rfl⟩
theorem good_sp {cs : Cs} {ps ts : List Tree} {x : List Nat} (h : spAr x = some ts.length) (all : ∀ t ∈ ts, GoodIn cs ps t) : GoodIn cs ps (.l (.w x :: ts)) := fun fs hc => goodE_l.mpr ⟨⟨x, ts, rfl, by unfold parts; rw [h]⟩, .inr fun t m => all t m fs hc⟩
theorem good_call {cs : Cs} {ps ts : List Tree} {x : List Nat} (h : (x, ts.length) ∈ cs) (all : ∀ t ∈ ts, GoodIn cs ps t) : GoodIn cs ps (.l (.w x :: ts)) := fun fs hc => goodE_l.mpr ⟨⟨x, ts, rfl, hc _ h⟩, .inr fun t m => all t m fs hc⟩
theorem gall2 {cs : Cs} {ps : List Tree} {a b : Tree} (h : GoodIn cs ps a) (k : GoodIn cs ps b) : ∀ t ∈ [a, b], GoodIn cs ps t := fun t m => by
  rcases List.mem_cons.mp m with e | m
  · rw [e]; exact h
  · rw [List.mem_singleton.mp m]; exact k
theorem GoodIn.mono {cs ds : Cs} {ps : List Tree} {t : Tree} (h : GoodIn cs ps t) (l : ∀ c ∈ cs, c ∈ ds) : GoodIn ds ps t := fun fs hc => h fs fun c m => hc c (l c m)
/-- the calls that an expression may hold -/
def Cls (H : Hp) (cl : Addr) (cs : Cs) : Prop := ∃ cvs : List V, H cl = some (.lst cvs) ∧ cvs.length ≤ 10 ∧ ∀ c ∈ cvs, ∃ (a : Addr) (nm : List Nat) (m : Nat), c = .ref a ∧ H a = some (.tup [.str (tx nm), .int m]) ∧ IsWord nm ∧ m ≤ 4 ∧ (nm, m) ∈ cs
theorem Cls.keep {S : List Addr} {H H1 : Hp} {cl : Addr} {cs : Cs} (h : Cls H cl cs) (k : Keep S H H1) (n : cl ∉ S) : Cls H1 cl cs := by
  obtain ⟨cvs, e, l, q⟩ := h
  refine ⟨cvs, k.get e n, l, fun c m => ?_⟩
  obtain ⟨a, nm, j, e1, e2, e3, e4⟩ := q c m
  exact ⟨a, nm, j, e1, k.tup e2, e3, e4⟩
section
variable {P : Program} {w : World} {K : PySem.W.Frag} {mg : Str → Option Value} {base : Heap}
def spExpr (K : PySem.W.Frag) (n : Nat) : Sp := fun vs H Q _ => ∃ (h d cl : Addr) (pv : V) (ps : List Tree) (cs : Cs), vs = [.ref h, pv, .ref cl, .int n] ∧ Hd H h d ∧ Tr K H pv (.l ps) ∧ (∀ t ∈ ps, t.isW = true) ∧ WTs ps ∧ ps.length ≤ 1000 ∧ Cls H cl cs ∧ cl ≠ h ∧
  ∀ (v : V) (t : Tree) (H' : Hp), Tr K H' v t → WT t → t.size ≤ ME n → Deep (n + 3) t → GoodIn cs ps t → Keep [h] H H' → Hd H' h d → Q v H'
theorem has_expr {k : Nat} (D : DefAt K mg "_law_expression" s_law_expression p_law_expression) (B : Bn mg) (c1 : Has P w K mg base k "_law_take" p_law_take spTake) (c2 : Has P w K mg base k "_law_value" p_law_value (spVal K 2)) : ∃ f fd, ∀ n, Callee P w K mg base CX0 (k + n + 1) "_law_expression" f fd p_law_expression (spExpr K n) := by
  obtain ⟨f, fd, F, hm, hb⟩ := D.ex
  have step : ∀ n sp, Callee P w K mg base CX0 (k + n) "_law_expression" f fd p_law_expression sp → (∀ m, n = m + 1 → ∀ vs H Q E, spExpr K m vs H Q E → sp vs H Q E) → FnOk P w K mg base CX0 (k + n + 1) f fd p_law_expression (spExpr K n) := fun n sp c_law_expression hsp => by
    obtain ⟨_, _, c_law_take⟩ := c1.mono (show k ≤ k + n by omega)
    obtain ⟨_, _, c_law_value⟩ := c2.mono (show k ≤ k + n by omega)
    refine F.ok sc_law_expression (fun vs H Q E h => ?_) (fun cdv A outer s H vs Q E hr h => ?_)
    · obtain ⟨_, _, _, _, _, _, rfl, _⟩ := h
      rfl
    obtain ⟨a, d, cl, pv0, ps, cs, rfl, hd, tp, pw, wp, lps, cls, cla, q⟩ := h
    refine ⟨_, (pss_cons (ps_set (i := 4) sc_law_expression.nd rfl (.inl rfl) (cal c_law_take hr rfl (pa_cons (pv 0) (pa_cons pe_int pa_nil))))
    (pss_cons (ps_if (PW.pt (pw_or (pt_cmpR op_eq (pv 3) pe_int (nomark _)) (pw_or1 (pt_cmpR op_lt (pv 4) pe_int (nomark _))))) (pss_cons (ps_if (PW.pt (pw_and (pt_cmpR op_gt (pe_callB call_len_seq (by rfl) B.len PySem.boot_len (pa_cons (pv 1) pa_nil)) pe_int (nomark _)) (pw_and1 (pt_cmpR op_gt (cal c_law_take hr rfl (pa_cons (pv 0) (pa_cons pe_int pa_nil))) pe_int (nomark _))))) (pss_one (ps_ret (pe_ix ix_tup (pv 1) (cal c_law_take hr rfl (pa_cons (pv 0) (pa_cons (pe_callB call_len_seq (by rfl) B.len PySem.boot_len (pa_cons (pv 1) pa_nil)) pa_nil))) (fun _ _ => rfl)))) pss_nil)
      (pss_one (ps_ret (pe_tup (pa_cons pe_str (pa_cons (cal c_law_value hr rfl (pa_cons (pv 0) (pa_cons pe_int pa_nil))) pa_nil)))))) pss_nil)
    (pss_cons (ps_if (pt_cmpR op_lt (pv 4) pe_int (nomark _)) (pss_cons (ps_setLc (i := 5) (own := [("k", 6)]) (g := gName 6) (tt := tYes) rfl sc_law_expression.nd rfl rfl (sw_true rfl rfl rfl (by decide +kernel)) (pi_range1 (by rfl) B.range (pa_cons pe_int pa_nil)) (blkOk_by (N := n_law_expression) (sc := defScope s_law_expression) (by decide +kernel)) (fun _ _ _ _ _ => pg_name (i := 6) sc_law_expression.nd rfl (Or.inl rfl)) (fun _ _ _ _ _ => pts_nil) (fun _ _ _ _ _ => (cal c_law_expression hr rfl (pa_cons (pv 0) (pa_cons (pv 1) (pa_cons (pv 2) (pa_cons (pe_op op_sub (pv 3) pe_int) pa_nil)))))))
      (pss_one (ps_ret (pe_tup (pa_cons pe_str (pa_cons (pe_ix ix_list (pv 5) pe_int (fun _ _ => rfl)) (pa_cons (pe_ix ix_list (pv 5) pe_int (fun _ _ => rfl)) (pa_cons (pe_ix ix_list (pv 5) pe_int (fun _ _ => rfl)) pa_nil)))))))) pss_nil)
    (pss_cons (ps_if (PW.pt (pw_or (pt_cmpR op_eq (pv 4) pe_int (nomark _)) (pw_or1 (pt_cmpR op_eq (pv 4) pe_int (nomark _))))) (pss_cons (ps_set (i := 7) sc_law_expression.nd rfl (.inl rfl) (cal c_law_expression hr rfl (pa_cons (pv 0) (pa_cons (pv 1) (pa_cons (pv 2) (pa_cons (pe_op op_sub (pv 3) pe_int) pa_nil))))))
      (pss_one (ps_ret (pe_tup (pa_cons pe_str (pa_cons (pv 7) (pa_cons (cal c_law_expression hr rfl (pa_cons (pv 0) (pa_cons (pv 1) (pa_cons (pv 2) (pa_cons (pe_op op_sub (pv 3) pe_int) pa_nil))))) pa_nil))))))) pss_nil)
    (pss_cons (ps_if (pt_cmpR op_lt (pv 4) pe_int (nomark _)) (pss_cons (ps_set (i := 7) sc_law_expression.nd rfl (.inl rfl) (cal c_law_expression hr rfl (pa_cons (pv 0) (pa_cons (pv 1) (pa_cons (pv 2) (pa_cons (pe_op op_sub (pv 3) pe_int) pa_nil))))))
      (pss_one (ps_ret (pe_tup (pa_cons pe_str (pa_cons (pv 7) (pa_cons (cal c_law_expression hr rfl (pa_cons (pv 0) (pa_cons (pv 1) (pa_cons (pv 2) (pa_cons (pe_op op_sub (pv 3) pe_int) pa_nil))))) pa_nil))))))) pss_nil)
    (pss_cons (ps_if (pt_cmpR op_eq (pv 4) pe_int (nomark _)) (pss_one (ps_ret (pe_tup (pa_cons pe_str (pa_cons (cal c_law_expression hr rfl (pa_cons (pv 0) (pa_cons (pv 1) (pa_cons (pv 2) (pa_cons (pe_op op_sub (pv 3) pe_int) pa_nil))))) pa_nil))))) pss_nil)
    (pss_cons (ps_if (PW.pt (pw_or (pt_cmpR op_lt (pv 4) pe_int (nomark _)) (pw_or1 (pt_cmpR op_eq (pe_callB call_len_seq (by rfl) B.len PySem.boot_len (pa_cons (pv 2) pa_nil)) pe_int (nomark _))))) (pss_one (ps_ret (pe_tup (pa_cons (pe_ix ix_list (pe_lst (pa_cons pe_str (pa_cons pe_str pa_nil))) (pe_op op_mod (pv 4) pe_int) (fun _ _ => rfl)) (pa_cons (cal c_law_expression hr rfl (pa_cons (pv 0) (pa_cons (pv 1) (pa_cons (pv 2) (pa_cons (pe_op op_sub (pv 3) pe_int) pa_nil))))) pa_nil))))) pss_nil)
    (pss_cons (ps_asg (pe_ix ix_list (pv 2) (cal c_law_take hr rfl (pa_cons (pv 0) (pa_cons (pe_callB call_len_seq (by rfl) B.len PySem.boot_len (pa_cons (pv 2) pa_nil)) pa_nil))) (fun _ _ => rfl)) (pg_tup (by rfl) (pgs_cons (pg_name (i := 8) sc_law_expression.nd rfl (.inl rfl)) (pgs_cons (pg_name (i := 9) sc_law_expression.nd rfl (.inl rfl)) pgs_nil))))
    (pss_one (ps_ret (pe_op op_catA (pe_tup (pa_cons (pv 8) pa_nil)) (pe_callTy call_tuple_of (by rfl) B.tuple (by decide +kernel) (pa_cons (pe_lc (own := [("k", 6)]) (g := gName 6) (tt := tYes) rfl sc_law_expression.nd (pi_range1 (by rfl) B.range (pa_cons (pv 9) pa_nil)) (blkOk_by (N := n_law_expression) (sc := defScope s_law_expression) (by decide +kernel)) (fun _ _ _ _ _ => pg_name (i := 6) sc_law_expression.nd rfl (Or.inl rfl)) (fun _ _ _ _ _ => pts_nil) (fun _ _ _ _ _ => (cal c_law_expression hr rfl (pa_cons (pv 0) (pa_cons (pv 1) (pa_cons (pv 2) (pa_cons (pe_op op_sub (pv 3) pe_int) pa_nil))))))) pa_nil))))))))))))), ?_⟩
    obtain ⟨pa, pvs, rfl, hP, rP⟩ := tp.list
    have lp := rP.length
    -- kind
    refine ⟨_, rfl, a, d, 12, rfl, hd, by decide, fun kd H1 kd0 kd1 k1 hd1 => ?_⟩
    have tp1 := tp.keep k1
    have hP1 := k1.sqT hP
    have rP1 := rP.keep k1
    have cls1 := cls.keep k1 (by simpa using cla)
    -- a word or a quote
    have first : (tSeq (tIfS (tAnd (tTest (tOp (rI0 fun i j => V.bl (decide (j < i))) (tCB (fun xs H_1 Q => ∃ p ys, xs = [V.ref p] ∧ (SqL K H_1 p ys ∨ SqT K H_1 p ys) ∧ Q (V.int (ys.length : Nat)) H_1) (tCons (tVar 1) tNil)) (tC (V.int 0)))) (tTest (tOp (rI0 fun i j => V.bl (decide (j < i))) (tCall spTake [] E0 (tCons (tVar 0) (tCons (tC (V.int 3)) tNil))) (tC (V.int 0)))))
          (tRet (tOp (rIxT K) (tVar 1) (tCall spTake [] E0 (tCons (tVar 0) (tCons (tCB (fun xs H_1 Q => ∃ p ys, xs = [V.ref p] ∧ (SqL K H_1 p ys ∨ SqT K H_1 p ys) ∧ Q (V.int (ys.length : Nat)) H_1) (tCons (tVar 1) tNil)) tNil))))) tNext) (tRet (tTup (tCons (tC (V.str "quote")) (tCons (tCall (spVal K 2) [] E0 (tCons (tVar 0) (tCons (tC (V.int 2)) tNil))) tNil)))))
        { nx := fun _ _ => True, rt := Q } [some (.ref a), some (.ref pa), some (.ref cl), some (.int n), some (.int kd), none, none, none, none, none] H1 := by
      have quote : ∀ H2, Keep [a] H1 H2 → Hd H2 a d → (tRet (tTup (tCons (tC (V.str "quote")) (tCons (tCall (spVal K 2) [] E0 (tCons (tVar 0) (tCons (tC (V.int 2)) tNil))) tNil)))) { nx := fun _ _ => True, rt := Q } [some (.ref a), some (.ref pa), some (.ref cl), some (.int n), some (.int kd), none, none, none, none, none] H2 := fun H2 k2 hd2 => by
        refine ⟨_, rfl, a, d, rfl, hd2, fun v t H3 tv wt sz dp k3 hd3 => ?_⟩
        refine ⟨by show (2 : Nat) ≤ sizeLine; decide, fun p np => ?_⟩
        obtain ⟨tm, km⟩ := mk_tr (K := K) (H := H3) (vs := [.str "quote", v]) (ts := [.w qw, t]) np (by rw [lit_q]; exact trs_cons tr_w (Trs.one tv))
        refine q _ _ _ tm (wt_l (wts_cons (wt_w (isWord_of (by decide))) (wts_cons wt wts_nil))) ?_ ?_ good_quote (((k1.trans k2).trans k3).trans (km.mono (by simp))) (hd3.keep0 km)
        · rw [size_l, sizes_cons, sizes_cons, sizes_nil, size_w]
          have := ME.ge n
          have e : MV 2 = 13 := rfl
          omega
        · rw [show n + 3 = (n + 2) + 1 from rfl]
          intro t' m
          rcases List.mem_cons.mp m with e | m
          · rw [e]; exact deep_w _ _
          · rw [List.mem_singleton.mp m]
            exact dp.mono (by omega)
      refine ⟨_, rfl, pa, pvs, rfl, .inr hP1, _, _, rfl, rfl, _, rfl, ?_⟩
      by_cases h0 : ps.length = 0
      · rw [decide_eq_false (show ¬ (0 : Int) < ((pvs.length : Nat) : Int) by omega)]
        exact iteF (iteF (quote H1 Keep.refl hd1))
      rw [decide_eq_true (show (0 : Int) < ((pvs.length : Nat) : Int) by omega)]
      refine iteT ?_
      refine ⟨_, rfl, a, d, 3, rfl, hd1, by decide, fun i H2 i0 i1 k2 hd2 => ?_⟩
      refine ⟨_, _, rfl, rfl, _, rfl, ite2 (fun c => ?_) (fun c => quote H2 k2 hd2)⟩
      have hP2 := k2.sqT hP1
      refine ⟨_, rfl, _, rfl, _, rfl, pa, pvs, rfl, .inr hP2, a, d, _, rfl, hd2, by omega, fun j H3 j0 j1 k3 hd3 => ?_⟩
      obtain ⟨jn, rfl⟩ := Int.eq_ofNat_of_zero_le j0
      have jl : jn < ps.length := by omega
      have hg : ps[jn]? = some ps[jn] := List.getElem?_eq_getElem jl
      obtain ⟨x, hx, tx0⟩ := rP1.get hg
      have mem := List.getElem_mem jl
      have k23 := k2.trans k3
      refine ⟨pa, pvs, _, x, rfl, rfl, k3.sqT hP2, atI_nat hx, ?_⟩
      have iw := pw _ mem
      refine q x ps[jn] H3 (tx0.keep k23) (wp.all _ mem) ?_ ?_ (good_word mem iw) (k1.trans k23) hd3
      · cases h : ps[jn] with
        | l us => rw [h] at iw; cases iw
        | w y => rw [size_w]; have := ME.ge n; omega
      · cases h : ps[jn] with
        | l us => rw [h] at iw; cases iw
        | w y => exact deep_w _ _
    refine ⟨_, rfl, rfl, _, rfl, ?_⟩
    cases n with
    | zero => exact iteT (iteT first)
    | succ m =>
    rw [dF (show (((m + 1 : Nat)) : Int) ≠ 0 by omega)]
    refine iteF ?_
    refine ⟨_, rfl, _, _, rfl, rfl, _, rfl, ite2 (fun _ => first) (fun _ => ?_)⟩
    have em : (((m + 1 : Nat)) : Int) - 1 = (m : Int) := by omega
    have eME : ME (m + 1) = 2 + 4 * ME m := rfl
    have rec_ : ∀ (H2 : Hp), Keep [a] H H2 → Hd H2 a d → ∀ Q' : VK, (∀ (v : V) (t : Tree) (H3 : Hp), Tr K H3 v t → WT t → t.size ≤ ME m → Deep (m + 3) t → GoodIn cs ps t → Keep [a] H2 H3 → Hd H3 a d → Q' v H3) → sp [.ref a, .ref pa, .ref cl, .int ((((m + 1 : Nat)) : Int) - 1)] H2 Q' E0 := fun H2 k2 hd2 Q' hq =>
      hsp m rfl _ _ _ _ ⟨a, d, cl, .ref pa, ps, cs, by rw [em], hd2, tp.keep k2, pw, wp, lps, cls.keep k2 (by simpa using cla), cla, hq⟩
    -- one part, two parts behind a written word
    have one : ∀ (s : Str) (wd : List Nat) (v : V) (t : Tree) (H3 : Hp) (p : Addr), s = tx wd → IsWord wd → spAr wd = some 1 → Tr K H3 v t → WT t → t.size ≤ ME m → Deep (m + 3) t → GoodIn cs ps t → Keep [a] H H3 → Hd H3 a d → H3 p = none → Q (.ref p) (upd H3 p (.tup [.str s, v])) := fun s wd v t H3 p es ww sa tv wt sz dp gd k3 hd3 np => by
      obtain ⟨tm, km⟩ := mk_tr (K := K) (H := H3) (vs := [.str s, v]) (ts := [.w wd, t]) np (by rw [es]; exact trs_cons tr_w (Trs.one tv))
      refine q _ _ _ tm (wt_l (wts_cons (wt_w ww) (wts_cons wt wts_nil))) ?_ ?_ (good_sp sa fun t' m => by rw [List.mem_singleton.mp m]; exact gd) (k3.trans (km.mono (by simp))) (hd3.keep0 km)
      · rw [size_l, sizes_cons, sizes_cons, sizes_nil, size_w]
        omega
      · intro t' m
        rcases List.mem_cons.mp m with e | m
        · rw [e]; exact deep_w _ _
        · rw [List.mem_singleton.mp m]; exact dp
    have two : ∀ (s : Str) (wd : List Nat), s = tx wd → IsWord wd → spAr wd = some 2 → (tSeq (tAsg (tCall sp [] E0 (tCons (tVar 0) (tCons (tVar 1) (tCons (tVar 2) (tCons (tOp (rI0 fun i j => V.int (i - j)) (tVar 3) (tC (V.int 1))) tNil))))) (gName 7)) (tRet (tTup (tCons (tC (.str s)) (tCons (tVar 7) (tCons (tCall sp [] E0 (tCons (tVar 0) (tCons (tVar 1) (tCons (tVar 2) (tCons (tOp (rI0 fun i j => V.int (i - j)) (tVar 3) (tC (V.int 1))) tNil))))) tNil)))))) { nx := fun _ _ => True, rt := Q } [some (.ref a), some (.ref pa), some (.ref cl), some (.int ((m + 1 : Nat) : Int)), some (.int kd), none, none, none, none, none] H1 := fun s wd es ww sa => by
      refine ⟨_, rfl, _, rfl, _, rfl, _, rfl, _, _, rfl, rfl, rec_ H1 k1 hd1 _ fun v t H2 tv wt sz dp gd k2 hd2 => ?_⟩
      refine ⟨_, rfl, _, rfl, _, rfl, _, rfl, _, rfl, _, _, rfl, rfl, rec_ H2 (k1.trans k2) hd2 _ fun v2 t2 H3 tv2 wt2 sz2 dp2 gd2 k3 hd3 => ?_⟩
      refine ⟨by show (3 : Nat) ≤ sizeLine; decide, fun p np => ?_⟩
      obtain ⟨tm, km⟩ := mk_tr (K := K) (H := H3) (vs := [.str s, v, v2]) (ts := [.w wd, t, t2]) np (by rw [es]; exact trs_cons tr_w (trs_cons (tv.keep k3) (Trs.one tv2)))
      refine q _ _ _ tm (wt_l (wts_cons (wt_w ww) (wts_cons wt (wts_cons wt2 wts_nil)))) ?_ ?_ (good_sp sa (gall2 gd gd2)) (((k1.trans k2).trans k3).trans (km.mono (by simp))) (hd3.keep0 km)
      · rw [size_l, sizes_cons, sizes_cons, sizes_cons, sizes_nil, size_w]
        omega
      · intro t' m
        rcases List.mem_cons.mp m with e | m
        · rw [e]; exact deep_w _ _
        · rcases List.mem_cons.mp m with e | m
          · rw [e]; exact dp
          · rw [List.mem_singleton.mp m]; exact dp2
    -- if
    refine ⟨_, rfl, _, _, rfl, rfl, _, rfl, ite2 (fun _ => ?_) (fun _ => ?_)⟩
    · refine ⟨(3 : Int), rfl, by decide, by decide, fun L nL => ?_⟩
      have La : L ≠ a := (hd1.neH nL).symm
      have Ld : L ≠ d := (hd1.neD nL).symm
      have nL0 : H L = none := k1.free nL
      refine lc_range (lo := 0) (n := (3 : Int).toNat) (fun i H' => ∃ vs ts, H' L = some (.lst vs) ∧ Trs K H' vs ts ∧ ts.length = i ∧ (∀ t ∈ ts, WT t ∧ t.size ≤ ME m ∧ Deep (m + 3) t ∧ GoodIn cs ps t) ∧ Keep [a] H H' ∧ Hd H' a d)
        ⟨[], [], upd_same, trs_nil, rfl, by simp, k1.newT nL, hd1.new nL⟩ (fun i H5 hi p => ?_) (fun H5 p => ?_)
      · obtain ⟨vs, ts, e1, e2, e3, e4, k6, hd5⟩ := p
        refine ⟨rfl, yes ?_⟩
        refine ⟨_, rfl, _, rfl, _, rfl, _, rfl, _, _, rfl, rfl, rec_ H5 k6 hd5 _ fun v t H6 tv wt sz dp gd k7 hd6 => ?_⟩
        have e1' : H6 L = some (.lst vs) := k7.get e1 (by simpa using La)
        have k8 : Keep [L] H6 (upd H6 L (.lst (vs ++ [v]))) := Keep.set e1' (List.mem_cons_self ..)
        refine ⟨vs, e1', ?_, vs ++ [v], ts ++ [t], upd_same, (e2.keep k7 |>.append (trs_cons tv trs_nil)).keep k8, by rw [List.length_append, e3]; rfl, ?_, ((k6.trans k7).cons.trans (k8.mono (by simp))).drop nL0, hd6.upd La.symm Ld.symm⟩
        · rw [e2.length]
          exact sizeLt (by have : (3 : Int).toNat = 3 := rfl; omega)
        · intro u hu
          rcases List.mem_append.mp hu with m | m
          · exact e4 u m
          · rw [List.mem_singleton.mp m]
            exact ⟨wt, sz, dp, gd⟩
      · obtain ⟨vs, ts, e1, e2, e3, e4, k6, hd5⟩ := p
        obtain ⟨t0, t1, t2, rfl⟩ := three_of (show ts.length = 3 from e3)
        obtain ⟨x0, x1, x2, rfl, r0, r1, r2⟩ := e2.three
        refine ⟨_, rfl, L, _, _, _, rfl, rfl, SqL.of e1, rfl, _, rfl, L, _, _, _, rfl, rfl, SqL.of e1, rfl, _, rfl, L, _, _, _, rfl, rfl, SqL.of e1, rfl, by show (4 : Nat) ≤ sizeLine; decide, fun p np => ?_⟩
        obtain ⟨tm, km⟩ := mk_tr (K := K) (H := H5) (vs := [.str "if", x0, x1, x2]) (ts := [.w [105, 102], t0, t1, t2]) np (by rw [show ("if" : Str) = tx [105, 102] by decide +kernel]; exact trs_cons tr_w e2)
        have h0 := e4 t0 (by simp)
        have h1 := e4 t1 (by simp)
        have h2 := e4 t2 (by simp)
        refine q _ _ _ tm (wt_l (wts_cons (wt_w (isWord_of (by decide))) (wts_cons h0.1 (wts_cons h1.1 (wts_cons h2.1 wts_nil))))) ?_ ?_ (good_sp (show spAr [105, 102] = some 3 by decide +kernel) fun t m => (e4 t m).2.2.2) (k6.trans (km.mono (by simp))) (hd5.keep0 km)
        · rw [size_l, sizes_cons, sizes_cons, sizes_cons, sizes_cons, sizes_nil, size_w]
          have := h0.2.1
          have := h1.2.1
          have := h2.2.1
          omega
        · intro t' m
          rcases List.mem_cons.mp m with e | m
          · rw [e]; exact deep_w _ _
          · exact (e4 t' m).2.2.1
    refine ⟨_, rfl, rfl, _, rfl, ite2 (fun _ => iteT (two "same" [115, 97, 109, 101] (by decide +kernel) (isWord_of (by decide)) (by decide +kernel))) (fun _ => ?_)⟩
    refine ⟨_, rfl, rfl, _, rfl, ite2 (fun _ => two "same" [115, 97, 109, 101] (by decide +kernel) (isWord_of (by decide)) (by decide +kernel)) (fun _ => ?_)⟩
    refine ⟨_, rfl, _, _, rfl, rfl, _, rfl, ite2 (fun _ => two "join" [106, 111, 105, 110] (by decide +kernel) (isWord_of (by decide)) (by decide +kernel)) (fun _ => ?_)⟩
    refine ⟨_, rfl, rfl, _, rfl, ite2 (fun _ => ?_) (fun _ => ?_)⟩
    · refine ⟨_, rfl, _, rfl, _, rfl, _, rfl, _, _, rfl, rfl, rec_ H1 k1 hd1 _ fun v t H2 tv wt sz dp gd k2 hd2 => ?_⟩
      exact ⟨by show (2 : Nat) ≤ sizeLine; decide, fun p np => one "word" [119, 111, 114, 100] v t H2 p (by decide +kernel) (isWord_of (by decide)) (by decide +kernel) tv wt sz dp gd (k1.trans k2) hd2 np⟩
    have ht : (tRet (tTup (tCons (tOp (rIxL K) (tLst (tCons (tC (.str "head")) (tCons (tC (.str "tail")) tNil))) (tOp (rI (fun _ j => 0 < j) fun i j => V.int (i % j)) (tVar 4) (tC (V.int 2)))) (tCons (tCall sp [] E0 (tCons (tVar 0) (tCons (tVar 1) (tCons (tVar 2) (tCons (tOp (rI0 fun i j => V.int (i - j)) (tVar 3) (tC (V.int 1))) tNil))))) tNil)))) { nx := fun _ _ => True, rt := Q } [some (.ref a), some (.ref pa), some (.ref cl), some (.int ((m + 1 : Nat) : Int)), some (.int kd), none, none, none, none, none] H1 := by
      refine ⟨by show (2 : Nat) ≤ sizeLine; decide, fun p2 np2 => ?_⟩
      have ka : Keep [] H1 (upd H1 p2 (.lst [.str "head", .str "tail"])) := Keep.new np2
      have ep2 : (upd H1 p2 (.lst [.str "head", .str "tail"])) p2 = some (.lst [.str "head", .str "tail"]) := upd_same
      generalize upd H1 p2 (.lst [.str "head", .str "tail"]) = H2 at ka ep2
      refine ⟨_, rfl, _, _, rfl, rfl, by show (0 : Int) < 2; decide, ?_⟩
      obtain ⟨c, hc, wc, mc⟩ := pick (L := [[104, 101, 97, 100], [116, 97, 105, 108]]) (xs := [.str "head", .str "tail"]) (by decide +kernel) (by decide) (j := kd % 2) (Int.emod_nonneg _ (by decide)) (Int.emod_lt_of_pos _ (by decide))
      refine ⟨p2, _, _, _, rfl, rfl, SqL.of ep2, hc, ?_⟩
      have k12 := k1.trans (ka.mono (by simp : ∀ x ∈ ([] : List Addr), x ∈ [a]))
      refine ⟨_, rfl, _, rfl, _, rfl, _, rfl, _, _, rfl, rfl, rec_ H2 k12 (hd1.keep0 ka) _ fun v t H3 tv wt sz dp gd k3 hd3 => ?_⟩
      have sac : spAr c = some 1 := by
        simp only [List.mem_cons, List.not_mem_nil, or_false] at mc
        rcases mc with rfl | rfl <;> decide +kernel
      exact ⟨by show (2 : Nat) ≤ sizeLine; decide, fun p np => one (tx c) c v t H3 p rfl wc sac tv wt sz dp gd (k12.trans k3) hd3 np⟩
    refine ⟨_, rfl, _, _, rfl, rfl, _, rfl, ite2 (fun _ => iteT ht) (fun _ => ?_)⟩
    obtain ⟨cvs, ec, lc, each⟩ := id cls1
    refine ⟨_, rfl, cl, cvs, rfl, .inl (SqL.of ec), rfl, _, rfl, ?_⟩
    by_cases h0 : cvs.length = 0
    · rw [dT (by omega)]
      exact iteT ht
    rw [dF (by omega)]
    refine iteF ?_
    refine ⟨_, rfl, _, rfl, _, rfl, cl, cvs, rfl, .inl (SqL.of ec), a, d, _, rfl, hd1, by omega, fun j H2 j0 j1 k2 hd2 => ?_⟩
    obtain ⟨jn, rfl⟩ := Int.eq_ofNat_of_zero_le j0
    have jl : jn < cvs.length := by omega
    have hg : cvs[jn]? = some cvs[jn] := List.getElem?_eq_getElem jl
    obtain ⟨ca, nm, mm, e1, e2, e3_, e4_, e5_⟩ := each _ (List.getElem_mem jl)
    have ec2 := k2.get ec (by simpa using cla)
    have e2' := k2.tup e2
    rw [e1] at hg
    refine ⟨cl, cvs, _, _, rfl, rfl, SqL.of ec2, atI_nat hg, ?_⟩
    refine ⟨ca, _, rfl, SqT.of_tup e2', rfl, _, _, rfl, _, _, rfl, rfl, ?_⟩
    refine ⟨_, rfl, by show (1 : Nat) ≤ sizeLine; decide, fun t1 nt1 => ?_⟩
    obtain ⟨tn, kn⟩ := mk_tr (K := K) (H := H2) (vs := [.str (tx nm)]) (ts := [.w nm]) nt1 (Trs.one tr_w)
    generalize upd H2 t1 (.tup [.str (tx nm)]) = H3 at tn kn
    have k13 : Keep [a] H H3 := (k1.trans k2).trans (kn.mono (by simp))
    have hd3 := hd2.keep0 kn
    refine ⟨_, rfl, (mm : Int), rfl, by omega, by omega, fun L nL => ?_⟩
    have La : L ≠ a := (hd3.neH nL).symm
    have Ld : L ≠ d := (hd3.neD nL).symm
    have nL0 : H L = none := k13.free nL
    refine lc_range (lo := 0) (n := (mm : Int).toNat) (fun i H' => ∃ vs ts, H' L = some (.lst vs) ∧ Trs K H' vs ts ∧ ts.length = i ∧ (∀ t ∈ ts, WT t ∧ t.size ≤ ME m ∧ Deep (m + 3) t ∧ GoodIn cs ps t) ∧ Keep [a] H H' ∧ Hd H' a d ∧ Tr K H' (.ref t1) (.l [.w nm]))
      ⟨[], [], upd_same, trs_nil, rfl, by simp, k13.newT nL, hd3.new nL, tn.keep (Keep.new (S := []) nL)⟩ (fun i H5 hi p => ?_) (fun H5 p => ?_)
    · obtain ⟨vs, ts, e1, e2, e3, e4, k6, hd5, tn5⟩ := p
      refine ⟨rfl, yes ?_⟩
      refine ⟨_, rfl, _, rfl, _, rfl, _, rfl, _, _, rfl, rfl, rec_ H5 k6 hd5 _ fun v t H6 tv wt sz dp gd k7 hd6 => ?_⟩
      have e1' : H6 L = some (.lst vs) := k7.get e1 (by simpa using La)
      have k8 : Keep [L] H6 (upd H6 L (.lst (vs ++ [v]))) := Keep.set e1' (List.mem_cons_self ..)
      refine ⟨vs, e1', ?_, vs ++ [v], ts ++ [t], upd_same, (e2.keep k7 |>.append (trs_cons tv trs_nil)).keep k8, by rw [List.length_append, e3]; rfl, ?_, ((k6.trans k7).cons.trans (k8.mono (by simp))).drop nL0, hd6.upd La.symm Ld.symm, (tn5.keep k7).keep k8⟩
      · rw [e2.length]
        exact sizeLt (by omega)
      · intro u hu
        rcases List.mem_append.mp hu with m | m
        · exact e4 u m
        · rw [List.mem_singleton.mp m]
          exact ⟨wt, sz, dp, gd⟩
    · obtain ⟨vs, ts, e1, e2, e3, e4, k6, hd5, tn5⟩ := p
      refine ⟨L, vs, rfl, .inl ⟨SqL.of e1, fun T nT => ?_⟩⟩
      obtain ⟨tm, km⟩ := mk_tr (K := K) (H := H5) nT e2
      refine cat_tr (tn5.keep km) tm (Nat.le_trans (show _ ≤ 100 by rw [List.length_singleton]; omega) (by decide)) fun v7 H7 tv7 k7 => ?_
      have szs := sizes_le fun t m => (e4 t m).2.1
      have l : ts.length ≤ 4 := by omega
      have mulle := Nat.mul_le_mul_right (ME m) l
      refine q v7 _ H7 tv7 (wt_l (wts_cons (wt_w e3_) (WTs.of fun t m => (e4 t m).1))) ?_ ?_ (good_call (ts := ts) (by rw [show ts.length = mm by omega]; exact e5_) fun t m => (e4 t m).2.2.2) ((k6.trans (km.mono (by simp))).trans (k7.mono (by simp))) ((hd5.keep0 km).keep0 k7)
      · rw [size_l, List.singleton_append, sizes_cons, size_w]
        omega
      · intro t' m
        rcases List.mem_cons.mp m with e | m
        · rw [e]; exact deep_w _ _
        · exact (e4 t' m).2.2.1
  have all : ∀ n, FnOk P w K mg base CX0 (k + n + 1) f fd p_law_expression (spExpr K n) := fun n => by
    induction n with
    | zero => exact step 0 (fun _ _ _ _ => False) ⟨⟨fun _ _ _ _ h => h.elim, fun _ _ _ _ _ _ _ _ _ _ _ _ _ h => h.elim⟩, hm, F.kp, hb⟩ fun m e => by cases e
    | succ m ih => exact step (m + 1) (spExpr K m) ⟨ih, hm, F.kp, hb⟩ fun m' e vs H Q E q => by cases e; exact q
  exact ⟨f, fd, fun n => ⟨all n, hm, F.kp, hb⟩⟩
end
end Og

namespace Og
open PySem PySem.Spec PyProof.Rows L2
/-! ### programs as rows of functions: name, parameters, body -/
abbrev Fn := List Nat × List Tree × Tree
def fnt (f : Fn) : Tree := .l [.w f.1, .l f.2.1, f.2.2]
def sigs (L : List Fn) : Cs := L.map fun f => (f.1, f.2.1.length)
/-- a row of functions that is a good program -/
structure GoodL (L : List Fn) : Prop where
  nd : (L.map (·.1)).Nodup
  nm : ∀ f ∈ L, GoodName L.length f.1
  ps : ∀ f ∈ L, GoodPs f.2.1
  ex : ∀ f ∈ L, GoodIn (sigs L) f.2.1 f.2.2
/-- a name that is neither special nor f and more -/
theorem goodName_plain {n : Nat} {x : List Nat} (h : spAr x = none) (k : x.head? ≠ some 102) : GoodName n x := ⟨h, fun ds e _ _ => absurd (by rw [e]; rfl) k⟩
theorem fn?_fnt (f : Fn) : fn? (fnt f) = some f := fn?_iff.mpr rfl
theorem arity_fns : ∀ {L : List Fn} {f : Fn}, (L.map (·.1)).Nodup → f ∈ L → arity (L.map fnt) f.1 = some f.2.1.length
  | [], f, _, m => absurd m (List.not_mem_nil)
  | g :: L, f, nd, m => by
    rw [List.map_cons, List.nodup_cons] at nd
    rw [List.map_cons, arity, fn?_fnt]
    show (if g.1 = f.1 then some g.2.1.length else arity (L.map fnt) f.1) = _
    rcases List.mem_cons.mp m with e | m
    · rw [e, if_pos rfl]
    · rw [if_neg (fun e => nd.1 (by rw [e]; exact List.mem_map.mpr ⟨f, m, rfl⟩))]
      exact arity_fns nd.2 m
theorem GoodL.calls {L : List Fn} (h : GoodL L) : ∀ c ∈ sigs L, CallOk (L.map fnt) c := fun c m => by
  obtain ⟨f, mf, rfl⟩ := List.mem_map.mp m
  show parts _ f.1 = some f.2.1.length
  unfold parts
  rw [(h.nm f mf).1]
  exact arity_fns h.nd mf
theorem nodup_get : ∀ {L : List (List Nat)} {i j : Nat} {x : List Nat}, L.Nodup → L[i]? = some x → L[j]? = some x → i = j := fun {L i j x} nd hi hj => by
  have li := (List.getElem?_eq_some_iff.mp hi).1
  exact (List.getElem?_inj li nd).mp (hi.trans hj.symm)
theorem GoodL.at {L : List Fn} (h : GoodL L) {i : Nat} (hi : i < L.length) : GoodAt (L.map fnt) i := by
  have hg : L[i]? = some L[i] := List.getElem?_eq_getElem hi
  have mf := List.getElem_mem hi
  generalize L[i] = f at hg mf
  have n1 := h.nm f mf
  refine ⟨f.1, f.2.1, f.2.2, by rw [List.getElem?_map, hg]; rfl, by rw [List.length_map]; exact n1, h.ps f mf, h.ex f mf _ h.calls, ?_⟩
  · rintro ⟨j, r, lj, ej⟩
    rw [List.getElem?_map] at ej
    cases hj : L[j]? with
    | none => rw [hj] at ej; cases ej
    | some g =>
      rw [hj] at ej
      have e1 : fnt g = .l (.w f.1 :: r) := Option.some.inj ej
      have e2 := Tree.w.inj (List.cons.inj (Tree.l.inj e1)).1
      have a : (L.map (·.1))[j]? = some f.1 := by rw [List.getElem?_map, hj]; exact congrArg some e2
      have b : (L.map (·.1))[i]? = some f.1 := by rw [List.getElem?_map, hg]; rfl
      have := nodup_get h.nd a b
      omega
theorem GoodL.bad {L : List Fn} (h : GoodL L) (ne : L ≠ []) : BadNo (.l (L.map fnt)) none := by
  refine .inr ⟨fun e => ne (List.map_eq_nil_iff.mp e), .inl ⟨rfl, fun i hi => ?_⟩⟩
  rw [List.length_map] at hi
  exact h.at hi
/-! ### deciding that a written expression is good -/
mutual
def goodB (cs : Cs) (ps : List Tree) : Tree → Bool
  | .w x => ps.any fun p => match p with
    | .w y => decide (y = x)
    | .l _ => false
  | .l [] => false
  | .l (.l _ :: _) => false
  | .l (.w n :: ts) => (match spAr n with
    | some k => decide (k = ts.length)
    | none => decide ((n, ts.length) ∈ cs)) && (decide (n = qw) || goodsB cs ps ts)
def goodsB (cs : Cs) (ps : List Tree) : List Tree → Bool
  | [] => true
  | t :: ts => goodB cs ps t && goodsB cs ps ts
end
mutual
theorem good_of {cs : Cs} {ps : List Tree} : ∀ {t : Tree}, goodB cs ps t = true → GoodIn cs ps t
  | .w x, h => by
    rw [goodB, List.any_eq_true] at h
    obtain ⟨p, m, e⟩ := h
    cases p with
    | l _ => cases e
    | w y =>
      have := of_decide_eq_true e
      subst this
      exact good_word m rfl
  | .l [], h => by rw [goodB] at h; cases h
  | .l (.l _ :: _), h => by rw [goodB] at h; cases h
  | .l (.w n :: ts), h => by
    rw [goodB, Bool.and_eq_true, Bool.or_eq_true] at h
    obtain ⟨h1, h2⟩ := h
    intro fs hc
    refine goodE_l.mpr ⟨⟨n, ts, rfl, ?_⟩, ?_⟩
    · cases e : spAr n with
      | some k =>
        rw [e] at h1
        have h1 := of_decide_eq_true h1
        unfold parts
        rw [e, h1]
      | none =>
        rw [e] at h1
        exact hc _ (of_decide_eq_true h1)
    · rcases h2 with h2 | h2
      · exact .inl (by rw [of_decide_eq_true h2]; rfl)
      · exact .inr fun t m => goods_of h2 t m fs hc
theorem goods_of {cs : Cs} {ps : List Tree} : ∀ {ts : List Tree}, goodsB cs ps ts = true → ∀ t ∈ ts, GoodIn cs ps t
  | [], _ => fun t m => absurd m (List.not_mem_nil)
  | u :: ts, h => fun t m => by
    rw [goodsB, Bool.and_eq_true] at h
    rcases List.mem_cons.mp m with e | m
    · rw [e]; exact good_of h.1
    · exact goods_of h.2 t m
end
/-- plain parameters: unlike words that are not special -/
theorem goodPs_of {L : List (List Nat)} (l : L.length ≤ 12) (nd : L.Nodup) (ns : ∀ x ∈ L, spAr x = none) : GoodPs (L.map Tree.w) := by
  refine ⟨by rw [List.length_map]; exact l, fun i t hi => ?_⟩
  rw [List.getElem?_map] at hi
  cases hx : L[i]? with
  | none => rw [hx] at hi; cases hi
  | some x =>
    rw [hx] at hi
    refine ⟨x, (Option.some.inj hi).symm, ns x (List.mem_of_getElem? hx), fun j lj e => ?_⟩
    rw [List.getElem?_map] at e
    cases hy : L[j]? with
    | none => rw [hy] at e; cases e
    | some y =>
      rw [hy] at e
      have := Tree.w.inj (Option.some.inj e)
      subst this
      have := nodup_get nd hy hx
      omega
end Og

namespace Og
open PySem PySem.Spec PyProof.Rows L2
def tHas : Tree := (.l [(.w [104, 97, 115]), (.l [(.w [119]), (.w [118])]), (.l [(.w [105, 102]), (.l [(.w [115, 97, 109, 101]), (.w [119]), (.w [118])]), (.l [(.w [113, 117, 111, 116, 101]), (.w [121, 101, 115])]), (.l [(.w [119, 105, 116, 104, 105, 110]), (.w [119]), (.w [118])])])])
def tWithin : Tree := (.l [(.w [119, 105, 116, 104, 105, 110]), (.l [(.w [119]), (.w [118])]), (.l [(.w [105, 102]), (.w [118]), (.l [(.w [105, 102]), (.l [(.w [104, 97, 115]), (.w [119]), (.l [(.w [104, 101, 97, 100]), (.w [118])])]), (.l [(.w [113, 117, 111, 116, 101]), (.w [121, 101, 115])]), (.l [(.w [119, 105, 116, 104, 105, 110]), (.w [119]), (.l [(.w [116, 97, 105, 108]), (.w [118])])])]), (.l [(.w [113, 117, 111, 116, 101]), (.l [])])])])
def tPut : Tree := (.l [(.w [112, 117, 116]), (.l [(.w [118]), (.w [108])]), (.l [(.w [105, 102]), (.w [108]), (.l [(.w [106, 111, 105, 110]), (.l [(.w [104, 101, 97, 100]), (.w [108])]), (.l [(.w [112, 117, 116]), (.w [118]), (.l [(.w [116, 97, 105, 108]), (.w [108])])])]), (.l [(.w [106, 111, 105, 110]), (.w [118]), (.l [(.w [113, 117, 111, 116, 101]), (.l [])])])])])
def tTurn : Tree := (.l [(.w [116, 117, 114, 110]), (.l [(.w [108])]), (.l [(.w [105, 102]), (.w [108]), (.l [(.w [112, 117, 116]), (.l [(.w [104, 101, 97, 100]), (.w [108])]), (.l [(.w [116, 117, 114, 110]), (.l [(.w [116, 97, 105, 108]), (.w [108])])])]), (.l [(.w [113, 117, 111, 116, 101]), (.l [])])])])
/-- a function of a drawn program -/
def FnT (t : Tree) : Prop := ∃ n ps b, t = .l [.w n, .l ps, b] ∧ WT t ∧ (∀ p ∈ ps, p.isW = true) ∧ ps.length ≤ 4 ∧ Deep 7 b ∧ b.size ≤ 1002
theorem fn_has : FnT tHas := ⟨_, _, _, rfl, wt_of (by decide +kernel), by simp [Tree.isW], by decide, deep_of (by decide +kernel), by decide +kernel⟩
theorem fn_within : FnT tWithin := ⟨_, _, _, rfl, wt_of (by decide +kernel), by simp [Tree.isW], by decide, deep_of (by decide +kernel), by decide +kernel⟩
theorem fn_put : FnT tPut := ⟨_, _, _, rfl, wt_of (by decide +kernel), by simp [Tree.isW], by decide, deep_of (by decide +kernel), by decide +kernel⟩
theorem fn_turn : FnT tTurn := ⟨_, _, _, rfl, wt_of (by decide +kernel), by simp [Tree.isW], by decide, deep_of (by decide +kernel), by decide +kernel⟩
section
variable {P : Program} {w : World} {K : PySem.W.Frag} {mg : Str → Option Value} {base : Heap}
def spLib (K : PySem.W.Frag) : Sp := fun vs H Q _ => vs = [] ∧ ∀ (p : Addr) (a b c : V) (H' : Hp), H p = none → H' p = some (.lst [a, b, c]) → Tr K H' a (.l [tHas, tWithin]) → Tr K H' b (.l [tPut, tTurn]) → Tr K H' c (.l [tPut]) → Keep [] H H' → Q (.ref p) H'
theorem has_lib {k : Nat} (D : DefAt K mg "_law_library" s_law_library p_law_library) (B : Bn mg) : Has P w K mg base (k + 1) "_law_library" p_law_library (spLib K) := by
  obtain ⟨f, fd, F, hm, hb⟩ := D.ex
  refine ⟨f, fd, F.ok sc_law_library (fun vs H Q E h => ?_) (fun cdv A outer s H vs Q E hr h => ?_), hm, F.kp, hb⟩
  · obtain ⟨rfl, _⟩ := h
    rfl
  obtain ⟨rfl, q⟩ := h
  refine ⟨_, (pss_cons (ps_set (i := 0) sc_law_library.nd rfl (.inl rfl) (pe_lt (pl_cons (pe_lw (x := [104, 97, 115]) (by decide +kernel)) (pl_cons (pe_lt (pl_cons (pe_lw (x := [119]) (by decide +kernel)) (pl_cons (pe_lw (x := [118]) (by decide +kernel)) pl_nil)) (by show 2 ≤ sizeLine; decide)) (pl_cons (pe_lt (pl_cons (pe_lw (x := [105, 102]) (by decide +kernel)) (pl_cons (pe_lt (pl_cons (pe_lw (x := [115, 97, 109, 101]) (by decide +kernel)) (pl_cons (pe_lw (x := [119]) (by decide +kernel)) (pl_cons (pe_lw (x := [118]) (by decide +kernel)) pl_nil))) (by show 3 ≤ sizeLine; decide)) (pl_cons (pe_lt (pl_cons (pe_lw (x := [113, 117, 111, 116, 101]) (by decide +kernel)) (pl_cons (pe_lw (x := [121, 101, 115]) (by decide +kernel)) pl_nil)) (by show 2 ≤ sizeLine; decide)) (pl_cons (pe_lt (pl_cons (pe_lw (x := [119, 105, 116, 104, 105, 110]) (by decide +kernel)) (pl_cons (pe_lw (x := [119]) (by decide +kernel)) (pl_cons (pe_lw (x := [118]) (by decide +kernel)) pl_nil))) (by show 3 ≤ sizeLine; decide)) pl_nil)))) (by show 4 ≤ sizeLine; decide)) pl_nil))) (by show 3 ≤ sizeLine; decide)))
    (pss_cons (ps_set (i := 1) sc_law_library.nd rfl (.inl rfl) (pe_lt (pl_cons (pe_lw (x := [119, 105, 116, 104, 105, 110]) (by decide +kernel)) (pl_cons (pe_lt (pl_cons (pe_lw (x := [119]) (by decide +kernel)) (pl_cons (pe_lw (x := [118]) (by decide +kernel)) pl_nil)) (by show 2 ≤ sizeLine; decide)) (pl_cons (pe_lt (pl_cons (pe_lw (x := [105, 102]) (by decide +kernel)) (pl_cons (pe_lw (x := [118]) (by decide +kernel)) (pl_cons (pe_lt (pl_cons (pe_lw (x := [105, 102]) (by decide +kernel)) (pl_cons (pe_lt (pl_cons (pe_lw (x := [104, 97, 115]) (by decide +kernel)) (pl_cons (pe_lw (x := [119]) (by decide +kernel)) (pl_cons (pe_lt (pl_cons (pe_lw (x := [104, 101, 97, 100]) (by decide +kernel)) (pl_cons (pe_lw (x := [118]) (by decide +kernel)) pl_nil)) (by show 2 ≤ sizeLine; decide)) pl_nil))) (by show 3 ≤ sizeLine; decide)) (pl_cons (pe_lt (pl_cons (pe_lw (x := [113, 117, 111, 116, 101]) (by decide +kernel)) (pl_cons (pe_lw (x := [121, 101, 115]) (by decide +kernel)) pl_nil)) (by show 2 ≤ sizeLine; decide)) (pl_cons (pe_lt (pl_cons (pe_lw (x := [119, 105, 116, 104, 105, 110]) (by decide +kernel)) (pl_cons (pe_lw (x := [119]) (by decide +kernel)) (pl_cons (pe_lt (pl_cons (pe_lw (x := [116, 97, 105, 108]) (by decide +kernel)) (pl_cons (pe_lw (x := [118]) (by decide +kernel)) pl_nil)) (by show 2 ≤ sizeLine; decide)) pl_nil))) (by show 3 ≤ sizeLine; decide)) pl_nil)))) (by show 4 ≤ sizeLine; decide)) (pl_cons (pe_lt (pl_cons (pe_lw (x := [113, 117, 111, 116, 101]) (by decide +kernel)) (pl_cons (pe_lt pl_nil (by show 0 ≤ sizeLine; decide)) pl_nil)) (by show 2 ≤ sizeLine; decide)) pl_nil)))) (by show 4 ≤ sizeLine; decide)) pl_nil))) (by show 3 ≤ sizeLine; decide)))
    (pss_cons (ps_set (i := 2) sc_law_library.nd rfl (.inl rfl) (pe_lt (pl_cons (pe_lw (x := [112, 117, 116]) (by decide +kernel)) (pl_cons (pe_lt (pl_cons (pe_lw (x := [118]) (by decide +kernel)) (pl_cons (pe_lw (x := [108]) (by decide +kernel)) pl_nil)) (by show 2 ≤ sizeLine; decide)) (pl_cons (pe_lt (pl_cons (pe_lw (x := [105, 102]) (by decide +kernel)) (pl_cons (pe_lw (x := [108]) (by decide +kernel)) (pl_cons (pe_lt (pl_cons (pe_lw (x := [106, 111, 105, 110]) (by decide +kernel)) (pl_cons (pe_lt (pl_cons (pe_lw (x := [104, 101, 97, 100]) (by decide +kernel)) (pl_cons (pe_lw (x := [108]) (by decide +kernel)) pl_nil)) (by show 2 ≤ sizeLine; decide)) (pl_cons (pe_lt (pl_cons (pe_lw (x := [112, 117, 116]) (by decide +kernel)) (pl_cons (pe_lw (x := [118]) (by decide +kernel)) (pl_cons (pe_lt (pl_cons (pe_lw (x := [116, 97, 105, 108]) (by decide +kernel)) (pl_cons (pe_lw (x := [108]) (by decide +kernel)) pl_nil)) (by show 2 ≤ sizeLine; decide)) pl_nil))) (by show 3 ≤ sizeLine; decide)) pl_nil))) (by show 3 ≤ sizeLine; decide)) (pl_cons (pe_lt (pl_cons (pe_lw (x := [106, 111, 105, 110]) (by decide +kernel)) (pl_cons (pe_lw (x := [118]) (by decide +kernel)) (pl_cons (pe_lt (pl_cons (pe_lw (x := [113, 117, 111, 116, 101]) (by decide +kernel)) (pl_cons (pe_lt pl_nil (by show 0 ≤ sizeLine; decide)) pl_nil)) (by show 2 ≤ sizeLine; decide)) pl_nil))) (by show 3 ≤ sizeLine; decide)) pl_nil)))) (by show 4 ≤ sizeLine; decide)) pl_nil))) (by show 3 ≤ sizeLine; decide)))
    (pss_cons (ps_set (i := 3) sc_law_library.nd rfl (.inl rfl) (pe_lt (pl_cons (pe_lw (x := [116, 117, 114, 110]) (by decide +kernel)) (pl_cons (pe_lt (pl_cons (pe_lw (x := [108]) (by decide +kernel)) pl_nil) (by show 1 ≤ sizeLine; decide)) (pl_cons (pe_lt (pl_cons (pe_lw (x := [105, 102]) (by decide +kernel)) (pl_cons (pe_lw (x := [108]) (by decide +kernel)) (pl_cons (pe_lt (pl_cons (pe_lw (x := [112, 117, 116]) (by decide +kernel)) (pl_cons (pe_lt (pl_cons (pe_lw (x := [104, 101, 97, 100]) (by decide +kernel)) (pl_cons (pe_lw (x := [108]) (by decide +kernel)) pl_nil)) (by show 2 ≤ sizeLine; decide)) (pl_cons (pe_lt (pl_cons (pe_lw (x := [116, 117, 114, 110]) (by decide +kernel)) (pl_cons (pe_lt (pl_cons (pe_lw (x := [116, 97, 105, 108]) (by decide +kernel)) (pl_cons (pe_lw (x := [108]) (by decide +kernel)) pl_nil)) (by show 2 ≤ sizeLine; decide)) pl_nil)) (by show 2 ≤ sizeLine; decide)) pl_nil))) (by show 3 ≤ sizeLine; decide)) (pl_cons (pe_lt (pl_cons (pe_lw (x := [113, 117, 111, 116, 101]) (by decide +kernel)) (pl_cons (pe_lt pl_nil (by show 0 ≤ sizeLine; decide)) pl_nil)) (by show 2 ≤ sizeLine; decide)) pl_nil)))) (by show 4 ≤ sizeLine; decide)) pl_nil))) (by show 3 ≤ sizeLine; decide)))
    (pss_one (ps_ret (pe_lst (pa_cons (pe_tup (pa_cons (pv 0) (pa_cons (pv 1) pa_nil))) (pa_cons (pe_tup (pa_cons (pv 2) (pa_cons (pv 3) pa_nil))) (pa_cons (pe_tup (pa_cons (pv 2) pa_nil)) pa_nil)))))))))), ?_⟩
  refine fun v0 H1 t0 k1 => ?_
  refine fun v1 H2 t1 k2 => ?_
  refine fun v2 H3 t2 k3 => ?_
  refine fun v3 H4 t3 k4 => ?_
  have r0 : Tr K H4 v0 tHas := ((t0.keep k2).keep k3).keep k4
  have r1 : Tr K H4 v1 tWithin := (t1.keep k3).keep k4
  have r2 : Tr K H4 v2 tPut := t2.keep k4
  have r3 : Tr K H4 v3 tTurn := t3
  have k14 := ((k1.trans k2).trans k3).trans k4
  refine ⟨_, rfl, _, rfl, by show (2 : Nat) ≤ sizeLine; decide, fun p1 n1 => ?_⟩
  obtain ⟨tm1, km1⟩ := mk_tr (K := K) (H := H4) n1 (trs_cons r0 (Trs.one r1))
  generalize upd H4 p1 (.tup [v0, v1]) = H5 at tm1 km1
  refine ⟨_, rfl, _, rfl, by show (2 : Nat) ≤ sizeLine; decide, fun p2 n2 => ?_⟩
  obtain ⟨tm2, km2⟩ := mk_tr (K := K) (H := H5) n2 (trs_cons (r2.keep km1) (Trs.one (r3.keep km1)))
  generalize upd H5 p2 (.tup [v2, v3]) = H6 at tm2 km2
  refine ⟨_, rfl, by show (1 : Nat) ≤ sizeLine; decide, fun p3 n3 => ?_⟩
  obtain ⟨tm3, km3⟩ := mk_tr (K := K) (H := H6) n3 (Trs.one ((r2.keep km1).keep km2))
  generalize upd H6 p3 (.tup [v2]) = H7 at tm3 km3
  refine ⟨by show (3 : Nat) ≤ sizeLine; decide, fun p np => ?_⟩
  have k17 := ((k14.trans km1).trans km2).trans km3
  have kn : Keep [] H7 (upd H7 p (.lst [.ref p1, .ref p2, .ref p3])) := Keep.new np
  exact q p _ _ _ _ (k17.free np) upd_same (((tm1.keep km2).keep km3).keep kn) ((tm2.keep km3).keep kn) (tm3.keep kn) (k17.trans kn)
end
end Og

namespace Og
open PySem PySem.Spec PyProof.Rows L2
def ClsN (H : Hp) (cl : Addr) (n : Nat) (cs : Cs) : Prop := ∃ cvs : List V, H cl = some (.lst cvs) ∧ cvs.length ≤ n ∧ ∀ c ∈ cvs, ∃ (a : Addr) (nm : List Nat) (m : Nat), c = .ref a ∧ H a = some (.tup [.str (tx nm), .int m]) ∧ IsWord nm ∧ m ≤ 4 ∧ (nm, m) ∈ cs
theorem ClsN.to {H : Hp} {cl : Addr} {n : Nat} {cs : Cs} (h : ClsN H cl n cs) (l : n ≤ 10) : Cls H cl cs := by
  obtain ⟨cvs, e, k, q⟩ := h
  exact ⟨cvs, e, Nat.le_trans k l, q⟩
theorem ClsN.keep {S : List Addr} {H H1 : Hp} {cl : Addr} {m : Nat} {cs : Cs} (h : ClsN H cl m cs) (k : Keep S H H1) (n : cl ∉ S) : ClsN H1 cl m cs := by
  obtain ⟨cvs, e, l, q⟩ := h
  refine ⟨cvs, k.get e n, l, fun c m => ?_⟩
  obtain ⟨a, nm, j, e1, e2, e3, e4⟩ := q c m
  exact ⟨a, nm, j, e1, k.tup e2, e3, e4⟩
/-- rows of written words -/
def ws (L : List (List Nat)) : List Tree := L.map Tree.w
theorem trs_ws {K : PySem.W.Frag} {H : Hp} : ∀ {L : List (List Nat)}, Trs K H (L.map fun c => V.str (tx c)) (ws L)
  | [] => trs_nil
  | x :: L => trs_cons tr_w (trs_ws (L := L))
theorem ws_w {L : List (List Nat)} : ∀ t ∈ ws L, t.isW = true := fun t m => by
  obtain ⟨x, _, rfl⟩ := List.mem_map.mp m
  rfl
theorem ws_wt {L : List (List Nat)} (h : L.all isWordB = true) : ∀ t ∈ ws L, WT t := fun t m => by
  obtain ⟨x, hx, rfl⟩ := List.mem_map.mp m
  exact wt_w (isWord_of (List.all_eq_true.mp h x hx))
/-! ### the functions of a drawn program -/
def toFn : Tree → Fn
  | .l [.w n, .l ps, b] => (n, ps, b)
  | _ => ([], [], .l [])
def libs : Nat → List Fn
  | 0 => [toFn tHas, toFn tWithin]
  | 1 => [toFn tPut, toFn tTurn]
  | _ => [toFn tPut]
def laters : List (List Nat) := [[108, 97, 116, 101, 114], [113], [122, 122]]
def mainW : List Nat := [109, 97, 105, 110]
def xywv : List (List Nat) := [[120], [121], [119], [118]]
/-- its parameters are words of one letter -/
def Short (f : Fn) : Prop := ∀ p ∈ f.2.1, ∃ c : Nat, p = .w [c]
theorem short_ws {n : List Nat} {L M : List (List Nat)} {b : Tree} (h : ∀ x ∈ L, x ∈ M) (hM : M.all (fun x => decide (x.length = 1)) = true) : Short (n, ws L, b) := fun p m => by
  obtain ⟨x, hx, rfl⟩ := List.mem_map.mp m
  have := of_decide_eq_true (List.all_eq_true.mp hM x (h x hx))
  match x, this with
  | [c], _ => exact ⟨c, rfl⟩
/-- a function that is good where what cs tells may be called, but for its name being another's -/
def FnOkIn (cs : Cs) (f : Fn) : Prop := spAr f.1 = none ∧ f.1.head? ≠ some 102 ∧ GoodPs f.2.1 ∧ GoodIn cs f.2.1 f.2.2 ∧ Short f
theorem FnOkIn.mono {cs ds : Cs} {f : Fn} (h : FnOkIn cs f) (l : ∀ c ∈ cs, c ∈ ds) : FnOkIn ds f := ⟨h.1, h.2.1, h.2.2.1, h.2.2.2.1.mono l, h.2.2.2.2⟩
theorem sigs_mem {L M : List Fn} (h : ∀ f ∈ L, f ∈ M) : ∀ c ∈ sigs L, c ∈ sigs M := fun c m => by
  obtain ⟨f, mf, rfl⟩ := List.mem_map.mp m
  exact List.mem_map.mpr ⟨f, h f mf, rfl⟩
theorem libs_nodup : ∀ j, j < 3 → ∀ i, i ≤ 3 → (mainW :: ((libs j).map (·.1) ++ laters.take i)).Nodup ∧ (mainW :: (laters.take i ++ (libs j).map (·.1))).Nodup := by decide +kernel
theorem laters_ok : ∀ x ∈ laters, spAr x = none ∧ x.head? ≠ some 102 := by decide +kernel
theorem goodPs_take {L : List (List Nat)} (l : L.length ≤ 12) (nd : L.Nodup) (ns : ∀ x ∈ L, spAr x = none) (k : Nat) : GoodPs (ws (L.take k)) :=
  goodPs_of (Nat.le_trans (by rw [List.length_take]; exact Nat.min_le_right ..) l) (nd.sublist (List.take_sublist ..)) fun x m => ns x (List.mem_of_mem_take m)
theorem libs_ok : ∀ j, j < 3 → ∀ f ∈ libs j, FnOkIn (sigs (libs j)) f := by
  have wv : GoodPs (ws [[119], [118]]) := goodPs_of (by decide) (by decide) (by decide +kernel)
  have vl : GoodPs (ws [[118], [108]]) := goodPs_of (by decide) (by decide) (by decide +kernel)
  have l1 : GoodPs (ws [[108]]) := goodPs_of (by decide) (by decide) (by decide +kernel)
  intro j hj f m
  have c : j = 0 ∨ j = 1 ∨ j = 2 := by omega
  rcases c with rfl | rfl | rfl
  · rcases List.mem_cons.mp m with e | m
    · rw [e]; exact ⟨by decide +kernel, by decide, wv, good_of (by decide +kernel), short_ws (L := [[119], [118]]) (M := [[119], [118]]) (fun x h => h) (by decide)⟩
    · rw [List.mem_singleton.mp m]; exact ⟨by decide +kernel, by decide, wv, good_of (by decide +kernel), short_ws (L := [[119], [118]]) (M := [[119], [118]]) (fun x h => h) (by decide)⟩
  · rcases List.mem_cons.mp m with e | m
    · rw [e]; exact ⟨by decide +kernel, by decide, vl, good_of (by decide +kernel), short_ws (L := [[118], [108]]) (M := [[118], [108]]) (fun x h => h) (by decide)⟩
    · rw [List.mem_singleton.mp m]; exact ⟨by decide +kernel, by decide, l1, good_of (by decide +kernel), short_ws (L := [[108]]) (M := [[108]]) (fun x h => h) (by decide)⟩
  · rw [List.mem_singleton.mp m]; exact ⟨by decide +kernel, by decide, vl, good_of (by decide +kernel), short_ws (L := [[118], [108]]) (M := [[118], [108]]) (fun x h => h) (by decide)⟩
/-- what the drawing of programs promises: the main function, of so many parameters, ahead of others -/
def ProgOk (n : Nat) (fs : List Tree) : Prop := ∃ (b : Tree) (Lr : List Fn), fs = ((mainW, ws (xywv.take n), b) :: Lr).map fnt ∧ GoodL ((mainW, ws (xywv.take n), b) :: Lr) ∧ ∀ f ∈ (mainW, ws (xywv.take n), b) :: Lr, Short f
theorem progOk {n : Nat} {b : Tree} {Lz Lf Lr : List Fn} (nd : (mainW :: Lr.map (·.1)).Nodup) (hb : GoodIn (sigs (Lz ++ Lf)) (ws (xywv.take n)) b) (hz : ∀ f ∈ Lz, FnOkIn (sigs Lz) f) (hf : ∀ f ∈ Lf, FnOkIn (sigs (Lz ++ Lf)) f) (hm : ∀ f, f ∈ Lr ↔ f ∈ Lz ++ Lf) :
    GoodL ((mainW, ws (xywv.take n), b) :: Lr) ∧ ∀ f ∈ (mainW, ws (xywv.take n), b) :: Lr, Short f := by
  have sub : ∀ c ∈ sigs (Lz ++ Lf), c ∈ sigs ((mainW, ws (xywv.take n), b) :: Lr) := sigs_mem fun f m => List.mem_cons_of_mem _ ((hm f).mpr m)
  have all : ∀ f ∈ (mainW, ws (xywv.take n), b) :: Lr, FnOkIn (sigs ((mainW, ws (xywv.take n), b) :: Lr)) f := fun f m => by
    rcases List.mem_cons.mp m with e | m
    · rw [e]
      exact ⟨by show spAr mainW = none; decide +kernel, by show mainW.head? ≠ some 102; decide, goodPs_take (by decide) (by decide) (by decide +kernel) n, hb.mono sub, short_ws (M := xywv) (fun x h => List.mem_of_mem_take h) (by decide)⟩
    · rcases List.mem_append.mp ((hm f).mp m) with m | m
      · exact (hz f m).mono fun c mc => sub c (sigs_mem (fun f m => List.mem_append_left _ m) c mc)
      · exact (hf f m).mono sub
  exact ⟨⟨nd, fun f m => goodName_plain (all f m).1 (all f m).2.1, fun f m => (all f m).2.2.1, fun f m => (all f m).2.2.2.1⟩, fun f m => (all f m).2.2.2.2⟩
section
variable {P : Program} {w : World} {K : PySem.W.Frag} {mg : Str → Option Value} {base : Heap}
def spProg (K : PySem.W.Frag) : Sp := fun vs H Q _ => ∃ (h d : Addr) (n : Nat), vs = [.ref h, .int n] ∧ Hd H h d ∧ n ≤ 4 ∧
  ∀ (v : V) (fs : List Tree) (H' : Hp), Tr K H' v (.l fs) → (∀ t ∈ fs, FnT t) → 1 ≤ fs.length → fs.length ≤ 5 → ProgOk n fs → Keep [h] H H' → Hd H' h d → Q v H'
theorem has_prog {k : Nat} (D : DefAt K mg "_law_program" s_law_program p_law_program) (B : Bn mg) (c1 : Has P w K mg base k "_law_take" p_law_take spTake) (c2 : Has P w K mg base k "_law_library" p_law_library (spLib K)) (c3 : Has P w K mg base k "_law_expression" p_law_expression (fun vs H Q E => ∃ n, n ≤ 3 ∧ spExpr K n vs H Q E)) :
    Has P w K mg base (k + 1) "_law_program" p_law_program (spProg K) := by
  obtain ⟨f, fd, F, hm, hb⟩ := D.ex
  obtain ⟨_, _, c_law_take⟩ := c1
  obtain ⟨_, _, c_law_library⟩ := c2
  obtain ⟨_, _, c_law_expression⟩ := c3
  refine ⟨f, fd, F.ok sc_law_program (fun vs H Q E h => ?_) (fun cdv A outer s H vs Q E hr h => ?_), hm, F.kp, hb⟩
  · obtain ⟨_, _, _, rfl, _⟩ := h
    rfl
  obtain ⟨a, d, n, rfl, hd, hn, q⟩ := h
  refine ⟨_, (pss_cons (ps_set (i := 2) sc_law_program.nd rfl (.inl rfl) (pe_ix ix_list (cal0 c_law_library hr) (cal c_law_take hr rfl (pa_cons (pv 0) (pa_cons pe_int pa_nil))) (fun _ _ => rfl)))
    (pss_cons (ps_setLc (i := 3) (own := [("one", 4)]) (g := gName 4) (tt := tYes) rfl sc_law_program.nd rfl rfl (sw_true rfl rfl rfl (by decide +kernel)) (pi_tup (pv 2)) (blkOk_by (N := n_law_program) (sc := defScope s_law_program) (by decide +kernel)) (fun _ _ _ _ _ => pg_name (i := 4) sc_law_program.nd rfl (Or.inl rfl)) (fun _ _ _ _ _ => pts_nil) (fun _ _ _ _ _ => (pe_tup (pa_cons (pe_ix (show IxR _ (rIxT K) from ix_tup) (pv 4) pe_int (fun _ _ => rfl)) (pa_cons (pe_callB (show CallR _ _ (rLenK K) from call_len_seq) (by rfl) B.len PySem.boot_len (pa_cons (pe_ix (show IxR _ (rIxT K) from ix_tup) (pv 4) pe_int (fun _ _ => rfl)) pa_nil)) pa_nil)))))
    (pss_cons (ps_set (i := 5) sc_law_program.nd rfl (.inl rfl) (pe_lst pa_nil))
    (pss_cons (ps_for PassesOwn.never rfl (pi_range1 (by rfl) B.range (pa_cons (cal c_law_take hr rfl (pa_cons (pv 0) (pa_cons pe_int pa_nil))) pa_nil)) (pg_name (i := 6) sc_law_program.nd rfl (.inl rfl))
      (pss_cons (ps_set (i := 7) sc_law_program.nd rfl (.inl rfl) (pe_ix ix_list (pe_lst (pa_cons pe_str (pa_cons pe_str (pa_cons pe_str pa_nil)))) (pv 6) (fun _ _ => rfl)))
      (pss_cons (ps_set (i := 8) sc_law_program.nd rfl (.inl rfl) (pe_callTy call_tuple_of (by rfl) B.tuple (by decide +kernel) (pa_cons (pe_slice sl_list (pe_lst (pa_cons pe_str (pa_cons pe_str (pa_cons pe_str pa_nil)))) po_none (po_some (pe_op op_add pe_int (cal c_law_take hr rfl (pa_cons (pv 0) (pa_cons pe_int pa_nil)))))) pa_nil)))
      (pss_cons (ps_expr (pe_bm PySem.F.plainAttrs_list PySem.F.slot_list_append PySem.F.type_list_append mt_append (pv 5) (pa_cons (pe_tup (pa_cons (pv 7) (pa_cons (pv 8) (pa_cons (cal c_law_expression hr rfl (pa_cons (pv 0) (pa_cons (pv 8) (pa_cons (pv 3) (pa_cons pe_int pa_nil))))) pa_nil)))) pa_nil)))
      (pss_one (ps_expr (pe_bm PySem.F.plainAttrs_list PySem.F.slot_list_append PySem.F.type_list_append mt_append (pv 3) (pa_cons (pe_tup (pa_cons (pv 7) (pa_cons (pe_callB call_len_seq (by rfl) B.len PySem.boot_len (pa_cons (pv 8) pa_nil)) pa_nil))) pa_nil))))))))
    (pss_cons (ps_set (i := 8) sc_law_program.nd rfl (.inl rfl) (pe_callTy call_tuple_of (by rfl) B.tuple (by decide +kernel) (pa_cons (pe_slice sl_list (pe_lst (pa_cons pe_str (pa_cons pe_str (pa_cons pe_str (pa_cons pe_str pa_nil))))) po_none (po_some (pv 1))) pa_nil)))
    (pss_cons (ps_set (i := 9) sc_law_program.nd rfl (.inl rfl) (pe_tup (pa_cons pe_str (pa_cons (pv 8) (pa_cons (cal c_law_expression hr rfl (pa_cons (pv 0) (pa_cons (pv 8) (pa_cons (pv 3) (pa_cons pe_int pa_nil))))) pa_nil)))))
    (pss_cons (ps_if (pt_cmpR op_eq (cal c_law_take hr rfl (pa_cons (pv 0) (pa_cons pe_int pa_nil))) pe_int (nomark _)) (pss_one (ps_ret (pe_op op_catA (pe_op op_catA (pe_tup (pa_cons (pv 9) pa_nil)) (pv 2)) (pe_callTy call_tuple_of (by rfl) B.tuple (by decide +kernel) (pa_cons (pv 5) pa_nil))))) pss_nil)
    (pss_one (ps_ret (pe_op op_catA (pe_op op_catA (pe_tup (pa_cons (pv 9) pa_nil)) (pe_callTy call_tuple_of (by rfl) B.tuple (by decide +kernel) (pa_cons (pv 5) pa_nil))) (pv 2))))))))))), ?_⟩
  -- more
  refine ⟨rfl, fun p va vb vc H1 np ep ta tb tc k1 => ?_⟩
  have pa : p ≠ a := (hd.neH np).symm
  refine ⟨_, rfl, a, d, 3, rfl, hd.keep0 k1, by decide, fun j H2 j0 j1 k2 hd2 => ?_⟩
  have hz : ∃ z fl jl, atI [va, vb, vc] j = some z ∧ Tr K H2 z (.l fl) ∧ (∀ t ∈ fl, FnT t) ∧ 1 ≤ fl.length ∧ fl.length ≤ 2 ∧ jl < 3 ∧ fl = (libs jl).map fnt := by
    have c : j = 0 ∨ j = 1 ∨ j = 2 := by omega
    rcases c with rfl | rfl | rfl
    · refine ⟨_, _, 0, rfl, ta.keep k2, fun t m => ?_, by decide, by decide, by decide, rfl⟩
      rcases List.mem_cons.mp m with e | m
      · rw [e]; exact fn_has
      · rw [List.mem_singleton.mp m]; exact fn_within
    · refine ⟨_, _, 1, rfl, tb.keep k2, fun t m => ?_, by decide, by decide, by decide, rfl⟩
      rcases List.mem_cons.mp m with e | m
      · rw [e]; exact fn_put
      · rw [List.mem_singleton.mp m]; exact fn_turn
    · refine ⟨_, _, 2, rfl, tc.keep k2, fun t m => ?_, by decide, by decide, by decide, rfl⟩
      rw [List.mem_singleton.mp m]; exact fn_put
  obtain ⟨z, fl, jl, hz1, tz, fnl, l1, l2, jl3, efl⟩ := hz
  have lok := libs_ok jl jl3
  have lnd := libs_nodup jl jl3
  generalize libs jl = Lz at efl lok lnd
  refine ⟨p, _, _, z, rfl, rfl, SqL.of (k2.get ep (by simpa using pa)), hz1, ?_⟩
  have k12 : Keep [a] H H2 := (k1.mono (by simp)).trans k2
  -- calls
  obtain ⟨za, zvs, rfl, hZ, rZ⟩ := tz.list
  have lz := rZ.length
  refine ⟨_, rfl, za, rfl, ⟨_, hZ⟩, fun L nL => ?_⟩
  have La : L ≠ a := (hd2.neH nL).symm
  have Ld : L ≠ d := (hd2.neD nL).symm
  have nL0 : H L = none := k12.free nL
  refine lc_tup (K := K) (a := za) (xs := zvs) (fun i H' => Keep [] H2 H' ∧ ClsN H' L i (sigs Lz)) ⟨Keep.new nL, [], upd_same, Nat.le_refl _, fun c m => absurd m (List.not_mem_nil)⟩ (fun i H' _ p => p.1.sqT hZ) (fun i x H3 hx p => ?_) (fun H3 p => ?_)
  · obtain ⟨k3, cvs, ec, lc, each⟩ := p
    have il : i < zvs.length := (List.getElem?_eq_some_iff.mp hx).1
    have hg : fl[i]? = some fl[i] := List.getElem?_eq_getElem (by omega)
    obtain ⟨y, hy, ty⟩ := rZ.get hg
    rw [hx] at hy
    cases hy
    obtain ⟨nm, ps, b, et, wt, pw, lp, dp, sz⟩ := fnl _ (List.getElem_mem (show i < fl.length by omega))
    rw [et] at ty wt
    obtain ⟨oa, ovs, rfl, hO, rO⟩ := (ty.keep k3).list
    obtain ⟨x0, y0, z0, rfl, r0, r1, r2⟩ := rO.three
    have e0 := r0.word
    subst e0
    obtain ⟨pp, pvs, rfl, hP, rP⟩ := r1.list
    refine ⟨rfl, yes ?_⟩
    refine ⟨_, rfl, oa, _, _, _, rfl, rfl, hO, atI_zero _ _, _, rfl, oa, _, _, _, rfl, rfl, hO, rfl, pp, pvs, rfl, .inr hP, by show (2 : Nat) ≤ sizeLine; decide, fun T nT => ?_⟩
    have kT : Keep [] H3 (upd H3 T (.tup [.str (tx nm), .int (pvs.length : Nat)])) := Keep.new nT
    have eT : (upd H3 T (.tup [.str (tx nm), .int (pvs.length : Nat)])) T = some (.tup [.str (tx nm), .int (pvs.length : Nat)]) := upd_same
    generalize upd H3 T (.tup [.str (tx nm), .int (pvs.length : Nat)]) = H4 at kT eT
    have ec4 := kT.get ec (by simp)
    have kL : Keep [L] H4 (upd H4 L (.lst (cvs ++ [.ref T]))) := Keep.set ec4 (List.mem_cons_self ..)
    refine ⟨cvs, ec4, Nat.lt_of_le_of_lt (show cvs.length ≤ 10 by omega) (by decide), ((k3.trans kT).cons.trans kL).drop nL, cvs ++ [.ref T], upd_same, by rw [List.length_append, List.length_singleton]; omega, fun c m => ?_⟩
    rcases List.mem_append.mp m with m | m
    · obtain ⟨ca, cn, cm, e1, e2, e3, e4⟩ := each c m
      exact ⟨ca, cn, cm, e1, kL.tup (kT.tup e2), e3, e4⟩
    · rw [List.mem_singleton.mp m]
      refine ⟨T, nm, pvs.length, rfl, kL.tup eT, wt.list.head.word, by rw [rP.length]; exact lp, ?_⟩
      have hg2 : (Lz.map fnt)[i]? = some (Tree.l [.w nm, .l ps, b]) := by
        rw [← efl]
        exact hg.trans (congrArg some et)
      rw [List.getElem?_map] at hg2
      cases hz : Lz[i]? with
      | none => rw [hz] at hg2; cases hg2
      | some g =>
        have eg : fnt g = .l [.w nm, .l ps, b] := by
          rw [hz] at hg2
          exact Option.some.inj hg2
        have e1 := Tree.w.inj (List.cons.inj (Tree.l.inj eg)).1
        have e2 := Tree.l.inj (List.cons.inj (List.cons.inj (Tree.l.inj eg)).2).1
        refine List.mem_map.mpr ⟨g, List.mem_of_getElem? hz, ?_⟩
        rw [rP.length, ← e2, ← e1]
  obtain ⟨k3, cls3⟩ := p
  have hd3 := hd2.keep0 k3
  have k13 := k12.trans (k3.mono (by simp : ∀ x ∈ ([] : List Addr), x ∈ [a]))
  -- functions
  refine ⟨Nat.zero_le _, fun F nF => ?_⟩
  have FL : L ≠ F := let ⟨_, ec, _⟩ := cls3; ne_of_none ec nF
  have Fa : F ≠ a := (hd3.neH nF).symm
  have Fd : F ≠ d := (hd3.neD nF).symm
  have nF0 : H F = none := k13.free nF
  have kF : Keep [] H3 (upd H3 F (.lst [])) := Keep.new nF
  have eF : (upd H3 F (.lst [])) F = some (.lst []) := upd_same
  generalize upd H3 F (.lst []) = H4 at kF eF
  have k14 := k13.trans (kF.mono (by simp : ∀ x ∈ ([] : List Addr), x ∈ [a]))
  -- the loop
  refine ⟨_, rfl, a, d, 3, rfl, hd3.keep0 kF, by decide, fun m H5 m0 m1 k5 hd5 => ?_⟩
  refine ⟨_, rfl, by omega, by omega, ?_⟩
  have zt4 : Tr K H4 (.ref za) (.l fl) := (tz.keep k3).keep kF
  refine for_range (lo := 0) (n := m.toNat) (fun i σ H' => ∃ (y6 y7 y8 : Option V) (fvs : List V) (fts : List Tree), σ = [some (.ref a), some (.int n), some (.ref za), some (.ref L), none, some (.ref F), y6, y7, y8, none] ∧ Keep [a] H H' ∧ Hd H' a d ∧ (∃ Lf : List Fn, ClsN H' L (2 + i) (sigs (Lz ++ Lf)) ∧ fts = Lf.map fnt ∧ Lf.map (·.1) = laters.take i ∧ ∀ f ∈ Lf, FnOkIn (sigs (Lz ++ Lf)) f) ∧ H' F = some (.lst fvs) ∧ Trs K H' fvs fts ∧ (∀ t ∈ fts, FnT t) ∧ fts.length = i ∧ Tr K H' (.ref za) (.l fl))
    ⟨none, none, none, [], [], rfl, k14.trans k5, hd5, ?_, k5.get eF (by simpa using Fa), trs_nil, fun t m => absurd m (List.not_mem_nil), rfl, zt4.keep k5⟩ (fun i σ H6 hi pw => ?_) (fun σ H6 pw => ?_)
  · obtain ⟨cvs, ec, lc, each⟩ := (cls3.keep kF (by simp)).keep k5 (by simpa using La)
    exact ⟨[], by rw [List.append_nil]; exact ⟨cvs, ec, by omega, each⟩, rfl, rfl, fun f m => absurd m (List.not_mem_nil)⟩
  · obtain ⟨y6, y7, y8, fvs, fts, rfl, k6, hd6, ⟨Lf, cls6, efts, enm, okf⟩, eF6, rF, fnF, lF, zt6⟩ := pw
    have i3 : i < 3 := by omega
    -- name
    refine ⟨by show (3 : Nat) ≤ sizeLine; decide, fun p1 np1 => ?_⟩
    have kn1 : Keep [] H6 (upd H6 p1 (.lst [.str "later", .str "q", .str "zz"])) := Keep.new np1
    have en1 : (upd H6 p1 (.lst [.str "later", .str "q", .str "zz"])) p1 = some (.lst [.str "later", .str "q", .str "zz"]) := upd_same
    generalize upd H6 p1 (.lst [.str "later", .str "q", .str "zz"]) = H7 at kn1 en1
    obtain ⟨nm, hnm⟩ : ∃ nm, laters[i]? = some nm := ⟨_, List.getElem?_eq_getElem (by show i < 3; omega)⟩
    have hc : atI [V.str "later", .str "q", .str "zz"] (0 + (i : Int)) = some (.str (tx nm)) := by
      rw [show (0 : Int) + (i : Int) = (i : Int) by omega, show [V.str "later", .str "q", .str "zz"] = laters.map (fun c => V.str (tx c)) by decide +kernel]
      exact atI_nat (by rw [List.getElem?_map, hnm]; rfl)
    have wn : IsWord nm := isWord_of (List.all_eq_true.mp (show laters.all isWordB = true by decide) nm (List.mem_of_getElem? hnm))
    have okn := laters_ok nm (List.mem_of_getElem? hnm)
    refine ⟨_, rfl, p1, _, _, _, rfl, rfl, SqL.of en1, hc, ?_⟩
    -- parameters
    refine ⟨by show (3 : Nat) ≤ sizeLine; decide, fun p2 np2 => ?_⟩
    have kn2 : Keep [] H7 (upd H7 p2 (.lst [.str "a", .str "b", .str "c"])) := Keep.new np2
    have en2 : (upd H7 p2 (.lst [.str "a", .str "b", .str "c"])) p2 = some (.lst [.str "a", .str "b", .str "c"]) := upd_same
    generalize upd H7 p2 (.lst [.str "a", .str "b", .str "c"]) = H8 at kn2 en2
    have k68 := kn1.trans kn2
    have hd8 := hd6.keep0 k68
    have p2a : p2 ≠ a := by
      intro e
      obtain ⟨xs, ea⟩ := (hd6.keep0 kn1).lst
      rw [e, ea] at np2
      cases np2
    dsimp only [tNoPart]
    refine ⟨_, rfl, a, d, 3, rfl, hd8, by decide, fun j2 H9 j20 j21 k9 hd9 => ?_⟩
    refine ⟨_, _, rfl, rfl, _, rfl, p2, _, rfl, SqL.of (k9.get en2 (by simpa using p2a)), fun p3 np3 => ?_⟩
    generalize hcv : cutV [V.str "a", V.str "b", V.str "c"] none (some (1 + j2)) = cv
    have kn3 : Keep [] H9 (upd H9 p3 (.lst cv)) := Keep.new np3
    have en3 : (upd H9 p3 (.lst cv)) p3 = some (.lst cv) := upd_same
    generalize upd H9 p3 (.lst cv) = H10 at kn3 en3
    refine ⟨p3, cv, rfl, .inl ⟨SqL.of en3, fun T nT => ?_⟩⟩
    obtain ⟨ps, rps, pw, pwt, lps, gps, shp⟩ : ∃ ps, Trs K H10 cv ps ∧ (∀ t ∈ ps, t.isW = true) ∧ (∀ t ∈ ps, WT t) ∧ ps.length ≤ 3 ∧ GoodPs ps ∧ ∀ p ∈ ps, ∃ c : Nat, p = .w [c] := by
      refine ⟨cutL (ws [[97], [98], [99]]) none (some (1 + j2)), ?_, fun t m => ws_w t (cutL_mem m), fun t m => ws_wt (by decide) t (cutL_mem m), Nat.le_trans (cutL_len _ _ _) (by decide), ?_, fun p m => ?_⟩
      case refine_3 => exact short_ws (n := []) (b := .l []) (L := [[97], [98], [99]]) (M := [[97], [98], [99]]) (fun x h => h) (by decide) p (cutL_mem m)
      case refine_2 =>
        rw [show (1 + j2) = (((1 + j2).toNat : Nat) : Int) by omega, cutL_to _ (by show (1 + j2).toNat ≤ 3; omega)]
        rw [show List.take (1 + j2).toNat (ws [[97], [98], [99]]) = ws (List.take (1 + j2).toNat [[97], [98], [99]]) from (List.map_take ..).symm]
        exact goodPs_take (by decide) (by decide) (by decide +kernel) _
      rw [← hcv, show [V.str "a", V.str "b", V.str "c"] = [[97], [98], [99]].map (fun c => V.str (tx c)) by decide +kernel]
      exact trs_ws.cut _ _
    obtain ⟨tm, km⟩ := mk_tr (K := K) (H := H10) nT rps
    generalize upd H10 T (.tup cv) = H11 at tm km
    have k911 := kn3.trans km
    have k611 : Keep [a] H6 H11 := ((k68.mono (by simp)).trans k9).trans (k911.mono (by simp))
    have hd11 := hd9.keep0 k911
    have eF11 := k611.get eF6 (by simpa using Fa)
    have cls11 := cls6.keep k611 (by simpa using La)
    -- functions.append
    refine ⟨_, rfl, .inl ⟨rfl, _, SqL.of eF11⟩, _, rfl, _, rfl, _, rfl, _, rfl, _, rfl, 2, by decide, a, d, L, .ref T, ps, sigs (Lz ++ Lf), rfl, hd11, tm, pw, WTs.of pwt, by omega, cls11.to (by omega), La, fun v t H12 tv wt sz dp gd k12' hd12 => ?_⟩
    refine ⟨by show (3 : Nat) ≤ sizeLine; decide, fun p4 np4 => ?_⟩
    have tT := tm.keep k12'
    obtain ⟨tf, kf⟩ := mk_tr (K := K) (H := H12) (vs := [.str (tx nm), .ref T, v]) (ts := [.w nm, .l ps, t]) np4 (trs_cons tr_w (trs_cons tT (Trs.one tv)))
    generalize upd H12 p4 (.tup [.str (tx nm), .ref T, v]) = H13 at tf kf
    have k613 : Keep [a] H6 H13 := (k611.trans k12').trans (kf.mono (by simp))
    have eF13 := k613.get eF6 (by simpa using Fa)
    have hd13 := hd12.keep0 kf
    have fnew : FnT (.l [.w nm, .l ps, t]) := ⟨nm, ps, t, rfl, wt_l (wts_cons (wt_w wn) (wts_cons (wt_l (WTs.of pwt)) (wts_cons wt wts_nil))), pw, by omega, dp.mono (by decide), Nat.le_trans sz (by decide)⟩
    have lfv := rF.length
    refine ⟨F, fvs, _, rfl, rfl, eF13, Nat.lt_of_le_of_lt (show fvs.length ≤ 100 by omega) (by decide), ?_⟩
    have kF14 : Keep [F] H13 (upd H13 F (.lst (fvs ++ [.ref p4]))) := Keep.set eF13 (List.mem_cons_self ..)
    have eF14 : (upd H13 F (.lst (fvs ++ [.ref p4]))) F = some (.lst (fvs ++ [.ref p4])) := upd_same
    generalize upd H13 F (.lst (fvs ++ [.ref p4])) = H14 at kF14 eF14
    have hd14 := hd13.keep kF14 (by simpa using Fa.symm) (by simpa using Fd.symm)
    have cls14 := (cls6.keep k613 (by simpa using La)).keep kF14 (by simpa using FL)
    -- calls.append
    obtain ⟨cvs, ec, lc, each⟩ := cls14
    have tT14 := (tT.keep kf).keep kF14
    obtain ⟨Ta, Tvs, eTa, hT14, rT14⟩ := tT14.list
    refine ⟨_, rfl, .inl ⟨rfl, _, SqL.of ec⟩, _, rfl, _, rfl, Ta, Tvs, by rw [← eTa], .inr hT14, by show (2 : Nat) ≤ sizeLine; decide, fun p5 np5 => ?_⟩
    have k5' : Keep [] H14 (upd H14 p5 (.tup [.str (tx nm), .int (Tvs.length : Nat)])) := Keep.new np5
    have e5 : (upd H14 p5 (.tup [.str (tx nm), .int (Tvs.length : Nat)])) p5 = some (.tup [.str (tx nm), .int (Tvs.length : Nat)]) := upd_same
    generalize upd H14 p5 (.tup [.str (tx nm), .int (Tvs.length : Nat)]) = H15 at k5' e5
    have ec15 := k5'.get ec (by simp)
    refine ⟨L, cvs, _, rfl, rfl, ec15, Nat.lt_of_le_of_lt (show cvs.length ≤ 100 by omega) (by decide), ?_⟩
    have kL : Keep [L] H15 (upd H15 L (.lst (cvs ++ [.ref p5]))) := Keep.set ec15 (List.mem_cons_self ..)
    have kall : Keep [F, L] H13 (upd H15 L (.lst (cvs ++ [.ref p5]))) := ((kF14.mono (by simp)).trans (k5'.mono (by simp))).trans (kL.mono (by simp))
    have kH : Keep [a] H (upd H15 L (.lst (cvs ++ [.ref p5]))) := by
      have h1 : Keep (F :: L :: [a]) H (upd H15 L (.lst (cvs ++ [.ref p5]))) := ((k6.trans k613).mono (by simp)).trans (kall.mono (by simp))
      exact (h1.drop nF0).drop nL0
    have efts2 : fts ++ [.l [.w nm, .l ps, t]] = (Lf ++ [(nm, ps, t)]).map fnt := by rw [List.map_append, efts]; rfl
    have enm2 : (Lf ++ [(nm, ps, t)]).map (·.1) = laters.take (i + 1) := by rw [List.map_append, enm, List.take_add_one, hnm]; rfl
    have sub : ∀ c ∈ sigs (Lz ++ Lf), c ∈ sigs (Lz ++ (Lf ++ [(nm, ps, t)])) := sigs_mem fun f m => by
      rcases List.mem_append.mp m with m | m
      · exact List.mem_append_left _ m
      · exact List.mem_append_right _ (List.mem_append_left _ m)
    have okf2 : ∀ f ∈ Lf ++ [(nm, ps, t)], FnOkIn (sigs (Lz ++ (Lf ++ [(nm, ps, t)]))) f := fun f m => by
      rcases List.mem_append.mp m with m | m
      · exact (okf f m).mono sub
      · rw [List.mem_singleton.mp m]
        exact ⟨okn.1, okn.2, gps, gd.mono sub, shp⟩
    refine ⟨_, _, _, fvs ++ [.ref p4], fts ++ [.l [.w nm, .l ps, t]], rfl, kH, (hd14.keep0 k5').upd La.symm Ld.symm, ⟨Lf ++ [(nm, ps, t)], ⟨cvs ++ [.ref p5], upd_same, by rw [List.length_append, List.length_singleton]; omega, fun c mm => ?_⟩, efts2, enm2, okf2⟩, ?_, ?_, fun t' mm => ?_, by rw [List.length_append, List.length_singleton]; omega, (zt6.keep k613).keep kall⟩
    · rcases List.mem_append.mp mm with mm | mm
      · obtain ⟨ca, cn, cm, e1, e2, e3, e4, e5⟩ := each c mm
        exact ⟨ca, cn, cm, e1, kL.tup (k5'.tup e2), e3, e4, sub _ e5⟩
      · rw [List.mem_singleton.mp mm]
        refine ⟨p5, nm, Tvs.length, rfl, kL.tup e5, wn, by rw [rT14.length]; omega, ?_⟩
        rw [rT14.length]
        exact List.mem_map.mpr ⟨(nm, ps, t), List.mem_append_right _ (List.mem_append_right _ (List.mem_singleton.mpr rfl)), rfl⟩
    · rw [upd_ne FL.symm]
      exact k5'.get eF14 (by simp)
    · exact ((rF.keep k613).append (Trs.one tf)).keep kall
    · rcases List.mem_append.mp mm with mm | mm
      · exact fnF t' mm
      · rw [List.mem_singleton.mp mm]; exact fnew
  · obtain ⟨y6, y7, y8, fvs, fts, rfl, k6, hd6, ⟨Lf, cls6, efts, enm, okf⟩, eF6, rF, fnF, lF, zt6⟩ := pw
    dsimp only [tNoPart]
    refine ⟨by show (4 : Nat) ≤ sizeLine; decide, fun p2 np2 => ?_⟩
    have kn2 : Keep [] H6 (upd H6 p2 (.lst [.str "x", .str "y", .str "w", .str "v"])) := Keep.new np2
    have en2 : (upd H6 p2 (.lst [.str "x", .str "y", .str "w", .str "v"])) p2 = some (.lst [.str "x", .str "y", .str "w", .str "v"]) := upd_same
    generalize upd H6 p2 (.lst [.str "x", .str "y", .str "w", .str "v"]) = H7 at kn2 en2
    refine ⟨_, rfl, _, rfl, p2, _, rfl, SqL.of en2, fun p3 np3 => ?_⟩
    generalize hcv : cutV [V.str "x", V.str "y", V.str "w", V.str "v"] none (some (n : Int)) = cv
    have kn3 : Keep [] H7 (upd H7 p3 (.lst cv)) := Keep.new np3
    have en3 : (upd H7 p3 (.lst cv)) p3 = some (.lst cv) := upd_same
    generalize upd H7 p3 (.lst cv) = H10 at kn3 en3
    refine ⟨p3, cv, rfl, .inl ⟨SqL.of en3, fun T nT => ?_⟩⟩
    obtain ⟨ps, rps, pw, pwt, lps, eps⟩ : ∃ ps, Trs K H10 cv ps ∧ (∀ t ∈ ps, t.isW = true) ∧ (∀ t ∈ ps, WT t) ∧ ps.length ≤ 4 ∧ ps = ws (xywv.take n) := by
      refine ⟨cutL (ws xywv) none (some (n : Int)), ?_, fun t m => ws_w t (cutL_mem m), fun t m => ws_wt (by decide) t (cutL_mem m), Nat.le_trans (cutL_len _ _ _) (by decide), ?_⟩
      case refine_2 => rw [cutL_to _ (by exact hn)]; exact (List.map_take ..).symm
      rw [← hcv, show [V.str "x", V.str "y", V.str "w", V.str "v"] = xywv.map (fun c => V.str (tx c)) by decide +kernel]
      exact trs_ws.cut _ _
    obtain ⟨tm, km⟩ := mk_tr (K := K) (H := H10) nT rps
    generalize upd H10 T (.tup cv) = H11 at tm km
    have k611 := (kn2.trans kn3).trans km
    have hd11 := hd6.keep0 k611
    -- main
    refine ⟨_, rfl, _, rfl, _, rfl, _, rfl, 3, by decide, a, d, L, .ref T, ps, sigs (Lz ++ Lf), rfl, hd11, tm, pw, WTs.of pwt, by omega, (cls6.keep k611 (by simp)).to (by omega), La, fun v t H12 tv wt sz dp gd k12' hd12 => ?_⟩
    refine ⟨by show (3 : Nat) ≤ sizeLine; decide, fun p4 np4 => ?_⟩
    obtain ⟨tf, kf⟩ := mk_tr (K := K) (H := H12) (vs := [.str "main", .ref T, v]) (ts := [.w [109, 97, 105, 110], .l ps, t]) np4 (by rw [show ("main" : Str) = tx [109, 97, 105, 110] by decide +kernel]; exact trs_cons tr_w (trs_cons (tm.keep k12') (Trs.one tv)))
    generalize upd H12 p4 (.tup [.str "main", .ref T, v]) = H13 at tf kf
    have hd13 := hd12.keep0 kf
    have k613 : Keep [a] H6 H13 := ((k611.mono (by simp)).trans k12').trans (kf.mono (by simp))
    have fnew : FnT (.l [.w [109, 97, 105, 110], .l ps, t]) := ⟨_, ps, t, rfl, wt_l (wts_cons (wt_w (isWord_of (by decide))) (wts_cons (wt_l (WTs.of pwt)) (wts_cons wt wts_nil))), pw, lps, dp.mono (by decide), Nat.le_trans sz (by decide)⟩
    generalize emt : Tree.l [.w [109, 97, 105, 110], .l ps, t] = mt at tf fnew
    subst eps
    have mi : m.toNat ≤ 3 := by omega
    refine ⟨_, rfl, a, d, 4, rfl, hd13, by decide, fun j4 H14 j40 j41 k14' hd14 => ?_⟩
    have k614 := k613.trans k14'
    have kH := k6.trans k614
    have tf14 := tf.keep k14'
    have zt14 := zt6.keep k614
    have rF14 := rF.keep k614
    have eF14 := k614.get eF6 (by simpa using Fa)
    refine ⟨rfl, _, rfl, ite2 (fun _ => ?_) (fun _ => ?_)⟩
    · refine ⟨_, rfl, by show (1 : Nat) ≤ sizeLine; decide, fun t1 nt1 => ?_⟩
      obtain ⟨tm1, km1⟩ := mk_tr (K := K) (H := H14) nt1 (Trs.one tf14)
      generalize upd H14 t1 (.tup [.ref p4]) = H15 at tm1 km1
      refine ⟨_, rfl, cat_tr tm1 (zt14.keep km1) (Nat.le_trans (show _ ≤ 100 by rw [List.length_singleton]; omega) (by decide)) fun v16 H16 tv16 k16 => ?_⟩
      have k1416 := km1.trans k16
      refine ⟨_, rfl, F, fvs, rfl, .inl ⟨SqL.of (k1416.get eF14 (by simp)), fun T2 nT2 => ?_⟩⟩
      obtain ⟨tm2, km2⟩ := mk_tr (K := K) (H := H16) nT2 (rF14.keep k1416)
      refine cat_tr (tv16.keep km2) tm2 (Nat.le_trans (show _ ≤ 100 by rw [List.length_append, List.length_singleton]; omega) (by decide)) fun v17 H17 tv17 k17 => ?_
      have kk := (k1416.trans km2).trans k17
      refine q v17 _ H17 tv17 (fun t' mm => ?_) ?_ ?_ ⟨t, Lz ++ Lf, by rw [efl, efts, ← emt]; simp [fnt, mainW], progOk (by rw [List.map_append, enm]; exact (lnd _ mi).1) gd lok okf fun f => Iff.rfl⟩ (kH.trans (kk.mono (by simp))) (hd14.keep0 kk)
      · rcases List.mem_append.mp mm with mm | mm
        · rcases List.mem_append.mp mm with mm | mm
          · rw [List.mem_singleton.mp mm]; exact fnew
          · exact fnl t' mm
        · exact fnF t' mm
      · rw [List.length_append, List.length_append, List.length_singleton]; omega
      · rw [List.length_append, List.length_append, List.length_singleton]; omega
    · refine ⟨_, rfl, by show (1 : Nat) ≤ sizeLine; decide, fun t1 nt1 => ?_⟩
      obtain ⟨tm1, km1⟩ := mk_tr (K := K) (H := H14) nt1 (Trs.one tf14)
      generalize upd H14 t1 (.tup [.ref p4]) = H15 at tm1 km1
      refine ⟨_, rfl, F, fvs, rfl, .inl ⟨SqL.of (km1.get eF14 (by simp)), fun T2 nT2 => ?_⟩⟩
      obtain ⟨tm2, km2⟩ := mk_tr (K := K) (H := H15) nT2 (rF14.keep km1)
      refine cat_tr (tm1.keep km2) tm2 (Nat.le_trans (show _ ≤ 100 by rw [List.length_singleton]; omega) (by decide)) fun v16 H16 tv16 k16 => ?_
      have k1416 := (km1.trans km2).trans k16
      refine ⟨_, rfl, cat_tr tv16 (zt14.keep k1416) (Nat.le_trans (show _ ≤ 100 by rw [List.length_append, List.length_singleton]; omega) (by decide)) fun v17 H17 tv17 k17 => ?_⟩
      have kk := k1416.trans k17
      refine q v17 _ H17 tv17 (fun t' mm => ?_) ?_ ?_ ⟨t, Lf ++ Lz, by rw [efl, efts, ← emt]; simp [fnt, mainW], progOk (by rw [List.map_append, enm]; exact (lnd _ mi).2) gd lok okf fun f => by rw [List.mem_append, List.mem_append]; exact or_comm⟩ (kH.trans (kk.mono (by simp))) (hd14.keep0 kk)
      · rcases List.mem_append.mp mm with mm | mm
        · rcases List.mem_append.mp mm with mm | mm
          · rw [List.mem_singleton.mp mm]; exact fnew
          · exact fnF t' mm
        · exact fnl t' mm
      · rw [List.length_append, List.length_append, List.length_singleton]; omega
      · rw [List.length_append, List.length_append, List.length_singleton]; omega
end
end Og

namespace Og
open PySem PySem.Spec PyProof.Rows L2
section
variable {P : Program} {w : World} {K : PySem.W.Frag} {mg : Str → Option Value} {base : Heap}
theorem pass_never {X : Cx} : Passes (L2.CX X.prog X.w) X E0 := fun _ _ _ _ _ _ _ h => by
  obtain ⟨_, _, _, _, _, _, _, _, _, _, _, _, h⟩ := h
  exact h.elim
/-- the number of parameters of the first function -/
def firstPs : Tree → Nat
  | .l (.l [_, .l ps, _] :: _) => ps.length
  | _ => 0
def nameOf : Tree → List Nat
  | .l (.w n :: _) => n
  | _ => []
def Fits (K : PySem.W.Frag) (H : Hp) (v : V) (t : Tree) : Prop := Tr K H v t ∧ WT t ∧ t.size ≤ 300000 ∧ ∀ fs, t = .l fs → fs.length ≤ 1000
def spInputsX (K : PySem.W.Frag) (C : Addr) : Sp := fun vs H Q E => ∃ (v : V) (t : Tree), vs = [v] ∧ Fits K H v t ∧ (∀ n, BadNo t (some n) → Wish "function" C n H E) ∧ (∀ H' : Hp, BadNo t none → Keep [] H H' → Q (.int (firstPs t : Nat)) H')
def spNamesX (K : PySem.W.Frag) (C : Addr) : Sp := fun vs H Q E => ∃ (v : V) (t : Tree), vs = [v] ∧ Fits K H v t ∧ (∀ n, BadNo t (some n) → Wish "function" C n H E) ∧ (∀ (fs : List Tree) (L : Addr) (H' : Hp), t = .l fs → BadNo t none → H L = none → H' L = some (.lst (fs.map fun f => V.str (tx (nameOf f)))) → Keep [] H H' → Q (.ref L) H')
theorem good_three {fs : List Tree} {i : Nat} (hi : i < fs.length) (h : BadNo (.l fs) none) : ∃ n ps b, fs[i]? = some (.l [.w n, .l ps, b]) := by
  rcases h with ⟨_, e⟩ | ⟨_, ⟨_, all⟩ | ⟨_, e, _⟩⟩
  · cases e
  · obtain ⟨n, ps, b, e, _⟩ := all i hi
    exact ⟨n, ps, b, e⟩
  · cases e
theorem good_list {t : Tree} (h : BadNo t none) : ∃ fs, t = .l fs ∧ fs ≠ [] := by
  cases t with
  | w x => cases h
  | l fs =>
    rcases h with ⟨_, e⟩ | ⟨ne, _⟩
    · cases e
    · exact ⟨fs, rfl, ne⟩
theorem has_inputsX {C : Addr} {k : Nat} (D : DefAt K mg "inputs_of" s_inputs_of p_inputs_of) (B : Bn mg) (c1 : HasX P w K mg base k "check_program" p_check_program (spCheckX K C)) :
    HasX P w K mg base (k + 1) "inputs_of" p_inputs_of (spInputsX K C) := by
  obtain ⟨f, fd, F, hm, hb⟩ := D.ex
  obtain ⟨_, _, c_check_program⟩ := c1
  refine ⟨f, fd, F.okX sc_inputs_of (fun vs H Q E h => ?_) (fun cdv A outer s H vs Q E hr h => ?_), hm, F.kp, hb⟩
  · obtain ⟨_, _, rfl, _⟩ := h
    rfl
  obtain ⟨v, t, rfl, ⟨tv, wt, sz, few⟩, bad, q⟩ := h
  refine ⟨_, (pss_cons (ps_expr (calX c_check_program hr rfl (passes_call (takes_of rfl rfl rfl rfl) (fun _ _ _ _ h => h)) (pa_cons (pv 0) pa_nil)))
    (pss_one (ps_ret (pe_callB call_len_seq (by rfl) B.len PySem.boot_len (pa_cons (pe_ix ix_tup (pe_ix ix_tup (pv 0) pe_int (fun _ _ => rfl)) pe_int (fun _ _ => rfl)) pa_nil))))), ?_⟩
  refine ⟨_, rfl, v, t, rfl, tv, wt, sz, few, bad, fun H1 good k1 => ?_⟩
  obtain ⟨fs, rfl, ne⟩ := good_list good
  have l0 : 0 < fs.length := List.length_pos_iff.mpr ne
  obtain ⟨n, ps, b, e0⟩ := good_three l0 good
  have q1 := q H1 good k1
  have ef : firstPs (.l fs) = ps.length := by
    cases fs with
    | nil => exact absurd rfl ne
    | cons f0 r =>
      rw [Option.some.inj e0]
      rfl
  rw [ef] at q1
  obtain ⟨a, vs, rfl, hS, r⟩ := (tv.keep k1).list
  obtain ⟨v0, hv0, t0⟩ := r.get e0
  obtain ⟨oa, ovs, rfl, hO, rO⟩ := t0.list
  obtain ⟨x0, y0, z0, rfl, r0, r1, r2⟩ := rO.three
  obtain ⟨pa, pvs, rfl, hP, rP⟩ := r1.list
  refine ⟨_, rfl, a, vs, _, _, rfl, rfl, hS, atI_nat (j := 0) hv0, oa, _, _, _, rfl, rfl, hO, rfl, pa, pvs, rfl, .inr hP, ?_⟩
  rw [rP.length]
  exact q1
theorem has_namesX {C : Addr} {k : Nat} (D : DefAt K mg "names_of" s_names_of p_names_of) (B : Bn mg) (c1 : HasX P w K mg base k "check_program" p_check_program (spCheckX K C)) :
    HasX P w K mg base (k + 1) "names_of" p_names_of (spNamesX K C) := by
  obtain ⟨f, fd, F, hm, hb⟩ := D.ex
  obtain ⟨_, _, c_check_program⟩ := c1
  refine ⟨f, fd, F.okX sc_names_of (fun vs H Q E h => ?_) (fun cdv A outer s H vs Q E hr h => ?_), hm, F.kp, hb⟩
  · obtain ⟨_, _, rfl, _⟩ := h
    rfl
  obtain ⟨v, t, rfl, ⟨tv, wt, sz, few⟩, bad, q⟩ := h
  refine ⟨_, (pss_cons (ps_expr (calX c_check_program hr rfl (passes_call (takes_of rfl rfl rfl rfl) (fun _ _ _ _ h => h)) (pa_cons (pv 0) pa_nil)))
    (pss_one (ps_ret (pe_lc (own := [("function", 1)]) (g := gName 1) (tt := tYes) rfl sc_names_of.nd (pi_tup (pv 0)) (blkOk_by (N := n_names_of) (sc := defScope s_names_of) (by decide +kernel)) (fun _ _ _ _ _ => pg_name (i := 1) sc_names_of.nd rfl (Or.inl rfl)) (fun _ _ _ _ _ => pts_nil) (fun _ _ _ _ _ => (pe_ix (show IxR _ (rIxT K) from ix_tup) (pv 1) pe_int (fun _ _ => rfl))))))), ?_⟩
  refine ⟨_, rfl, v, t, rfl, tv, wt, sz, few, bad, fun H1 good k1 => ?_⟩
  obtain ⟨fs, rfl, ne⟩ := good_list good
  obtain ⟨a, vs, rfl, hS, r⟩ := (tv.keep k1).list
  have lv := r.length
  refine ⟨_, rfl, a, rfl, ⟨_, hS⟩, fun L nL => ?_⟩
  have few := few fs rfl
  refine lc_tup (K := K) (a := a) (xs := vs) (fun i H' => Keep [] H1 H' ∧ H' L = some (.lst ((fs.take i).map fun f => V.str (tx (nameOf f))))) ⟨Keep.new nL, upd_same⟩ (fun i H' _ p => p.1.sqT hS) (fun i x H3 hx p => ?_) (fun H3 p => ?_)
  · obtain ⟨k3, e3⟩ := p
    have il : i < vs.length := (List.getElem?_eq_some_iff.mp hx).1
    obtain ⟨n, ps, b, e0⟩ := good_three (i := i) (by omega) good
    obtain ⟨y, hy, ty⟩ := r.get e0
    rw [hx] at hy
    cases hy
    obtain ⟨oa, ovs, rfl, hO, rO⟩ := (ty.keep k3).list
    obtain ⟨x0, y0, z0, rfl, r0, r1, r2⟩ := rO.three
    have w0 := r0.word
    subst w0
    refine ⟨rfl, yes ?_⟩
    refine ⟨_, rfl, oa, _, _, _, rfl, rfl, hO, atI_zero _ _, ?_⟩
    have kL : Keep [L] H3 (upd H3 L (.lst (((fs.take i).map fun f => V.str (tx (nameOf f))) ++ [.str (tx n)]))) := Keep.set e3 (List.mem_cons_self ..)
    refine ⟨_, e3, Nat.lt_of_le_of_lt (show _ ≤ 1000 by rw [List.length_map, List.length_take]; omega) (by decide), (k3.cons.trans kL).drop nL, ?_⟩
    rw [upd_same, List.take_add_one, e0, List.map_append]
    rfl
  · obtain ⟨k3, e3⟩ := p
    rw [lv, List.take_length] at e3
    exact q fs L H3 rfl good (k1.free nL) e3 (k1.trans k3)
end
end Og

namespace Og
open PySem PySem.Spec PyProof.Rows L2
section
variable {P : Program} {w : World} {K : PySem.W.Frag} {mg : Str → Option Value} {base : Heap}
def spTold (K : PySem.W.Frag) : Sp := fun vs H Q _ => ∃ (i : Int) (v : V) (t : Tree), vs = [.int i, v] ∧ Fits K H v t ∧ (∀ (n : Nat) (H' : Hp), BadNo t (some n) → Keep [] H H' → Q (.int n) H') ∧ (∀ H' : Hp, BadNo t none → Keep [] H H' → Q .non H')
theorem has_told {C G fI : Addr} {fdI : FuncData} {k : Nat} (T_BadProgram : ErrT K mg "BadProgram" "BadProgram.__init__" "function" s_BadProgram_init C G fI fdI) (Hh : ErrH K C G)
    (D : DefAt K mg "_law_told" s_law_told p_law_told) (B : Bn mg) (c1 : HasX P w K mg base k "inputs_of" p_inputs_of (spInputsX K C)) (c2 : HasX P w K mg base k "names_of" p_names_of (spNamesX K C)) :
    Has P w K mg base (k + 1) "_law_told" p_law_told (spTold K) := by
  obtain ⟨f, fd, F, hm, hb⟩ := D.ex
  obtain ⟨_, _, c_inputs_of⟩ := c1
  obtain ⟨_, _, c_names_of⟩ := c2
  have xf : XfC K C := xfB_ok (by unfold xfB; rw [decide_eq_true Hh.ga, decide_eq_true Hh.gg, decide_eq_true T_BadProgram.ox.exC, Hh.hd]; rfl)
  have exm : PySem.W.exmOne K (.ref C) (.ref C) = some true := PySem.W.exm_ref T_BadProgram.ox.exC Hh.hd T_BadProgram.ox.tyC Hh.se
  refine ⟨f, fd, F.ok sc_law_told (fun vs H Q E h => ?_) (fun cdv A outer s H vs Q E hr h => ?_), hm, F.kp, hb⟩
  · obtain ⟨_, _, _, rfl, _⟩ := h
    rfl
  obtain ⟨i, v, t, rfl, ⟨tv, wt, sz, few⟩, bad, q⟩ := h
  refine ⟨_, pss_cons (ps_try_as (i := 2) (tb := fun W => tIfS (tTest (tOp rEq (tVar 0) (tC (.int 0)))) (tDrop (tCallS (spInputsX K C) (WE W) (tCons (tVar 1) tNil))) (tDrop (tCallS (spNamesX K C) (WE W) (tCons (tVar 1) tNil)))) (ts := fun a cls d D σ H => ∃ dd : Addr, (cls = .ref C ∧ d = some dd) ∧ tRet (tXf a (.ref C) d C "function" (tVar 2)) D σ H) (Wout := fun _ _ _ _ => False) rfl rfl sc_law_told.nd rfl rfl ⟨rfl, by decide, Or.inl T_BadProgram.gC⟩ takes0
      (fun W pn xe tk _ => pss_one (ps_if (pt_cmpR op_eq (pv 0) pe_int (nomark _)) (pss_one (ps_expr (by exact (pe_callS c_inputs_of.ok hr rfl c_inputs_of.mg c_inputs_of.kp c_inputs_of.bi (fun σ => passAt tk σ) (pa_cons (pv 1) pa_nil))))) (pss_one (ps_expr (by exact (pe_callS c_names_of.ok hr rfl c_names_of.mg c_names_of.kp c_names_of.bi (fun σ => passAt tk σ) (pa_cons (pv 1) pa_nil)))))))
      (fun a oe cls d pn hz hf => pss_ex fun dd => pss_when fun hcd => by
        obtain ⟨rfl, rfl⟩ := hcd
        exact pss_one (ps_ret (pe_xf xf T_BadProgram.no hz hf (pv 2)))))
    (pss_one (ps_ret pe_non)), ?_⟩
  refine ⟨_, rfl, rfl, _, rfl, ite2 (fun _ => ?_) (fun _ => ?_)⟩
  · refine ⟨_, rfl, v, t, rfl, ⟨tv, wt, sz, few⟩, fun n hn => ?_, fun H2 hn k2 => q H2 hn k2⟩
    intro d H2 ed k2
    refine ⟨true, exm, fun _ a ha => ⟨d, ⟨rfl, rfl⟩, ?_⟩, fun q => nomatch q⟩
    exact ⟨_, rfl, rfl, rfl, d, _, _, rfl, ed, rfl, bad n H2 hn k2⟩
  · refine ⟨_, rfl, v, t, rfl, ⟨tv, wt, sz, few⟩, fun n hn => ?_, fun fs L H2 et hn nL eL k2 => q H2 hn k2⟩
    intro d H2 ed k2
    refine ⟨true, exm, fun _ a ha => ⟨d, ⟨rfl, rfl⟩, ?_⟩, fun q => nomatch q⟩
    exact ⟨_, rfl, rfl, rfl, d, _, _, rfl, ed, rfl, bad n H2 hn k2⟩
end
end Og

namespace Og
open PySem PySem.Spec PyProof.Rows L2
/-! ### lists of words, compared -/
theorem isi_int {K : PySem.W.Frag} {H : Hp} {i : Int} : ∃ ty u, ClsV (.ty "int") u ∧ TyX K H (.int i) ty ∧ PySem.W.kitOne K ty u = some true := ⟨_, _, .ty _, .base (.int _), kit_ty (by decide +kernel)⟩
theorem isi_intbool {K : PySem.W.Frag} {H : Hp} {i : Int} : ∃ ty u, ClsV (.ty "bool") u ∧ TyX K H (.int i) ty ∧ PySem.W.kitOne K ty u = some false := ⟨_, _, .ty _, .base (.int _), kit_ty (by decide +kernel)⟩
theorem word_lt {x : List Nat} (h : IsWord x) : ∀ c ∈ x, c < 128 := fun c m => by
  obtain ⟨c0, cs, rfl, l, all, _⟩ := h
  unfold Letter at l
  rcases List.mem_cons.mp m with e | m
  · omega
  · have := all c m
    unfold Sign at this
    omega
theorem lay_word {x : List Nat} (h : IsWord x) : (PyData.str (tx x)).canLay0 = true := by
  unfold PyData.canLay0 PyData.strOk
  show (x.toArray.all fun z => decide (z < 1114112)) = true
  rw [List.all_toArray, List.all_eq_true]
  intro c m
  have := word_lt h c m
  exact decide_eq_true (by omega)
theorem lay_words : ∀ L : List (List Nat), (∀ x ∈ L, IsWord x) → PyData.canLayAll0 (L.map fun x => PyData.str (tx x)) = true
  | [], _ => rfl
  | x :: L, h => by
    rw [List.map_cons]
    unfold PyData.canLayAll0
    rw [lay_words L (fun y m => h y (List.mem_cons_of_mem _ m)), lay_word (h x (List.mem_cons_self ..))]
    rfl
theorem depth_words : ∀ L : List (List Nat), PyData.depthAll (L.map fun x => PyData.str (tx x)) ≤ 1
  | [] => by decide
  | x :: L => by
    have := depth_words L
    rw [List.map_cons]
    unfold PyData.depthAll
    rw [show (PyData.str (tx x)).depth = 0 by unfold PyData.depth; rfl]
    omega
theorem eqv_words : ∀ L : List (List Nat), PyData.eqvAll (L.map fun x => PyData.str (tx x)) (L.map fun x => PyData.str (tx x)) = true
  | [] => rfl
  | x :: L => by
    rw [List.map_cons]
    unfold PyData.eqvAll
    rw [eqv_words L, Bool.and_true]
    unfold PyData.eqv
    simp
theorem dp_words {K : PySem.W.Frag} {H : Hp} : ∀ L : List (List Nat), DpAll K H (L.map fun x => V.str (tx x)) (L.map fun x => PyData.str (tx x))
  | [] => .nil
  | x :: L => .cons (.str _) (dp_words L)
theorem shaped_words (L : List (List Nat)) (h : ∀ x ∈ L, IsWord x) : SeqAt.shaped (.list (L.map fun x => PyData.str (tx x))) = true := by
  unfold SeqAt.shaped PyData.canLay0 PyData.depth
  rw [lay_words L h, Bool.true_and]
  have := depth_words L
  exact decide_eq_true (by omega)
theorem ne_words {K : PySem.W.Frag} {H : Hp} {a b : Addr} {L : List (List Nat)} {Q : VK} (h : ∀ x ∈ L, IsWord x) (ha : (H a = some (.lst (L.map fun c => V.str (tx c))))) (hb : (H b = some (.lst (L.map fun c => V.str (tx c))))) (q : Q (.bl false) H) : rNeD K (.ref a) (.ref b) H Q := by
  refine ⟨_, _, .lst (SqL.of ha) (dp_words L), .lst (SqL.of hb) (dp_words L), shaped_words L h, shaped_words L h, ?_⟩
  rw [show PyData.eqv (.list (L.map fun x => PyData.str (tx x))) (.list (L.map fun x => PyData.str (tx x))) = true by unfold PyData.eqv; exact eqv_words L]
  exact q
section
variable {P : Program} {w : World} {K : PySem.W.Frag} {mg : Str → Option Value} {base : Heap}
def spRight5 (K : PySem.W.Frag) : Sp := fun vs H Q _ => ∃ (v : V) (t : Tree), vs = [v] ∧ Fits K H v t ∧ BadNo t none ∧ ∀ H', Keep [] H H' → Q (.bl true) H'
theorem has_right5 {C : Addr} {k : Nat} (D : DefAt K mg "_law_is_right" s_law_is_right p_law_is_right) (B : Bn mg) (c1 : HasX P w K mg base k "inputs_of" p_inputs_of (spInputsX K C)) (c2 : HasX P w K mg base k "names_of" p_names_of (spNamesX K C)) :
    Has P w K mg base (k + 1) "_law_is_right" p_law_is_right (spRight5 K) := by
  obtain ⟨f, fd, F, hm, hb⟩ := D.ex
  obtain ⟨_, _, c_inputs_of⟩ := c1
  obtain ⟨_, _, c_names_of⟩ := c2
  refine ⟨f, fd, F.ok sc_law_is_right (fun vs H Q E h => ?_) (fun cdv A outer s H vs Q E hr h => ?_), hm, F.kp, hb⟩
  · obtain ⟨_, _, rfl, _⟩ := h
    rfl
  obtain ⟨v, t, rfl, fits, good, q⟩ := h
  refine ⟨_, (pss_cons (ps_set (i := 1) sc_law_is_right.nd rfl (.inl rfl) (calX c_inputs_of hr rfl pass_never (pa_cons (pv 0) pa_nil)))
    (pss_cons (ps_if (PW.pt (pw_or (pt_not (pt_val (pe_callB call_isi (by rfl) B.isinstance (by decide +kernel) (pa_cons (pv 1) (pa_cons (pe_bltn (v := .ty "int") rfl B.int (by decide +kernel) rfl) pa_nil))))) (pw_or (pt_val (pe_callB call_isi (by rfl) B.isinstance (by decide +kernel) (pa_cons (pv 1) (pa_cons (pe_bltn (v := .ty "bool") rfl B.bool (by decide +kernel) rfl) pa_nil)))) (pw_or1 (pt_cmpR op_ne (pv 1) (pe_callB call_len_seq (by rfl) B.len PySem.boot_len (pa_cons (pe_ix ix_tup (pe_ix ix_tup (pv 0) pe_int (fun _ _ => rfl)) pe_int (fun _ _ => rfl)) pa_nil)) (nomark _)))))) (pss_one (ps_ret pe_bl)) pss_nil)
    (pss_cons (ps_setLc (i := 2) (own := [("one", 3)]) (g := gName 3) (tt := tYes) rfl sc_law_is_right.nd rfl rfl (sw_true rfl rfl rfl (by decide +kernel)) (pi_tup (pv 0)) (blkOk_by (N := n_law_is_right) (sc := defScope s_law_is_right) (by decide +kernel)) (fun _ _ _ _ _ => pg_name (i := 3) sc_law_is_right.nd rfl (Or.inl rfl)) (fun _ _ _ _ _ => pts_nil) (fun _ _ _ _ _ => (pe_ix (show IxR _ (rIxT K) from ix_tup) (pv 3) pe_int (fun _ _ => rfl))))
    (pss_cons (ps_for PassesOwn.never rfl (pi_range1 (by rfl) B.range (pa_cons pe_int pa_nil)) (pg_name (i := 4) sc_law_is_right.nd rfl (.inl rfl))
      (pss_cons (ps_set (i := 5) sc_law_is_right.nd rfl (.inl rfl) (calX c_names_of hr rfl pass_never (pa_cons (pv 0) pa_nil)))
      (pss_cons (ps_if (PW.pt (pw_or (pt_not (pt_val (pe_callB call_isi (by rfl) B.isinstance (by decide +kernel) (pa_cons (pv 5) (pa_cons (pe_bltn (v := .ty "list") rfl B.list (by decide +kernel) rfl) pa_nil))))) (pw_or1 (pt_cmpR (op_neD hr.units) (pv 5) (pv 2) (nomark _))))) (pss_one (ps_ret pe_bl)) pss_nil)
      (pss_one (ps_expr (pe_bm PySem.F.plainAttrs_list PySem.F.slot_list_append PySem.F.type_list_append mt_append (pv 5) (pa_cons pe_str pa_nil)))))))
    (pss_one (ps_ret pe_bl)))))), ?_⟩
  have no : ∀ n, BadNo t (some n) → False := fun n h => by have := BadNo.uniq good h; cases this
  obtain ⟨fs, rfl, ne⟩ := good_list good
  refine ⟨_, rfl, v, .l fs, rfl, fits, fun n hn => (no n hn).elim, fun H1 _ k1 => ?_⟩
  obtain ⟨tv, wt, sz, few⟩ := fits
  have few := few fs rfl
  have l0 : 0 < fs.length := List.length_pos_iff.mpr ne
  obtain ⟨n, ps, b, e0⟩ := good_three l0 good
  have ef : firstPs (.l fs) = ps.length := by
    cases fs with
    | nil => exact absurd rfl ne
    | cons f0 r =>
      rw [Option.some.inj e0]
      rfl
  rw [ef]
  have tv1 := tv.keep k1
  obtain ⟨a, vs, rfl, hS, r⟩ := tv1.list
  have lv := r.length
  obtain ⟨v0, hv0, t0⟩ := r.get e0
  obtain ⟨oa, ovs, rfl, hO, rO⟩ := t0.list
  obtain ⟨x0, y0, z0, rfl, r0, r1, r2⟩ := rO.three
  obtain ⟨pa, pvs, rfl, hP, rP⟩ := r1.list
  obtain ⟨ty, u, q1, q2, q3⟩ := isi_int (K := K) (H := H1) (i := ((ps.length : Nat) : Int))
  obtain ⟨ty', u', q1', q2', q3'⟩ := isi_intbool (K := K) (H := H1) (i := ((ps.length : Nat) : Int))
  refine ⟨_, rfl, _, _, ty, u, _, rfl, q1, q2, q3, _, rfl, iteF ?_⟩
  refine ⟨_, rfl, _, _, ty', u', _, rfl, q1', q2', q3', _, rfl, iteF ?_⟩
  refine ⟨_, rfl, _, rfl, a, vs, _, _, rfl, rfl, hS, atI_nat (j := 0) hv0, oa, _, _, _, rfl, rfl, hO, rfl, pa, pvs, rfl, .inr hP, ?_⟩
  refine ⟨rfl, _, rfl, ?_⟩
  rw [nF (by rw [rP.length])]
  refine iteF ?_
  -- due
  refine ⟨_, rfl, a, rfl, ⟨_, hS⟩, fun L nL => ?_⟩
  have words : ∀ x ∈ fs.map nameOf, IsWord x := fun x m => by
    obtain ⟨f, mf, rfl⟩ := List.mem_map.mp m
    obtain ⟨i, hi, ei⟩ := List.mem_iff_getElem.mp mf
    obtain ⟨n', ps', b', e'⟩ := good_three hi good
    have : f = .l [.w n', .l ps', b'] := by rw [← ei]; exact (List.getElem?_eq_some_iff.mp e').2
    rw [this]
    have wf := wt.list.all f mf
    rw [this] at wf
    exact wf.list.head.word
  refine lc_tup (K := K) (a := a) (xs := vs) (fun i H' => Keep [] H1 H' ∧ H' L = some (.lst (((fs.take i).map nameOf).map fun c => V.str (tx c)))) ⟨Keep.new nL, upd_same⟩ (fun i H' _ p => p.1.sqT hS) (fun i x H3 hx p => ?_) (fun H3 p => ?_)
  · obtain ⟨k3, e3⟩ := p
    have il : i < vs.length := (List.getElem?_eq_some_iff.mp hx).1
    obtain ⟨n, ps, b, e0⟩ := good_three (i := i) (by omega) good
    obtain ⟨y, hy, ty⟩ := r.get e0
    rw [hx] at hy
    cases hy
    obtain ⟨oa, ovs, rfl, hO, rO⟩ := (ty.keep k3).list
    obtain ⟨x0, y0, z0, rfl, r0, r1, r2⟩ := rO.three
    have w0 := r0.word
    subst w0
    refine ⟨rfl, yes ?_⟩
    refine ⟨_, rfl, oa, _, _, _, rfl, rfl, hO, atI_zero _ _, ?_⟩
    have kL : Keep [L] H3 (upd H3 L (.lst ((((fs.take i).map nameOf).map fun c => V.str (tx c)) ++ [.str (tx n)]))) := Keep.set e3 (List.mem_cons_self ..)
    refine ⟨_, e3, Nat.lt_of_le_of_lt (show _ ≤ 1000 by rw [List.length_map, List.length_map, List.length_take]; omega) (by decide), (k3.cons.trans kL).drop nL, ?_⟩
    rw [upd_same, List.take_add_one, e0, List.map_append, List.map_append]
    rfl
  obtain ⟨k3, e3⟩ := p
  rw [lv, List.take_length] at e3
  have k13 := k1.trans k3
  refine ⟨_, rfl, by decide, by decide, ?_⟩
  refine for_range (lo := 0) (n := (2 : Int).toNat) (fun i σ H' => ∃ (y3 y4 y5 : Option V), σ = [some (.ref a), some (.int (ps.length : Nat)), some (.ref L), y3, y4, y5] ∧ Keep [] H H' ∧ Tr K H' (.ref a) (.l fs) ∧ H' L = some (.lst ((fs.map nameOf).map fun c => V.str (tx c))))
    ⟨_, _, _, rfl, k13, tv.keep k13, e3⟩ (fun i σ H4 hi pw => ?_) (fun σ H4 pw => ?_)
  · obtain ⟨y3, y4, y5, rfl, k4, tv4, e4⟩ := pw
    refine ⟨_, rfl, .ref a, .l fs, rfl, ⟨tv4, wt, sz, fun gs e => by cases e; exact few⟩, fun n hn => (no n hn).elim, fun gs M H5 eg _ nM eM k5 => ?_⟩
    cases eg
    have eM' : H5 M = some (.lst ((fs.map nameOf).map fun c => V.str (tx c))) := by rw [eM, List.map_map]; rfl
    have e5 := k5.get e4 (by simp)
    have kl : PySem.W.kitOne K (.type "list") (.type "list") = some true := kit_ty (by decide +kernel)
    refine ⟨_, rfl, _, _, _, _, _, rfl, .ty _, .base (.lst eM'), kl, _, rfl, iteF ?_⟩
    refine ⟨_, rfl, _, rfl, ne_words words eM' e5 ?_⟩
    refine ⟨_, rfl, iteF ?_⟩
    have kM : Keep [M] H5 (upd H5 M (.lst (((fs.map nameOf).map fun c => V.str (tx c)) ++ [.str "zz"]))) := Keep.set eM' (List.mem_cons_self ..)
    have ML : M ≠ L := fun e => by rw [e, e4] at nM; cases nM
    refine ⟨_, rfl, .inl ⟨rfl, _, SqL.of eM'⟩, M, _, _, rfl, rfl, eM', Nat.lt_of_le_of_lt (show _ ≤ 1000 by rw [List.length_map, List.length_map]; omega) (by decide), ?_⟩
    have k6 := (k5.cons.trans kM).drop nM
    exact ⟨_, _, _, rfl, k4.trans k6, tv4.keep k6, k6.get e4 (by simp)⟩
  · obtain ⟨y3, y4, y5, rfl, k4, tv4, e4⟩ := pw
    exact q H4 k4
end
end Og

namespace Og
open PySem PySem.Spec PyProof.Rows L2
open PySem.NumText (AllDigits digitsVal)
theorem cutV_map {α : Type} (f : α → V) (L : List α) (lo hi : Option Int) : cutV (L.map f) lo hi = (cutL L lo hi).map f := by
  show cutL (L.map f) lo hi = _
  unfold cutL
  rw [List.length_map, List.map_take, List.map_drop]
/-! ### names that may be f and digits -/
def goodNameB (n : Nat) (x : List Nat) : Bool := (spAr x).isNone && (match x with
  | 102 :: ds => ds.isEmpty || !ds.all (fun c => decide (48 ≤ c) && decide (c ≤ 57)) || ((decide (ds = [48]) || decide (ds.head? ≠ some 48)) && decide (digitsVal ds < n))
  | _ => true)
theorem goodName_of {n : Nat} {x : List Nat} (h : goodNameB n x = true) : GoodName n x := by
  unfold goodNameB at h
  rw [Bool.and_eq_true] at h
  refine ⟨Option.isNone_iff_eq_none.mp h.1, fun ds e ne all => ?_⟩
  subst e
  have h2 := h.2
  have a : ds.all (fun c => decide (48 ≤ c) && decide (c ≤ 57)) = true := by
    rw [List.all_eq_true]
    intro c m
    have := all c m
    simp only [Bool.and_eq_true, decide_eq_true_eq]
    exact this
  have b : ds.isEmpty = false := by
    cases ds with
    | nil => exact absurd rfl ne
    | cons _ _ => rfl
  simp only [a, b, Bool.not_true, Bool.false_or, Bool.and_eq_true, Bool.or_eq_true, decide_eq_true_eq] at h2
  exact h2
def nA : List (List Nat) := [[102, 51], [102, 50], [102, 49], [102, 48]]
def nB : List (List Nat) := [[97, 49], [98, 50, 99, 51], [102], [102, 50, 120]]
def nC : List (List Nat) := [[102, 48], [122, 122, 122, 122, 122, 122, 122, 122, 122, 122, 122, 57], [97, 49]]
def namesB (L : List (List Nat)) : Bool := decide L.Nodup && L.all (fun x => isWordB x && goodNameB L.length x) && decide (1 ≤ L.length) && decide (L.length ≤ 10)
structure NamesOk (L : List (List Nat)) : Prop where
  nd : L.Nodup
  wd : ∀ x ∈ L, IsWord x
  nm : ∀ x ∈ L, GoodName L.length x
  l1 : 1 ≤ L.length
  l2 : L.length ≤ 10
theorem names_of' {L : List (List Nat)} (h : namesB L = true) : NamesOk L := by
  unfold namesB at h
  simp only [Bool.and_eq_true, List.all_eq_true, decide_eq_true_eq] at h
  exact ⟨h.1.1.1, fun x m => isWord_of (h.1.1.2 x m).1, fun x m => goodName_of (h.1.1.2 x m).2, h.1.2, h.2⟩
theorem nC_ok : NamesOk nC := names_of' (by decide +kernel)
theorem nAB_ok : ∀ i, i < 4 → ∀ j, j < 5 → 4 ≤ (nA.take (1 + i) ++ nB.take j).length → NamesOk (nA.take (1 + i) ++ nB.take j) := by
  have h : ∀ i, i < 4 → ∀ j, j < 5 → 4 ≤ (nA.take (1 + i) ++ nB.take j).length → namesB (nA.take (1 + i) ++ nB.take j) = true := by decide +kernel
  exact fun i hi j hj l => names_of' (h i hi j hj l)
/-- name, (x), x -/
def plainFn (x : List Nat) : Fn := (x, ws [[120]], .w [120])
theorem plain_good {L : List (List Nat)} (h : NamesOk L) : GoodL (L.map plainFn) := by
  have e1 : (L.map plainFn).map (·.1) = L := by rw [List.map_map]; exact List.map_id L
  refine ⟨by rw [e1]; exact h.nd, fun f m => ?_, fun f m => ?_, fun f m => ?_⟩
  · obtain ⟨x, mx, rfl⟩ := List.mem_map.mp m
    rw [List.length_map]
    exact h.nm x mx
  · obtain ⟨x, mx, rfl⟩ := List.mem_map.mp m
    exact goodPs_of (by decide) (by decide) (by decide +kernel)
  · obtain ⟨x, mx, rfl⟩ := List.mem_map.mp m
    exact good_word (List.mem_singleton.mpr rfl) rfl
/-! ### the function m of so many letters -/
def lets12 : List (List Nat) := [[97], [98], [99], [100], [101], [102], [103], [104], [105], [106], [107], [108]]
def fM (m : Nat) : Fn := ([109], ws (lets12.take m), .l [.w qw, .l []])
theorem lets12_at : ∀ i : Nat, i < 12 → atI ("abcdefghijkl" : Str).cps.toList (i : Int) = some (97 + i) ∧ lets12[i]? = some [97 + i] := by decide +kernel
theorem fM_ps (m : Nat) : GoodPs (ws (lets12.take m)) := goodPs_take (by decide) (by decide) (by decide +kernel) m
theorem small_good (m : Nat) : GoodL [fM m] := by
  refine ⟨List.nodup_cons.mpr ⟨List.not_mem_nil, List.nodup_nil⟩, fun f mm => ?_, fun f mm => ?_, fun f mm => ?_⟩ <;> rw [List.mem_singleton.mp mm]
  · exact goodName_plain (by show spAr [109] = none; decide +kernel) (by show ([109] : List Nat).head? ≠ some 102; decide)
  · exact fM_ps m
  · exact good_quote
theorem twice_bad (m : Nat) : BadNo (.l [fnt (fM m), fnt (fM m)]) (some 1) := by
  have nm : GoodName 2 [109] := goodName_plain (by decide +kernel) (by decide)
  refine .inr ⟨by simp, .inr ⟨1, rfl, by show 1 < 2; decide, ?_, fun j hj => ?_⟩⟩
  · rintro ⟨n, ps, b, e, _, _, _, nd⟩
    have e1 := Tree.w.inj (List.cons.inj (Tree.l.inj (Option.some.inj e))).1
    exact nd ⟨0, _, by decide, by rw [← e1]; rfl⟩
  · have : j = 0 := by omega
    subst this
    refine ⟨[109], _, _, rfl, nm, fM_ps m, goodE_l.mpr ⟨⟨qw, [.l []], rfl, by unfold parts; rw [show spAr qw = some 1 by decide +kernel]; rfl⟩, .inl rfl⟩, ?_⟩
    rintro ⟨j, r, lj, _⟩
    omega
theorem isW_size {t : Tree} (h : t.isW = true) : t.size ≤ 1 := by
  cases t with
  | w x => rw [size_w]; exact Nat.le_refl _
  | l ts => cases h
theorem FnT.wt {t : Tree} (h : FnT t) : WT t := by
  obtain ⟨n, ps, b, e, wt, pw, l, dp, s⟩ := h
  exact wt
theorem FnT.size {t : Tree} (h : FnT t) : t.size ≤ 1009 := by
  obtain ⟨n, ps, b, e, wt, pw, l, dp, s⟩ := h
  have := sizes_le (ts := ps) (b := 1) fun t m => isW_size (pw t m)
  rw [e, size_l, sizes_cons, sizes_cons, sizes_cons, sizes_nil, size_w, size_l]
  omega
theorem ws_ok {L M : List (List Nat)} (h : M.all isWordB = true) (s : ∀ x ∈ L, x ∈ M) : WTs (ws L) ∧ sizes (ws L) ≤ L.length := by
  refine ⟨WTs.of fun t m => ?_, ?_⟩
  · obtain ⟨x, hx, rfl⟩ := List.mem_map.mp m
    exact wt_w (isWord_of (List.all_eq_true.mp h x (s x hx)))
  · have := sizes_le (ts := ws L) (b := 1) fun t m => isW_size (ws_w t m)
    rw [show (ws L).length = L.length from List.length_map ..] at this
    omega
theorem fM_wt (m : Nat) : WT (fnt (fM m)) := wt_l (wts_cons (wt_w (isWord_of (show isWordB [109] = true by decide))) (wts_cons (wt_l (ws_ok (M := lets12) (by decide) fun x h => List.mem_of_mem_take h).1) (wts_of (show wtsB [.l [.w qw, .l []]] = true by decide +kernel))))
theorem fM_size (m : Nat) : (fnt (fM m)).size ≤ 20 := by
  have a := (ws_ok (L := lets12.take m) (M := lets12) (by decide) fun x h => List.mem_of_mem_take h).2
  have b : (lets12.take m).length ≤ 12 := by rw [List.length_take]; exact Nat.min_le_right ..
  show (Tree.l [.w [109], .l (ws (lets12.take m)), .l [.w qw, .l []]]).size ≤ 20
  simp only [size_l, sizes_cons, sizes_nil, size_w]
  omega
theorem plain_ok {L : List (List Nat)} (h : NamesOk L) : WTs ((L.map plainFn).map fnt) ∧ sizes ((L.map plainFn).map fnt) ≤ 100 ∧ ((L.map plainFn).map fnt).length ≤ 10 := by
  have l : ((L.map plainFn).map fnt).length = L.length := by rw [List.length_map, List.length_map]
  have each : ∀ t ∈ (L.map plainFn).map fnt, WT t ∧ t.size ≤ 10 := fun t m => by
    obtain ⟨f, mf, rfl⟩ := List.mem_map.mp m
    obtain ⟨x, mx, rfl⟩ := List.mem_map.mp mf
    refine ⟨wt_l (wts_cons (wt_w (h.wd x mx)) (wts_of (show wtsB [.l (ws [[120]]), .w [120]] = true by decide +kernel))), ?_⟩
    show (Tree.l [.w x, .l (ws [[120]]), .w [120]]).size ≤ 10
    rw [show ws [[120]] = [Tree.w [120]] from rfl]
    simp only [size_l, sizes_cons, sizes_nil, size_w]
    omega
  have := sizes_le (b := 10) fun t m => (each t m).2
  have := h.l2
  exact ⟨WTs.of fun t m => (each t m).1, by omega, by omega⟩
theorem pickT {K : PySem.W.Frag} {H : Hp} {vs : List V} {ts : List Tree} (r : Trs K H vs ts) {j : Int} (h0 : 0 ≤ j) (h1 : j < (ts.length : Int)) : ∃ x t, atI vs j = some x ∧ Tr K H x t ∧ t ∈ ts := by
  obtain ⟨n, rfl⟩ := Int.eq_ofNat_of_zero_le h0
  have l : n < ts.length := by omega
  obtain ⟨x, hx, tx⟩ := r.get (List.getElem?_eq_getElem l)
  exact ⟨x, ts[n], atI_nat hx, tx, List.getElem_mem l⟩
/-- a value that is no good program beside the number that is due -/
def PairOk (K : PySem.W.Frag) (H : Hp) (x : V) : Prop := ∃ (a : Addr) (v : V) (t : Tree) (k : Nat), x = .ref a ∧ H a = some (.tup [v, .int k]) ∧ Fits K H v t ∧ BadNo t (some k)
theorem Fits.keep {K : PySem.W.Frag} {S : List Addr} {H H1 : Hp} {v : V} {t : Tree} (h : Fits K H v t) (k : Keep S H H1) : Fits K H1 v t := ⟨h.1.keep k, h.2.1, h.2.2.1, h.2.2.2⟩
theorem PairOk.keep {K : PySem.W.Frag} {S : List Addr} {H H1 : Hp} {x : V} (h : PairOk K H x) (k : Keep S H H1) : PairOk K H1 x := by
  obtain ⟨a, v, t, n, e, ea, f, b⟩ := h
  exact ⟨a, v, t, n, e, k.tup ea, f.keep k, b⟩
theorem pair_new {K : PySem.W.Frag} {H : Hp} {p : Addr} {v : V} {t : Tree} {k : Nat} (np : H p = none) (f : Fits K H v t) (b : BadNo t (some k)) : PairOk K (upd H p (.tup [v, .int k])) (.ref p) ∧ Keep [] H (upd H p (.tup [v, .int k])) :=
  ⟨⟨p, v, t, k, rfl, upd_same, f.keep (Keep.new (S := []) np), b⟩, Keep.new np⟩
/-- a program is not good where one of its items is not -/
theorem not_good {us : List Tree} {i : Nat} (hi : i < us.length) (h : ¬ GoodAt us i) {n : Option Nat} (b : BadNo (.l us) n) : ∃ k, n = some k := by
  rcases b with ⟨_, e⟩ | ⟨_, ⟨_, all⟩ | ⟨k, e, _⟩⟩
  · exact ⟨0, e⟩
  · exact absurd (all i hi) h
  · exact ⟨k, e⟩
/-- what the law puts in place of a function (n, ps, b) -/
def bads (n : List Nat) (ps : List Tree) (b : Tree) : List Tree := [.l [.w n, .l ps, .w [110, 111, 98, 111, 100, 121]], .l [.w n, .l ps], .l [.w n, .l ps, .l []], .w [119, 111, 114, 100], .l [.w [105, 102], .l ps, b]]
theorem bads_ok {n : List Nat} {ps : List Tree} {b : Tree} (w : WT (.l [.w n, .l ps, b])) (pw : ∀ p ∈ ps, p.isW = true) (l : ps.length ≤ 4) (s : b.size ≤ 1002) : ∀ t ∈ bads n ps b, WT t ∧ t.size ≤ 1020 := by
  have sp := sizes_le (ts := ps) (b := 1) fun t m => isW_size (pw t m)
  have wn := w.list.head
  have wp := w.list.tail.head
  have wb := w.list.tail.tail.head
  intro t m
  unfold bads at m
  simp only [List.mem_cons, List.not_mem_nil, or_false] at m
  rcases m with rfl | rfl | rfl | rfl | rfl
  · exact ⟨wt_l (wts_cons wn (wts_cons wp (wts_cons (wt_w (isWord_of (by decide))) wts_nil))), by simp only [size_l, sizes_cons, sizes_nil, size_w]; omega⟩
  · exact ⟨wt_l (wts_cons wn (wts_cons wp wts_nil)), by simp only [size_l, sizes_cons, sizes_nil, size_w]; omega⟩
  · exact ⟨wt_l (wts_cons wn (wts_cons wp (wts_cons (wt_l wts_nil) wts_nil))), by simp only [size_l, sizes_cons, sizes_nil, size_w]; omega⟩
  · exact ⟨wt_w (isWord_of (by decide)), by rw [size_w]; decide⟩
  · exact ⟨wt_l (wts_cons (wt_w (isWord_of (by decide))) (wts_cons wp (wts_cons wb wts_nil))), by simp only [size_l, sizes_cons, sizes_nil, size_w]; omega⟩
theorem bads_bad {n : List Nat} {ps : List Tree} {b : Tree} (hp : Tree.w [110, 111, 98, 111, 100, 121] ∉ ps) : ∀ t ∈ bads n ps b, ∀ (us : List Tree) (i : Nat), us[i]? = some t → ¬ GoodAt us i := by
  intro t m us i e
  rintro ⟨n', ps', b', e', gn, gp, ge, _⟩
  have e2 : t = .l [.w n', .l ps', b'] := Option.some.inj (e.symm.trans e')
  subst e2
  unfold bads at m
  simp only [List.mem_cons, List.not_mem_nil, or_false, Tree.l.injEq, List.cons.injEq, Tree.w.injEq, reduceCtorEq, and_true, and_false, false_or] at m
  rcases m with ⟨rfl, rfl, rfl⟩ | ⟨rfl, rfl, rfl⟩ | ⟨rfl, rfl, rfl⟩
  · rw [goodE_w] at ge
    exact hp ge
  · rw [goodE_l] at ge
    obtain ⟨⟨_, _, e, _⟩, _⟩ := ge
    cases e
  · have := gn.1
    rw [show spAr [105, 102] = some 3 by decide +kernel] at this
    cases this
end Og

namespace Og
open PySem PySem.Spec PyProof.Rows L2
def spErrs (K : PySem.W.Frag) : Sp := fun vs H Q _ => ∃ i : Int, vs = [.int i] ∧ 0 ≤ i ∧ i < 1000 ∧ ∀ H', Q (.bl true) H'
theorem nA_at : ∀ i : Nat, i < 4 → Str.ofString (toString ((3 - i : Nat) : Int)) = tx [48 + (3 - i)] ∧ nA[i]? = some [102, 48 + (3 - i)] := by decide +kernel
theorem nat_of {i : Int} {m : Nat} (h0 : 0 ≤ i) (h : i < (m : Int)) : ∃ n : Nat, n < m ∧ i = (n : Int) := ⟨i.toNat, by omega, by omega⟩
theorem ok_law5 {P : Program} {w : World} {K : PySem.W.Frag} {mg : Str → Option Value} {base : Heap} {e : Addr} {ed : FuncData} (F : Fun K "law" "law" s_law e ed) (B : Bn mg) (M : Mc mg)
    (c_draws : Has P w K mg base 29 "_law_draws" p_law_draws (spDraws K)) (c_take : Has P w K mg base 29 "_law_take" p_law_take spTake) (c_program : Has P w K mg base 29 "_law_program" p_law_program (spProg K)) (c_right : Has P w K mg base 29 "_law_is_right" p_law_is_right (spRight5 K))
    (c_badf : Has P w K mg base 29 "_law_bad_function" p_law_bad_function (spBadF K)) (c_told : Has P w K mg base 29 "_law_told" p_law_told (spTold K)) (c_errs : Has P w K mg base 29 "_law_errors_right" p_law_errors_right (spErrs K)) :
    FnOk P w K mg base CX0 30 e ed ["script"] (spLaw K) := by
  obtain ⟨_, _, c_law_draws⟩ := c_draws
  obtain ⟨_, _, c_law_take⟩ := c_take
  obtain ⟨_, _, c_law_program⟩ := c_program
  obtain ⟨_, _, c_law_is_right⟩ := c_right
  obtain ⟨_, _, c_law_bad_function⟩ := c_badf
  obtain ⟨_, _, c_law_told⟩ := c_told
  obtain ⟨_, _, c_law_errors_right⟩ := c_errs
  refine F.ok sc_law (fun vs H Q E h => ?_) (fun cdv A outer s H vs Q E hr h => ?_)
  · obtain ⟨a, ns, rfl, _⟩ := h
    rfl
  obtain ⟨a, ns, rfl, hS, h63, q⟩ := h
  refine ⟨_, (pss_cons (ps_set (i := 1) sc_law.nd rfl (.inl rfl) (pe_lst (pa_cons (cal c_law_draws hr rfl (pa_cons (pv 0) (pa_cons pe_int pa_nil))) (pa_cons pe_int pa_nil))))
    (pss_cons (ps_set (i := 2) sc_law.nd rfl (.inl rfl) (cal c_law_program hr rfl (pa_cons (pv 1) (pa_cons (pe_op op_add pe_int (cal c_law_take hr rfl (pa_cons (pv 1) (pa_cons pe_int pa_nil)))) pa_nil))))
    (pss_cons (ps_set (i := 3) sc_law.nd rfl (.inr rfl) pe_str)
    (pss_cons (ps_set (i := 4) sc_law.nd rfl (.inl rfl) (cal c_law_take hr rfl (pa_cons (pv 1) (pa_cons pe_int pa_nil))))
    (pss_cons (ps_set (i := 5) sc_law.nd rfl (.inl rfl) (pe_tup (pa_cons (pe_tup (pa_cons pe_str (pa_cons (pe_callTy call_tuple_of (by rfl) B.tuple (by decide +kernel) (pa_cons (pe_lc (own := [("k", 6)]) (g := gName 6) (tt := tYes) rfl sc_law.nd (pi_range1 (by rfl) B.range (pa_cons (pv 4) pa_nil)) (blkOk_by (N := n_law) (sc := defScope s_law) (by decide +kernel)) (fun _ _ _ _ _ => pg_name (i := 6) sc_law.nd rfl (Or.inl rfl)) (fun _ _ _ _ _ => pts_nil) (fun _ _ _ _ _ => (pe_ix (show IxR _ (rIxS) from ix_str) (pv 3) (pv 6) (fun _ _ => rfl)))) pa_nil)) (pa_cons (pe_lt (pl_cons (pe_lw (x := [113, 117, 111, 116, 101]) (by decide +kernel)) (pl_cons (pe_lt pl_nil (by show 0 ≤ sizeLine; decide)) pl_nil)) (by show 2 ≤ sizeLine; decide)) pa_nil)))) pa_nil)))
    (pss_cons (ps_set (i := 7) sc_law.nd rfl (.inl rfl) (pe_op op_cat (pe_slice sl_list (pe_lc (own := [("k", 6)]) (g := gName 6) (tt := tYes) rfl sc_law.nd (pi_range1 (by rfl) B.range (pa_cons pe_int pa_nil)) (blkOk_by (N := n_law) (sc := defScope s_law) (by decide +kernel)) (fun _ _ _ _ _ => pg_name (i := 6) sc_law.nd rfl (Or.inl rfl)) (fun _ _ _ _ _ => pts_nil) (fun _ _ _ _ _ => (pe_op op_add_str pe_str (pe_callTy call_str_int (by rfl) B.str (by decide +kernel) (pa_cons (pe_op op_sub pe_int (pv 6)) pa_nil))))) po_none (po_some (pe_op op_add pe_int (cal c_law_take hr rfl (pa_cons (pv 1) (pa_cons pe_int pa_nil)))))) (pe_slice sl_list (pe_lst (pa_cons pe_str (pa_cons pe_str (pa_cons pe_str (pa_cons pe_str pa_nil))))) po_none (po_some (cal c_law_take hr rfl (pa_cons (pv 1) (pa_cons pe_int pa_nil)))))))
    (C8.pss_cut (ps_if (pt_cmpR op_lt (pe_callB call_len_seq (by rfl) B.len PySem.boot_len (pa_cons (pv 7) pa_nil)) pe_int (nomark _)) (pss_one (ps_set (i := 7) sc_law.nd rfl (.inl rfl) (pe_lst (pa_cons pe_str (pa_cons pe_str (pa_cons pe_str pa_nil)))))) pss_nil)
    (pss_cons (ps_set (i := 8) sc_law.nd rfl (.inl rfl) (pe_callTy call_tuple_of (by rfl) B.tuple (by decide +kernel) (pa_cons (pe_lc (own := [("name", 9)]) (g := gName 9) (tt := tYes) rfl sc_law.nd (pi_list (pv 7)) (blkOk_by (N := n_law) (sc := defScope s_law) (by decide +kernel)) (fun _ _ _ _ _ => pg_name (i := 9) sc_law.nd rfl (Or.inl rfl)) (fun _ _ _ _ _ => pts_nil) (fun _ _ _ _ _ => (pe_tup (pa_cons (pv 9) (pa_cons (pe_tup (pa_cons pe_str pa_nil)) (pa_cons pe_str pa_nil)))))) pa_nil)))
    (pss_cons (ps_if (PW.pt (pw_or (pt_not (pt_val (cal c_law_is_right hr rfl (pa_cons (pv 2) pa_nil)))) (pw_or (pt_not (pt_val (cal c_law_is_right hr rfl (pa_cons (pv 5) pa_nil)))) (pw_or1 (pt_not (pt_val (cal c_law_is_right hr rfl (pa_cons (pv 8) pa_nil)))))))) (pss_one (ps_ret pe_bl)) pss_nil)
    (pss_cons (ps_set (i := 10) sc_law.nd rfl (.inl rfl) (cal c_law_take hr rfl (pa_cons (pv 1) (pa_cons (pe_callB call_len_seq (by rfl) B.len PySem.boot_len (pa_cons (pv 2) pa_nil)) pa_nil))))
    (pss_cons (ps_asg (pe_ix ix_tup (pv 2) (pv 10) (fun _ _ => rfl)) (pg_tup (by rfl) (pgs_cons (pg_name (i := 9) sc_law.nd rfl (.inl rfl)) (pgs_cons (pg_name (i := 11) sc_law.nd rfl (.inl rfl)) (pgs_cons (pg_name (i := 12) sc_law.nd rfl (.inl rfl)) pgs_nil)))))
    (pss_cons (ps_set (i := 13) sc_law.nd rfl (.inl rfl) (pe_lst (pa_cons (pe_tup (pa_cons (pv 9) (pa_cons (pv 11) (pa_cons pe_str pa_nil)))) (pa_cons (pe_tup (pa_cons (pv 9) (pa_cons (pv 11) pa_nil))) (pa_cons (pe_tup (pa_cons (pv 9) (pa_cons (pv 11) (pa_cons (pe_lt pl_nil (by show 0 ≤ sizeLine; decide)) pa_nil)))) (pa_cons pe_str (pa_cons (pe_tup (pa_cons pe_str (pa_cons (pv 11) (pa_cons (pv 12) pa_nil)))) pa_nil)))))))
    (pss_cons (ps_set (i := 14) sc_law.nd rfl (.inl rfl) (pe_op op_catA (pe_op op_catA (pe_slice sl_tupA (pv 2) po_none (po_some (pv 10))) (pe_tup (pa_cons (pe_ix ix_list (pv 13) (cal c_law_take hr rfl (pa_cons (pv 1) (pa_cons pe_int pa_nil))) (fun _ _ => rfl)) pa_nil))) (pe_slice sl_tupA (pv 2) (po_some (pe_op op_add (pv 10) pe_int)) po_none)))
    (pss_cons (ps_set (i := 15) sc_law.nd rfl (.inl rfl) (cal c_law_bad_function hr rfl (pa_cons (pv 14) pa_nil)))
    (pss_cons (ps_for PassesOwn.never rfl (pi_list (pe_lst (pa_cons (pe_tup (pa_cons (pv 14) (pa_cons (pv 15) pa_nil))) (pa_cons (pe_tup (pa_cons (pe_lt pl_nil (by show 0 ≤ sizeLine; decide)) (pa_cons pe_int pa_nil))) (pa_cons (pe_tup (pa_cons pe_str (pa_cons pe_int pa_nil))) (pa_cons (pe_tup (pa_cons (pe_op op_catA (pv 5) (pv 5)) (pa_cons pe_int pa_nil))) pa_nil)))))) (pg_tup (by rfl) (pgs_cons (pg_name (i := 16) sc_law.nd rfl (.inl rfl)) (pgs_cons (pg_name (i := 17) sc_law.nd rfl (.inl rfl)) pgs_nil)))
      (pss_one (ps_for PassesOwn.never rfl (pi_range1 (by rfl) B.range (pa_cons pe_int pa_nil)) (pg_name (i := 18) sc_law.nd rfl (.inl rfl))
        (pss_cons (ps_set (i := 19) sc_law.nd rfl (.inl rfl) (cal c_law_told hr rfl (pa_cons (pv 18) (pa_cons (pv 16) pa_nil))))
        (pss_one (ps_if (PW.pt (pw_or (pt_not (pt_val (pe_callB call_isi (by rfl) B.isinstance (by decide +kernel) (pa_cons (pv 19) (pa_cons (pe_bltn (v := .ty "int") rfl B.int (by decide +kernel) rfl) pa_nil))))) (pw_or (pt_val (pe_callB call_isi (by rfl) B.isinstance (by decide +kernel) (pa_cons (pv 19) (pa_cons (pe_bltn (v := .ty "bool") rfl B.bool (by decide +kernel) rfl) pa_nil)))) (pw_or1 (pt_cmpR op_ne (pv 19) (pv 17) (nomark _)))))) (pss_one (ps_ret pe_bl)) pss_nil))))))
    (pss_one (ps_ret (cal c_law_errors_right hr rfl (pa_cons (cal c_law_take hr rfl (pa_cons (pv 1) (pa_cons pe_int pa_nil))) pa_nil))))))))))))))))))), ?_⟩
  -- hand
  refine ⟨_, rfl, a, ns, 500, rfl, hS, h63, by decide, fun d ds H1 k1 nd ed1 dl => ?_⟩
  refine ⟨by show (2 : Nat) ≤ sizeLine; decide, fun h nh => ?_⟩
  have hd0 : Hd (upd H1 h (.lst [.ref d, .int 0])) h d := ⟨0, ds, upd_same, by rw [upd_ne (ne_of_none ed1 nh)]; exact ed1, by omega⟩
  generalize upd H1 h (.lst [.ref d, .int 0]) = H2 at hd0
  -- program
  refine ⟨_, rfl, _, rfl, h, d, 4, rfl, hd0, by decide, fun i H3 i0 i1 k3 hd3 => ?_⟩
  obtain ⟨n, n4, rfl⟩ := nat_of (m := 4) i0 i1
  refine ⟨_, _, rfl, rfl, h, d, 1 + n, ?_, hd3, by omega, fun v fs H4 tv fn l1 l5 ⟨b0, Lr, efs, gl, sh⟩ k4 hd4 => ?_⟩
  · show [V.ref h, V.int (1 + (n : Int))] = _
    rw [show (1 + (n : Int)) = ((1 + n : Nat) : Int) by omega]
  have good := gl.bad (by simp)
  rw [← efs] at good
  have short : ∀ t ∈ fs, ∀ n ps b, t = .l [.w n, .l ps, b] → ∀ p ∈ ps, ∃ c : Nat, p = .w [c] := fun t mt n ps b et => by
    rw [efs] at mt
    obtain ⟨f, mf, ef⟩ := List.mem_map.mp mt
    rw [et] at ef
    have e2 : f.2.1 = ps := Tree.l.inj (List.cons.inj (List.cons.inj (Tree.l.inj ef)).2).1
    rw [← e2]
    exact sh f mf
  have wfs : WTs fs := WTs.of fun t m => (fn t m).wt
  have sfs := sizes_le (b := 1009) fun t m => (fn t m).size
  have sfs5 : sizes fs ≤ 5045 := by omega
  clear efs gl sh k3 k4 hd3 hd0
  -- many
  refine ⟨_, rfl, h, d, 13, rfl, hd4, by decide, fun j H5 j0 j1 k5 hd5 => ?_⟩
  obtain ⟨m, m13, rfl⟩ := nat_of (m := 13) j0 j1
  -- small
  refine ⟨_, rfl, _, rfl, by omega, by omega, fun L nL => ?_⟩
  refine lc_range (lo := 0) (n := ((m : Nat) : Int).toNat) (fun i H' => Keep [] H5 H' ∧ H' L = some (.lst ((lets12.take i).map fun c => V.str (tx c)))) ⟨Keep.new nL, upd_same⟩ (fun i H6 hi p => ?_) (fun H6 p => ?_)
  · obtain ⟨k6, e6⟩ := p
    obtain ⟨hc, hl⟩ := lets12_at i (by omega)
    have ei : (0 : Int) + (i : Int) = (i : Int) := by omega
    rw [ei]
    refine ⟨rfl, yes ?_⟩
    refine ⟨_, rfl, _, rfl, _, _, _, rfl, rfl, by show (12 : Nat) ≤ sizeLine; decide, hc, ?_⟩
    have kL : Keep [L] H6 (upd H6 L (.lst (((lets12.take i).map fun c => V.str (tx c)) ++ [.str (tx [97 + i])]))) := Keep.set e6 (List.mem_cons_self ..)
    refine ⟨_, e6, Nat.lt_of_le_of_lt (show _ ≤ 100 by rw [List.length_map, List.length_take]; omega) (by decide), (k6.cons.trans kL).drop nL, ?_⟩
    show upd _ _ _ _ = _
    rw [upd_same, List.take_add_one, hl, List.map_append]
    rfl
  obtain ⟨k6, e6⟩ := p
  rw [Int.toNat_natCast] at e6
  refine ⟨L, _, rfl, .inl ⟨SqL.of e6, fun T nT => ?_⟩⟩
  obtain ⟨tp, kp⟩ := mk_tr (K := K) (H := H6) nT (trs_ws (L := lets12.take m))
  generalize upd H6 T (.tup ((lets12.take m).map fun c => V.str (tx c))) = H7 at tp kp
  refine fun vq H8 tq k8 => ?_
  refine ⟨by show (3 : Nat) ≤ sizeLine; decide, fun T2 nT2 => ?_⟩
  obtain ⟨tm2, km2⟩ := mk_tr (K := K) (H := H8) (vs := [.str "m", .ref T, vq]) (ts := [.w [109], .l (ws (lets12.take m)), .l [.w qw, .l []]]) nT2 (trs_cons (by rw [show ("m" : Str) = tx [109] by decide +kernel]; exact tr_w) (trs_cons (tp.keep k8) (Trs.one tq)))
  generalize upd H8 T2 (.tup [.str "m", .ref T, vq]) = H9 at tm2 km2
  refine ⟨by show (1 : Nat) ≤ sizeLine; decide, fun T3 nT3 => ?_⟩
  obtain ⟨tsm, km3⟩ := mk_tr (K := K) (H := H9) (vs := [.ref T2]) (ts := [fnt (fM m)]) nT3 (Trs.one tm2)
  generalize upd H9 T3 (.tup [.ref T2]) = H10 at tsm km3
  have k510 : Keep [] H5 H10 := ((((k6.trans kp).trans k8).trans km2).trans km3)
  have hd10 := hd5.keep0 k510
  have tv10 := (tv.keep k5).keep k510
  -- names
  refine ⟨(4 : Int), rfl, by decide, by decide, fun N1 nN1 => ?_⟩
  have N1h : N1 ≠ h := (hd10.neH nN1).symm
  refine lc_range (lo := 0) (n := (4 : Int).toNat) (fun i H' => Keep [] H10 H' ∧ H' N1 = some (.lst ((nA.take i).map fun c => V.str (tx c)))) ⟨Keep.new nN1, upd_same⟩ (fun i H11 hi p => ?_) (fun H11 p => ?_)
  · obtain ⟨k11, e11⟩ := p
    have hi4 : i < 4 := hi
    obtain ⟨ht, hl⟩ := nA_at i hi4
    refine ⟨rfl, yes ?_⟩
    refine ⟨_, rfl, _, _, rfl, rfl, _, congrArg (fun z => [V.int z]) (show (3 : Int) - (0 + (i : Int)) = ((3 - i : Nat) : Int) by omega), by rw [Int.natAbs_natCast]; exact Nat.lt_of_le_of_lt (Nat.log2_le_self _) (by omega), ?_⟩
    rw [ht]
    refine ⟨_, _, rfl, rfl, by rw [lit_f, tx_len, tx_len]; show 2 ≤ sizeLine; decide, ?_⟩
    rw [lit_f, tx_app]
    have kL : Keep [N1] H11 (upd H11 N1 (.lst (((nA.take i).map fun c => V.str (tx c)) ++ [.str (tx ([102] ++ [48 + (3 - i)]))]))) := Keep.set e11 (List.mem_cons_self ..)
    refine ⟨_, e11, Nat.lt_of_le_of_lt (show _ ≤ 100 by rw [List.length_map, List.length_take]; omega) (by decide), (k11.cons.trans kL).drop nN1, ?_⟩
    show upd _ _ _ _ = _
    rw [upd_same, List.take_add_one, hl, List.map_append]
    rfl
  obtain ⟨k11, e11⟩ := p
  dsimp only [tNoPart]
  have hd11 := hd10.keep0 k11
  refine ⟨_, rfl, h, d, 4, rfl, hd11, by decide, fun t1 H12 t10 t11 k12 hd12 => ?_⟩
  obtain ⟨t1, t14, rfl⟩ := nat_of (m := 4) t10 t11
  have e12 := k12.get e11 (by simpa using N1h)
  refine ⟨_, _, rfl, rfl, _, rfl, N1, _, rfl, SqL.of e12, fun N2 nN2 => ?_⟩
  rw [cutV_map, show (some (1 + (t1 : Int))) = some ((1 + t1 : Nat) : Int) by rw [show (1 + (t1 : Int)) = ((1 + t1 : Nat) : Int) by omega], cutL_to _ (by show 1 + t1 ≤ 4; omega), show List.take (4 : Int).toNat nA = nA from rfl]
  have k13 : Keep [] H12 (upd H12 N2 (.lst ((nA.take (1 + t1)).map fun c => V.str (tx c)))) := Keep.new nN2
  have e13 : (upd H12 N2 (.lst ((nA.take (1 + t1)).map fun c => V.str (tx c)))) N2 = some (.lst ((nA.take (1 + t1)).map fun c => V.str (tx c))) := upd_same
  generalize upd H12 N2 (.lst ((nA.take (1 + t1)).map fun c => V.str (tx c))) = H13 at k13 e13
  have hd13 := hd12.keep0 k13
  have N2h : N2 ≠ h := (hd12.neH nN2).symm
  refine ⟨by show (4 : Nat) ≤ sizeLine; decide, fun N3 nN3 => ?_⟩
  have N3h : N3 ≠ h := (hd13.neH nN3).symm
  refine ⟨_, rfl, h, d, 5, rfl, hd13.new nN3, by decide, fun t2 H14 t20 t21 k14 hd14 => ?_⟩
  obtain ⟨t2, t25, rfl⟩ := nat_of (m := 5) t20 t21
  refine ⟨_, rfl, N3, _, rfl, SqL.of (k14.get upd_same (by simpa using N3h)), fun N4 nN4 => ?_⟩
  rw [show [V.str "a1", .str "b2c3", .str "f", .str "f2x"] = nB.map (fun c => V.str (tx c)) by decide +kernel, cutV_map, cutL_to _ (by show t2 ≤ 4; omega)]
  have k1314 : Keep [h] H13 H14 := (Keep.new (S := [h]) nN3).trans k14
  have e14 := k1314.get e13 (by simpa using N2h)
  have k15 : Keep [] H14 (upd H14 N4 (.lst ((nB.take t2).map fun c => V.str (tx c)))) := Keep.new nN4
  have e15 : (upd H14 N4 (.lst ((nB.take t2).map fun c => V.str (tx c)))) N4 = some (.lst ((nB.take t2).map fun c => V.str (tx c))) := upd_same
  generalize upd H14 N4 (.lst ((nB.take t2).map fun c => V.str (tx c))) = H15 at k15 e15
  have hd15 := hd14.keep0 k15
  refine ⟨N2, N4, _, _, rfl, rfl, k15.get e14 (by simp), e15, Nat.le_trans (show _ ≤ 100 by rw [List.length_map, List.length_map, List.length_take, List.length_take]; show min _ 4 + min _ 4 ≤ 100; omega) (by decide), fun N5 nN5 => ?_⟩
  rw [← List.map_append]
  have k16 : Keep [] H15 (upd H15 N5 (.lst ((nA.take (1 + t1) ++ nB.take t2).map fun c => V.str (tx c)))) := Keep.new nN5
  have e16 : (upd H15 N5 (.lst ((nA.take (1 + t1) ++ nB.take t2).map fun c => V.str (tx c)))) N5 = some (.lst ((nA.take (1 + t1) ++ nB.take t2).map fun c => V.str (tx c))) := upd_same
  generalize upd H15 N5 (.lst ((nA.take (1 + t1) ++ nB.take t2).map fun c => V.str (tx c))) = H16 at k16 e16
  have hd16 := hd15.keep0 k16
  have k1016 : Keep [h] H10 H16 := (((k11.mono (by simp)).trans k12).trans (k13.mono (by simp))).trans (k1314.trans ((k15.trans k16).mono (by simp)))
  have nok := nAB_ok t1 t14 t2 t25
  generalize nA.take (1 + t1) ++ nB.take t2 = nms0 at e16 nok
  refine ⟨fun σ' H' => ∃ (N : Addr) (nms : List (List Nat)), NamesOk nms ∧ σ' = [some (.ref a), some (.ref h), some v, some (.str "abcdefghijkl"), some (.int m), some (.ref T3), none, some (.ref N), none, none, none, none, none, none, none, none, none, none, none, none] ∧ Keep [h] H10 H' ∧ Hd H' h d ∧ H' N = some (.lst (nms.map fun c => V.str (tx c))), ?_, ?_⟩
  · refine ⟨_, rfl, N5, _, rfl, .inl (SqL.of e16), _, _, rfl, rfl, _, rfl, ite2 (fun _ => ?_) (fun c => ?_)⟩
    · refine ⟨by show (3 : Nat) ≤ sizeLine; decide, fun N6 nN6 => ?_⟩
      exact ⟨N6, nC, nC_ok, rfl, k1016.newT nN6, hd16.new nN6, by rw [upd_same, show [V.str "f0", .str "zzzzzzzzzzz9", .str "a1"] = nC.map (fun c => V.str (tx c)) by decide +kernel]⟩
    · have c' := of_decide_eq_false (Bool.eq_false_iff.mpr c)
      rw [List.length_map] at c'
      exact ⟨N5, nms0, nok (by omega), rfl, k1016, hd16, e16⟩
  rintro σ' H17 ⟨N, nms, ok, rfl, k17, hd17, e17⟩
  have tsm17 := tsm.keep k17
  have tv17 := tv10.keep k17
  have l10 := ok.l2
  -- named
  refine ⟨_, rfl, N, rfl, ⟨_, SqL.of e17⟩, fun M1 nM1 => ?_⟩
  have M1h : M1 ≠ h := (hd17.neH nM1).symm
  refine lc_list (K := K) (a := N) (xs := nms.map fun c => V.str (tx c)) (fun i H' => Keep [] H17 H' ∧ ∃ vs, H' M1 = some (.lst vs) ∧ Trs K H' vs (((nms.take i).map plainFn).map fnt)) ⟨Keep.new nM1, [], upd_same, trs_nil⟩ (fun i H' _ p => SqL.of (p.1.get e17 (by simp))) (fun i x H18 hx p => ?_) (fun H18 p => ?_)
  · obtain ⟨k18, vs, e18, r18⟩ := p
    rw [List.getElem?_map] at hx
    cases hn : nms[i]? with
    | none => rw [hn] at hx; cases hx
    | some nm =>
    rw [hn] at hx
    have ex := Option.some.inj hx
    subst ex
    have il : i < nms.length := (List.getElem?_eq_some_iff.mp hn).1
    refine ⟨rfl, yes ?_⟩
    refine ⟨_, rfl, by show (1 : Nat) ≤ sizeLine; decide, fun U nU => ?_⟩
    obtain ⟨m1, q1⟩ := mk_tr (K := K) (H := H18) (vs := [.str "x"]) (ts := [.w [120]]) nU (Trs.one (by rw [show ("x" : Str) = tx [120] by decide +kernel]; exact tr_w))
    generalize upd H18 U (.tup [.str "x"]) = H19 at m1 q1
    refine ⟨by show (3 : Nat) ≤ sizeLine; decide, fun W nW => ?_⟩
    obtain ⟨m2, q2⟩ := mk_tr (K := K) (H := H19) (vs := [.str (tx nm), .ref U, .str "x"]) (ts := [.w nm, .l [.w [120]], .w [120]]) nW (trs_cons tr_w (trs_cons m1 (Trs.one (by rw [show ("x" : Str) = tx [120] by decide +kernel]; exact tr_w))))
    generalize upd H19 W (.tup [.str (tx nm), .ref U, .str "x"]) = H20 at m2 q2
    have q12 := q1.trans q2
    have e20 := q12.get e18 (by simp)
    have kM : Keep [M1] H20 (upd H20 M1 (.lst (vs ++ [.ref W]))) := Keep.set e20 (List.mem_cons_self ..)
    have lv := r18.length
    rw [List.length_map, List.length_map, List.length_take] at lv
    refine ⟨vs, e20, Nat.lt_of_le_of_lt (show vs.length ≤ 100 by omega) (by decide), ((k18.trans q12).cons.trans kM).drop nM1, vs ++ [.ref W], upd_same, ?_⟩
    rw [List.take_add_one, hn, List.map_append, List.map_append]
    exact ((r18.keep q12).append (Trs.one m2)).keep kM
  obtain ⟨k18, vs, e18, r18⟩ := p
  rw [List.length_map, List.take_length] at r18
  refine ⟨M1, vs, rfl, .inl ⟨SqL.of e18, fun T4 nT4 => ?_⟩⟩
  obtain ⟨tnd, k19⟩ := mk_tr (K := K) (H := H18) nT4 r18
  generalize upd H18 T4 (.tup vs) = H19 at tnd k19
  have k1719 := k18.trans k19
  have hd19 := hd17.keep0 k1719
  have tv19 := tv17.keep k1719
  have tsm19 := tsm17.keep k1719
  -- the three are right
  have wsm : WT (.l [fnt (fM m)]) := wt_l (wts_cons (fM_wt m) wts_nil)
  have ssm : (Tree.l [fnt (fM m)]).size ≤ 100 := by
    have := fM_size m
    rw [size_l, sizes_cons, sizes_nil]
    omega
  obtain ⟨wpl, spl, lpl⟩ := plain_ok ok
  refine ⟨_, rfl, v, .l fs, rfl, ⟨tv19, wt_l wfs, by rw [size_l]; omega, fun gs e => by cases e; omega⟩, good, fun H20 k20 => ⟨_, rfl, iteF ?_⟩⟩
  refine ⟨_, rfl, .ref T3, .l [fnt (fM m)], rfl, ⟨tsm19.keep k20, wsm, by omega, fun gs e => by cases e; show 1 ≤ 1000; decide⟩, (small_good m).bad (by simp), fun H21 k21 => ⟨_, rfl, iteF ?_⟩⟩
  refine ⟨_, rfl, .ref T4, _, rfl, ⟨(tnd.keep k20).keep k21, wt_l wpl, by rw [size_l]; omega, fun gs e => by cases e; omega⟩, (plain_good ok).bad ?_, fun H22 k22 => ⟨_, rfl, iteF ?_⟩⟩
  · intro e
    have l1 := ok.l1
    rw [List.map_eq_nil_iff.mp e] at l1
    exact absurd l1 (by decide)
  have k1922 := (k20.trans k21).trans k22
  have hd22 := hd19.keep0 k1922
  have tv22 := tv19.keep k1922
  have tsm22 := tsm19.keep k1922
  clear tnd r18
  -- at
  obtain ⟨pa, pvs, rfl, hP, rP⟩ := tv22.list
  have lp := rP.length
  refine ⟨_, rfl, _, rfl, pa, pvs, rfl, .inr hP, h, d, _, rfl, hd22, by omega, fun at' H23 at0 at1 k23 hd23 => ?_⟩
  obtain ⟨n', rfl⟩ := Int.eq_ofNat_of_zero_le at0
  have nl : n' < fs.length := by omega
  have hg : fs[n']? = some fs[n'] := List.getElem?_eq_getElem nl
  have mem := List.getElem_mem nl
  have sp1 := sizes_split hg
  have en : (some ((n' : Int) + 1)) = some ((n' + 1 : Nat) : Int) := by rw [show ((n' + 1 : Nat) : Int) = (n' : Int) + 1 by omega]
  have c1 := cutL_to fs (j := n') (by omega)
  have c2 := cutL_from fs (i := n' + 1) (by omega)
  rw [← en] at c2
  obtain ⟨nm, ps, b, et, wt, pw, lps, dp, sz⟩ := fn _ mem
  have shp := short _ mem nm ps b et
  have hp : Tree.w [110, 111, 98, 111, 100, 121] ∉ ps := fun m => by
    obtain ⟨c, e⟩ := shp _ m
    have := Tree.w.inj e
    cases this
  have tv23 := tv22.keep k23
  have tsm23 := tsm22.keep k23
  obtain ⟨x, hx, tx0⟩ := rP.get hg
  have hP23 := k23.sqT hP
  rw [et] at tx0 wt
  obtain ⟨oa, ovs, rfl, hO, rO⟩ := (tx0.keep k23).list
  obtain ⟨x0, y0, z0, rfl, r0, r1, r2⟩ := rO.three
  have w0 := r0.word
  subst w0
  refine ⟨_, rfl, _, rfl, pa, pvs, _, _, rfl, rfl, hP23, atI_nat hx, ?_⟩
  refine ⟨oa, _, rfl, hO, rfl, _, _, rfl, _, _, rfl, _, _, rfl, rfl, ?_⟩
  -- bad
  refine ⟨_, rfl, _, rfl, by show (3 : Nat) ≤ sizeLine; decide, fun U1 nU1 => ?_⟩
  obtain ⟨g1, q1⟩ := mk_tr (K := K) (H := H23) (vs := [.str (tx nm), y0, .str "nobody"]) (ts := [.w nm, .l ps, .w [110, 111, 98, 111, 100, 121]]) nU1 (trs_cons tr_w (trs_cons r1 (Trs.one (by rw [show ("nobody" : Str) = tx [110, 111, 98, 111, 100, 121] by decide +kernel]; exact tr_w))))
  generalize upd H23 U1 (.tup [.str (tx nm), y0, .str "nobody"]) = B1 at g1 q1
  refine ⟨_, rfl, _, rfl, by show (2 : Nat) ≤ sizeLine; decide, fun U2 nU2 => ?_⟩
  obtain ⟨g2, q2⟩ := mk_tr (K := K) (H := B1) (vs := [.str (tx nm), y0]) (ts := [.w nm, .l ps]) nU2 (trs_cons tr_w (Trs.one (r1.keep q1)))
  generalize upd B1 U2 (.tup [.str (tx nm), y0]) = B2 at g2 q2
  have q02 := q1.trans q2
  refine ⟨_, rfl, _, rfl, fun v3 B3 tv3 q3 => ?_⟩
  have q03 := q02.trans q3
  refine ⟨by show (3 : Nat) ≤ sizeLine; decide, fun U4 nU4 => ?_⟩
  obtain ⟨g4, q4⟩ := mk_tr (K := K) (H := B3) (vs := [.str (tx nm), y0, v3]) (ts := [.w nm, .l ps, .l []]) nU4 (trs_cons tr_w (trs_cons (r1.keep q03) (Trs.one tv3)))
  generalize upd B3 U4 (.tup [.str (tx nm), y0, v3]) = B4 at g4 q4
  have q04 := q03.trans q4
  refine ⟨_, rfl, _, rfl, by show (3 : Nat) ≤ sizeLine; decide, fun U5 nU5 => ?_⟩
  obtain ⟨g5, q5⟩ := mk_tr (K := K) (H := B4) (vs := [.str "if", y0, z0]) (ts := [.w [105, 102], .l ps, b]) nU5 (trs_cons (by rw [show ("if" : Str) = tx [105, 102] by decide +kernel]; exact tr_w) (trs_cons (r1.keep q04) (Trs.one (r2.keep q04))))
  generalize upd B4 U5 (.tup [.str "if", y0, z0]) = B5 at g5 q5
  have q05 := q04.trans q5
  refine ⟨by show (5 : Nat) ≤ sizeLine; decide, fun U6 nU6 => ?_⟩
  have hdB := hd23.keep0 q05
  have U6h : U6 ≠ h := (hdB.neH nU6).symm
  have k6' : Keep [] B5 (upd B5 U6 (.lst [.ref U1, .ref U2, .ref U4, .str "word", .ref U5])) := Keep.new nU6
  have e6' : (upd B5 U6 (.lst [.ref U1, .ref U2, .ref U4, .str "word", .ref U5])) U6 = some (.lst [.ref U1, .ref U2, .ref U4, .str "word", .ref U5]) := upd_same
  have rB : Trs K B5 [.ref U1, .ref U2, .ref U4, .str "word", .ref U5] (bads nm ps b) :=
    trs_cons ((((g1.keep q2).keep q3).keep q4).keep q5) (trs_cons (((g2.keep q3).keep q4).keep q5) (trs_cons (g4.keep q5) (trs_cons (by rw [show ("word" : Str) = tx [119, 111, 114, 100] by decide +kernel]; exact tr_w) (Trs.one g5))))
  generalize upd B5 U6 (.lst [.ref U1, .ref U2, .ref U4, .str "word", .ref U5]) = B6 at k6' e6'
  have rB6 := rB.keep k6'
  have hd6 := hdB.keep0 k6'
  have q06 := q05.trans k6'
  have tvB := tv23.keep q06
  -- bent
  refine ⟨_, rfl, _, rfl, _, rfl, sl_tr tvB fun w3 B7 tw3 q7 => ?_⟩
  rw [c1] at tw3
  have hd7 := hd6.keep0 q7
  refine ⟨_, rfl, _, rfl, h, d, 5, rfl, hd7, by decide, fun j5 B8 j50 j51 q8 hd8 => ?_⟩
  obtain ⟨xb, tb, hxb, txb, mtb⟩ := pickT ((rB6.keep q7).keep q8) j50 (by show j5 < 5; omega)
  have e8' := q8.get (q7.get e6' (by simp)) (by simpa using U6h)
  refine ⟨U6, _, _, _, rfl, rfl, SqL.of e8', hxb, ?_⟩
  obtain ⟨wtb, stb⟩ := bads_ok wt pw lps sz tb mtb
  have small : ∀ {z : Nat}, z ≤ 100000 → z ≤ sizeLine := fun h => Nat.le_trans h (by decide)
  refine ⟨by show (1 : Nat) ≤ sizeLine; decide, fun U7 nU7 => ?_⟩
  obtain ⟨g7, q9⟩ := mk_tr (K := K) (H := B8) nU7 (Trs.one txb)
  generalize upd B8 U7 (.tup [xb]) = B9 at g7 q9
  refine cat_tr ((tw3.keep q8).keep q9) g7 (small (by rw [List.length_take, List.length_singleton]; omega)) fun w7 B10 tw7 q10 => ?_
  have q610 : Keep [h] B6 B10 := (((q7.mono (by simp)).trans q8).trans ((q9.trans q10).mono (by simp)))
  refine ⟨_, rfl, _, rfl, _, _, rfl, rfl, _, rfl, ?_⟩
  dsimp only [tNoPart]
  refine sl_tr (tvB.keep q610) fun w8 B11 tw8 q11 => ?_
  rw [c2] at tw8
  refine cat_tr (tw7.keep q11) tw8 (small (by rw [List.length_append, List.length_take, List.length_drop, List.length_singleton]; omega)) fun w9 B12 tw9 q12 => ?_
  have q1012 := q11.trans q12
  have q612 := q610.trans (q1012.mono (by simp))
  have hd12' := (hd8.keep0 (q9.trans q10)).keep0 q1012
  obtain ⟨us, eus⟩ : ∃ us, us = List.take n' fs ++ [tb] ++ List.drop (n' + 1) fs := ⟨_, rfl⟩
  have us_l : us.length = fs.length := by rw [eus, List.length_append, List.length_append, List.length_take, List.length_drop, List.length_singleton]; omega
  have us_s : sizes us ≤ 7083 := by rw [eus, sizes_app, sizes_app, sizes_cons, sizes_nil]; omega
  have us_w : ∀ t ∈ us, WT t := fun t m => by
    rw [eus] at m
    rcases List.mem_append.mp m with m | m
    · rcases List.mem_append.mp m with m | m
      · exact (fn t (List.mem_of_mem_take m)).wt
      · rw [List.mem_singleton.mp m]; exact wtb
    · exact (fn t (List.mem_of_mem_drop m)).wt
  have us_at : us[n']? = some tb := by
    rw [eus, List.append_assoc, List.getElem?_append_right (by rw [List.length_take]; omega), List.length_take, show n' - min n' fs.length = 0 by omega]
    rfl
  have us_bad := bads_bad hp tb mtb us n' us_at
  rw [← eus] at tw9
  clear eus
  -- due
  refine ⟨_, rfl, w9, .l us, rfl, tw9, wt_l (WTs.of us_w), by rw [size_l]; omega, fun due B13 out q13 => ?_⟩
  obtain ⟨kn, hkn, rfl⟩ : ∃ kn : Nat, BadNo (.l us) (some kn) ∧ due = kn := by
    rcases out with o | ⟨o, _⟩
    · exact o
    · obtain ⟨_, e⟩ := not_good (by omega) us_bad o
      cases e
  have hd13' := hd12'.keep0 q13
  have tw13 := tw9.keep q13
  have q613 : Keep [h] B6 B13 := q612.trans (q13.mono (by simp))
  have tsm13 := (tsm23.keep q06).keep q613
  -- the pairs
  have f1 : Fits K B13 w9 (.l us) := ⟨tw13, wt_l (WTs.of us_w), by rw [size_l]; omega, fun gs e => by cases e; omega⟩
  refine ⟨_, rfl, _, rfl, by show (2 : Nat) ≤ sizeLine; decide, fun P1 nP1 => ?_⟩
  obtain ⟨p1, r1'⟩ := pair_new (k := kn) nP1 f1 hkn
  generalize upd B13 P1 (.tup [w9, .int (kn : Nat)]) = C1 at p1 r1'
  refine fun v2 C2 tv2 r2' => ?_
  refine ⟨by show (2 : Nat) ≤ sizeLine; decide, fun P2 nP2 => ?_⟩
  obtain ⟨p2, r3'⟩ := pair_new (K := K) (H := C2) (v := v2) (t := .l []) (k := 0) nP2 ⟨tv2, wt_l wts_nil, by decide +kernel, fun gs e => by cases e; decide⟩ (.inl ⟨rfl, rfl⟩)
  generalize upd C2 P2 (.tup [v2, .int ((0 : Nat) : Int)]) = C3 at p2 r3'
  refine ⟨by show (2 : Nat) ≤ sizeLine; decide, fun P3 nP3 => ?_⟩
  obtain ⟨p3, r4'⟩ := pair_new (K := K) (H := C3) (v := .str "main") (t := .w [109, 97, 105, 110]) (k := 0) nP3 ⟨by rw [show ("main" : Str) = tx [109, 97, 105, 110] by decide +kernel]; exact tr_w, wt_w (isWord_of (by decide)), by rw [size_w]; decide, fun gs e => by cases e⟩ rfl
  generalize upd C3 P3 (.tup [.str "main", .int ((0 : Nat) : Int)]) = C4 at p3 r4'
  have tsmC := (((tsm13.keep r1').keep r2').keep r3').keep r4'
  refine ⟨_, rfl, _, rfl, cat_tr tsmC tsmC (Nat.le_trans (show 2 ≤ 100 by decide) (by decide)) fun v4 C5 tv4 r5' => ?_⟩
  refine ⟨by show (2 : Nat) ≤ sizeLine; decide, fun P4 nP4 => ?_⟩
  have sM := fM_size m
  obtain ⟨p4, r6'⟩ := pair_new (K := K) (H := C5) (v := v4) (t := .l [fnt (fM m), fnt (fM m)]) (k := 1) nP4 ⟨tv4, wt_l (wts_cons (fM_wt m) (wts_cons (fM_wt m) wts_nil)), by rw [size_l, sizes_cons, sizes_cons, sizes_nil]; omega, fun gs e => by cases e; show 2 ≤ 1000; decide⟩ (twice_bad m)
  generalize upd C5 P4 (.tup [v4, .int ((1 : Nat) : Int)]) = C6 at p4 r6'
  have r26 := (((r2'.trans r3').trans r4').trans r5').trans r6'
  have r16 := r1'.trans r26
  have hdC := hd13'.keep0 r16
  refine ⟨by show (4 : Nat) ≤ sizeLine; decide, fun p np => ?_⟩
  have ph : p ≠ h := (hdC.neH np).symm
  have kp' : Keep [] C6 (upd C6 p (.lst [.ref P1, .ref P2, .ref P3, .ref P4])) := Keep.new np
  have ep : (upd C6 p (.lst [.ref P1, .ref P2, .ref P3, .ref P4])) p = some (.lst [.ref P1, .ref P2, .ref P3, .ref P4]) := upd_same
  have each : ∀ x ∈ [V.ref P1, .ref P2, .ref P3, .ref P4], PairOk K (upd C6 p (.lst [.ref P1, .ref P2, .ref P3, .ref P4])) x := fun x mx => by
    simp only [List.mem_cons, List.not_mem_nil, or_false] at mx
    rcases mx with rfl | rfl | rfl | rfl
    · exact (p1.keep r26).keep kp'
    · exact (((p2.keep r4').keep r5').keep r6').keep kp'
    · exact ((p3.keep r5').keep r6').keep kp'
    · exact p4.keep kp'
  have hd7' := hdC.keep0 kp'
  generalize upd C6 p (.lst [.ref P1, .ref P2, .ref P3, .ref P4]) = C7 at kp' ep each hd7'
  generalize [V.ref P1, .ref P2, .ref P3, .ref P4] = xs at ep each
  refine ⟨p, rfl, ⟨_, SqL.of ep⟩, ?_⟩
  refine for_list (K := K) (a := p) (xs := xs) (D := { nx := _, rt := Q }) (fun i σ H' => ∃ y16 y17 y18 y19 : Option V, σ = [some (.ref a), some (.ref h), some (.ref pa), some (.str "abcdefghijkl"), some (.int m), some (.ref T3), none, some (.ref N), some (.ref T4), some (.str (tx nm)), some (.int n'), some y0, some z0, some (.ref U6), some w9, some (.int kn), y16, y17, y18, y19] ∧ Keep [] C7 H') ⟨none, none, none, none, rfl, Keep.refl⟩ (fun i σ H' _ pw => ?_) (fun i z σ H24 hz pw => ?_) (fun σ H24 pw => ?_)
  · obtain ⟨_, _, _, _, rfl, kk⟩ := pw
    exact SqL.of (kk.get ep (by simp))
  · obtain ⟨y16, y17, y18, y19, rfl, kk⟩ := pw
    obtain ⟨ca, cv, ct, ck, rfl, eca, fc, bc⟩ := (each z (List.mem_of_getElem? hz)).keep kk
    refine ⟨ca, _, rfl, SqT.of_tup eca, rfl, _, _, rfl, _, _, rfl, rfl, ?_⟩
    refine ⟨_, rfl, by decide, by decide, ?_⟩
    refine for_range (lo := 0) (n := (2 : Int).toNat) (fun j σ H' => ∃ y18 y19 : Option V, σ = [some (.ref a), some (.ref h), some (.ref pa), some (.str "abcdefghijkl"), some (.int m), some (.ref T3), none, some (.ref N), some (.ref T4), some (.str (tx nm)), some (.int n'), some y0, some z0, some (.ref U6), some w9, some (.int kn), some cv, some (.int ck), y18, y19] ∧ Keep [] H24 H') ⟨y18, y19, rfl, Keep.refl⟩ (fun j σ H25 hj pw => ?_) (fun σ H25 pw => ?_)
    · obtain ⟨y18, y19, rfl, k25⟩ := pw
      refine ⟨_, rfl, _, rfl, _, cv, ct, rfl, fc.keep k25, fun n2 H26 hn k26 => ?_, fun H26 hn k26 => ?_⟩
      · have e2 := Option.some.inj (BadNo.uniq hn bc)
        subst e2
        obtain ⟨ty, u, q1, q2, q3⟩ := isi_int (K := K) (H := H26) (i := ((n2 : Nat) : Int))
        obtain ⟨ty', u', q1', q2', q3'⟩ := isi_intbool (K := K) (H := H26) (i := ((n2 : Nat) : Int))
        refine ⟨_, rfl, _, _, ty, u, _, rfl, q1, q2, q3, _, rfl, iteF ?_⟩
        refine ⟨_, rfl, _, _, ty', u', _, rfl, q1', q2', q3', _, rfl, iteF ?_⟩
        refine ⟨_, rfl, _, rfl, rfl, _, rfl, ?_⟩
        rw [nF rfl]
        exact iteF ⟨_, _, rfl, k25.trans k26⟩
      · have := BadNo.uniq hn bc
        cases this
    · obtain ⟨y18, y19, rfl, k25⟩ := pw
      exact ⟨_, _, _, _, rfl, kk.trans k25⟩
  · obtain ⟨y16, y17, y18, y19, rfl, kk⟩ := pw
    have hd24 := hd7'.keep0 kk
    refine ⟨_, rfl, h, d, 1000, rfl, hd24, by decide, fun j9 H25 j90 j91 k25 hd25 => ?_⟩
    exact ⟨j9, rfl, j90, j91, fun H' => q H'⟩
end Og

namespace Og
open PySem PySem.Spec PyProof.Rows L2
/-! ### a caught error that is kept: behind the clause it is a value like another -/
section
variable {X : Cx} {pins : List (Addr × Obj)} {σ : L2.St} {H : Hp} {s : Shared}
theorem Inv_track {a : Addr} {oe : Obj} {cls : Value} {d : Option Addr} {vs : Array Value} (I : Inv X ((a, oe) :: pins) σ H s) (n0 : X.s_0.heap.get? a = none) (np : ∀ p ∈ X.pn ++ pins, p.1 ≠ a) (zc : Zc cls d oe) (dt : oe.data = .fields vs) :
    Inv X pins σ (upd H a (ErV cls d a)) s := by
  have me : (a, oe) ∈ X.pn ++ (a, oe) :: pins := List.mem_append_right _ (List.mem_cons_self ..)
  obtain ⟨there, na, nL, nF, nc⟩ := I.pin _ me
  dsimp only at there na nL nF nc
  have ne0 : ∀ b o, X.s_0.heap.get? b = some o → b ≠ a := fun b o e z => by rw [z, n0] at e; cases e
  have new : ObjOk X.prog X.w (upd H a (ErV cls d a)) s.heap a (ErV cls d a) := ⟨⟨oe, vs, there, zc, dt⟩, ⟨oe, there⟩, fun _ _ ⟨o, w, y, r⟩ k => ⟨o, w, k o y, r⟩⟩
  refine ⟨I.ok, I.os, I.bare, ⟨I.base.keep, I.base.slot, fun b o e n hx => ?_, I.base.there, fun b xs e => ?_, fun b o u e => ?_, fun b ps e => ?_⟩, I.loc, I.cell, ?_, fun x c e => ?_, fun p hp => ?_, I.hok.laidN (fun _ _ q => q) na new, I.len⟩
  · rw [upd_ne (ne0 b o e)]
    exact I.base.free b o e n hx
  · have q := I.base.tups b xs e
    rw [upd_ne (ne_of_none q na)]
    exact q
  · have q := I.base.frzs b o u e
    rw [upd_ne (ne_of_none q na)]
    exact q
  · obtain ⟨m, q⟩ := I.base.tbls b ps e
    exact ⟨m, by rw [upd_ne (ne_of_none q na)]; exact q⟩
  · rw [upd_ne (Ne.symm nL)]
    exact I.free
  · have ne : c ≠ a := fun z => by
      obtain ⟨v, o, ho, hd⟩ := I.cell x c e
      rw [z, there] at ho
      cases ho
      exact nc v hd
    rw [upd_ne ne]
    exact I.freeC x c e
  · obtain ⟨h1, h2, h3, h4, h5⟩ := I.pin p (by rcases List.mem_append.mp hp with q | q; exact List.mem_append_left _ q; exact List.mem_append_right _ (List.mem_cons_of_mem _ q))
    exact ⟨h1, by rw [upd_ne (np p hp)]; exact h2, h3, h4, h5⟩
end
/-- what the clause 'except x as n' wishes of an exception of the body, which is kept: slot i is n's -/
def wAsK (K : PySem.W.Frag) (c : Value) (i : Nat) (ts : Addr → Value → Option Addr → TS) (Wout : WX) (D : Ends) : WX := fun cls d σ H =>
  ∃ b, PySem.W.exmOne K cls c = some b ∧ (b = true → ∀ a, H a = none → ts a cls d { nx := fun σ' H' => H' a = none → D.nx (σ'.set i none) (upd H' a (ErV cls d a)), rt := fun _ _ => False, bk := fun _ _ => False, ct := fun _ _ => False } (σ.set i (some (.ref a))) H) ∧
    (b = false → Wout cls d σ H)
section
variable {X : Cx} {x n : Str} {c : Value} {i : Nat} {body suite : List Stmt} {b₀ : Stmt} {np pos pos' : Pos} {tb : WX → TS} {ts : Addr → Value → Option Addr → TS} {Wout : WX}
theorem ps_try_keep (hs : X.stack = X.env :: X.outer) (hf : X.env.frame = some X.env.locals) (hex : X.ex = []) (hN : X.N.Nodup) (hi : X.N[i]? = some n) (hln : X.env.kindOf n = some .local) (hc : Names X x c) (tk : Takes X Wout)
    (hb : ∀ (W : WX) (pn : List (Addr × Obj)) (xe : Value → Shared → Prop), Takes (X.tr pn xe) W → PassesOwn (model X.prog X.w) X.A X.env xe → PSs (X.tr pn xe) body (tb W))
    (hsu : ∀ (a : Addr) (oe : Obj) (cls : Value) (d : Option Addr) (pn : List (Addr × Obj)), Zc cls d oe → (∃ vs, oe.data = .fields vs) → PSs (X.suite a ((a, oe) :: pn)) (b₀ :: suite) (ts a cls d)) :
    PS X (.Try body [.ExceptHandler (some (.Name x np)) (some n) (b₀ :: suite) pos'] [] [] pos) (fun D σ H => tb (wAsK X.K c i ts Wout D) D σ H) := by
  refine ⟨fun pins s σ H D I h => ?_⟩
  have ok := I.ok
  have hfr : X.A.frames = some (X.env :: X.outer) := by rw [ok.frames, hs]
  have hloc : Loc X.env.scope n := .inl hln
  refine wpAny_Try_except ?_
  refine wpAny_mono ((hb (wAsK X.K c i ts Wout D) (X.pn ++ pins) (fun e s₁ => wpAny (model X.prog X.w) X.A (noteFrame e X.env) (fun _ s₂ => wpAny (model X.prog X.w) X.A (setFlight e none) (fun _ s₃ =>
    wpAny (model X.prog X.w) X.A (handleBy e X.env [.ExceptHandler (some (.Name x np)) (some n) (b₀ :: suite) pos']) (SP X pins D) X.xe s₃) X.xe s₂) X.xe s₁) (fun u s' xx => ?_) PassesOwn.looking).run [] s σ H D (I.toTry _) h) (fun f s1 hsp => ?_) (fun e s1 he => he)
  · -- the catch
    obtain ⟨a, B, sI, pins', σ', H', cls, d, rfl, J', nb, up, sky, na, os, ag, b, hb1, hyes, hno⟩ := xx
    have J : Inv X pins σ' H' sI := J'.ofTry ok
    have sky' : Sky B (X.env :: X.outer) a (Zc cls d) X.env.locals s'.heap := by rw [← hs]; exact sky
    show wpAny _ _ (noteFrame (.ref a) X.env) _ _ _
    refine Sky.land Zc.steady hfr hf sky' fun h3 fl3 up3 => ?_
    have J3 : Inv X pins σ' H' { s' with heap := h3 } := J.landed nb fl3.1 (up.trans up3) os ag
    obtain ⟨oe3, vs3, he3, hz3, hd3⟩ := fl3.there
    have notFr : ∀ {h : Heap} {o : Obj} {vs : Array Value}, h.FunFrames B (X.env :: X.outer) → h.get? a = some o → o.data = .fields vs → a ∉ frs (X.env :: X.outer) := fun {h o vs} ff e dd hm => by
      obtain ⟨_, o', e', hnf⟩ := ff.mem hm
      rw [e] at e'; cases e'
      exact hnf _ dd
    have nfr := notFr fl3.2.2.1 he3 hd3
    have nL : a ≠ X.env.locals := fun z => nfr (List.mem_filterMap.mpr ⟨X.env, List.mem_cons_self, by rw [hf, z]⟩)
    have nF : a ∉ X.fs := fun hm => by
      obtain ⟨e, he, q⟩ := List.mem_filterMap.mp hm
      exact nfr (List.mem_filterMap.mpr ⟨e, List.mem_cons_of_mem _ he, q⟩)
    have nfr' : a ∉ frs X.stack := by rw [hs]; exact nfr
    have gone : ∀ o, sI.heap.get? a = some o → False := fun o e => by
      have z := nb a o e nfr'
      rw [fl3.2.1] at z
      cases z
    have n0 : X.s_0.heap.get? a = none := by
      cases e : X.s_0.heap.get? a with
      | none => rfl
      | some o =>
        exfalso
        by_cases hx : a ∈ X.ex
        · rw [hex] at hx; cases hx
        · obtain ⟨o', e'⟩ := J.base.there a o e hx
          exact gone o' e'
    have npin : ∀ p ∈ X.pn ++ pins, p.1 ≠ a := fun p hp z => by
      have q := (J.pin p hp).1
      rw [z] at q
      exact gone _ q
    have S3 := J3.suite he3 hd3 na nL nF
    refine wpAny_handleBy_cons (codeAny_handlers_test ?_) (by intro q; cases q)
    have LT : PySem.W.Looks (model X.prog X.w) h3 (typeOf (.ref a)) cls := fun A Q E s k q => wpAny_typeOf_ref (k _ _ he3) (by rw [hz3.1]; exact q)
    have LM := PySem.W.exm_one (M := model X.prog X.w) (J3.kIn) LT hb1
    have test : ∀ {Q : Value → Shared → Prop} {E : Value → Shared → Prop}, Q c { s' with heap := h3 } → wpAny (model X.prog X.w) (X.A.mark (some (.ref a))) (eval (.Name x np) X.env) Q E { s' with heap := h3 } := fun {Q E} q => by
      obtain ⟨hg, hdbg, hm | ⟨hm, hv, hnn⟩⟩ := hc
      · exact ld_glob (X := X.suite a ((a, oe3) :: (X.pn ++ pins))) S3 hg hm q hdbg
      · exact ld_blt (X := X.suite a ((a, oe3) :: (X.pn ++ pins))) S3 hg hm hv q hnn hdbg
    refine test (LM.here ?_)
    cases b with
    | true =>
      refine codeAny_handlers_suite_as ?_
      refine HandSPX.lands_againZ fl3 fun h4 fl4 up4 => ?_
      have J4 : Inv X pins σ' H' { s' with heap := h4 } := J.landed nb fl4.1 ((up.trans up3).trans up4) os ag
      obtain ⟨oe4, vs4, he4, hz4, hd4⟩ := fl4.there
      have S4 := J4.suite he4 hd4 na nL nF
      refine store_ok (X := X.suite a ((a, oe4) :: (X.pn ++ pins))) (v := .ref a) S4 hN hi hloc rfl (fun s5 S5 => ?_) (.inr hln)
      refine wpAny_mono ((hsu a oe4 cls d (X.pn ++ pins) hz4 ⟨_, hd4⟩).run [] s5 _ H' _ S5 (hyes rfl a na)) (fun f s6 hsp => ?_) (fun _ _ z => False.elim z)
      cases f with
      | next =>
        obtain ⟨σ6, H6, S6, q6⟩ := hsp
        have K6 : Inv X ((a, oe4) :: pins) σ6 H6 s6 := ⟨ok, S6.os, S6.bare, S6.base, S6.loc, S6.cell, S6.free, S6.freeC, fun p hp => S6.pin p (List.mem_append_left _ (by
          rcases List.mem_append.mp hp with h | h
          · exact List.mem_cons_of_mem _ (List.mem_append_left _ h)
          · rcases List.mem_cons.mp h with h | h
            · rw [h]; exact List.mem_cons_self ..
            · exact List.mem_cons_of_mem _ (List.mem_append_right _ h))), S6.hok, S6.len⟩
        have na6 : H6 a = none := (K6.pin (a, oe4) (List.mem_append_right _ (List.mem_cons_self ..))).2.1
        exact gone_ok K6 hN hi hln fun s7 J7 => ⟨_, _, Inv_track J7 n0 npin hz4 hd4, q6 na6⟩
      | brk =>
        obtain ⟨σ6, H6, S6, q6⟩ := hsp
        exact q6.elim
      | cont =>
        obtain ⟨σ6, H6, S6, q6⟩ := hsp
        exact q6.elim
      | ret u =>
        obtain ⟨v6, σ6, H6, S6, r6, q6⟩ := hsp
        exact q6.elim
    | false =>
      show wpAny _ X.A (handleBy (.ref a) X.env []) _ _ _
      refine wpAny_handleBy_nil ?_
      obtain ⟨k1, k2, k3, oe, vs, T, oT, ts', he, hz, hd, h1, hr⟩ := id fl3
      unfold PySem.passOn
      refine wpAny_bind (wpAny_field he hd h1 ?_)
      rw [if_neg (show ¬ ((Value.ref T == Value.none) = true) from by simp)]
      have fin : wpAny (model X.prog X.w) X.A (setFlight (.ref a) X.env.frame) (fun _ s4 => wpAny (model X.prog X.w) X.A (throw (.ref a) : Sem Flow) (SP X pins D) X.xe s4) X.xe { s' with heap := h3 } := by
        rw [hf]
        refine HandSPX.setFlight_upZ fl3 fun h4 hh4 up4 => wpAny_throw (tk _ _ ?_)
        exact ⟨a, B, sI, pins, σ', H', cls, d, rfl, J, nb, (up.trans up3).trans up4, .inr (.inr (by rw [hs]; exact hh4)), na, os, ag, hno rfl⟩
      first
        | exact wpAny_bind (wpAny_pure (wpAny_bind fin))
        | exact wpAny_bind fin
  · cases f with
    | next =>
      obtain ⟨σ', H', J', q⟩ := hsp
      exact wpAny_execs_nil ⟨σ', H', J'.ofTry ok, q⟩
    | brk =>
      obtain ⟨σ', H', J', q⟩ := hsp
      exact ⟨σ', H', J'.ofTry ok, q⟩
    | cont =>
      obtain ⟨σ', H', J', q⟩ := hsp
      exact ⟨σ', H', J'.ofTry ok, q⟩
    | ret u =>
      obtain ⟨v, σ', H', J', r, q⟩ := hsp
      exact ⟨v, σ', H', J'.ofTry ok, r, q⟩
end
end Og

namespace Og
open PySem PySem.Spec PyProof.Rows L2
section
variable {P : Program} {w : World} {K : PySem.W.Frag} {mg : Str → Option Value} {base : Heap}
theorem ok_BadText' {C G fI : Addr} {fd : FuncData} (T : ErrT K mg "BadText" "BadText.__init__" "place" s_BadText_init C G fI fd) : FnOk P w K mg base CX0 1 fI fd ["self", "place"] (spErr K "place") := by
  refine T.fn.ok sc_BadText_init (fun vs H Q E h => ?_) (fun cdv A outer s H vs Q E hr h => ?_)
  · obtain ⟨_, _, _, rfl, _⟩ := h
    rfl
  obtain ⟨a, C', i, rfl, ox, no, hi, ea, q⟩ := h
  refine ⟨_, pss_cons (ps_expr (pe_clsinit rfl T.gG T.rd T.sg T.vV (pa_cons (pv 0) (pa_cons (pe_joined (.cons pe_str (.cons (pe_fmt (pv 1)) (.cons pe_str .nil)))) pa_nil)))) (pss_one (ps_ost (pv 0) (pv 1))), ?_⟩
  have nf := num_fits hi
  have l1 : (Str.ofString (toString i)).length ≤ 10 := by rw [PySem.ofString_length]; exact nf.1
  have l0 : (Str.empty ++ Str.ofString "the text is wrong behind ").length ≤ 100 := by decide +kernel
  have l2 : (Str.ofString " signs").length ≤ 100 := by decide +kernel
  refine ⟨_, rfl, _, rfl, ?_, _, rfl, .inr ⟨i, rfl, nf.2, _, rfl, ?_, _, rfl, ?_, ?_⟩⟩
  · exact Nat.le_trans l0 (by decide)
  · rw [str_len_app]
    exact Nat.le_trans (show _ ≤ 1000 by omega) (by decide)
  · rw [str_len_app, str_len_app]
    exact Nat.le_trans (show _ ≤ 1000 by omega) (by decide)
  · refine ⟨a, C', _, rfl, by show 1 ≤ 1000; decide, ox, ea, ?_⟩
    exact ⟨_, rfl, _, rfl, a, C', rfl, ox, no, .inl ⟨ea, fun dx hd ne => q dx hd ne⟩⟩
end
end Og

namespace Og
open PySem PySem.Spec PyProof.Rows L2
/-! ### an own error class without a field (under GlassError, at G) -/
structure PlnT (K : PySem.W.Frag) (mg : Str → Option Value) (x : Str) (C G : Addr) : Prop where
  gC : mg x = some (.ref C)
  gG : mg "GlassError" = some (.ref G)
  xP : PySem.W.excIn K C [.type "ValueError", .type "Exception", .type "BaseException", .type "object"] "ValueError.__new__" = true
  kC : PySem.W.keepIn K (.ref C) = true
  bP : PySem.W.subIn K (.ref C) (.type "BaseException") = some true
  tP : PySem.W.typeIn K (.ref C) = some (.type "type")
structure PlnAll (K : PySem.W.Frag) (mg : Str → Option Value) (x : Str) : Prop where
  ex : ∃ C G, PlnT K mg x C G ∧ ErrH K C G
/-- an error of the class is one of it -/
structure ErrSelf (K : PySem.W.Frag) (mg : Str → Option Value) (x : Str) : Prop where
  yes : ∀ a : Addr, mg x = some (.ref a) → PySem.W.kitOne K (.ref a) (.ref a) = some true
/-- isinstance(e, c) of an error held as a value, with a dict of its own or without -/
def rIsW (K : PySem.W.Frag) : List V → Hp → VK → Prop := fun xs H Q => ∃ (a C : Addr) (od : Option Addr) (c : V) (cv : Value) (b : Bool), xs = [.ref a, c] ∧ ClsV c cv ∧ ExcC K C ∧ H a = some (ErV (.ref C) od a) ∧ (∀ dd, od = some dd → ∃ fs, H dd = some (.xd fs)) ∧ PySem.W.kitOne K (.ref C) cv = some b ∧ Q (.bl b) H
theorem call_isW {X : Cx} : CallR X (.builtin "isinstance") (rIsW X.K) := by
  intro pins s1 σ H xs us Q I r h
  obtain ⟨a, C, od, c, cv, b, rfl, hcv, ec, ea, ed, z, q⟩ := h
  cases od with
  | some dd =>
    obtain ⟨fs, ed⟩ := ed dd rfl
    exact call_isV pins s1 σ H _ us Q I r ⟨a, C, dd, c, cv, b, fs, rfl, hcv, ec, ea, ed, z, q⟩
  | none =>
    obtain ⟨u1, u2, rfl, v1, v2⟩ := vals2 r
    have ev := hcv.eq v2
    subst ev
    obtain rfl : u1 = Value.ref a := v1
    have xa : ObjOk X.prog X.w H s1.heap a (.ext fun h => ∃ (oe : Obj) (vs : Array Value), h.get? a = some oe ∧ Zc (.ref C) none oe ∧ oe.data = .fields vs) := I.hok a _ ea
    obtain ⟨oe, vs, there, zc, dt⟩ := xa.1
    have J : PySem.W.InstAt s1.heap a oe C none := ⟨there, zc.1, by unfold PySem.W.notCls; rw [dt], by rw [zc.2]; trivial⟩
    exact PySem.W.kia_one (PySem.W.handS_kitx_exc ec.hg ec.hk ec.hs ec.hd ec.ha ec.hn ec.ht ec.hm) I.kIn J z (fun y => nomatch y) fun tk => ⟨.bl b, H, I.kept (t' := tk) fun _ _ y => y, rfl, q⟩
/-- the heap behind C(i), kept as a value -/
theorem made_end {H : Hp} {a9 dx a0 C : Addr} {f : Str} {i : Int} (na : H a9 = none) (nd : (upd H a9 (exo a9 C none)) dx = none) (ne : dx ≠ a9)
    (na0 : (upd (del (upd (upd (upd H a9 (exo a9 C none)) dx (exd dx [(f, .int i)])) a9 (exo a9 C (some dx))) a9) dx (.xd [(f, .int i)])) a0 = none) :
    ∃ H' : Hp, upd (upd (del (upd (upd (upd H a9 (exo a9 C none)) dx (exd dx [(f, .int i)])) a9 (exo a9 C (some dx))) a9) dx (.xd [(f, .int i)])) a0 (ErV (.ref C) (some dx) a0) = H' ∧ Keep [] H H' ∧ H' a0 = some (ErV (.ref C) (some dx) a0) ∧ H' dx = some (.xd [(f, .int i)]) := by
  have ed0 : (upd (del (upd (upd (upd H a9 (exo a9 C none)) dx (exd dx [(f, .int i)])) a9 (exo a9 C (some dx))) a9) dx (.xd [(f, .int i)])) dx = some (.xd [(f, .int i)]) := upd_same
  exact ⟨_, rfl, (keep_raised (S := []) na nd ne).trans (Keep.new na0), upd_same, by rw [upd_ne (ne_of_none ed0 na0)]; exact ed0⟩
/-! ### lists of lists of truths -/
def bD (bs : List Bool) : PyData := .list (bs.map PyData.bool)
def LB (H : Hp) (v : V) (bs : List Bool) : Prop := ∃ a : Addr, v = .ref a ∧ H a = some (.lst (bs.map V.bl))
theorem dp_bools {K : PySem.W.Frag} {H : Hp} : ∀ L : List Bool, DpAll K H (L.map V.bl) (L.map PyData.bool)
  | [] => .nil
  | x :: L => .cons (.bl _) (dp_bools L)
theorem LB.keep {S : List Addr} {H H1 : Hp} {v : V} {bs : List Bool} (h : LB H v bs) (k : Keep S H H1) (no : ∀ a, v = .ref a → a ∉ S) : LB H1 v bs := by
  obtain ⟨a, rfl, e⟩ := h
  exact ⟨a, rfl, k.get e (no a rfl)⟩
theorem dp_rows {K : PySem.W.Frag} {H : Hp} : ∀ {vs : List V} {rows : List (List Bool)}, Paired (LB H) vs rows → DpAll K H vs (rows.map bD)
  | _, _, .nil => .nil
  | _, _, .cons h r => by
    obtain ⟨a, rfl, e⟩ := h
    exact .cons (.lst (SqL.of e) (dp_bools _)) (dp_rows r)
section
variable {P : Program} {w : World} {K : PySem.W.Frag} {mg : Str → Option Value} {base : Heap}
/-- fill of a program without inputs -/
def spFill0 (K : PySem.W.Frag) (C : Addr) : Sp := fun vs H _ E => ∃ (v u : V) (t : Tree), vs = [v, u] ∧ Fits K H v t ∧ BadNo t none ∧ firstPs t = 0 ∧ (∀ H', Keep [] H H' → E (.ref C) none H')
theorem has_fill0 {CP C G : Addr} {k : Nat} (T : PlnT K mg "BadInputs" C G) (D : DefAt K mg "fill" s_fill p_fill) (B : Bn mg) (M : Mc mg) (c1 : HasX P w K mg base k "inputs_of" p_inputs_of (spInputsX K CP)) :
    HasX P w K mg base (k + 1) "fill" p_fill (spFill0 K C) := by
  obtain ⟨f, fd, F, hm, hb⟩ := D.ex
  obtain ⟨_, _, c_inputs_of⟩ := c1
  obtain ⟨_, M_MOST_INPUTS⟩ := M.MOST_INPUTS
  refine ⟨f, fd, F.okX sc_fill (fun vs H Q E h => ?_) (fun cdv A outer s H vs Q E hr h => ?_), hm, F.kp, hb⟩
  · obtain ⟨_, _, _, rfl, _⟩ := h
    rfl
  obtain ⟨v, u, t, rfl, fits, good, e0, q⟩ := h
  refine ⟨_, pss_cons (ps_set (i := 2) sc_fill.nd rfl (.inl rfl) (calX c_inputs_of hr rfl (passes_call (takes_of rfl rfl rfl rfl) (fun _ _ _ _ h => h)) (pa_cons (pv 0) pa_nil)))
    (pss_cons (ps_if (pt_not (pt_chain op_le op_le pe_int (pv 2) (pe_op op_add (pe_glob (v := .int 8) rfl M_MOST_INPUTS ⟨_, rfl⟩) pe_int)))
      (pss_one (ps_raise rfl (takes_of rfl rfl rfl rfl) (SkE.pmk_own1 PySem.F.excBase_ValueError T.xP T.gC T.kC (raises_own T.bP T.tP) rfl (pe_joined (.cons pe_str (.cons (pe_fmt (pv 2)) (.cons pe_str .nil))))))) pss_nil) pss_never), ?_⟩
  have no : ∀ n, BadNo t (some n) → False := fun n h => by have := BadNo.uniq good h; cases this
  refine ⟨_, rfl, v, t, rfl, fits, fun n hn => (no n hn).elim, fun H1 _ k1 => ?_⟩
  rw [e0]
  refine ⟨_, rfl, _, _, rfl, rfl, _, rfl, ?_⟩
  rw [show decide ((1 : Int) ≤ ((0 : Nat) : Int)) = false by decide]
  rw [if_neg (by decide)]
  refine ⟨_, rfl, iteT ?_⟩
  have l0 : (Str.empty ++ Str.ofString "a program of ").length ≤ 100 := by decide +kernel
  have nf := num_fits (i := 0) (by decide)
  have l1 : (Str.ofString (toString (0 : Int))).length ≤ 10 := by rw [PySem.ofString_length]; exact nf.1
  have l2 : (Str.ofString " inputs cannot be filled").length ≤ 100 := by decide +kernel
  refine ⟨_, rfl, ?_, _, rfl, .inr ⟨0, rfl, nf.2, _, rfl, ?_, _, rfl, ?_, ?_⟩⟩
  · exact Nat.le_trans l0 (by decide)
  · rw [str_len_app]
    exact Nat.le_trans (show _ ≤ 1000 by omega) (by decide)
  · rw [str_len_app, str_len_app]
    exact Nat.le_trans (show _ ≤ 1000 by omega) (by decide)
  · exact q _ k1
end
end Og

namespace Og
open PySem PySem.Spec PyProof.Rows L2
theorem fits_small {K : PySem.W.Frag} {H : Hp} {v : V} (h : Tr K H v (.l [fnt (fM 0)])) : Fits K H v (.l [fnt (fM 0)]) :=
  ⟨h, wt_l (wts_cons (fM_wt 0) wts_nil), by rw [size_l, sizes_cons, sizes_nil]; have := fM_size 0; omega, fun fs e => by cases e; show 1 ≤ 1000; decide⟩
/-- three errors in a list: two with a dict of their own -/
structure Evs (H : Hp) (L a b c CT CP CI d1 d2 : Addr) (i : Int) : Prop where
  l : H L = some (.lst [.ref a, .ref b, .ref c])
  a : H a = some (ErV (.ref CT) (some d1) a)
  b : H b = some (ErV (.ref CP) (some d2) b)
  c : H c = some (ErV (.ref CI) none c)
  d1 : H d1 = some (.xd [("place", .int i)])
  d2 : H d2 = some (.xd [("function", .int i)])
theorem Evs.keep {S : List Addr} {H H1 : Hp} {L a b c CT CP CI d1 d2 : Addr} {i : Int} (h : Evs H L a b c CT CP CI d1 d2 i) (k : Keep S H H1) (no : L ∉ S) : Evs H1 L a b c CT CP CI d1 d2 i := by
  have get : ∀ {p : Addr} {o : HO}, H p = some o → (∀ xs, o ≠ .lst xs) → H1 p = some o := fun {p o} e ne => by
    rcases k p o e with q | ⟨_, xs, ys, q, _⟩
    · exact q
    · exact absurd q (ne xs)
  exact ⟨k.get h.l no, get h.a (fun _ z => nomatch z), get h.b (fun _ z => nomatch z), get h.c (fun _ z => nomatch z), get h.d1 (fun _ z => nomatch z), get h.d2 (fun _ z => nomatch z)⟩
/-- which error stands at which place of the list -/
inductive Which (a b c CT CP CI d1 d2 : Addr) : Nat → Addr → Addr → Option Addr → Prop
  | a : Which a b c CT CP CI d1 d2 0 a CT (some d1)
  | b : Which a b c CT CP CI d1 d2 1 b CP (some d2)
  | c : Which a b c CT CP CI d1 d2 2 c CI none
theorem Evs.item {H : Hp} {L a b c CT CP CI d1 d2 : Addr} {i : Int} (h : Evs H L a b c CT CP CI d1 d2 i) {n : Nat} {x : V} (e : [V.ref a, .ref b, .ref c][n]? = some x) :
    ∃ p C od, x = .ref p ∧ Which a b c CT CP CI d1 d2 n p C od ∧ H p = some (ErV (.ref C) od p) ∧ (∀ dd, od = some dd → ∃ fs, H dd = some (.xd fs)) := by
  match n, e with
  | 0, e => cases e; exact ⟨_, _, _, rfl, .a, h.a, fun dd q => by cases q; exact ⟨_, h.d1⟩⟩
  | 1, e => cases e; exact ⟨_, _, _, rfl, .b, h.b, fun dd q => by cases q; exact ⟨_, h.d2⟩⟩
  | 2, e => cases e; exact ⟨_, _, _, rfl, .c, h.c, fun dd q => by cases q⟩
  | n + 3, e => simp at e
/-- which class an error of the list is of -/
def rowE (n : Nat) : List Bool := [decide (n = 0), decide (n = 1), decide (n = 2)]
def rowsE (n : Nat) : List (List Bool) := (List.range n).map rowE
theorem LBs.keep {S : List Addr} {H H1 : Hp} (k : Keep S H H1) : ∀ {vs : List V} {rows : List (List Bool)}, Paired (LB H) vs rows → (∀ a, V.ref a ∈ vs → a ∉ S) → Paired (LB H1) vs rows
  | _, _, .nil, _ => .nil
  | _, _, .cons h r, no => .cons (h.keep k fun a e => no a (by rw [e]; exact List.mem_cons_self ..)) (LBs.keep k r fun a m => no a (List.mem_cons_of_mem _ m))
theorem LBs.snoc {H : Hp} {v : V} {row : List Bool} : ∀ {vs : List V} {rows : List (List Bool)}, Paired (LB H) vs rows → LB H v row → Paired (LB H) (vs ++ [v]) (rows ++ [row])
  | _, _, .nil, h => .cons h .nil
  | _, _, .cons g r, h => .cons g (LBs.snoc r h)
theorem LBs.length {H : Hp} : ∀ {vs : List V} {rows : List (List Bool)}, Paired (LB H) vs rows → vs.length = rows.length
  | _, _, .nil => rfl
  | _, _, .cons g r => by rw [List.length_cons, List.length_cons, LBs.length r]
section
variable {P : Program} {w : World} {K : PySem.W.Frag} {mg : Str → Option Value} {base : Heap}
theorem has_errs {CT CP CI G fT fP : Addr} {fdT fdP : FuncData} {k : Nat} (T_BadText : ErrT K mg "BadText" "BadText.__init__" "place" s_BadText_init CT G fT fdT) (HT : ErrH K CT G) (T_BadProgram : ErrT K mg "BadProgram" "BadProgram.__init__" "function" s_BadProgram_init CP G fP fdP) (HP : ErrH K CP G)
    (T_BI : PlnT K mg "BadInputs" CI G) (HI : ErrH K CI G)
    (n12 : PySem.W.kitOne K (.ref CT) (.ref CP) = some false) (n13 : PySem.W.kitOne K (.ref CT) (.ref CI) = some false) (n21 : PySem.W.kitOne K (.ref CP) (.ref CT) = some false) (n23 : PySem.W.kitOne K (.ref CP) (.ref CI) = some false) (n31 : PySem.W.kitOne K (.ref CI) (.ref CT) = some false) (n32 : PySem.W.kitOne K (.ref CI) (.ref CP) = some false)
    (n11 : PySem.W.kitOne K (.ref CT) (.ref CT) = some true) (n22 : PySem.W.kitOne K (.ref CP) (.ref CP) = some true) (n33 : PySem.W.kitOne K (.ref CI) (.ref CI) = some true)
    (D : DefAt K mg "_law_errors_right" s_law_errors_right p_law_errors_right) (B : Bn mg) (c1 : HasX P w K mg base (k + 2) "fill" p_fill (spFill0 K CI)) :
    Has P w K mg base (k + 3) "_law_errors_right" p_law_errors_right (spErrs K) := by
  obtain ⟨f, fd, F, hm, hb⟩ := D.ex
  obtain ⟨_, _, c_fill⟩ := c1
  have ok_BadText := ok_BadText' (P := P) (w := w) (base := base) T_BadText
  have ok_BadProgram := ok_BadProgram' (P := P) (w := w) (base := base) T_BadProgram
  have ecT : ExcC K CT := ⟨HT.ga, HT.gg, T_BadText.ox.exC, HT.hd, HT.ck, HT.cg, HT.ct, HT.cm⟩
  have ecP : ExcC K CP := ⟨HP.ga, HP.gg, T_BadProgram.ox.exC, HP.hd, HP.ck, HP.cg, HP.ct, HP.cm⟩
  have ecI : ExcC K CI := ⟨HI.ga, HI.gg, T_BI.bP, HI.hd, HI.ck, HI.cg, HI.ct, HI.cm⟩
  have xfT : XfC K CT := xfB_ok (by unfold xfB; rw [decide_eq_true HT.ga, decide_eq_true HT.gg, decide_eq_true T_BadText.ox.exC, HT.hd]; rfl)
  have xfP : XfC K CP := xfB_ok (by unfold xfB; rw [decide_eq_true HP.ga, decide_eq_true HP.gg, decide_eq_true T_BadProgram.ox.exC, HP.hd]; rfl)
  have exm : PySem.W.exmOne K (.ref CI) (.ref CI) = some true := PySem.W.exm_ref T_BI.bP HI.hd T_BI.tP HI.se
  refine ⟨f, fd, F.ok sc_law_errors_right (fun vs H Q E h => ?_) (fun cdv A outer s H vs Q E hr h => ?_), hm, F.kp, hb⟩
  · obtain ⟨_, rfl, _⟩ := h
    rfl
  obtain ⟨i, rfl, i0, i1, q⟩ := h
  have hr2 := hr.mono (show 2 ≤ k + 2 by omega)
  refine ⟨_, pss_cons (ps_set (i := 1) sc_law_errors_right.nd rfl (.inl rfl) (pe_lst (pa_cons (pe_made (pmk_oex T_BadText.ox T_BadText.iC T_BadText.tI ok_BadText hr2 T_BadText.bi .nil pass0 rfl T_BadText.gC (pa_cons (pv 0) pa_nil)))
      (pa_cons (pe_made (pmk_oex T_BadProgram.ox T_BadProgram.iC T_BadProgram.tI ok_BadProgram hr2 T_BadProgram.bi .nil pass0 rfl T_BadProgram.gC (pa_cons (pv 0) pa_nil))) pa_nil))))
    (pss_cons (ps_try_keep (i := 2) (tb := fun W => tDrop (tCallS (spFill0 K CI) (WE W) (tCons (tL K (.l [fnt (fM 0)])) (tCons (tC (.str "a")) tNil)))) (ts := fun a cls d => tDrop (tBM K "list" rAppend (tVar 1) (tCons (tVar 2) tNil))) (Wout := fun _ _ _ _ => False) rfl rfl rfl sc_law_errors_right.nd rfl rfl ⟨rfl, by decide, Or.inl T_BI.gC⟩ takes0
      (fun W pn xe tk _ => pss_one (ps_expr (by exact (pe_callS c_fill.ok hr rfl c_fill.mg c_fill.kp c_fill.bi (fun σ => passAt tk σ) (pa_cons (pe_lt (pl_cons (pe_lt (pl_cons (pe_lw (x := [109]) (by decide +kernel)) (pl_cons (pe_lt pl_nil (by show 0 ≤ sizeLine; decide)) (pl_cons (pe_lt (pl_cons (pe_lw (x := [113, 117, 111, 116, 101]) (by decide +kernel)) (pl_cons (pe_lt pl_nil (by show 0 ≤ sizeLine; decide)) pl_nil)) (by show 2 ≤ sizeLine; decide)) pl_nil))) (by show 3 ≤ sizeLine; decide)) pl_nil) (by show 1 ≤ sizeLine; decide)) (pa_cons pe_str pa_nil))))))
      (fun a oe cls d pn hz hf => pss_one (ps_expr (pe_bm PySem.F.plainAttrs_list PySem.F.slot_list_append PySem.F.type_list_append mt_append (pv 1) (pa_cons (pv 2) pa_nil)))))
    (pss_cons (ps_if (pt_cmpR op_ne (pe_callB call_len_seq (by rfl) B.len PySem.boot_len (pa_cons (pv 1) pa_nil)) pe_int (nomark _)) (pss_one (ps_ret pe_bl)) pss_nil)
    (pss_cons (ps_setLc (i := 3) (own := [("one", 4)]) (g := gName 4) (tt := tYes) rfl sc_law_errors_right.nd rfl rfl (sw_true rfl rfl rfl (by decide +kernel)) (pi_list (pv 1)) (blkOk_by (N := n_law_errors_right) (sc := defScope s_law_errors_right) (by decide +kernel)) (fun _ _ _ _ _ => pg_name (i := 4) sc_law_errors_right.nd rfl (Or.inl rfl)) (fun _ _ _ _ _ => pts_nil)
        (fun _ _ _ _ _ => pe_lst (pa_cons (pe_callB (show CallR _ _ (rIsW K) from call_isW) (by rfl) B.isinstance (by decide +kernel) (pa_cons (pv 4) (pa_cons (pe_glob (v := .ref CT) rfl T_BadText.gC rfl) pa_nil))) (pa_cons (pe_callB (show CallR _ _ (rIsW K) from call_isW) (by rfl) B.isinstance (by decide +kernel) (pa_cons (pv 4) (pa_cons (pe_glob (v := .ref CP) rfl T_BadProgram.gC rfl) pa_nil))) (pa_cons (pe_callB (show CallR _ _ (rIsW K) from call_isW) (by rfl) B.isinstance (by decide +kernel) (pa_cons (pv 4) (pa_cons (pe_glob (v := .ref CI) rfl T_BI.gC rfl) pa_nil))) pa_nil)))))
    (pss_cons (ps_if (pt_cmpR (op_neD hr.units) (pv 3) (pe_lst (pa_cons (pe_lst (pa_cons pe_bl (pa_cons pe_bl (pa_cons pe_bl pa_nil)))) (pa_cons (pe_lst (pa_cons pe_bl (pa_cons pe_bl (pa_cons pe_bl pa_nil)))) (pa_cons (pe_lst (pa_cons pe_bl (pa_cons pe_bl (pa_cons pe_bl pa_nil)))) pa_nil)))) (nomark _)) (pss_one (ps_ret pe_bl)) pss_nil)
    (pss_cons (ps_for PassesOwn.never rfl (pi_list (pv 1)) (pg_name (i := 4) sc_law_errors_right.nd rfl (.inl rfl))
      (pss_one (ps_if (PW.pt (pw_or (pt_not (pt_val (pe_callB call_isW (by rfl) B.isinstance (by decide +kernel) (pa_cons (pv 4) (pa_cons (pe_glob (v := .ref G) rfl T_BadText.gG rfl) pa_nil))))) (pw_or1 (pt_not (pt_val (pe_callB call_isW (by rfl) B.isinstance (by decide +kernel) (pa_cons (pv 4) (pa_cons (pe_bltn (v := .ty "ValueError") rfl B.ValueError (by decide +kernel) rfl) pa_nil)))))))) (pss_one (ps_ret pe_bl)) pss_nil)))
    (pss_one (ps_ret (pe_and (pe_cmpR op_eq (pe_xv (pe_ix ix_list (pv 1) pe_int (fun _ _ => rfl))) (pv 0) (nomark _)) (pe_one (pe_cmpR op_eq (pe_xv (pe_ix ix_list (pv 1) pe_int (fun _ _ => rfl))) (pv 0) (nomark _))))))))))), ?_⟩
  -- errors
  refine ⟨_, rfl, by show (1 : Nat) ≤ 1000; decide, fun a9 na => ?_⟩
  refine ⟨a9, CT, i, rfl, T_BadText.ox, T_BadText.no, by omega, upd_same, fun dx hdx ne => ⟨rfl, dx, _, upd_same, by rw [upd_ne ne, upd_same], by rw [upd_ne ne] at hdx; exact hdx, fun a na0 => ?_⟩⟩
  obtain ⟨H1, e1, k1, ea1, ed1⟩ := made_end (C := CT) (f := "place") (i := i) na hdx ne na0
  rw [e1]
  refine ⟨_, rfl, by show (1 : Nat) ≤ 1000; decide, fun b9 nb => ?_⟩
  refine ⟨b9, CP, i, rfl, T_BadProgram.ox, T_BadProgram.no, by omega, upd_same, fun dy hdy ney => ⟨rfl, dy, _, upd_same, by rw [upd_ne ney, upd_same], by rw [upd_ne ney] at hdy; exact hdy, fun b nb0 => ?_⟩⟩
  obtain ⟨H2, e2, k2, eb2, ed2⟩ := made_end (C := CP) (f := "function") (i := i) nb hdy ney nb0
  rw [e2]
  refine ⟨by show (2 : Nat) ≤ sizeLine; decide, fun L nL => ?_⟩
  have kL : Keep [] H2 (upd H2 L (.lst [.ref a, .ref b])) := Keep.new nL
  have eL : (upd H2 L (.lst [.ref a, .ref b])) L = some (.lst [.ref a, .ref b]) := upd_same
  have ea3 := kL.same _ _ (k2.same _ _ ea1)
  have ed3 := kL.same _ _ (k2.same _ _ ed1)
  have eb3 := kL.same _ _ eb2
  have edy3 := kL.same _ _ ed2
  generalize upd H2 L (.lst [.ref a, .ref b]) = H3 at *
  -- fill
  refine fun v H4 tv k4 => ?_
  refine ⟨v, _, .l [fnt (fM 0)], rfl, fits_small tv, (small_good 0).bad (by simp), rfl, fun H5 k5 => ⟨true, exm, fun _ c nc => ?_, fun q => nomatch q⟩⟩
  have k35 := (k4.trans k5).same
  have eL5 := k35 _ _ eL
  refine ⟨_, rfl, .inl ⟨rfl, _, SqL.of eL5⟩, _, rfl, L, _, _, rfl, rfl, eL5, by show (2 : Nat) < sizeLine; decide, fun nc6 => ?_⟩
  have ev : Evs (upd (upd H5 L (.lst [.ref a, .ref b, .ref c])) c (ErV (.ref CI) none c)) L a b c CT CP CI dx dy i := by
    have keep : ∀ {p : Addr} {o : HO}, H5 p = some o → p ≠ L → (upd (upd H5 L (.lst [.ref a, .ref b, .ref c])) c (ErV (.ref CI) none c)) p = some o := fun {p o} e ne => by
      rw [upd_ne (ne_of_none e nc), upd_ne ne]
      exact e
    have nn : ∀ {p : Addr} {o : HO}, H5 p = some o → (∀ xs, o ≠ .lst xs) → p ≠ L := fun {p o} e ne z => by
      rw [z, eL5] at e
      exact ne _ (Option.some.inj e).symm
    have g := fun {p : Addr} {o : HO} (e : H5 p = some o) (ne : ∀ xs, o ≠ .lst xs) => keep e (nn e ne)
    refine ⟨?_, g (k35 _ _ ea3) (fun _ z => nomatch z), g (k35 _ _ eb3) (fun _ z => nomatch z), upd_same, g (k35 _ _ ed3) (fun _ z => nomatch z), g (k35 _ _ edy3) (fun _ z => nomatch z)⟩
    rw [upd_ne (ne_of_none eL5 nc), upd_same]
  change Evs (upd (upd H5 L (.lst ([.ref a, .ref b] ++ [.ref c]))) c (ErV (.ref CI) none c)) L a b c CT CP CI dx dy i at ev
  generalize upd (upd H5 L (.lst ([.ref a, .ref b] ++ [.ref c]))) c (ErV (.ref CI) none c) = H6 at ev
  -- how many
  refine ⟨_, rfl, L, _, rfl, .inl (SqL.of ev.l), rfl, _, rfl, iteF ?_⟩
  -- kinds
  have kinds : ∀ {n : Nat} {p C : Addr} {od : Option Addr}, Which a b c CT CP CI dx dy n p C od → ExcC K C ∧ PySem.W.kitOne K (.ref C) (.ref CT) = some (decide (n = 0)) ∧ PySem.W.kitOne K (.ref C) (.ref CP) = some (decide (n = 1)) ∧ PySem.W.kitOne K (.ref C) (.ref CI) = some (decide (n = 2)) ∧ PySem.W.kitOne K (.ref C) (.ref G) = some true ∧ PySem.W.kitOne K (.ref C) (.type "ValueError") = some true := by
    intro n p C od hw
    cases hw with
    | a => exact ⟨ecT, n11, n12, n13, HT.kG, HT.kV⟩
    | b => exact ⟨ecP, n21, n22, n23, HP.kG, HP.kV⟩
    | c => exact ⟨ecI, n31, n32, n33, HI.kG, HI.kV⟩
  refine ⟨_, rfl, L, rfl, ⟨_, SqL.of ev.l⟩, fun D nD => ?_⟩
  refine lc_list (K := K) (a := L) (xs := [.ref a, .ref b, .ref c]) (fun n H' => Keep [] H6 H' ∧ ∃ vs, H' D = some (.lst vs) ∧ Paired (LB H') vs (rowsE n) ∧ ∀ p, V.ref p ∈ vs → p ≠ D) ⟨Keep.new nD, [], upd_same, .nil, fun _ m => nomatch m⟩ (fun n H' _ p => SqL.of (p.1.same _ _ ev.l)) (fun n x H7 hx p => ?_) (fun H7 p => ?_)
  · obtain ⟨k7, vs, eD, pr, nd⟩ := p
    have ev7 := ev.keep k7 (by simp)
    obtain ⟨e, C, od, rfl, hw, ee, he⟩ := ev7.item hx
    obtain ⟨ec, g1, g2, g3, _, _⟩ := kinds hw
    refine ⟨rfl, yes ?_⟩
    refine ⟨_, rfl, e, C, od, _, _, _, rfl, .own CT, ec, ee, he, g1, ?_⟩
    refine ⟨_, rfl, e, C, od, _, _, _, rfl, .own CP, ec, ee, he, g2, ?_⟩
    refine ⟨_, rfl, e, C, od, _, _, _, rfl, .own CI, ec, ee, he, g3, ?_⟩
    refine ⟨by show (3 : Nat) ≤ sizeLine; decide, fun r nr => ?_⟩
    have kr : Keep [] H7 (upd H7 r (.lst [.bl (decide (n = 0)), .bl (decide (n = 1)), .bl (decide (n = 2))])) := Keep.new nr
    have er : (upd H7 r (.lst [.bl (decide (n = 0)), .bl (decide (n = 1)), .bl (decide (n = 2))])) r = some (.lst [.bl (decide (n = 0)), .bl (decide (n = 1)), .bl (decide (n = 2))]) := upd_same
    have rD : r ≠ D := fun z => by rw [z, eD] at nr; cases nr
    generalize upd H7 r (.lst [.bl (decide (n = 0)), .bl (decide (n = 1)), .bl (decide (n = 2))]) = H8 at kr er
    have eD8 := kr.same _ _ eD
    have n3 : n < 3 := (List.getElem?_eq_some_iff.mp hx).1
    have lv := LBs.length pr
    have l3 : (rowsE n).length = n := by unfold rowsE; rw [List.length_map, List.length_range]
    have kD : Keep [D] H8 (upd H8 D (.lst (vs ++ [.ref r]))) := Keep.set eD8 (List.mem_cons_self ..)
    refine ⟨vs, eD8, Nat.lt_of_le_of_lt (show _ ≤ 100 by omega) (by decide), ((k7.trans kr).cons.trans kD).drop nD, _, upd_same, ?_, fun p m => ?_⟩
    · rw [show rowsE (n + 1) = rowsE n ++ [rowE n] by unfold rowsE; rw [List.range_succ, List.map_append]; rfl]
      refine LBs.snoc (LBs.keep kD (LBs.keep kr pr fun _ _ => by simp) fun p m => ?_) ⟨r, rfl, by rw [upd_ne rD]; exact er⟩
      simpa using nd p m
    · rcases List.mem_append.mp m with m | m
      · exact nd p m
      · have := V.ref.inj (List.mem_singleton.mp m)
        rw [this]; exact rD
  obtain ⟨k7, vs, eD, pr, nd⟩ := p
  have ev7 := ev.keep k7 (by simp)
  -- compared
  refine ⟨_, rfl, by show (3 : Nat) ≤ sizeLine; decide, fun r1 f1 => ?_⟩
  refine ⟨by show (3 : Nat) ≤ sizeLine; decide, fun r2 f2 => ?_⟩
  refine ⟨by show (3 : Nat) ≤ sizeLine; decide, fun r3 f3 => ?_⟩
  refine ⟨by show (3 : Nat) ≤ sizeLine; decide, fun R f4 => ?_⟩
  have q1 : Keep [] H7 (upd H7 r1 (.lst [.bl true, .bl false, .bl false])) := Keep.new f1
  have a1 : (upd H7 r1 (.lst [.bl true, .bl false, .bl false])) r1 = some (.lst ([true, false, false].map V.bl)) := upd_same
  generalize upd H7 r1 (.lst [.bl true, .bl false, .bl false]) = G1 at *
  have q2 : Keep [] G1 (upd G1 r2 (.lst [.bl false, .bl true, .bl false])) := Keep.new f2
  have a2 : (upd G1 r2 (.lst [.bl false, .bl true, .bl false])) r2 = some (.lst ([false, true, false].map V.bl)) := upd_same
  generalize upd G1 r2 (.lst [.bl false, .bl true, .bl false]) = G2 at *
  have q3 : Keep [] G2 (upd G2 r3 (.lst [.bl false, .bl false, .bl true])) := Keep.new f3
  have a3 : (upd G2 r3 (.lst [.bl false, .bl false, .bl true])) r3 = some (.lst ([false, false, true].map V.bl)) := upd_same
  generalize upd G2 r3 (.lst [.bl false, .bl false, .bl true]) = G3 at *
  have q4 : Keep [] G3 (upd G3 R (.lst [.ref r1, .ref r2, .ref r3])) := Keep.new f4
  have a4 : (upd G3 R (.lst [.ref r1, .ref r2, .ref r3])) R = some (.lst [.ref r1, .ref r2, .ref r3]) := upd_same
  generalize upd G3 R (.lst [.ref r1, .ref r2, .ref r3]) = G4 at *
  have k74 : Keep [] H7 G4 := ((q1.trans q2).trans q3).trans q4
  have prR : Paired (LB G4) [V.ref r1, .ref r2, .ref r3] (rowsE 3) := .cons ⟨r1, rfl, q4.same _ _ (q3.same _ _ (q2.same _ _ a1))⟩ (.cons ⟨r2, rfl, q4.same _ _ (q3.same _ _ a2)⟩ (.cons ⟨r3, rfl, q4.same _ _ a3⟩ .nil))
  have pr4 : Paired (LB G4) vs (rowsE 3) := LBs.keep k74 pr fun _ _ => by simp
  have ev8 := ev7.keep k74 (by simp)
  refine ⟨_, _, .lst (SqL.of (k74.same _ _ eD)) (dp_rows pr4), .lst (SqL.of a4) (dp_rows prR), by decide +kernel, by decide +kernel, ?_⟩
  rw [show PyData.eqv (.list ((rowsE 3).map bD)) (.list ((rowsE 3).map bD)) = true by decide +kernel]
  refine ⟨_, rfl, iteF ?_⟩
  -- all of them are
  refine ⟨_, rfl, L, rfl, ⟨_, SqL.of ev8.l⟩, ?_⟩
  refine for_list (K := K) (a := L) (xs := [.ref a, .ref b, .ref c]) (fun n σ H' => H' = G4 ∧ ∃ y4 : Option V, σ = [some (.int i), some (.ref L), none, some (.ref D), y4]) ⟨rfl, none, rfl⟩ (fun n σ H' _ p => by rw [p.1]; exact SqL.of ev8.l) (fun n x σ H' hx p => ?_) (fun σ H' p => ?_)
  · obtain ⟨rfl, y4, rfl⟩ := p
    obtain ⟨e, C, od, rfl, hw, ee, he⟩ := ev8.item hx
    obtain ⟨ec, _, _, _, g4, g5⟩ := kinds hw
    exact ⟨_, rfl, e, C, od, _, _, true, rfl, .own G, ec, ee, he, g4, _, rfl, iteF ⟨_, rfl, e, C, od, _, _, true, rfl, .ty _, ec, ee, he, g5, _, rfl, iteF ⟨rfl, _, rfl⟩⟩⟩
  obtain ⟨rfl, y4, rfl⟩ := p
  refine ⟨_, rfl, L, _, _, _, rfl, rfl, SqL.of ev8.l, atI_nat (j := 0) rfl, a, CT, dx, _, _, rfl, xfT, T_BadText.no, ev8.a, ev8.d1, rfl, _, rfl, rfl, _, rfl, ?_⟩
  rw [dT rfl, if_pos rfl]
  refine ⟨_, rfl, L, _, _, _, rfl, rfl, SqL.of ev8.l, atI_nat (j := 1) rfl, b, CP, dy, _, _, rfl, xfP, T_BadProgram.no, ev8.b, ev8.d2, rfl, _, rfl, rfl, ?_⟩
  rw [dT rfl]
  exact q _
end
end Og

namespace Og
open PySem PySem.Spec PyProof.Rows L2
/-- all of it but what stands upon `fill` -/
theorem ok_law {P : Program} {w : World} {K : PySem.W.Frag} {mg : Str → Option Value} {base : Heap} {e : Addr} {ed : FuncData} (F : Fun K "law" "law" s_law e ed) (B : Bn mg) (M : Mc mg)
    (S_SPECIAL_WORDS : DictC K w mg "SPECIAL_WORDS" [([113, 117, 111, 116, 101], 1), ([105, 102], 3), ([115, 97, 109, 101], 2), ([119, 111, 114, 100], 1), ([104, 101, 97, 100], 1), ([116, 97, 105, 108], 1), ([106, 111, 105, 110], 2)])
    (E_BadText : ErrAll K mg "BadText" "BadText.__init__" "place" s_BadText_init)
    (E_BadProgram : ErrAll K mg "BadProgram" "BadProgram.__init__" "function" s_BadProgram_init)
    (W_BadText_BadProgram : ErrNot K mg "BadText" "BadProgram")
    (W_BadProgram_BadText : ErrNot K mg "BadProgram" "BadText")
    (C_BadInputs : ∃ a : Addr, mg "BadInputs" = some (.ref a))
    (W_BadText_BadInputs : ErrNot K mg "BadText" "BadInputs")
    (W_BadProgram_BadInputs : ErrNot K mg "BadProgram" "BadInputs")
    (E_BadInputs : PlnAll K mg "BadInputs") (Y_BadInputs : ErrSelf K mg "BadInputs")
    (W_BadInputs_BadText : ErrNot K mg "BadInputs" "BadText")
    (W_BadInputs_BadProgram : ErrNot K mg "BadInputs" "BadProgram")
    (Y_BadText : ErrSelf K mg "BadText")
    (Y_BadProgram : ErrSelf K mg "BadProgram")
    (D_check_program : DefAt K mg "check_program" s_check_program p_check_program)
    (D_inputs_of : DefAt K mg "inputs_of" s_inputs_of p_inputs_of)
    (D_names_of : DefAt K mg "names_of" s_names_of p_names_of)
    (D_called_functions : DefAt K mg "_called_functions" s_called_functions p_called_functions)
    (D_looks_like_function : DefAt K mg "_looks_like_function" s_looks_like_function p_looks_like_function)
    (D_is_good_function : DefAt K mg "_is_good_function" s_is_good_function p_is_good_function)
    (D_is_good_name : DefAt K mg "_is_good_name" s_is_good_name p_is_good_name)
    (D_are_good_parameters : DefAt K mg "_are_good_parameters" s_are_good_parameters p_are_good_parameters)
    (D_is_good_body : DefAt K mg "_is_good_body" s_is_good_body p_is_good_body)
    (D_has_right_parts : DefAt K mg "_has_right_parts" s_has_right_parts p_has_right_parts)
    (D_fill : DefAt K mg "fill" s_fill p_fill)
    (D_made_name : DefAt K mg "made_name" s_made_name p_made_name)
    (D_made_parameters : DefAt K mg "made_parameters" s_made_parameters p_made_parameters)
    (D_filled : DefAt K mg "filled" s_filled p_filled)
    (D_with_front : DefAt K mg "with_front" s_with_front p_with_front)
    (D_law_draws : DefAt K mg "_law_draws" s_law_draws p_law_draws)
    (D_law_take : DefAt K mg "_law_take" s_law_take p_law_take)
    (D_law_value : DefAt K mg "_law_value" s_law_value p_law_value)
    (D_law_expression : DefAt K mg "_law_expression" s_law_expression p_law_expression)
    (D_law_library : DefAt K mg "_law_library" s_law_library p_law_library)
    (D_law_program : DefAt K mg "_law_program" s_law_program p_law_program)
    (D_law_many : DefAt K mg "_law_many" s_law_many p_law_many)
    (D_law_special : DefAt K mg "_law_special" s_law_special p_law_special)
    (D_law_expression_good : DefAt K mg "_law_expression_good" s_law_expression_good p_law_expression_good)
    (D_law_name_good : DefAt K mg "_law_name_good" s_law_name_good p_law_name_good)
    (D_law_function_good : DefAt K mg "_law_function_good" s_law_function_good p_law_function_good)
    (D_law_bad_function : DefAt K mg "_law_bad_function" s_law_bad_function p_law_bad_function)
    (D_law_told : DefAt K mg "_law_told" s_law_told p_law_told)
    (D_law_is_right : DefAt K mg "_law_is_right" s_law_is_right p_law_is_right)
    (D_law_errors_right : DefAt K mg "_law_errors_right" s_law_errors_right p_law_errors_right) :
    FnOk P w K mg base CX0 30 e ed ["script"] (spLaw K) := by
  obtain ⟨C, G, fI, fdI, T_BadProgram, Hh⟩ := E_BadProgram.ex
  obtain ⟨CT, GT, fT, fdT, T_BadText, HT⟩ := E_BadText.ex
  obtain ⟨CI, GI, T_BadInputs, HI⟩ := E_BadInputs.ex
  have eT : GT = G := by have := T_BadText.gG.symm.trans T_BadProgram.gG; cases this; rfl
  have eI : GI = G := by have := T_BadInputs.gG.symm.trans T_BadProgram.gG; cases this; rfl
  subst eT eI
  obtain ⟨d, es, n, m, kd, en⟩ := S_SPECIAL_WORDS.ex
  have DD : DictD K w specials d := ⟨⟨es, n, kd, en⟩⟩
  have h_draws := has_draws (P := P) (w := w) (base := base) (k := 0) D_law_draws B
  have h_take := has_take (P := P) (w := w) (base := base) (k := 0) D_law_take B
  have h_val := has_val (P := P) (w := w) (base := base) (k := 1) D_law_value B h_take 2
  obtain ⟨fe, fde, h_expr⟩ := has_expr (P := P) (w := w) (base := base) (k := 4) D_law_expression B (h_take.mono (by decide)) h_val
  have h_expr := has_upto h_expr 3
  have h_lib := has_lib (P := P) (w := w) (base := base) (k := 0) D_law_library B
  have h_prog := has_prog (P := P) (w := w) (base := base) (k := 8) D_law_program B (h_take.mono (by decide)) (h_lib.mono (by decide)) h_expr
  have h_special := has_special (P := P) (w := w) (base := base) (k := 0) D_law_special B
  have h_many := has_many (P := P) (w := w) (base := base) (k := 0) D_law_many B
  have h_egood := has_egood (P := P) (w := w) (base := base) (k := 1) D_law_expression_good B h_special h_many
  have h_ngood := has_ngood (P := P) (w := w) (base := base) (k := 1) D_law_name_good B h_special
  have h_fngood := has_fngood (P := P) (w := w) (base := base) (k := 2) D_law_function_good B (h_special.mono (by decide)) h_ngood h_egood
  have h_badf := has_badf (P := P) (w := w) (base := base) (k := 3) D_law_bad_function B h_fngood
  have h_looks := has_looks (P := P) (w := w) (base := base) (k := 0) D_looks_like_function B
  have h_gname := has_gname (P := P) (w := w) (base := base) (k := 0) m DD D_is_good_name B
  have h_gps := has_gps (P := P) (w := w) (base := base) (k := 0) m DD D_are_good_parameters B M
  have h_rp := has_rp (P := P) (w := w) (base := base) (k := 0) m DD D_has_right_parts B
  have h_gbody := has_gbody (P := P) (w := w) (base := base) (k := 1) D_is_good_body B h_rp
  have h_gfn := has_gfn (P := P) (w := w) (base := base) (k := 2) D_is_good_function B (h_looks.mono (by decide)) (h_gname.mono (by decide)) (h_gps.mono (by decide)) h_gbody
  have h_called := has_called (P := P) (w := w) (base := base) (k := 1) D_called_functions B h_looks
  have h_check := has_checkX (P := P) (w := w) (base := base) (k := 0) T_BadProgram D_check_program B (h_called.mono (by decide)) h_gfn
  have h_inputs := has_inputsX (P := P) (w := w) (base := base) (k := 4) D_inputs_of B h_check
  have h_names := has_namesX (P := P) (w := w) (base := base) (k := 4) D_names_of B h_check
  have h_told := has_told (P := P) (w := w) (base := base) (k := 5) T_BadProgram Hh D_law_told B h_inputs h_names
  have h_right := has_right5 (P := P) (w := w) (base := base) (k := 5) D_law_is_right B h_inputs h_names
  have h_fill := has_fill0 (P := P) (w := w) (base := base) (k := 5) T_BadInputs D_fill B M h_inputs
  have h_errs := has_errs (P := P) (w := w) (base := base) (k := 4) T_BadText HT T_BadProgram Hh T_BadInputs HI (W_BadText_BadProgram.no _ _ T_BadText.gC T_BadProgram.gC) (W_BadText_BadInputs.no _ _ T_BadText.gC T_BadInputs.gC) (W_BadProgram_BadText.no _ _ T_BadProgram.gC T_BadText.gC) (W_BadProgram_BadInputs.no _ _ T_BadProgram.gC T_BadInputs.gC)
    (W_BadInputs_BadText.no _ _ T_BadInputs.gC T_BadText.gC) (W_BadInputs_BadProgram.no _ _ T_BadInputs.gC T_BadProgram.gC) (Y_BadText.yes _ T_BadText.gC) (Y_BadProgram.yes _ T_BadProgram.gC) (Y_BadInputs.yes _ T_BadInputs.gC) D_law_errors_right B h_fill
  exact ok_law5 F B M (h_draws.mono (by decide)) (h_take.mono (by decide)) (h_prog.mono (by decide)) (h_right.mono (by decide)) (h_badf.mono (by decide)) (h_told.mono (by decide)) (h_errs.mono (by decide))
theorem all_mk {l : PySem.W.OpenLaw} {w : World} {K : PySem.W.Frag} {h : Heap} {mg : Str → Option Value} {fa f0 f1 f2 f3 f4 f5 f6 f7 f8 f9 f10 f11 f12 f13 f14 f15 f16 f17 f18 f19 f20 f21 f22 f23 f24 f25 f26 f27 f28 f29 f30 : Addr} (X : K.In h) (G : h.Ns mainGlobals mg) (hfa : mg "law" = some (.ref fa))
    {Dd0 : Addr} {Des0 : Array DictEntry} {Dn0 : Nat}
    {PC0 : Addr}
    {CG : Addr} {C0 I0 N0 C1 I1 N1 : Addr} {nm0 q0 nm1 q1 : Str} {bs0 bm0 sub0 bs1 bm1 sub1 : List Value} {sn0 sn1 : List Str} {ab0 ab1 : Bool} {col0 col1 : Option Bool} {dd0 eod0 ean0 dd1 eod1 ean1 : Option Addr} {u0 v0 w0 x0 y0 u1 v1 w1 x1 y1 : Option Value} {esl0 esl1 : Array (Option Value)} {eoc0 ekV0 edc0 epm0 ecd0 ect0 eoc1 ekV1 edc1 epm1 ecd1 ect1 : Value}
    {od0 an0 od1 an1 od2 an2 od3 an3 od4 an4 od5 an5 od6 an6 od7 an7 od8 an8 od9 an9 od10 an10 od11 an11 od12 an12 od13 an13 od14 an14 od15 an15 od16 an16 od17 an17 od18 an18 od19 an19 od20 an20 od21 an21 od22 an22 od23 an23 od24 an24 od25 an25 od26 an26 od27 an27 od28 an28 od29 an29 od30 an30 : Option Addr} {sl0 sl1 sl2 sl3 sl4 sl5 sl6 sl7 sl8 sl9 sl10 sl11 sl12 sl13 sl14 sl15 sl16 sl17 sl18 sl19 sl20 sl21 sl22 sl23 sl24 sl25 sl26 sl27 sl28 sl29 sl30 : Array (Option Value)} {oc0 kV0 dc0 pm0 cd0 ct0 oc1 kV1 dc1 pm1 cd1 ct1 oc2 kV2 dc2 pm2 cd2 ct2 oc3 kV3 dc3 pm3 cd3 ct3 oc4 kV4 dc4 pm4 cd4 ct4 oc5 kV5 dc5 pm5 cd5 ct5 oc6 kV6 dc6 pm6 cd6 ct6 oc7 kV7 dc7 pm7 cd7 ct7 oc8 kV8 dc8 pm8 cd8 ct8 oc9 kV9 dc9 pm9 cd9 ct9 oc10 kV10 dc10 pm10 cd10 ct10 oc11 kV11 dc11 pm11 cd11 ct11 oc12 kV12 dc12 pm12 cd12 ct12 oc13 kV13 dc13 pm13 cd13 ct13 oc14 kV14 dc14 pm14 cd14 ct14 oc15 kV15 dc15 pm15 cd15 ct15 oc16 kV16 dc16 pm16 cd16 ct16 oc17 kV17 dc17 pm17 cd17 ct17 oc18 kV18 dc18 pm18 cd18 ct18 oc19 kV19 dc19 pm19 cd19 ct19 oc20 kV20 dc20 pm20 cd20 ct20 oc21 kV21 dc21 pm21 cd21 ct21 oc22 kV22 dc22 pm22 cd22 ct22 oc23 kV23 dc23 pm23 cd23 ct23 oc24 kV24 dc24 pm24 cd24 ct24 oc25 kV25 dc25 pm25 cd25 ct25 oc26 kV26 dc26 pm26 cd26 ct26 oc27 kV27 dc27 pm27 cd27 ct27 oc28 kV28 dc28 pm28 cd28 ct28 oc29 kV29 dc29 pm29 cd29 ct29 oc30 kV30 dc30 pm30 cd30 ct30 : Value} {t0 t1 : Tok}
    (a0 : PySem.W.nsIn K mainGlobals "check_program" = some (some (.ref f0))) (l0 : K.lookup f0 = some ⟨oc0, od0, .func (PySem.W.fnOf "check_program" "check_program" (defArgs s_check_program) (defBody s_check_program) (defScope s_check_program) .none kV0 dc0 pm0 an0 cd0 ct0), sl0⟩) (c0 : PySem.W.codeIn K cd0 "check_program" = true) (k0 : PySem.W.keepIn K (.ref f0) = true)
    (a1 : PySem.W.nsIn K mainGlobals "inputs_of" = some (some (.ref f1))) (l1 : K.lookup f1 = some ⟨oc1, od1, .func (PySem.W.fnOf "inputs_of" "inputs_of" (defArgs s_inputs_of) (defBody s_inputs_of) (defScope s_inputs_of) .none kV1 dc1 pm1 an1 cd1 ct1), sl1⟩) (c1 : PySem.W.codeIn K cd1 "inputs_of" = true) (k1 : PySem.W.keepIn K (.ref f1) = true)
    (a2 : PySem.W.nsIn K mainGlobals "names_of" = some (some (.ref f2))) (l2 : K.lookup f2 = some ⟨oc2, od2, .func (PySem.W.fnOf "names_of" "names_of" (defArgs s_names_of) (defBody s_names_of) (defScope s_names_of) .none kV2 dc2 pm2 an2 cd2 ct2), sl2⟩) (c2 : PySem.W.codeIn K cd2 "names_of" = true) (k2 : PySem.W.keepIn K (.ref f2) = true)
    (a3 : PySem.W.nsIn K mainGlobals "_called_functions" = some (some (.ref f3))) (l3 : K.lookup f3 = some ⟨oc3, od3, .func (PySem.W.fnOf "_called_functions" "_called_functions" (defArgs s_called_functions) (defBody s_called_functions) (defScope s_called_functions) .none kV3 dc3 pm3 an3 cd3 ct3), sl3⟩) (c3 : PySem.W.codeIn K cd3 "_called_functions" = true) (k3 : PySem.W.keepIn K (.ref f3) = true)
    (a4 : PySem.W.nsIn K mainGlobals "_looks_like_function" = some (some (.ref f4))) (l4 : K.lookup f4 = some ⟨oc4, od4, .func (PySem.W.fnOf "_looks_like_function" "_looks_like_function" (defArgs s_looks_like_function) (defBody s_looks_like_function) (defScope s_looks_like_function) .none kV4 dc4 pm4 an4 cd4 ct4), sl4⟩) (c4 : PySem.W.codeIn K cd4 "_looks_like_function" = true) (k4 : PySem.W.keepIn K (.ref f4) = true)
    (a5 : PySem.W.nsIn K mainGlobals "_is_good_function" = some (some (.ref f5))) (l5 : K.lookup f5 = some ⟨oc5, od5, .func (PySem.W.fnOf "_is_good_function" "_is_good_function" (defArgs s_is_good_function) (defBody s_is_good_function) (defScope s_is_good_function) .none kV5 dc5 pm5 an5 cd5 ct5), sl5⟩) (c5 : PySem.W.codeIn K cd5 "_is_good_function" = true) (k5 : PySem.W.keepIn K (.ref f5) = true)
    (a6 : PySem.W.nsIn K mainGlobals "_is_good_name" = some (some (.ref f6))) (l6 : K.lookup f6 = some ⟨oc6, od6, .func (PySem.W.fnOf "_is_good_name" "_is_good_name" (defArgs s_is_good_name) (defBody s_is_good_name) (defScope s_is_good_name) .none kV6 dc6 pm6 an6 cd6 ct6), sl6⟩) (c6 : PySem.W.codeIn K cd6 "_is_good_name" = true) (k6 : PySem.W.keepIn K (.ref f6) = true)
    (a7 : PySem.W.nsIn K mainGlobals "_are_good_parameters" = some (some (.ref f7))) (l7 : K.lookup f7 = some ⟨oc7, od7, .func (PySem.W.fnOf "_are_good_parameters" "_are_good_parameters" (defArgs s_are_good_parameters) (defBody s_are_good_parameters) (defScope s_are_good_parameters) .none kV7 dc7 pm7 an7 cd7 ct7), sl7⟩) (c7 : PySem.W.codeIn K cd7 "_are_good_parameters" = true) (k7 : PySem.W.keepIn K (.ref f7) = true)
    (a8 : PySem.W.nsIn K mainGlobals "_is_good_body" = some (some (.ref f8))) (l8 : K.lookup f8 = some ⟨oc8, od8, .func (PySem.W.fnOf "_is_good_body" "_is_good_body" (defArgs s_is_good_body) (defBody s_is_good_body) (defScope s_is_good_body) .none kV8 dc8 pm8 an8 cd8 ct8), sl8⟩) (c8 : PySem.W.codeIn K cd8 "_is_good_body" = true) (k8 : PySem.W.keepIn K (.ref f8) = true)
    (a9 : PySem.W.nsIn K mainGlobals "_has_right_parts" = some (some (.ref f9))) (l9 : K.lookup f9 = some ⟨oc9, od9, .func (PySem.W.fnOf "_has_right_parts" "_has_right_parts" (defArgs s_has_right_parts) (defBody s_has_right_parts) (defScope s_has_right_parts) .none kV9 dc9 pm9 an9 cd9 ct9), sl9⟩) (c9 : PySem.W.codeIn K cd9 "_has_right_parts" = true) (k9 : PySem.W.keepIn K (.ref f9) = true)
    (a10 : PySem.W.nsIn K mainGlobals "fill" = some (some (.ref f10))) (l10 : K.lookup f10 = some ⟨oc10, od10, .func (PySem.W.fnOf "fill" "fill" (defArgs s_fill) (defBody s_fill) (defScope s_fill) .none kV10 dc10 pm10 an10 cd10 ct10), sl10⟩) (c10 : PySem.W.codeIn K cd10 "fill" = true) (k10 : PySem.W.keepIn K (.ref f10) = true)
    (a11 : PySem.W.nsIn K mainGlobals "made_name" = some (some (.ref f11))) (l11 : K.lookup f11 = some ⟨oc11, od11, .func (PySem.W.fnOf "made_name" "made_name" (defArgs s_made_name) (defBody s_made_name) (defScope s_made_name) .none kV11 dc11 pm11 an11 cd11 ct11), sl11⟩) (c11 : PySem.W.codeIn K cd11 "made_name" = true) (k11 : PySem.W.keepIn K (.ref f11) = true)
    (a12 : PySem.W.nsIn K mainGlobals "made_parameters" = some (some (.ref f12))) (l12 : K.lookup f12 = some ⟨oc12, od12, .func (PySem.W.fnOf "made_parameters" "made_parameters" (defArgs s_made_parameters) (defBody s_made_parameters) (defScope s_made_parameters) .none kV12 dc12 pm12 an12 cd12 ct12), sl12⟩) (c12 : PySem.W.codeIn K cd12 "made_parameters" = true) (k12 : PySem.W.keepIn K (.ref f12) = true)
    (a13 : PySem.W.nsIn K mainGlobals "filled" = some (some (.ref f13))) (l13 : K.lookup f13 = some ⟨oc13, od13, .func (PySem.W.fnOf "filled" "filled" (defArgs s_filled) (defBody s_filled) (defScope s_filled) .none kV13 dc13 pm13 an13 cd13 ct13), sl13⟩) (c13 : PySem.W.codeIn K cd13 "filled" = true) (k13 : PySem.W.keepIn K (.ref f13) = true)
    (a14 : PySem.W.nsIn K mainGlobals "with_front" = some (some (.ref f14))) (l14 : K.lookup f14 = some ⟨oc14, od14, .func (PySem.W.fnOf "with_front" "with_front" (defArgs s_with_front) (defBody s_with_front) (defScope s_with_front) .none kV14 dc14 pm14 an14 cd14 ct14), sl14⟩) (c14 : PySem.W.codeIn K cd14 "with_front" = true) (k14 : PySem.W.keepIn K (.ref f14) = true)
    (a15 : PySem.W.nsIn K mainGlobals "_law_draws" = some (some (.ref f15))) (l15 : K.lookup f15 = some ⟨oc15, od15, .func (PySem.W.fnOf "_law_draws" "_law_draws" (defArgs s_law_draws) (defBody s_law_draws) (defScope s_law_draws) .none kV15 dc15 pm15 an15 cd15 ct15), sl15⟩) (c15 : PySem.W.codeIn K cd15 "_law_draws" = true) (k15 : PySem.W.keepIn K (.ref f15) = true)
    (a16 : PySem.W.nsIn K mainGlobals "_law_take" = some (some (.ref f16))) (l16 : K.lookup f16 = some ⟨oc16, od16, .func (PySem.W.fnOf "_law_take" "_law_take" (defArgs s_law_take) (defBody s_law_take) (defScope s_law_take) .none kV16 dc16 pm16 an16 cd16 ct16), sl16⟩) (c16 : PySem.W.codeIn K cd16 "_law_take" = true) (k16 : PySem.W.keepIn K (.ref f16) = true)
    (a17 : PySem.W.nsIn K mainGlobals "_law_value" = some (some (.ref f17))) (l17 : K.lookup f17 = some ⟨oc17, od17, .func (PySem.W.fnOf "_law_value" "_law_value" (defArgs s_law_value) (defBody s_law_value) (defScope s_law_value) .none kV17 dc17 pm17 an17 cd17 ct17), sl17⟩) (c17 : PySem.W.codeIn K cd17 "_law_value" = true) (k17 : PySem.W.keepIn K (.ref f17) = true)
    (a18 : PySem.W.nsIn K mainGlobals "_law_expression" = some (some (.ref f18))) (l18 : K.lookup f18 = some ⟨oc18, od18, .func (PySem.W.fnOf "_law_expression" "_law_expression" (defArgs s_law_expression) (defBody s_law_expression) (defScope s_law_expression) .none kV18 dc18 pm18 an18 cd18 ct18), sl18⟩) (c18 : PySem.W.codeIn K cd18 "_law_expression" = true) (k18 : PySem.W.keepIn K (.ref f18) = true)
    (a19 : PySem.W.nsIn K mainGlobals "_law_library" = some (some (.ref f19))) (l19 : K.lookup f19 = some ⟨oc19, od19, .func (PySem.W.fnOf "_law_library" "_law_library" (defArgs s_law_library) (defBody s_law_library) (defScope s_law_library) .none kV19 dc19 pm19 an19 cd19 ct19), sl19⟩) (c19 : PySem.W.codeIn K cd19 "_law_library" = true) (k19 : PySem.W.keepIn K (.ref f19) = true)
    (a20 : PySem.W.nsIn K mainGlobals "_law_program" = some (some (.ref f20))) (l20 : K.lookup f20 = some ⟨oc20, od20, .func (PySem.W.fnOf "_law_program" "_law_program" (defArgs s_law_program) (defBody s_law_program) (defScope s_law_program) .none kV20 dc20 pm20 an20 cd20 ct20), sl20⟩) (c20 : PySem.W.codeIn K cd20 "_law_program" = true) (k20 : PySem.W.keepIn K (.ref f20) = true)
    (a21 : PySem.W.nsIn K mainGlobals "_law_many" = some (some (.ref f21))) (l21 : K.lookup f21 = some ⟨oc21, od21, .func (PySem.W.fnOf "_law_many" "_law_many" (defArgs s_law_many) (defBody s_law_many) (defScope s_law_many) .none kV21 dc21 pm21 an21 cd21 ct21), sl21⟩) (c21 : PySem.W.codeIn K cd21 "_law_many" = true) (k21 : PySem.W.keepIn K (.ref f21) = true)
    (a22 : PySem.W.nsIn K mainGlobals "_law_special" = some (some (.ref f22))) (l22 : K.lookup f22 = some ⟨oc22, od22, .func (PySem.W.fnOf "_law_special" "_law_special" (defArgs s_law_special) (defBody s_law_special) (defScope s_law_special) .none kV22 dc22 pm22 an22 cd22 ct22), sl22⟩) (c22 : PySem.W.codeIn K cd22 "_law_special" = true) (k22 : PySem.W.keepIn K (.ref f22) = true)
    (a23 : PySem.W.nsIn K mainGlobals "_law_expression_good" = some (some (.ref f23))) (l23 : K.lookup f23 = some ⟨oc23, od23, .func (PySem.W.fnOf "_law_expression_good" "_law_expression_good" (defArgs s_law_expression_good) (defBody s_law_expression_good) (defScope s_law_expression_good) .none kV23 dc23 pm23 an23 cd23 ct23), sl23⟩) (c23 : PySem.W.codeIn K cd23 "_law_expression_good" = true) (k23 : PySem.W.keepIn K (.ref f23) = true)
    (a24 : PySem.W.nsIn K mainGlobals "_law_name_good" = some (some (.ref f24))) (l24 : K.lookup f24 = some ⟨oc24, od24, .func (PySem.W.fnOf "_law_name_good" "_law_name_good" (defArgs s_law_name_good) (defBody s_law_name_good) (defScope s_law_name_good) .none kV24 dc24 pm24 an24 cd24 ct24), sl24⟩) (c24 : PySem.W.codeIn K cd24 "_law_name_good" = true) (k24 : PySem.W.keepIn K (.ref f24) = true)
    (a25 : PySem.W.nsIn K mainGlobals "_law_function_good" = some (some (.ref f25))) (l25 : K.lookup f25 = some ⟨oc25, od25, .func (PySem.W.fnOf "_law_function_good" "_law_function_good" (defArgs s_law_function_good) (defBody s_law_function_good) (defScope s_law_function_good) .none kV25 dc25 pm25 an25 cd25 ct25), sl25⟩) (c25 : PySem.W.codeIn K cd25 "_law_function_good" = true) (k25 : PySem.W.keepIn K (.ref f25) = true)
    (a26 : PySem.W.nsIn K mainGlobals "_law_bad_function" = some (some (.ref f26))) (l26 : K.lookup f26 = some ⟨oc26, od26, .func (PySem.W.fnOf "_law_bad_function" "_law_bad_function" (defArgs s_law_bad_function) (defBody s_law_bad_function) (defScope s_law_bad_function) .none kV26 dc26 pm26 an26 cd26 ct26), sl26⟩) (c26 : PySem.W.codeIn K cd26 "_law_bad_function" = true) (k26 : PySem.W.keepIn K (.ref f26) = true)
    (a27 : PySem.W.nsIn K mainGlobals "_law_told" = some (some (.ref f27))) (l27 : K.lookup f27 = some ⟨oc27, od27, .func (PySem.W.fnOf "_law_told" "_law_told" (defArgs s_law_told) (defBody s_law_told) (defScope s_law_told) .none kV27 dc27 pm27 an27 cd27 ct27), sl27⟩) (c27 : PySem.W.codeIn K cd27 "_law_told" = true) (k27 : PySem.W.keepIn K (.ref f27) = true)
    (a28 : PySem.W.nsIn K mainGlobals "_law_is_right" = some (some (.ref f28))) (l28 : K.lookup f28 = some ⟨oc28, od28, .func (PySem.W.fnOf "_law_is_right" "_law_is_right" (defArgs s_law_is_right) (defBody s_law_is_right) (defScope s_law_is_right) .none kV28 dc28 pm28 an28 cd28 ct28), sl28⟩) (c28 : PySem.W.codeIn K cd28 "_law_is_right" = true) (k28 : PySem.W.keepIn K (.ref f28) = true)
    (a29 : PySem.W.nsIn K mainGlobals "_law_errors_right" = some (some (.ref f29))) (l29 : K.lookup f29 = some ⟨oc29, od29, .func (PySem.W.fnOf "_law_errors_right" "_law_errors_right" (defArgs s_law_errors_right) (defBody s_law_errors_right) (defScope s_law_errors_right) .none kV29 dc29 pm29 an29 cd29 ct29), sl29⟩) (c29 : PySem.W.codeIn K cd29 "_law_errors_right" = true) (k29 : PySem.W.keepIn K (.ref f29) = true)
    (a30 : PySem.W.nsIn K mainGlobals "law" = some (some (.ref f30))) (l30 : K.lookup f30 = some ⟨oc30, od30, .func (PySem.W.fnOf "law" "law" (defArgs s_law) (defBody s_law) (defScope s_law) .none kV30 dc30 pm30 an30 cd30 ct30), sl30⟩) (c30 : PySem.W.codeIn K cd30 "law" = true) (k30 : PySem.W.keepIn K (.ref f30) = true)
    (zlen : PySem.W.nsIn K mainGlobals "len" = some none)
    (zrange : PySem.W.nsIn K mainGlobals "range" = some none)
    (zint : PySem.W.nsIn K mainGlobals "int" = some none)
    (zabs : PySem.W.nsIn K mainGlobals "abs" = some none)
    (zstr : PySem.W.nsIn K mainGlobals "str" = some none)
    (ztuple : PySem.W.nsIn K mainGlobals "tuple" = some none)
    (zlist : PySem.W.nsIn K mainGlobals "list" = some none)
    (zbool : PySem.W.nsIn K mainGlobals "bool" = some none)
    (zisinstance : PySem.W.nsIn K mainGlobals "isinstance" = some none)
    (zValueError : PySem.W.nsIn K mainGlobals "ValueError" = some none)
    (zenumerate : PySem.W.nsIn K mainGlobals "enumerate" = some none)
    (zset : PySem.W.nsIn K mainGlobals "set" = some none)
    (eG : PySem.W.nsIn K mainGlobals "GlassError" = some (some (.ref CG))) (eRd : PySem.W.readsIn K CG (.type "type") = true) (eSg : PySem.W.specialIn K (.ref CG) "__getattribute__" = some (some (.builtin "type.__getattribute__"))) (eVv : PySem.W.findCls K (.ref CG) (.type "type") "__init__" = some (.val (.builtin "ValueError.__init__"))) (eGt : PySem.W.specialIn K (.builtin "object.__class__") "__get__" = some (some (.builtin "getset_descriptor.__get__"))) (eTk : PySem.W.takesIn K (.builtin "object.__class__") = some true)
    (eC0 : PySem.W.nsIn K mainGlobals "BadText" = some (some (.ref C0))) (eL0 : K.lookup C0 = some (excClassObj nm0 q0 C0 N0 bs0 bm0 true sn0 sub0 ab0 col0 dd0 u0 v0 w0 x0 y0 "ValueError.__new__")) (eR0 : PySem.HandSPX.refsVE bm0 = true)
    (eS0 : PySem.W.findIn K (.ref C0) "__setattr__" = some (some (.builtin "object.__setattr__"))) (eX0 : PySem.W.subIn K (.ref C0) (.type "BaseException") = some true) (eT0 : PySem.W.typeIn K (.ref C0) = some (.type "type")) (eK0 : PySem.W.keepIn K (.ref C0) = true)
    (eI0 : PySem.W.findIn K (.ref C0) "__init__" = some (some (.ref I0))) (eY0 : PySem.W.typeIn K (.ref I0) = some (.type "function")) (eN0 : PySem.W.findIn K (.ref C0) "place" = some none)
    (eF0 : K.lookup I0 = some ⟨eoc0, eod0, .func (PySem.W.fnOf "__init__" "BadText.__init__" (defArgs s_BadText_init) (defBody s_BadText_init) (defScope s_BadText_init) .none ekV0 edc0 epm0 ean0 ecd0 ect0), esl0⟩) (eD0 : PySem.W.codeIn K ecd0 "BadText.__init__" = true) (eP0 : PySem.W.keepIn K (.ref I0) = true)
    (eA0 : PySem.W.findIn K (.ref C0) "__getattribute__" = some (some (.builtin "BaseException.__getattribute__"))) (eB0 : PySem.W.findIn K (.ref C0) "__getattr__" = some none) (eH0 : PySem.W.hasDictIn K C0 = true) (eQ0 : PySem.W.isClsIn K C0 = true) (eZ0 : PySem.W.subIn K (.ref C0) (.ref C0) = some true)
    (eE0 : PySem.W.findIn K (.ref C0) "__class__" = some (some (.builtin "object.__class__"))) (eU0 : PySem.W.kitOne K (.ref C0) (.ref CG) = some true) (eV0 : PySem.W.kitOne K (.ref C0) (.type "ValueError") = some true) (eM0 : PySem.W.mroIn K C0 (.type "object") = some true)
    (eC1 : PySem.W.nsIn K mainGlobals "BadProgram" = some (some (.ref C1))) (eL1 : K.lookup C1 = some (excClassObj nm1 q1 C1 N1 bs1 bm1 true sn1 sub1 ab1 col1 dd1 u1 v1 w1 x1 y1 "ValueError.__new__")) (eR1 : PySem.HandSPX.refsVE bm1 = true)
    (eS1 : PySem.W.findIn K (.ref C1) "__setattr__" = some (some (.builtin "object.__setattr__"))) (eX1 : PySem.W.subIn K (.ref C1) (.type "BaseException") = some true) (eT1 : PySem.W.typeIn K (.ref C1) = some (.type "type")) (eK1 : PySem.W.keepIn K (.ref C1) = true)
    (eI1 : PySem.W.findIn K (.ref C1) "__init__" = some (some (.ref I1))) (eY1 : PySem.W.typeIn K (.ref I1) = some (.type "function")) (eN1 : PySem.W.findIn K (.ref C1) "function" = some none)
    (eF1 : K.lookup I1 = some ⟨eoc1, eod1, .func (PySem.W.fnOf "__init__" "BadProgram.__init__" (defArgs s_BadProgram_init) (defBody s_BadProgram_init) (defScope s_BadProgram_init) .none ekV1 edc1 epm1 ean1 ecd1 ect1), esl1⟩) (eD1 : PySem.W.codeIn K ecd1 "BadProgram.__init__" = true) (eP1 : PySem.W.keepIn K (.ref I1) = true)
    (eA1 : PySem.W.findIn K (.ref C1) "__getattribute__" = some (some (.builtin "BaseException.__getattribute__"))) (eB1 : PySem.W.findIn K (.ref C1) "__getattr__" = some none) (eH1 : PySem.W.hasDictIn K C1 = true) (eQ1 : PySem.W.isClsIn K C1 = true) (eZ1 : PySem.W.subIn K (.ref C1) (.ref C1) = some true)
    (eE1 : PySem.W.findIn K (.ref C1) "__class__" = some (some (.builtin "object.__class__"))) (eU1 : PySem.W.kitOne K (.ref C1) (.ref CG) = some true) (eV1 : PySem.W.kitOne K (.ref C1) (.type "ValueError") = some true) (eM1 : PySem.W.mroIn K C1 (.type "object") = some true)
    (eW0x1 : PySem.W.kitOne K (.ref C0) (.ref C1) = some false)
    (eW1x0 : PySem.W.kitOne K (.ref C1) (.ref C0) = some false)
    (xG0 : PySem.W.nsIn K mainGlobals "BadInputs" = some (some (.ref PC0)))
    (xK0p0 : PySem.W.kitOne K (.ref C0) (.ref PC0) = some false)
    (xK1p0 : PySem.W.kitOne K (.ref C1) (.ref PC0) = some false)
    (pX0 : PySem.W.excIn K PC0 [.type "ValueError", .type "Exception", .type "BaseException", .type "object"] "ValueError.__new__" = true) (pK0 : PySem.W.keepIn K (.ref PC0) = true) (pB0 : PySem.W.subIn K (.ref PC0) (.type "BaseException") = some true) (pT0 : PySem.W.typeIn K (.ref PC0) = some (.type "type"))
    (pA0 : PySem.W.findIn K (.ref PC0) "__getattribute__" = some (some (.builtin "BaseException.__getattribute__"))) (pG0 : PySem.W.findIn K (.ref PC0) "__getattr__" = some none) (pH0 : PySem.W.hasDictIn K PC0 = true) (pQ0 : PySem.W.isClsIn K PC0 = true) (pZ0 : PySem.W.subIn K (.ref PC0) (.ref PC0) = some true)
    (pE0 : PySem.W.findIn K (.ref PC0) "__class__" = some (some (.builtin "object.__class__"))) (pU0 : PySem.W.kitOne K (.ref PC0) (.ref CG) = some true) (pV0 : PySem.W.kitOne K (.ref PC0) (.type "ValueError") = some true) (pM0 : PySem.W.mroIn K PC0 (.type "object") = some true) (pS0 : PySem.W.kitOne K (.ref PC0) (.ref PC0) = some true)
    (pW0c0 : PySem.W.kitOne K (.ref PC0) (.ref C0) = some false)
    (pW0c1 : PySem.W.kitOne K (.ref PC0) (.ref C1) = some false)
    (pY0 : PySem.W.kitOne K (.ref C0) (.ref C0) = some true)
    (pY1 : PySem.W.kitOne K (.ref C1) (.ref C1) = some true)
    (yg0 : PySem.W.nsIn K mainGlobals "SPECIAL_WORDS" = some (some (.ref Dd0))) (yl0 : K.lookup Dd0 = some ⟨.type "dict", none, .dict Des0 Dn0, #[]⟩) (yk0 : PySem.W.KeysLit w.params Des0.toList) (yw0 : (Dd0 == sysModules) = false) (yc0 : Ents Des0.toList [([113, 117, 111, 116, 101], 1), ([105, 102], 3), ([115, 97, 109, 101], 2), ([119, 111, 114, 100], 1), ([104, 101, 97, 100], 1), ([116, 97, 105, 108], 1), ([106, 111, 105, 110], 2)])
    (gc0 : PySem.W.nsIn K mainGlobals "MOST_PARAMETERS" = some (some (.int 12 t0)))
    (gc1 : PySem.W.nsIn K mainGlobals "MOST_INPUTS" = some (some (.int 8 t1)))
    : ∃ fd : FuncData, (∀ (s : Shared) (v : Value), BindsTo s fd ⟨[v], []⟩ [("script", v)]) ∧ ∀ base : Heap, K.In base → base.Ns mainGlobals mg → FnOk l.prog w K mg base CX0 30 fa fd ["script"] (spLaw K) := by
  have e := hfa.symm.trans (PySem.W.mg_of X G a30)
  cases e
  have B : Bn mg := ⟨PySem.W.mg_none_of X G zlen, PySem.W.mg_none_of X G zrange, PySem.W.mg_none_of X G zint, PySem.W.mg_none_of X G zabs, PySem.W.mg_none_of X G zstr, PySem.W.mg_none_of X G ztuple, PySem.W.mg_none_of X G zlist, PySem.W.mg_none_of X G zbool, PySem.W.mg_none_of X G zisinstance, PySem.W.mg_none_of X G zValueError, PySem.W.mg_none_of X G zenumerate, PySem.W.mg_none_of X G zset⟩
  have M : Mc mg := ⟨⟨_, PySem.W.mg_of X G gc0⟩, ⟨_, PySem.W.mg_of X G gc1⟩⟩
  have S_SPECIAL_WORDS : DictC K w mg "SPECIAL_WORDS" [([113, 117, 111, 116, 101], 1), ([105, 102], 3), ([115, 97, 109, 101], 2), ([119, 111, 114, 100], 1), ([104, 101, 97, 100], 1), ([116, 97, 105, 108], 1), ([106, 111, 105, 110], 2)] := ⟨⟨Dd0, Des0, Dn0, PySem.W.mg_of X G yg0, ⟨yl0, yk0, yw0⟩, yc0⟩⟩
  have EF0 := fun_mk (st := s_BadText_init) eF0 eD0 eP0
  have Eb0 := EF0.binds (ps := ["self", "place"]) fun _ _ _ _ _ _ us hl => match us, hl with | [_, _], _ => rfl
  have E_BadText : ErrAll K mg "BadText" "BadText.__init__" "place" s_BadText_init := ⟨⟨C0, CG, I0, _, ⟨PySem.W.mg_of X G eC0, PySem.W.mg_of X G eG, ⟨⟨nm0, q0, N0, bs0, bm0, sn0, sub0, ab0, col0, dd0, u0, v0, w0, x0, y0, eL0, eR0⟩, eS0, eX0, eT0, eK0⟩, eI0, eY0, eN0, eRd, eSg, eVv, EF0, Eb0⟩, ⟨eA0, eB0, eH0, eQ0, eZ0, eE0, eU0, eV0, eGt, eTk, eM0⟩⟩⟩
  have EF1 := fun_mk (st := s_BadProgram_init) eF1 eD1 eP1
  have Eb1 := EF1.binds (ps := ["self", "function"]) fun _ _ _ _ _ _ us hl => match us, hl with | [_, _], _ => rfl
  have E_BadProgram : ErrAll K mg "BadProgram" "BadProgram.__init__" "function" s_BadProgram_init := ⟨⟨C1, CG, I1, _, ⟨PySem.W.mg_of X G eC1, PySem.W.mg_of X G eG, ⟨⟨nm1, q1, N1, bs1, bm1, sn1, sub1, ab1, col1, dd1, u1, v1, w1, x1, y1, eL1, eR1⟩, eS1, eX1, eT1, eK1⟩, eI1, eY1, eN1, eRd, eSg, eVv, EF1, Eb1⟩, ⟨eA1, eB1, eH1, eQ1, eZ1, eE1, eU1, eV1, eGt, eTk, eM1⟩⟩⟩
  have W_BadText_BadProgram : ErrNot K mg "BadText" "BadProgram" := ⟨fun a b ha hb => by rw [PySem.W.mg_of X G eC0] at ha; rw [PySem.W.mg_of X G eC1] at hb; cases ha; cases hb; exact eW0x1⟩
  have W_BadProgram_BadText : ErrNot K mg "BadProgram" "BadText" := ⟨fun a b ha hb => by rw [PySem.W.mg_of X G eC1] at ha; rw [PySem.W.mg_of X G eC0] at hb; cases ha; cases hb; exact eW1x0⟩
  have C_BadInputs : ∃ a : Addr, mg "BadInputs" = some (.ref a) := ⟨PC0, PySem.W.mg_of X G xG0⟩
  have W_BadText_BadInputs : ErrNot K mg "BadText" "BadInputs" := ⟨fun a b ha hb => by rw [PySem.W.mg_of X G eC0] at ha; rw [PySem.W.mg_of X G xG0] at hb; cases ha; cases hb; exact xK0p0⟩
  have W_BadProgram_BadInputs : ErrNot K mg "BadProgram" "BadInputs" := ⟨fun a b ha hb => by rw [PySem.W.mg_of X G eC1] at ha; rw [PySem.W.mg_of X G xG0] at hb; cases ha; cases hb; exact xK1p0⟩
  have E_BadInputs : PlnAll K mg "BadInputs" := ⟨⟨PC0, CG, ⟨PySem.W.mg_of X G xG0, PySem.W.mg_of X G eG, pX0, pK0, pB0, pT0⟩, ⟨pA0, pG0, pH0, pQ0, pZ0, pE0, pU0, pV0, eGt, eTk, pM0⟩⟩⟩
  have Y_BadInputs : ErrSelf K mg "BadInputs" := ⟨fun a ha => by rw [PySem.W.mg_of X G xG0] at ha; cases ha; exact pS0⟩
  have W_BadInputs_BadText : ErrNot K mg "BadInputs" "BadText" := ⟨fun a b ha hb => by rw [PySem.W.mg_of X G xG0] at ha; rw [PySem.W.mg_of X G eC0] at hb; cases ha; cases hb; exact pW0c0⟩
  have W_BadInputs_BadProgram : ErrNot K mg "BadInputs" "BadProgram" := ⟨fun a b ha hb => by rw [PySem.W.mg_of X G xG0] at ha; rw [PySem.W.mg_of X G eC1] at hb; cases ha; cases hb; exact pW0c1⟩
  have Y_BadText : ErrSelf K mg "BadText" := ⟨fun a ha => by rw [PySem.W.mg_of X G eC0] at ha; cases ha; exact pY0⟩
  have Y_BadProgram : ErrSelf K mg "BadProgram" := ⟨fun a ha => by rw [PySem.W.mg_of X G eC1] at ha; cases ha; exact pY1⟩
  have F0 := fun_mk (st := s_check_program) l0 c0 k0
  have b0 := F0.binds (ps := p_check_program) fun _ _ _ _ _ _ us hl => match us, hl with | [_], _ => rfl
  have D_check_program : DefAt K mg "check_program" s_check_program p_check_program := ⟨⟨f0, _, F0, PySem.W.mg_of X G a0, b0⟩⟩
  have F1 := fun_mk (st := s_inputs_of) l1 c1 k1
  have b1 := F1.binds (ps := p_inputs_of) fun _ _ _ _ _ _ us hl => match us, hl with | [_], _ => rfl
  have D_inputs_of : DefAt K mg "inputs_of" s_inputs_of p_inputs_of := ⟨⟨f1, _, F1, PySem.W.mg_of X G a1, b1⟩⟩
  have F2 := fun_mk (st := s_names_of) l2 c2 k2
  have b2 := F2.binds (ps := p_names_of) fun _ _ _ _ _ _ us hl => match us, hl with | [_], _ => rfl
  have D_names_of : DefAt K mg "names_of" s_names_of p_names_of := ⟨⟨f2, _, F2, PySem.W.mg_of X G a2, b2⟩⟩
  have F3 := fun_mk (st := s_called_functions) l3 c3 k3
  have b3 := F3.binds (ps := p_called_functions) fun _ _ _ _ _ _ us hl => match us, hl with | [_], _ => rfl
  have D_called_functions : DefAt K mg "_called_functions" s_called_functions p_called_functions := ⟨⟨f3, _, F3, PySem.W.mg_of X G a3, b3⟩⟩
  have F4 := fun_mk (st := s_looks_like_function) l4 c4 k4
  have b4 := F4.binds (ps := p_looks_like_function) fun _ _ _ _ _ _ us hl => match us, hl with | [_], _ => rfl
  have D_looks_like_function : DefAt K mg "_looks_like_function" s_looks_like_function p_looks_like_function := ⟨⟨f4, _, F4, PySem.W.mg_of X G a4, b4⟩⟩
  have F5 := fun_mk (st := s_is_good_function) l5 c5 k5
  have b5 := F5.binds (ps := p_is_good_function) fun _ _ _ _ _ _ us hl => match us, hl with | [_, _, _], _ => rfl
  have D_is_good_function : DefAt K mg "_is_good_function" s_is_good_function p_is_good_function := ⟨⟨f5, _, F5, PySem.W.mg_of X G a5, b5⟩⟩
  have F6 := fun_mk (st := s_is_good_name) l6 c6 k6
  have b6 := F6.binds (ps := p_is_good_name) fun _ _ _ _ _ _ us hl => match us, hl with | [_, _], _ => rfl
  have D_is_good_name : DefAt K mg "_is_good_name" s_is_good_name p_is_good_name := ⟨⟨f6, _, F6, PySem.W.mg_of X G a6, b6⟩⟩
  have F7 := fun_mk (st := s_are_good_parameters) l7 c7 k7
  have b7 := F7.binds (ps := p_are_good_parameters) fun _ _ _ _ _ _ us hl => match us, hl with | [_], _ => rfl
  have D_are_good_parameters : DefAt K mg "_are_good_parameters" s_are_good_parameters p_are_good_parameters := ⟨⟨f7, _, F7, PySem.W.mg_of X G a7, b7⟩⟩
  have F8 := fun_mk (st := s_is_good_body) l8 c8 k8
  have b8 := F8.binds (ps := p_is_good_body) fun _ _ _ _ _ _ us hl => match us, hl with | [_, _, _], _ => rfl
  have D_is_good_body : DefAt K mg "_is_good_body" s_is_good_body p_is_good_body := ⟨⟨f8, _, F8, PySem.W.mg_of X G a8, b8⟩⟩
  have F9 := fun_mk (st := s_has_right_parts) l9 c9 k9
  have b9 := F9.binds (ps := p_has_right_parts) fun _ _ _ _ _ _ us hl => match us, hl with | [_, _], _ => rfl
  have D_has_right_parts : DefAt K mg "_has_right_parts" s_has_right_parts p_has_right_parts := ⟨⟨f9, _, F9, PySem.W.mg_of X G a9, b9⟩⟩
  have F10 := fun_mk (st := s_fill) l10 c10 k10
  have b10 := F10.binds (ps := p_fill) fun _ _ _ _ _ _ us hl => match us, hl with | [_, _], _ => rfl
  have D_fill : DefAt K mg "fill" s_fill p_fill := ⟨⟨f10, _, F10, PySem.W.mg_of X G a10, b10⟩⟩
  have F11 := fun_mk (st := s_made_name) l11 c11 k11
  have b11 := F11.binds (ps := p_made_name) fun _ _ _ _ _ _ us hl => match us, hl with | [_], _ => rfl
  have D_made_name : DefAt K mg "made_name" s_made_name p_made_name := ⟨⟨f11, _, F11, PySem.W.mg_of X G a11, b11⟩⟩
  have F12 := fun_mk (st := s_made_parameters) l12 c12 k12
  have b12 := F12.binds (ps := p_made_parameters) fun _ _ _ _ _ _ us hl => match us, hl with | [_], _ => rfl
  have D_made_parameters : DefAt K mg "made_parameters" s_made_parameters p_made_parameters := ⟨⟨f12, _, F12, PySem.W.mg_of X G a12, b12⟩⟩
  have F13 := fun_mk (st := s_filled) l13 c13 k13
  have b13 := F13.binds (ps := p_filled) fun _ _ _ _ _ _ us hl => match us, hl with | [_, _], _ => rfl
  have D_filled : DefAt K mg "filled" s_filled p_filled := ⟨⟨f13, _, F13, PySem.W.mg_of X G a13, b13⟩⟩
  have F14 := fun_mk (st := s_with_front) l14 c14 k14
  have b14 := F14.binds (ps := p_with_front) fun _ _ _ _ _ _ us hl => match us, hl with | [_, _, _], _ => rfl
  have D_with_front : DefAt K mg "with_front" s_with_front p_with_front := ⟨⟨f14, _, F14, PySem.W.mg_of X G a14, b14⟩⟩
  have F15 := fun_mk (st := s_law_draws) l15 c15 k15
  have b15 := F15.binds (ps := p_law_draws) fun _ _ _ _ _ _ us hl => match us, hl with | [_, _], _ => rfl
  have D_law_draws : DefAt K mg "_law_draws" s_law_draws p_law_draws := ⟨⟨f15, _, F15, PySem.W.mg_of X G a15, b15⟩⟩
  have F16 := fun_mk (st := s_law_take) l16 c16 k16
  have b16 := F16.binds (ps := p_law_take) fun _ _ _ _ _ _ us hl => match us, hl with | [_, _], _ => rfl
  have D_law_take : DefAt K mg "_law_take" s_law_take p_law_take := ⟨⟨f16, _, F16, PySem.W.mg_of X G a16, b16⟩⟩
  have F17 := fun_mk (st := s_law_value) l17 c17 k17
  have b17 := F17.binds (ps := p_law_value) fun _ _ _ _ _ _ us hl => match us, hl with | [_, _], _ => rfl
  have D_law_value : DefAt K mg "_law_value" s_law_value p_law_value := ⟨⟨f17, _, F17, PySem.W.mg_of X G a17, b17⟩⟩
  have F18 := fun_mk (st := s_law_expression) l18 c18 k18
  have b18 := F18.binds (ps := p_law_expression) fun _ _ _ _ _ _ us hl => match us, hl with | [_, _, _, _], _ => rfl
  have D_law_expression : DefAt K mg "_law_expression" s_law_expression p_law_expression := ⟨⟨f18, _, F18, PySem.W.mg_of X G a18, b18⟩⟩
  have F19 := fun_mk (st := s_law_library) l19 c19 k19
  have b19 := F19.binds (ps := p_law_library) fun _ _ _ _ _ _ us hl => match us, hl with | [], _ => rfl
  have D_law_library : DefAt K mg "_law_library" s_law_library p_law_library := ⟨⟨f19, _, F19, PySem.W.mg_of X G a19, b19⟩⟩
  have F20 := fun_mk (st := s_law_program) l20 c20 k20
  have b20 := F20.binds (ps := p_law_program) fun _ _ _ _ _ _ us hl => match us, hl with | [_, _], _ => rfl
  have D_law_program : DefAt K mg "_law_program" s_law_program p_law_program := ⟨⟨f20, _, F20, PySem.W.mg_of X G a20, b20⟩⟩
  have F21 := fun_mk (st := s_law_many) l21 c21 k21
  have b21 := F21.binds (ps := p_law_many) fun _ _ _ _ _ _ us hl => match us, hl with | [_, _], _ => rfl
  have D_law_many : DefAt K mg "_law_many" s_law_many p_law_many := ⟨⟨f21, _, F21, PySem.W.mg_of X G a21, b21⟩⟩
  have F22 := fun_mk (st := s_law_special) l22 c22 k22
  have b22 := F22.binds (ps := p_law_special) fun _ _ _ _ _ _ us hl => match us, hl with | [], _ => rfl
  have D_law_special : DefAt K mg "_law_special" s_law_special p_law_special := ⟨⟨f22, _, F22, PySem.W.mg_of X G a22, b22⟩⟩
  have F23 := fun_mk (st := s_law_expression_good) l23 c23 k23
  have b23 := F23.binds (ps := p_law_expression_good) fun _ _ _ _ _ _ us hl => match us, hl with | [_, _, _], _ => rfl
  have D_law_expression_good : DefAt K mg "_law_expression_good" s_law_expression_good p_law_expression_good := ⟨⟨f23, _, F23, PySem.W.mg_of X G a23, b23⟩⟩
  have F24 := fun_mk (st := s_law_name_good) l24 c24 k24
  have b24 := F24.binds (ps := p_law_name_good) fun _ _ _ _ _ _ us hl => match us, hl with | [_, _], _ => rfl
  have D_law_name_good : DefAt K mg "_law_name_good" s_law_name_good p_law_name_good := ⟨⟨f24, _, F24, PySem.W.mg_of X G a24, b24⟩⟩
  have F25 := fun_mk (st := s_law_function_good) l25 c25 k25
  have b25 := F25.binds (ps := p_law_function_good) fun _ _ _ _ _ _ us hl => match us, hl with | [_, _], _ => rfl
  have D_law_function_good : DefAt K mg "_law_function_good" s_law_function_good p_law_function_good := ⟨⟨f25, _, F25, PySem.W.mg_of X G a25, b25⟩⟩
  have F26 := fun_mk (st := s_law_bad_function) l26 c26 k26
  have b26 := F26.binds (ps := p_law_bad_function) fun _ _ _ _ _ _ us hl => match us, hl with | [_], _ => rfl
  have D_law_bad_function : DefAt K mg "_law_bad_function" s_law_bad_function p_law_bad_function := ⟨⟨f26, _, F26, PySem.W.mg_of X G a26, b26⟩⟩
  have F27 := fun_mk (st := s_law_told) l27 c27 k27
  have b27 := F27.binds (ps := p_law_told) fun _ _ _ _ _ _ us hl => match us, hl with | [_, _], _ => rfl
  have D_law_told : DefAt K mg "_law_told" s_law_told p_law_told := ⟨⟨f27, _, F27, PySem.W.mg_of X G a27, b27⟩⟩
  have F28 := fun_mk (st := s_law_is_right) l28 c28 k28
  have b28 := F28.binds (ps := p_law_is_right) fun _ _ _ _ _ _ us hl => match us, hl with | [_], _ => rfl
  have D_law_is_right : DefAt K mg "_law_is_right" s_law_is_right p_law_is_right := ⟨⟨f28, _, F28, PySem.W.mg_of X G a28, b28⟩⟩
  have F29 := fun_mk (st := s_law_errors_right) l29 c29 k29
  have b29 := F29.binds (ps := p_law_errors_right) fun _ _ _ _ _ _ us hl => match us, hl with | [_], _ => rfl
  have D_law_errors_right : DefAt K mg "_law_errors_right" s_law_errors_right p_law_errors_right := ⟨⟨f29, _, F29, PySem.W.mg_of X G a29, b29⟩⟩
  have F30 := fun_mk (st := s_law) l30 c30 k30
  have b30 := F30.binds (ps := p_law) fun _ _ _ _ _ _ us hl => match us, hl with | [_], _ => rfl
  refine ⟨PySem.W.fnOf "law" "law" (defArgs s_law) (defBody s_law) (defScope s_law) .none kV30 dc30 pm30 an30 cd30 ct30, fun s v => .of_eq rfl, fun base _ _ => ?_⟩
  exact ok_law F30 B M S_SPECIAL_WORDS E_BadText E_BadProgram W_BadText_BadProgram W_BadProgram_BadText C_BadInputs W_BadText_BadInputs W_BadProgram_BadInputs E_BadInputs Y_BadInputs W_BadInputs_BadText W_BadInputs_BadProgram Y_BadText Y_BadProgram D_check_program D_inputs_of D_names_of D_called_functions D_looks_like_function D_is_good_function D_is_good_name D_are_good_parameters D_is_good_body D_has_right_parts D_fill D_made_name D_made_parameters D_filled D_with_front D_law_draws D_law_take D_law_value D_law_expression D_law_library D_law_program D_law_many D_law_special D_law_expression_good D_law_name_good D_law_function_good D_law_bad_function D_law_told D_law_is_right D_law_errors_right
theorem walk {l : PySem.W.OpenLaw} {q : Program} {loose : List Str} {XP : (Str → Option Value) → Heap → Prop} {YP : World → Heap → Prop} {d : DefRec} {K : Params → PySem.W.Frag} (hn : l.most = some 63) (hdf : d.params.defaults = [])
    (hY : ∀ (w : World) (h : Heap), YP w h → (K w.params).In h)
    (F : ∀ (w : World) (mg : Str → Option Value) (fa : Addr) (h : Heap), (K w.params).In h → h.Ns mainGlobals mg → mg d.name = some (.ref fa) →
      ∃ fd : FuncData, (∀ (s : Shared) (u : Value), BindsTo s fd ⟨[u], []⟩ [("script", u)]) ∧ ∀ base : Heap, (K w.params).In base → base.Ns mainGlobals mg → FnOk l.prog w (K w.params) mg base CX0 30 fa fd ["script"] (spLaw (K w.params))) :
    PySem.W.WalkO q loose XP YP l.row.toRowW d [] (fun f vs => PySem.call f vs) :=
  L2.walk_of (n := 63) (k := 30) (x := "script") (CX := fun _ => CX0) (sp := fun w => spLaw (K w.params)) hn (by decide) hdf ⟨rfl, by decide, by decide⟩ hY F (fun _ _ a ns hl _ hS => ⟨a, ns, rfl, hS, hl, fun _ => rfl⟩) fun _ _ _ _ _ z => z
end Og
open PySem PySem.W PyProof.Rows
set_option maxRecDepth 100000 in
set_option maxHeartbeats 0 in
theorem PySem.Challenge.cw_ownglass_k05_inputs_names_and_errors_holds : PySem.Challenge.rw_ownglass_k05_inputs_names_and_errors.Holds := by
  w_on; o_law; k_head; (case hw => w_witness2)
  k_fill
  refine Og.walk (l := PySem.Challenge.rw_ownglass_k05_inputs_names_and_errors) rfl rfl (fun w h Y => PySem.W.kIn_of Y) ?F
  case F =>
    intro w mg fa h KX G hmg
    refine' Og.all_mk KX G hmg ?a0 ?l0 ?c0 ?k0 ?a1 ?l1 ?c1 ?k1 ?a2 ?l2 ?c2 ?k2 ?a3 ?l3 ?c3 ?k3 ?a4 ?l4 ?c4 ?k4 ?a5 ?l5 ?c5 ?k5 ?a6 ?l6 ?c6 ?k6 ?a7 ?l7 ?c7 ?k7 ?a8 ?l8 ?c8 ?k8 ?a9 ?l9 ?c9 ?k9 ?a10 ?l10 ?c10 ?k10 ?a11 ?l11 ?c11 ?k11 ?a12 ?l12 ?c12 ?k12 ?a13 ?l13 ?c13 ?k13 ?a14 ?l14 ?c14 ?k14 ?a15 ?l15 ?c15 ?k15 ?a16 ?l16 ?c16 ?k16 ?a17 ?l17 ?c17 ?k17 ?a18 ?l18 ?c18 ?k18 ?a19 ?l19 ?c19 ?k19 ?a20 ?l20 ?c20 ?k20 ?a21 ?l21 ?c21 ?k21 ?a22 ?l22 ?c22 ?k22 ?a23 ?l23 ?c23 ?k23 ?a24 ?l24 ?c24 ?k24 ?a25 ?l25 ?c25 ?k25 ?a26 ?l26 ?c26 ?k26 ?a27 ?l27 ?c27 ?k27 ?a28 ?l28 ?c28 ?k28 ?a29 ?l29 ?c29 ?k29 ?a30 ?l30 ?c30 ?k30 ?zlen ?zrange ?zint ?zabs ?zstr ?ztuple ?zlist ?zbool ?zisinstance ?zValueError ?zenumerate ?zset ?eG ?eRd ?eSg ?eVv ?eGt ?eTk ?eC0 ?eL0 ?eR0 ?eS0 ?eX0 ?eT0 ?eK0 ?eI0 ?eY0 ?eN0 ?eF0 ?eD0 ?eP0 ?eA0 ?eB0 ?eH0 ?eQ0 ?eZ0 ?eE0 ?eU0 ?eV0 ?eM0 ?eC1 ?eL1 ?eR1 ?eS1 ?eX1 ?eT1 ?eK1 ?eI1 ?eY1 ?eN1 ?eF1 ?eD1 ?eP1 ?eA1 ?eB1 ?eH1 ?eQ1 ?eZ1 ?eE1 ?eU1 ?eV1 ?eM1 ?eW0x1 ?eW1x0 ?xG0 ?xK0p0 ?xK1p0 ?pX0 ?pK0 ?pB0 ?pT0 ?pA0 ?pG0 ?pH0 ?pQ0 ?pZ0 ?pE0 ?pU0 ?pV0 ?pM0 ?pS0 ?pW0c0 ?pW0c1 ?pY0 ?pY1 ?yg0 ?yl0 ?yk0 ?yw0 ?yc0 ?gc0 ?gc1
    (case a0 => first | k_is | rfl | decide +kernel)
    (case l0 => first | k_is | rfl | decide +kernel)
    (case c0 => first | k_is | rfl | decide +kernel)
    (case k0 => first | k_is | rfl | decide +kernel)
    (case a1 => first | k_is | rfl | decide +kernel)
    (case l1 => first | k_is | rfl | decide +kernel)
    (case c1 => first | k_is | rfl | decide +kernel)
    (case k1 => first | k_is | rfl | decide +kernel)
    (case a2 => first | k_is | rfl | decide +kernel)
    (case l2 => first | k_is | rfl | decide +kernel)
    (case c2 => first | k_is | rfl | decide +kernel)
    (case k2 => first | k_is | rfl | decide +kernel)
    (case a3 => first | k_is | rfl | decide +kernel)
    (case l3 => first | k_is | rfl | decide +kernel)
    (case c3 => first | k_is | rfl | decide +kernel)
    (case k3 => first | k_is | rfl | decide +kernel)
    (case a4 => first | k_is | rfl | decide +kernel)
    (case l4 => first | k_is | rfl | decide +kernel)
    (case c4 => first | k_is | rfl | decide +kernel)
    (case k4 => first | k_is | rfl | decide +kernel)
    (case a5 => first | k_is | rfl | decide +kernel)
    (case l5 => first | k_is | rfl | decide +kernel)
    (case c5 => first | k_is | rfl | decide +kernel)
    (case k5 => first | k_is | rfl | decide +kernel)
    (case a6 => first | k_is | rfl | decide +kernel)
    (case l6 => first | k_is | rfl | decide +kernel)
    (case c6 => first | k_is | rfl | decide +kernel)
    (case k6 => first | k_is | rfl | decide +kernel)
    (case a7 => first | k_is | rfl | decide +kernel)
    (case l7 => first | k_is | rfl | decide +kernel)
    (case c7 => first | k_is | rfl | decide +kernel)
    (case k7 => first | k_is | rfl | decide +kernel)
    (case a8 => first | k_is | rfl | decide +kernel)
    (case l8 => first | k_is | rfl | decide +kernel)
    (case c8 => first | k_is | rfl | decide +kernel)
    (case k8 => first | k_is | rfl | decide +kernel)
    (case a9 => first | k_is | rfl | decide +kernel)
    (case l9 => first | k_is | rfl | decide +kernel)
    (case c9 => first | k_is | rfl | decide +kernel)
    (case k9 => first | k_is | rfl | decide +kernel)
    (case a10 => first | k_is | rfl | decide +kernel)
    (case l10 => first | k_is | rfl | decide +kernel)
    (case c10 => first | k_is | rfl | decide +kernel)
    (case k10 => first | k_is | rfl | decide +kernel)
    (case a11 => first | k_is | rfl | decide +kernel)
    (case l11 => first | k_is | rfl | decide +kernel)
    (case c11 => first | k_is | rfl | decide +kernel)
    (case k11 => first | k_is | rfl | decide +kernel)
    (case a12 => first | k_is | rfl | decide +kernel)
    (case l12 => first | k_is | rfl | decide +kernel)
    (case c12 => first | k_is | rfl | decide +kernel)
    (case k12 => first | k_is | rfl | decide +kernel)
    (case a13 => first | k_is | rfl | decide +kernel)
    (case l13 => first | k_is | rfl | decide +kernel)
    (case c13 => first | k_is | rfl | decide +kernel)
    (case k13 => first | k_is | rfl | decide +kernel)
    (case a14 => first | k_is | rfl | decide +kernel)
    (case l14 => first | k_is | rfl | decide +kernel)
    (case c14 => first | k_is | rfl | decide +kernel)
    (case k14 => first | k_is | rfl | decide +kernel)
    (case a15 => first | k_is | rfl | decide +kernel)
    (case l15 => first | k_is | rfl | decide +kernel)
    (case c15 => first | k_is | rfl | decide +kernel)
    (case k15 => first | k_is | rfl | decide +kernel)
    (case a16 => first | k_is | rfl | decide +kernel)
    (case l16 => first | k_is | rfl | decide +kernel)
    (case c16 => first | k_is | rfl | decide +kernel)
    (case k16 => first | k_is | rfl | decide +kernel)
    (case a17 => first | k_is | rfl | decide +kernel)
    (case l17 => first | k_is | rfl | decide +kernel)
    (case c17 => first | k_is | rfl | decide +kernel)
    (case k17 => first | k_is | rfl | decide +kernel)
    (case a18 => first | k_is | rfl | decide +kernel)
    (case l18 => first | k_is | rfl | decide +kernel)
    (case c18 => first | k_is | rfl | decide +kernel)
    (case k18 => first | k_is | rfl | decide +kernel)
    (case a19 => first | k_is | rfl | decide +kernel)
    (case l19 => first | k_is | rfl | decide +kernel)
    (case c19 => first | k_is | rfl | decide +kernel)
    (case k19 => first | k_is | rfl | decide +kernel)
    (case a20 => first | k_is | rfl | decide +kernel)
    (case l20 => first | k_is | rfl | decide +kernel)
    (case c20 => first | k_is | rfl | decide +kernel)
    (case k20 => first | k_is | rfl | decide +kernel)
    (case a21 => first | k_is | rfl | decide +kernel)
    (case l21 => first | k_is | rfl | decide +kernel)
    (case c21 => first | k_is | rfl | decide +kernel)
    (case k21 => first | k_is | rfl | decide +kernel)
    (case a22 => first | k_is | rfl | decide +kernel)
    (case l22 => first | k_is | rfl | decide +kernel)
    (case c22 => first | k_is | rfl | decide +kernel)
    (case k22 => first | k_is | rfl | decide +kernel)
    (case a23 => first | k_is | rfl | decide +kernel)
    (case l23 => first | k_is | rfl | decide +kernel)
    (case c23 => first | k_is | rfl | decide +kernel)
    (case k23 => first | k_is | rfl | decide +kernel)
    (case a24 => first | k_is | rfl | decide +kernel)
    (case l24 => first | k_is | rfl | decide +kernel)
    (case c24 => first | k_is | rfl | decide +kernel)
    (case k24 => first | k_is | rfl | decide +kernel)
    (case a25 => first | k_is | rfl | decide +kernel)
    (case l25 => first | k_is | rfl | decide +kernel)
    (case c25 => first | k_is | rfl | decide +kernel)
    (case k25 => first | k_is | rfl | decide +kernel)
    (case a26 => first | k_is | rfl | decide +kernel)
    (case l26 => first | k_is | rfl | decide +kernel)
    (case c26 => first | k_is | rfl | decide +kernel)
    (case k26 => first | k_is | rfl | decide +kernel)
    (case a27 => first | k_is | rfl | decide +kernel)
    (case l27 => first | k_is | rfl | decide +kernel)
    (case c27 => first | k_is | rfl | decide +kernel)
    (case k27 => first | k_is | rfl | decide +kernel)
    (case a28 => first | k_is | rfl | decide +kernel)
    (case l28 => first | k_is | rfl | decide +kernel)
    (case c28 => first | k_is | rfl | decide +kernel)
    (case k28 => first | k_is | rfl | decide +kernel)
    (case a29 => first | k_is | rfl | decide +kernel)
    (case l29 => first | k_is | rfl | decide +kernel)
    (case c29 => first | k_is | rfl | decide +kernel)
    (case k29 => first | k_is | rfl | decide +kernel)
    (case a30 => first | k_is | rfl | decide +kernel)
    (case l30 => first | k_is | rfl | decide +kernel)
    (case c30 => first | k_is | rfl | decide +kernel)
    (case k30 => first | k_is | rfl | decide +kernel)
    (case zlen => first | k_is | rfl | decide +kernel)
    (case zrange => first | k_is | rfl | decide +kernel)
    (case zint => first | k_is | rfl | decide +kernel)
    (case zabs => first | k_is | rfl | decide +kernel)
    (case zstr => first | k_is | rfl | decide +kernel)
    (case ztuple => first | k_is | rfl | decide +kernel)
    (case zlist => first | k_is | rfl | decide +kernel)
    (case zbool => first | k_is | rfl | decide +kernel)
    (case zisinstance => first | k_is | rfl | decide +kernel)
    (case zValueError => first | k_is | rfl | decide +kernel)
    (case zenumerate => first | k_is | rfl | decide +kernel)
    (case zset => first | k_is | rfl | decide +kernel)
    (case eG => first | k_is | rfl | decide +kernel)
    (case eRd => first | k_is | rfl | decide +kernel)
    (case eSg => first | k_is | rfl | decide +kernel)
    (case eVv => first | k_is | rfl | decide +kernel)
    (case eGt => first | k_is | rfl | decide +kernel)
    (case eTk => first | k_is | rfl | decide +kernel)
    (case eC0 => first | k_is | rfl | decide +kernel)
    (case eL0 => first | k_is | rfl | decide +kernel)
    (case eR0 => decide +kernel)
    (case eS0 => first | k_is | rfl | decide +kernel)
    (case eX0 => first | k_is | rfl | decide +kernel)
    (case eT0 => first | k_is | rfl | decide +kernel)
    (case eK0 => first | k_is | rfl | decide +kernel)
    (case eI0 => first | k_is | rfl | decide +kernel)
    (case eY0 => first | k_is | rfl | decide +kernel)
    (case eN0 => first | k_is | rfl | decide +kernel)
    (case eF0 => first | k_is | rfl | decide +kernel)
    (case eD0 => first | k_is | rfl | decide +kernel)
    (case eP0 => first | k_is | rfl | decide +kernel)
    (case eA0 => first | k_is | rfl | decide +kernel)
    (case eB0 => first | k_is | rfl | decide +kernel)
    (case eH0 => first | k_is | rfl | decide +kernel)
    (case eQ0 => first | k_is | rfl | decide +kernel)
    (case eZ0 => first | k_is | rfl | decide +kernel)
    (case eE0 => first | k_is | rfl | decide +kernel)
    (case eU0 => first | k_is | rfl | decide +kernel)
    (case eV0 => first | k_is | rfl | decide +kernel)
    (case eM0 => first | k_is | rfl | decide +kernel)
    (case eC1 => first | k_is | rfl | decide +kernel)
    (case eL1 => first | k_is | rfl | decide +kernel)
    (case eR1 => decide +kernel)
    (case eS1 => first | k_is | rfl | decide +kernel)
    (case eX1 => first | k_is | rfl | decide +kernel)
    (case eT1 => first | k_is | rfl | decide +kernel)
    (case eK1 => first | k_is | rfl | decide +kernel)
    (case eI1 => first | k_is | rfl | decide +kernel)
    (case eY1 => first | k_is | rfl | decide +kernel)
    (case eN1 => first | k_is | rfl | decide +kernel)
    (case eF1 => first | k_is | rfl | decide +kernel)
    (case eD1 => first | k_is | rfl | decide +kernel)
    (case eP1 => first | k_is | rfl | decide +kernel)
    (case eA1 => first | k_is | rfl | decide +kernel)
    (case eB1 => first | k_is | rfl | decide +kernel)
    (case eH1 => first | k_is | rfl | decide +kernel)
    (case eQ1 => first | k_is | rfl | decide +kernel)
    (case eZ1 => first | k_is | rfl | decide +kernel)
    (case eE1 => first | k_is | rfl | decide +kernel)
    (case eU1 => first | k_is | rfl | decide +kernel)
    (case eV1 => first | k_is | rfl | decide +kernel)
    (case eM1 => first | k_is | rfl | decide +kernel)
    (case eW0x1 => first | k_is | rfl | decide +kernel)
    (case eW1x0 => first | k_is | rfl | decide +kernel)
    (case xG0 => first | k_is | rfl | decide +kernel)
    (case xK0p0 => first | k_is | rfl | decide +kernel)
    (case xK1p0 => first | k_is | rfl | decide +kernel)
    (case pX0 => k_exc)
    (case pK0 => first | k_is | rfl | decide +kernel)
    (case pB0 => first | k_is | rfl | decide +kernel)
    (case pT0 => first | k_is | rfl | decide +kernel)
    (case pA0 => first | k_is | rfl | decide +kernel)
    (case pG0 => first | k_is | rfl | decide +kernel)
    (case pH0 => first | k_is | rfl | decide +kernel)
    (case pQ0 => first | k_is | rfl | decide +kernel)
    (case pZ0 => first | k_is | rfl | decide +kernel)
    (case pE0 => first | k_is | rfl | decide +kernel)
    (case pU0 => first | k_is | rfl | decide +kernel)
    (case pV0 => first | k_is | rfl | decide +kernel)
    (case pM0 => first | k_is | rfl | decide +kernel)
    (case pS0 => first | k_is | rfl | decide +kernel)
    (case pW0c0 => first | k_is | rfl | decide +kernel)
    (case pW0c1 => first | k_is | rfl | decide +kernel)
    (case pY0 => first | k_is | rfl | decide +kernel)
    (case pY1 => first | k_is | rfl | decide +kernel)
    (case yg0 => first | k_is | rfl | decide +kernel)
    (case yl0 => first | k_is | rfl | decide +kernel)
    (case yk0 => exact ⟨⟨_, _, rfl, rfl⟩, ⟨⟨_, _, rfl, rfl⟩, ⟨⟨_, _, rfl, rfl⟩, ⟨⟨_, _, rfl, rfl⟩, ⟨⟨_, _, rfl, rfl⟩, ⟨⟨_, _, rfl, rfl⟩, ⟨⟨_, _, rfl, rfl⟩, trivial⟩⟩⟩⟩⟩⟩⟩)
    (case yw0 => first | k_is | rfl | decide +kernel)
    (case yc0 => exact ⟨⟨_, rfl⟩, ⟨_, rfl⟩, ⟨⟨_, rfl⟩, ⟨_, rfl⟩, ⟨⟨_, rfl⟩, ⟨_, rfl⟩, ⟨⟨_, rfl⟩, ⟨_, rfl⟩, ⟨⟨_, rfl⟩, ⟨_, rfl⟩, ⟨⟨_, rfl⟩, ⟨_, rfl⟩, ⟨⟨_, rfl⟩, ⟨_, rfl⟩, trivial⟩⟩⟩⟩⟩⟩⟩)
    (case gc0 => first | k_is | rfl | decide +kernel)
    (case gc1 => first | k_is | rfl | decide +kernel)
