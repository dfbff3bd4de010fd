import PyProof.Rows.All
import Wide.All
import OpenK.AllK
import Wide.FinOn
import HandS.ForMost
import HandS.IsInst
import HandS.TupAny
import HandS.Style
import HandS.Codes
import HandS.TryOnly
import HandS.ReplaceLit
import HandS.ReplaceList
import HandS.ReplaceDef
import HandS.Text
import KE.KWords
import PySem.Challenge.RW_ownglass_k60_printed_programs
set_option Elab.async false
set_option linter.all false
set_option maxRecDepth 100000
set_option maxHeartbeats 4000000
set_option Elab.async false
set_option linter.all false
set_option maxRecDepth 100000
/-! L0: what the proofs of all laws share: heaps that keep all but some lists, trees (words and lists of trees), the law's hand, callees. -/
namespace Og
open PySem PySem.Spec PyProof.Rows L2

/-! ### heaps: each tracked thing stays, but for lists at the places S -/
def Keep (S : List Addr) (H H' : Hp) : Prop := ∀ b o, H b = some o → H' b = some o ∨ (b ∈ S ∧ ∃ xs ys, o = .lst xs ∧ H' b = some (.lst ys))
theorem Keep.refl {S : List Addr} {H : Hp} : Keep S H H := fun _ _ e => .inl e
theorem Keep.trans {S : List Addr} {H H1 H2 : Hp} (a : Keep S H H1) (b : Keep S H1 H2) : Keep S H H2 := fun p o e => by
  rcases a p o e with h | ⟨h, xs, ys, e1, e2⟩
  · exact b p o h
  · rcases b p _ e2 with h' | ⟨_, xs', ys', e3, e4⟩
    · exact .inr ⟨h, xs, ys, e1, h'⟩
    · exact .inr ⟨h, xs, ys', e1, e4⟩
theorem Keep.mono {S S' : List Addr} {H H1 : Hp} (a : Keep S H H1) (h : ∀ x ∈ S, x ∈ S') : Keep S' H H1 := fun p o e => by
  rcases a p o e with q | ⟨q, r⟩
  · exact .inl q
  · exact .inr ⟨h _ q, r⟩
theorem Keep.new {S : List Addr} {H : Hp} {p : Addr} {o : HO} (h : H p = none) : Keep S H (upd H p o) := fun b u e => .inl (by rw [upd_ne (ne_of_none e h)]; exact e)
theorem Keep.newT {S : List Addr} {H H1 : Hp} {p : Addr} {o : HO} (a : Keep S H H1) (h : H1 p = none) : Keep S H (upd H1 p o) := a.trans (Keep.new h)
theorem Keep.set {S : List Addr} {H : Hp} {p : Addr} {xs ys : List V} (h : H p = some (.lst xs)) (m : p ∈ S) : Keep S H (upd H p (.lst ys)) := fun b u e => by
  by_cases hb : b = p
  · subst hb
    rw [h] at e
    cases e
    exact .inr ⟨m, xs, ys, rfl, upd_same⟩
  · exact .inl (by rw [upd_ne hb]; exact e)
theorem Keep.setT {S : List Addr} {H H1 : Hp} {p : Addr} {xs ys : List V} (a : Keep S H H1) (h : H1 p = some (.lst xs)) (m : p ∈ S) : Keep S H (upd H1 p (.lst ys)) := a.trans (Keep.set h m)
/-- a list that is new may change -/
theorem Keep.drop {S : List Addr} {H H1 : Hp} {p : Addr} (a : Keep (p :: S) H H1) (h : H p = none) : Keep S H H1 := fun b o e => by
  rcases a b o e with q | ⟨q, r⟩
  · exact .inl q
  · rcases List.mem_cons.mp q with q | q
    · subst q
      rw [h] at e
      cases e
    · exact .inr ⟨q, r⟩
theorem Keep.cons {S : List Addr} {H H1 : Hp} {p : Addr} (a : Keep S H H1) : Keep (p :: S) H H1 := a.mono fun _ h => List.mem_cons_of_mem _ h
theorem Keep.get {S : List Addr} {H H1 : Hp} {b : Addr} {o : HO} (a : Keep S H H1) (e : H b = some o) (h : b ∉ S) : H1 b = some o := by
  rcases a b o e with q | ⟨q, _⟩
  · exact q
  · exact absurd q h
theorem Keep.free {S : List Addr} {H H1 : Hp} {b : Addr} (a : Keep S H H1) (e : H1 b = none) : H b = none := by
  cases q : H b with
  | none => rfl
  | some o =>
    rcases a b o q with r | ⟨_, _, _, _, r⟩ <;> rw [r] at e <;> cases e
theorem Keep.rdT {S : List Addr} {H H1 : Hp} {b : Addr} {xs : List V} (a : Keep S H H1) (e : Rd H b (.tup xs)) : Rd H1 b (.tup xs) := by
  rcases e with e | ⟨o, e⟩
  · rcases a b _ e with q | ⟨_, _, _, q, _⟩
    · exact .inl q
    · cases q
  · rcases a b _ e with q | ⟨_, _, _, q, _⟩
    · exact .inr ⟨o, q⟩
    · cases q
theorem Keep.sqT {K : PySem.W.Frag} {S : List Addr} {H H1 : Hp} {b : Addr} {xs : List V} (a : Keep S H H1) (e : SqT K H b xs) : SqT K H1 b xs := by
  rcases e with e | e
  · exact .inl (a.rdT e)
  · exact .inr e
theorem Keep.sqL {K : PySem.W.Frag} {S : List Addr} {H H1 : Hp} {b : Addr} {xs : List V} (a : Keep S H H1) (h : b ∉ S) (e : SqL K H b xs) : SqL K H1 b xs := by
  rcases e with (e | ⟨o, e⟩) | e
  · exact .inl (.inl (a.get e h))
  · exact .inl (.inr ⟨o, a.get e h⟩)
  · exact .inr e
theorem Keep.tup {S : List Addr} {H H1 : Hp} {b : Addr} {xs : List V} (a : Keep S H H1) (e : H b = some (.tup xs)) : H1 b = some (.tup xs) := by
  rcases a b _ e with q | ⟨_, _, _, q, _⟩
  · exact q
  · cases q
theorem Keep.of_same {S : List Addr} {H H1 : Hp} (a : Same H H1) : Keep S H H1 := fun b o e => .inl (a b o e)
theorem Keep.same {H H1 : Hp} (a : Keep [] H H1) : Same H H1 := fun b o e => a.get e (by simp)

/-! ### texts by their codes -/
def tx (cs : List Nat) : Str := ⟨cs.toArray⟩
theorem tx_list (cs : List Nat) : (tx cs).cps.toList = cs := rfl
theorem tx_len (cs : List Nat) : (tx cs).length = cs.length := by
  show cs.toArray.size = cs.length
  simp
theorem tx_app (a b : List Nat) : tx a ++ tx b = tx (a ++ b) := by
  show Str.mk (a.toArray ++ b.toArray) = Str.mk (a ++ b).toArray
  simp
theorem tx_of (s : Str) : s = tx s.cps.toList := by
  cases s
  rfl
theorem tx_inj {a b : List Nat} (h : tx a = tx b) : a = b := by
  have q := congrArg (fun s : Str => s.cps.toList) h
  exact q
theorem tx_str {a b : List Nat} (h : V.str (tx a) = V.str (tx b)) : a = b := tx_inj (V.str.inj h)
theorem atI_tx {cs : List Nat} {z : Int} {c : Nat} (h : atI (tx cs).cps.toList z = some c) : atI cs z = some c := h
/-! ### trees -/
inductive Tree where
  | w (x : List Nat)
  | l (ts : List Tree)
mutual
def Tr (K : PySem.W.Frag) (H : Hp) : V → Tree → Prop
  | v, .w x => v = .str (tx x)
  | v, .l ts => ∃ a vs, v = .ref a ∧ SqT K H a vs ∧ Trs K H vs ts
def Trs (K : PySem.W.Frag) (H : Hp) : List V → List Tree → Prop
  | vs, [] => vs = []
  | vs, t :: ts => ∃ v r, vs = v :: r ∧ Tr K H v t ∧ Trs K H r ts
end
mutual
theorem Tr.keep {K : PySem.W.Frag} {S : List Addr} {H H1 : Hp} (a : Keep S H H1) : ∀ {v : V} {t : Tree}, Tr K H v t → Tr K H1 v t
  | v, .w x, h => by rw [Tr] at h ⊢; exact h
  | v, .l ts, h => by
    rw [Tr] at h ⊢
    obtain ⟨p, vs, e, h1, h2⟩ := h
    exact ⟨p, vs, e, a.sqT h1, Trs.keep a h2⟩
theorem Trs.keep {K : PySem.W.Frag} {S : List Addr} {H H1 : Hp} (a : Keep S H H1) : ∀ {vs : List V} {ts : List Tree}, Trs K H vs ts → Trs K H1 vs ts
  | vs, [], h => by rw [Trs] at h ⊢; exact h
  | vs, t :: ts, h => by
    rw [Trs] at h ⊢
    obtain ⟨v, r, e, h1, h2⟩ := h
    exact ⟨v, r, e, Tr.keep a h1, Trs.keep a h2⟩
end
section
variable {K : PySem.W.Frag} {H : Hp}
theorem tr_w {x : List Nat} : Tr K H (.str (tx x)) (.w x) := by rw [Tr]
theorem tr_l {a : Addr} {vs : List V} {ts : List Tree} (h : SqT K H a vs) (r : Trs K H vs ts) : Tr K H (.ref a) (.l ts) := by rw [Tr]; exact ⟨a, vs, rfl, h, r⟩
theorem trs_nil : Trs K H [] [] := by rw [Trs]
theorem trs_cons {v : V} {vs : List V} {t : Tree} {ts : List Tree} (h : Tr K H v t) (r : Trs K H vs ts) : Trs K H (v :: vs) (t :: ts) := by rw [Trs]; exact ⟨v, vs, rfl, h, r⟩
theorem Tr.word {v : V} {x : List Nat} (h : Tr K H v (.w x)) : v = .str (tx x) := by rw [Tr] at h; exact h
theorem Tr.list {v : V} {ts : List Tree} (h : Tr K H v (.l ts)) : ∃ a vs, v = .ref a ∧ SqT K H a vs ∧ Trs K H vs ts := by rw [Tr] at h; exact h
theorem Trs.nil {vs : List V} (h : Trs K H vs []) : vs = [] := by rw [Trs] at h; exact h
theorem Trs.cons {vs : List V} {t : Tree} {ts : List Tree} (h : Trs K H vs (t :: ts)) : ∃ v r, vs = v :: r ∧ Tr K H v t ∧ Trs K H r ts := by rw [Trs] at h; exact h
theorem Trs.length : ∀ {vs : List V} {ts : List Tree}, Trs K H vs ts → vs.length = ts.length
  | vs, [], h => by rw [h.nil]; rfl
  | vs, t :: ts, h => by
    obtain ⟨v, r, rfl, _, h2⟩ := h.cons
    rw [List.length_cons, List.length_cons, Trs.length h2]
theorem Trs.get : ∀ {vs : List V} {ts : List Tree} {i : Nat} {t : Tree}, Trs K H vs ts → ts[i]? = some t → ∃ v, vs[i]? = some v ∧ Tr K H v t
  | vs, [], i, t, h, e => by simp at e
  | vs, t' :: ts, 0, t, h, e => by
    obtain ⟨v, r, rfl, h1, h2⟩ := h.cons
    have e' : t' = t := Option.some.inj e
    subst e'
    exact ⟨v, rfl, h1⟩
  | vs, t' :: ts, i + 1, t, h, e => by
    obtain ⟨v, r, rfl, h1, h2⟩ := h.cons
    exact Trs.get (i := i) h2 e
theorem Trs.append : ∀ {vs ws : List V} {ts us : List Tree}, Trs K H vs ts → Trs K H ws us → Trs K H (vs ++ ws) (ts ++ us)
  | vs, ws, [], us, h, g => by rw [h.nil]; exact g
  | vs, ws, t :: ts, us, h, g => by
    obtain ⟨v, r, rfl, h1, h2⟩ := h.cons
    exact trs_cons h1 (Trs.append h2 g)
theorem Trs.take : ∀ {vs : List V} {ts : List Tree} (n : Nat), Trs K H vs ts → Trs K H (vs.take n) (ts.take n)
  | vs, ts, 0, h => trs_nil
  | vs, [], n + 1, h => by rw [h.nil]; exact trs_nil
  | vs, t :: ts, n + 1, h => by
    obtain ⟨v, r, rfl, h1, h2⟩ := h.cons
    exact trs_cons h1 (Trs.take n h2)
theorem Trs.drop : ∀ {vs : List V} {ts : List Tree} (n : Nat), Trs K H vs ts → Trs K H (vs.drop n) (ts.drop n)
  | vs, ts, 0, h => h
  | vs, [], n + 1, h => by rw [h.nil]; exact trs_nil
  | vs, t :: ts, n + 1, h => by
    obtain ⟨v, r, rfl, h1, h2⟩ := h.cons
    exact Trs.drop n h2
theorem tr_tup {a : Addr} {vs : List V} {ts : List Tree} (h : H a = some (.tup vs)) (r : Trs K H vs ts) : Tr K H (.ref a) (.l ts) := tr_l (.inl (.inl h)) r
end
theorem Trs.snoc {K : PySem.W.Frag} {H : Hp} {vs : List V} {its : List Tree} {x : Tree} (h : Trs K H vs (its ++ [x])) : ∃ vs' v, vs = vs' ++ [v] ∧ Trs K H vs' its ∧ Tr K H v x := by
  induction its generalizing vs with
  | nil =>
    obtain ⟨v, r, rfl, h1, h2⟩ := h.cons
    rw [h2.nil]
    exact ⟨[], v, rfl, trs_nil, h1⟩
  | cons t ts ih =>
    obtain ⟨v, r, rfl, h1, h2⟩ := h.cons
    obtain ⟨vs', v', rfl, h3, h4⟩ := ih h2
    exact ⟨v :: vs', v', rfl, trs_cons h1 h3, h4⟩
theorem Trs.one {K : PySem.W.Frag} {H : Hp} {v : V} {t : Tree} (h : Tr K H v t) : Trs K H [v] [t] := trs_cons h trs_nil
theorem last_get {α : Type} (xs : List α) (x : α) : (xs ++ [x])[(xs ++ [x]).length - 1]? = some x := by
  rw [List.length_append, List.length_singleton, Nat.add_sub_cancel, List.getElem?_append_right (Nat.le_refl _), Nat.sub_self]
  rfl
theorem snoc_of {α : Type} {xs : List α} (h : xs ≠ []) : ∃ ys y, xs = ys ++ [y] := ⟨xs.dropLast, xs.getLast h, (List.dropLast_concat_getLast h).symm⟩
theorem emp_iff {vs : List V} {its : List Tree} {K : PySem.W.Frag} {H : Hp} (h : Trs K H vs its) : vs.isEmpty = its.isEmpty := by
  cases its with
  | nil => rw [h.nil]; rfl
  | cons t r => obtain ⟨v, r', rfl, _⟩ := h.cons; rfl
theorem SqT.of_tup {K : PySem.W.Frag} {H : Hp} {a : Addr} {vs : List V} (h : H a = some (.tup vs)) : SqT K H a vs := .inl (.inl h)

/-- a comprehension without a test -/
theorem yes {σ : L2.St} {H : Hp} {A B : Hp → Prop} (h : A H) : tYes σ H fun b H3 => if b = true then A H3 else B H3 := by
  show (if true = true then A H else B H)
  rw [if_pos rfl]
  exact h
/-! ### lists of ints -/
theorem map_int_get {ns : List Int} {i : Nat} {x : V} (h : (ns.map V.int)[i]? = some x) : ∃ n, x = .int n ∧ ns[i]? = some n := by
  rw [List.getElem?_map] at h
  cases e : ns[i]? with
  | none => rw [e] at h; cases h
  | some n => rw [e] at h; exact ⟨n, (Option.some.inj h).symm, rfl⟩
theorem atI_of {α : Type} {xs : List α} {z : Int} (h0 : 0 ≤ z) (h : z < (xs.length : Int)) : ∃ x, atI xs z = some x ∧ xs[z.toNat]? = some x := by
  have l : z.toNat < xs.length := by omega
  refine ⟨xs[z.toNat], ?_, List.getElem?_eq_getElem l⟩
  have q := atI_nat (List.getElem?_eq_getElem l)
  rw [show ((z.toNat : Nat) : Int) = z by omega] at q
  exact q
theorem atI_zero {α : Type} (x : α) (xs : List α) : atI (x :: xs) 0 = some x := atI_nat (j := 0) rfl
theorem atI_int {ns : List Int} {z : Int} (h0 : 0 ≤ z) (h : z < (ns.length : Int)) : ∃ n, atI (ns.map V.int) z = some (.int n) := by
  obtain ⟨x, h1, h2⟩ := atI_of (xs := ns.map V.int) h0 (by rw [List.length_map]; exact h)
  obtain ⟨n, rfl, _⟩ := map_int_get h2
  exact ⟨n, h1⟩
theorem ixN_int {n : Nat} {z : Int} (h0 : 0 ≤ z) (h : z < (n : Int)) : ixN n z = some z.toNat := by
  unfold ixN
  rw [if_pos h0, if_pos h]
theorem map_int_set (ns : List Int) (j : Nat) (y : Int) : (ns.map V.int).set j (.int y) = (ns.set j y).map V.int := by
  rw [List.map_set]
theorem map_int_app (ns : List Int) (y : Int) : ns.map V.int ++ [V.int y] = (ns ++ [y]).map V.int := by
  rw [List.map_append]; rfl

/-! ### isinstance, truth -/
def Tree.isW : Tree → Bool
  | .w _ => true
  | .l _ => false
section
variable {K : PySem.W.Frag} {H : Hp}
theorem tyX_tup {a : Addr} {xs : List V} (h : SqT K H a xs) : TyX K H (.ref a) (.type "tuple") := by
  rcases h with (h | ⟨o, h⟩) | ⟨o, its, n, h, c, _⟩
  · exact .base (.tup h)
  · exact .fTuple h
  · exact .kTuple h c
theorem kit_ss : PySem.W.kitOne K (.type "str") (.type "str") = some true := kit_ty (by decide +kernel)
theorem kit_ts : PySem.W.kitOne K (.type "tuple") (.type "str") = some false := kit_ty (by decide +kernel)
theorem kit_st : PySem.W.kitOne K (.type "str") (.type "tuple") = some false := kit_ty (by decide +kernel)
theorem kit_tt : PySem.W.kitOne K (.type "tuple") (.type "tuple") = some true := kit_ty (by decide +kernel)
/-- the witnesses of isinstance(v, str), isinstance(v, tuple) for a tree v -/
theorem isi_str {v : V} {t : Tree} (h : Tr K H v t) : ∃ ty u, ClsV (.ty "str") u ∧ TyX K H v ty ∧ PySem.W.kitOne K ty u = some t.isW := by
  cases t with
  | w x => rw [h.word]; exact ⟨_, _, .ty _, .base (.str _), kit_ss⟩
  | l ts =>
    obtain ⟨a, vs, rfl, h1, _⟩ := h.list
    exact ⟨_, _, .ty _, tyX_tup h1, kit_ts⟩
theorem isi_tup {v : V} {t : Tree} (h : Tr K H v t) : ∃ ty u, ClsV (.ty "tuple") u ∧ TyX K H v ty ∧ PySem.W.kitOne K ty u = some (!t.isW) := by
  cases t with
  | w x => rw [h.word]; exact ⟨_, _, .ty _, .base (.str _), kit_st⟩
  | l ts =>
    obtain ⟨a, vs, rfl, h1, _⟩ := h.list
    exact ⟨_, _, .ty _, tyX_tup h1, kit_tt⟩
theorem isi_strS {x : Str} : ∃ ty u, ClsV (.ty "str") u ∧ TyX K H (.str x) ty ∧ PySem.W.kitOne K ty u = some true := ⟨_, _, .ty _, .base (.str _), kit_ty (by decide +kernel)⟩
theorem isi_boolB {x : Bool} : ∃ ty u, ClsV (.ty "bool") u ∧ TyX K H (.bl x) ty ∧ PySem.W.kitOne K ty u = some true := ⟨_, _, .ty _, .base (.bl _), kit_ty (by decide +kernel)⟩
/-- a test that is a value of True or False -/
theorem tru_list {p : Addr} {xs : List V} (h : H p = some (.lst xs)) : TruV K (.ref p) H (!xs.isEmpty) := .inl ⟨xs, SqL.of h, rfl⟩
end
theorem sIx0 (n : Nat) : HT.sIx n 0 none = 0 := rfl
/-- a text cut: from i to j -/
theorem cutS_nat (cs : List Nat) {i j : Nat} (h : i ≤ j) (hj : j ≤ cs.length) : cutS (tx cs) (some (i : Int)) (some (j : Int)) = tx ((cs.drop i).take (j - i)) := by
  unfold cutS
  rw [HT.sIx_nat, HT.sIx_nat, tx_len, tx_list]
  rw [Nat.min_eq_left hj, Nat.min_eq_left (Nat.le_trans h hj)]
  rfl
theorem cutS_to (cs : List Nat) {j : Nat} (hj : j ≤ cs.length) : cutS (tx cs) none (some (j : Int)) = tx (cs.take j) := by
  unfold cutS
  rw [HT.sIx_nat, tx_len, tx_list, Nat.min_eq_left hj, sIx0, Nat.sub_zero, List.drop_zero]
  rfl
theorem cutS_from (cs : List Nat) {i : Nat} (hj : i ≤ cs.length) : cutS (tx cs) (some (i : Int)) none = tx (cs.drop i) := by
  unfold cutS
  rw [HT.sIx_nat, tx_len, tx_list, Nat.min_eq_left hj, HT.sIx_none]
  show Str.mk (List.take (cs.length - i) (cs.drop i)).toArray = _
  rw [List.take_of_length_le (by rw [List.length_drop]; omega)]
  rfl

/-! ### callees -/
structure Callee (P : Program) (w : World) (K : PySem.W.Frag) (mg : Str → Option Value) (base : Heap) (CX : CXT) (k : Nat) (x : Str) (f : Addr) (fd : FuncData) (ps : List Str) (sp : Sp) : Prop where
  ok : FnOk P w K mg base CX k f fd ps sp
  mg : mg x = some (.ref f)
  kp : PySem.W.keepIn K (.ref f) = true
  bi : Binds K fd ps []
def Has (P : Program) (w : World) (K : PySem.W.Frag) (mg : Str → Option Value) (base : Heap) (k : Nat) (x : Str) (ps : List Str) (sp : Sp) : Prop := ∃ f fd, Callee P w K mg base CX0 k x f fd ps sp
theorem Has.mono {P : Program} {w : World} {K : PySem.W.Frag} {mg : Str → Option Value} {base : Heap} {j k : Nat} {x : Str} {ps : List Str} {sp : Sp} (h : Has P w K mg base j x ps sp) (l : j ≤ k) : Has P w K mg base k x ps sp := by
  obtain ⟨f, fd, c⟩ := h
  exact ⟨f, fd, c.ok.mono l, c.mg, c.kp, c.bi⟩
/-- a def with a promise for each n: one promise for all up to N -/
theorem has_upto {P : Program} {w : World} {K : PySem.W.Frag} {mg : Str → Option Value} {base : Heap} {k : Nat} {x : Str} {f : Addr} {fd : FuncData} {ps : List Str} {sp : Nat → Sp} (h : ∀ n, Callee P w K mg base CX0 (k + n + 1) x f fd ps (sp n)) (N : Nat) :
    Has P w K mg base (k + N + 1) x ps (fun vs H Q E => ∃ n, n ≤ N ∧ sp n vs H Q E) := by
  refine ⟨f, fd, ⟨fun vs H Q E q => ?_, fun A outer s H args us vs Q E hr e b v q => ?_⟩, (h 0).mg, (h 0).kp, (h 0).bi⟩
  · obtain ⟨n, _, q⟩ := q
    exact (h n).ok.len vs H Q E q
  · obtain ⟨n, hn, q⟩ := q
    exact ((h n).ok.mono (show k + n + 1 ≤ k + N + 1 by omega)).run A outer s H args us vs Q E hr e b v q
/-- a def as it stands behind the top -/
structure DefAt (K : PySem.W.Frag) (mg : Str → Option Value) (x : Str) (st : Stmt) (ps : List Str) : Prop where
  ex : ∃ f fd, Fun K x x st f fd ∧ mg x = some (.ref f) ∧ Binds K fd ps []
section
variable {X : Cx} {k : Nat} {x : Str} {f : Addr} {fd : FuncData} {ps : List Str} {sp : Sp} {p pos : Pos} {e : Expr} {es : List Expr} {t : TA}
theorem cal (C : Callee X.prog X.w X.K X.mg X.base CX0 k x f fd ps sp) (hr : Room k X.A) (hg : Gl X x) (ha : PA X (e :: es) t) (hdb : (x == ("__debug__" : Str)) = false := by decide)
    (he : starEach (e :: es) X.env = (false, eval e X.env) :: starEach es X.env := by rfl) (hpl : (backTo pos (starEach es X.env)).any (·.1) = false := by rfl) : PE X (.Call (.Name x p) (e :: es) [] pos) (tCall sp [] E0 t) :=
  pe_call C.ok hr hg C.mg C.kp C.bi .nil pass0 ha hdb he hpl
end
/-! ### the law's hand: a list of the draws (at d) and a number; all that is asked of it is that it is one -/
def Hd (H : Hp) (h d : Addr) : Prop := ∃ (n : Nat) (ds : List Int), H h = some (.lst [.ref d, .int n]) ∧ H d = some (.lst (ds.map V.int)) ∧ ds.length ≤ 100000
theorem Hd.ne {H : Hp} {h d : Addr} (a : Hd H h d) : d ≠ h := by
  intro q
  obtain ⟨n, ds, e, e2, _⟩ := a
  subst q
  rw [e] at e2
  have q := HO.lst.inj (Option.some.inj e2)
  cases ds with
  | nil => cases q
  | cons x r =>
    have := (List.cons.inj q).1
    cases this
theorem Hd.lst {H : Hp} {h d : Addr} (a : Hd H h d) : ∃ xs, H h = some (.lst xs) := by
  obtain ⟨n, ds, e, _⟩ := a
  exact ⟨_, e⟩
theorem Hd.neH {H : Hp} {h d p : Addr} (a : Hd H h d) (q : H p = none) : h ≠ p := by
  obtain ⟨n, ds, e, _⟩ := a
  exact ne_of_none e q
theorem Hd.neD {H : Hp} {h d p : Addr} (a : Hd H h d) (q : H p = none) : d ≠ p := by
  obtain ⟨n, ds, _, e, _⟩ := a
  exact ne_of_none e q
theorem Hd.keep {S : List Addr} {H H1 : Hp} {h d : Addr} (a : Hd H h d) (k : Keep S H H1) (hh : h ∉ S) (hd : d ∉ S) : Hd H1 h d := by
  obtain ⟨n, ds, e1, e2, l⟩ := a
  exact ⟨n, ds, k.get e1 hh, k.get e2 hd, l⟩
theorem Hd.keep0 {H H1 : Hp} {h d : Addr} (a : Hd H h d) (k : Keep [] H H1) : Hd H1 h d := a.keep k (by simp) (by simp)
theorem Hd.upd {H : Hp} {h d p : Addr} {o : HO} (a : Hd H h d) (q1 : h ≠ p) (q2 : d ≠ p) : Hd (upd H p o) h d := by
  obtain ⟨n, ds, e1, e2, l⟩ := a
  exact ⟨n, ds, by rw [upd_ne q1]; exact e1, by rw [upd_ne q2]; exact e2, l⟩
theorem Hd.new {H : Hp} {h d p : Addr} {o : HO} (a : Hd H h d) (q : H p = none) : Hd (L2.upd H p o) h d := a.upd (a.neH q) (a.neD q)
theorem sizeL {n : Nat} (h : n ≤ 100000) : n ≤ sizeLine := Nat.le_trans h (by decide)
theorem sizeLt {n : Nat} (h : n ≤ 100000) : n < sizeLine := Nat.lt_of_le_of_lt h (by decide)
end Og

namespace Og
open PySem PySem.Spec PyProof.Rows L2
/-! ### tuples of trees: index, slice, concatenation, length, making -/
def cutL {α : Type} (xs : List α) (lo hi : Option Int) : List α := (xs.drop (HT.sIx xs.length 0 lo)).take (HT.sIx xs.length xs.length hi - HT.sIx xs.length 0 lo)
theorem cutL_whole {α : Type} {xs : List α} {lo hi : Option Int} (h : HT.sIx xs.length 0 lo = 0 ∧ HT.sIx xs.length xs.length hi = xs.length) : cutL xs lo hi = xs := by
  unfold cutL
  rw [h.1, h.2, List.drop_zero, Nat.sub_zero, List.take_length]
theorem cutL_to {α : Type} (xs : List α) {j : Nat} (hj : j ≤ xs.length) : cutL xs none (some (j : Int)) = xs.take j := by
  unfold cutL
  rw [HT.sIx_nat, Nat.min_eq_left hj, sIx0, Nat.sub_zero, List.drop_zero]
theorem cutL_from {α : Type} (xs : List α) {i : Nat} (hj : i ≤ xs.length) : cutL xs (some (i : Int)) none = xs.drop i := by
  unfold cutL
  rw [HT.sIx_nat, Nat.min_eq_left hj, HT.sIx_none, List.take_of_length_le (by rw [List.length_drop]; exact Nat.le_refl _)]
theorem cutL_mid {α : Type} (xs : List α) {i j : Nat} (h : i ≤ j) (hj : j ≤ xs.length) : cutL xs (some (i : Int)) (some (j : Int)) = (xs.drop i).take (j - i) := by
  unfold cutL
  rw [HT.sIx_nat, HT.sIx_nat, Nat.min_eq_left hj, Nat.min_eq_left (Nat.le_trans h hj)]
theorem cutL_len {α : Type} (xs : List α) (lo hi : Option Int) : (cutL xs lo hi).length ≤ xs.length := by
  unfold cutL
  rw [List.length_take, List.length_drop]
  omega
theorem cutL_mem {α : Type} {xs : List α} {lo hi : Option Int} {x : α} (h : x ∈ cutL xs lo hi) : x ∈ xs := List.mem_of_mem_drop (List.mem_of_mem_take h)
section
variable {K : PySem.W.Frag} {H : Hp}
theorem Trs.cut {vs : List V} {ts : List Tree} (lo hi : Option Int) (h : Trs K H vs ts) : Trs K H (cutV vs lo hi) (cutL ts lo hi) := by
  unfold cutV cutL
  rw [h.length]
  exact (h.drop _).take _
theorem Tr.tup {v : V} {ts : List Tree} (h : Tr K H v (.l ts)) : ∃ a vs, v = .ref a ∧ SqT K H a vs ∧ vs.length = ts.length := by
  obtain ⟨a, vs, e, hs, r⟩ := h.list
  exact ⟨a, vs, e, hs, r.length⟩
/-- t[lo:hi] -/
theorem sl_tr {x : V} {ts : List Tree} {lo hi : Option Int} {Q : VK} (h : Tr K H x (.l ts)) (q : ∀ v H', Tr K H' v (.l (cutL ts lo hi)) → Keep [] H H' → Q v H') : rSlA K x lo hi H Q := by
  obtain ⟨a, vs, rfl, hs, r⟩ := h.list
  refine ⟨a, vs, rfl, hs, fun w => ?_, fun _ p np => ?_⟩
  · rw [r.length] at w
    exact q _ _ (by rw [cutL_whole w]; exact h) Keep.refl
  · exact q _ _ (tr_tup upd_same ((r.cut lo hi).keep (Keep.new (S := []) np))) (Keep.new np)
/-- t + u -/
theorem cat_tr {x y : V} {ts us : List Tree} {Q : VK} (hx : Tr K H x (.l ts)) (hy : Tr K H y (.l us)) (hz : ts.length + us.length ≤ sizeLine) (q : ∀ v H', Tr K H' v (.l (ts ++ us)) → Keep [] H H' → Q v H') : rCatA K x y H Q := by
  obtain ⟨a, vs, rfl, hs, r⟩ := hx.list
  obtain ⟨b, ws, rfl, hs2, r2⟩ := hy.list
  refine ⟨a, b, vs, ws, rfl, rfl, hs, hs2, by rw [r.length, r2.length]; exact hz, fun e => ?_, fun _ e => ?_, fun _ _ p np => ?_⟩
  · subst e
    have : ts = [] := List.length_eq_zero_iff.mp r.length.symm
    subst this
    exact q _ _ hy Keep.refl
  · subst e
    have : us = [] := List.length_eq_zero_iff.mp r2.length.symm
    subst this
    rw [List.append_nil] at q
    exact q _ _ hx Keep.refl
  · exact q _ _ (tr_tup upd_same ((r.append r2).keep (Keep.new (S := []) np))) (Keep.new np)
/-- t[i] -/
theorem ix_tr {x : V} {ts : List Tree} {i : Int} {t : Tree} {Q : VK} (h : Tr K H x (.l ts)) (e : atI ts i = some t) (q : ∀ v, Tr K H v t → Q v H) : rIxT K x (.int i) H Q := by
  obtain ⟨a, vs, rfl, hs, r⟩ := h.list
  unfold atI at e
  cases hi : ixN ts.length i with
  | none => rw [hi] at e; cases e
  | some j =>
    rw [hi] at e
    obtain ⟨v, hv, tv⟩ := r.get (i := j) e
    refine ⟨a, vs, i, v, rfl, rfl, hs, ?_, q v tv⟩
    unfold atI
    rw [r.length, hi]
    exact hv
/-- len(t) -/
theorem len_tr {x : V} {ts : List Tree} {Q : VK} (h : Tr K H x (.l ts)) (q : Q (.int (ts.length : Nat)) H) : ∃ p ys, [x] = [V.ref p] ∧ (SqL K H p ys ∨ SqT K H p ys) ∧ Q (.int ys.length) H := by
  obtain ⟨a, vs, rfl, hs, r⟩ := h.list
  exact ⟨a, vs, rfl, .inr hs, by rw [r.length]; exact q⟩
/-- (a, b, ..) -/
theorem mk_tr {p : Addr} {vs : List V} {ts : List Tree} (np : H p = none) (r : Trs K H vs ts) : Tr K (upd H p (.tup vs)) (.ref p) (.l ts) ∧ Keep [] H (upd H p (.tup vs)) :=
  ⟨tr_tup upd_same (r.keep (Keep.new (S := []) np)), Keep.new np⟩
end
/-- x != y, x == y of trees one of which is a word -/
def rNeTr (K : PySem.W.Frag) : R2 := fun x y H Q => ∃ t u : Tree, Tr K H x t ∧ Tr K H y u ∧ (t.isW = true ∨ u.isW = true) ∧ ∀ b : Bool, (b = true ↔ t ≠ u) → Q (.bl b) H
def rEqTr (K : PySem.W.Frag) : R2 := fun x y H Q => ∃ t u : Tree, Tr K H x t ∧ Tr K H y u ∧ (t.isW = true ∨ u.isW = true) ∧ ∀ b : Bool, (b = true ↔ t = u) → Q (.bl b) H
theorem op_neTr {X : Cx} (hu : X.A.units + 64 < cLine) : OpR X (compareOp .NotEq) (rNeTr X.K) := by
  intro pins s σ H x y v u Q I rx ry h
  obtain ⟨t, t', hx, hy, hw, q⟩ := h
  cases t with
  | w a =>
    have ex := hx.word
    subst ex
    cases t' with
    | w b =>
      have ey := hy.word
      subst ey
      refine op_ne pins s σ H _ _ v u Q I rx ry ⟨rfl, q _ ?_⟩
      by_cases e : a = b
      · subst e; simp
      · have : ¬ V.str (tx a) = V.str (tx b) := fun z => e (tx_str z)
        have e2 : ¬ Tree.w a = Tree.w b := fun z => e (Tree.w.inj z)
        simp [this, e2]
    | l us =>
      obtain ⟨p, ws, rfl, hs, _⟩ := hy.list
      obtain ⟨its, _, pt, _⟩ := I.tuple hs
      obtain ⟨tk, rfl⟩ := rx
      obtain rfl : u = Value.ref p := ry
      exact SeqAt.RcNeAt.str_tuple _ _ pt (by omega) _ _ _ _ ⟨.bl true, H, I, rfl, q true (by simp)⟩
  | l ts =>
    obtain ⟨p, ws, rfl, hs, _⟩ := hx.list
    cases t' with
    | w b =>
      have ey := hy.word
      subst ey
      obtain ⟨its, _, pt, _⟩ := I.tuple hs
      obtain ⟨tk, rfl⟩ := ry
      obtain rfl : v = Value.ref p := rx
      exact SeqAt.RcNeAt.tuple_str _ _ pt (by omega) _ _ _ _ ⟨.bl true, H, I, rfl, q true (by simp)⟩
    | l us => rcases hw with h | h <;> cases h
theorem op_eqTr {X : Cx} (hu : X.A.units + 64 < cLine) : OpR X (compareOp .Eq) (rEqTr X.K) := by
  intro pins s σ H x y v u Q I rx ry h
  obtain ⟨t, t', hx, hy, hw, q⟩ := h
  cases t with
  | w a =>
    have ex := hx.word
    subst ex
    cases t' with
    | w b =>
      have ey := hy.word
      subst ey
      refine op_eq pins s σ H _ _ v u Q I rx ry ⟨rfl, q _ ?_⟩
      by_cases e : a = b
      · subst e; simp
      · have : ¬ V.str (tx a) = V.str (tx b) := fun z => e (tx_str z)
        have e2 : ¬ Tree.w a = Tree.w b := fun z => e (Tree.w.inj z)
        simp [this, e2]
    | l us =>
      obtain ⟨p, ws, rfl, hs, _⟩ := hy.list
      obtain ⟨its, _, pt, _⟩ := I.tuple hs
      obtain ⟨tk, rfl⟩ := rx
      obtain rfl : u = Value.ref p := ry
      exact SeqAt.RcAt.str_tuple _ _ pt (by omega) _ _ _ _ ⟨.bl false, H, I, rfl, q false (by simp)⟩
  | l ts =>
    obtain ⟨p, ws, rfl, hs, _⟩ := hx.list
    cases t' with
    | w b =>
      have ey := hy.word
      subst ey
      obtain ⟨its, _, pt, _⟩ := I.tuple hs
      obtain ⟨tk, rfl⟩ := ry
      obtain rfl : v = Value.ref p := rx
      exact SeqAt.RcAt.tuple_str _ _ pt (by omega) _ _ _ _ ⟨.bl false, H, I, rfl, q false (by simp)⟩
    | l us => rcases hw with h | h <;> cases h
end Og

namespace Og
open PySem PySem.Spec PyProof.Rows L2
def topS (i : Nat) : Stmt := PySem.Challenge.pw_ownglass_k60_printed_programs.main.body.getD i (.Pass ⟨0, 0, 0, 0⟩)
def txA : Stmt → Str
  | .Assign _ (.Constant (.str x) _ _) _ => x
  | _ => ⟨#[]⟩
abbrev t_TRANSLATOR : Str := txA (topS 12)
abbrev t_MACHINE_UNIVERSAL : Str := txA (topS 13)
abbrev t_UNIVERSAL : Str := txA (topS 17)
abbrev s_read_value : Stmt := topS 8
abbrev n_read_value : List Str := ["text", "unfinished", "at", "items", "word"]
abbrev p_read_value : List Str := ["text"]
theorem sc_read_value : FnScope n_read_value p_read_value (defScope s_read_value) := ⟨rfl, rfl, rfl, by decide +kernel, rfl, by decide +kernel, by decide +kernel⟩
abbrev s_behind_blanks : Stmt := topS 9
abbrev n_behind_blanks : List Str := ["text", "start", "at"]
abbrev p_behind_blanks : List Str := ["text", "start"]
theorem sc_behind_blanks : FnScope n_behind_blanks p_behind_blanks (defScope s_behind_blanks) := ⟨rfl, rfl, rfl, by decide +kernel, rfl, by decide +kernel, by decide +kernel⟩
abbrev s_word_at : Stmt := topS 10
abbrev n_word_at : List Str := ["text", "start", "end"]
abbrev p_word_at : List Str := ["text", "start"]
theorem sc_word_at : FnScope n_word_at p_word_at (defScope s_word_at) := ⟨rfl, rfl, rfl, by decide +kernel, rfl, by decide +kernel, by decide +kernel⟩
abbrev s_translator : Stmt := topS 14
abbrev n_translator : List Str := []
abbrev p_translator : List Str := []
theorem sc_translator : FnScope n_translator p_translator (defScope s_translator) := ⟨rfl, rfl, rfl, by decide +kernel, rfl, by decide +kernel, by decide +kernel⟩
abbrev s_machine_universal : Stmt := topS 15
abbrev n_machine_universal : List Str := []
abbrev p_machine_universal : List Str := []
theorem sc_machine_universal : FnScope n_machine_universal p_machine_universal (defScope s_machine_universal) := ⟨rfl, rfl, rfl, by decide +kernel, rfl, by decide +kernel, by decide +kernel⟩
abbrev s_universal : Stmt := topS 18
abbrev n_universal : List Str := []
abbrev p_universal : List Str := []
theorem sc_universal : FnScope n_universal p_universal (defScope s_universal) := ⟨rfl, rfl, rfl, by decide +kernel, rfl, by decide +kernel, by decide +kernel⟩
abbrev s_law_universal_text : Stmt := topS 20
abbrev n_law_universal_text : List Str := []
abbrev p_law_universal_text : List Str := []
theorem sc_law_universal_text : FnScope n_law_universal_text p_law_universal_text (defScope s_law_universal_text) := ⟨rfl, rfl, rfl, by decide +kernel, rfl, by decide +kernel, by decide +kernel⟩
abbrev s_law_translator_text : Stmt := topS 21
abbrev n_law_translator_text : List Str := []
abbrev p_law_translator_text : List Str := []
theorem sc_law_translator_text : FnScope n_law_translator_text p_law_translator_text (defScope s_law_translator_text) := ⟨rfl, rfl, rfl, by decide +kernel, rfl, by decide +kernel, by decide +kernel⟩
abbrev s_law_machine_text : Stmt := topS 22
abbrev n_law_machine_text : List Str := []
abbrev p_law_machine_text : List Str := []
theorem sc_law_machine_text : FnScope n_law_machine_text p_law_machine_text (defScope s_law_machine_text) := ⟨rfl, rfl, rfl, by decide +kernel, rfl, by decide +kernel, by decide +kernel⟩
abbrev s_law_draws : Stmt := topS 23
abbrev n_law_draws : List Str := ["script", "many", "rests", "cell", "draws", "k", "at", "mixed"]
abbrev p_law_draws : List Str := ["script", "many"]
theorem sc_law_draws : FnScope n_law_draws p_law_draws (defScope s_law_draws) := ⟨rfl, rfl, rfl, by decide +kernel, rfl, by decide +kernel, by decide +kernel⟩
abbrev s_law_take : Stmt := topS 24
abbrev n_law_take : List Str := ["hand", "many", "at", "draws"]
abbrev p_law_take : List Str := ["hand", "many"]
theorem sc_law_take : FnScope n_law_take p_law_take (defScope s_law_take) := ⟨rfl, rfl, rfl, by decide +kernel, rfl, by decide +kernel, by decide +kernel⟩
abbrev s_law_read : Stmt := topS 25
abbrev n_law_read : List Str := ["text", "spaced", "open_lists", "word", "done"]
abbrev p_law_read : List Str := ["text"]
theorem sc_law_read : FnScope n_law_read p_law_read (defScope s_law_read) := ⟨rfl, rfl, rfl, by decide +kernel, rfl, by decide +kernel, by decide +kernel⟩
abbrev s_law : Stmt := topS 26
abbrev n_law : List Str := ["script", "hand", "kind", "due", "made", "one", "other", "turn", "at"]
abbrev p_law : List Str := ["script"]
theorem sc_law : FnScope n_law p_law (defScope s_law) := ⟨rfl, rfl, rfl, by decide +kernel, rfl, by decide +kernel, by decide +kernel⟩
abbrev s_BadText_init : Stmt := inClass (topS 2) 0
abbrev n_BadText_init : List Str := ["self", "place"]
abbrev p_BadText_init : List Str := ["self", "place"]
theorem sc_BadText_init : FnScope n_BadText_init p_BadText_init (defScope s_BadText_init) := ⟨rfl, rfl, rfl, by decide +kernel, rfl, by decide +kernel, by decide +kernel⟩
/-- the constants of the module -/
structure Mc (mg : Str → Option Value) : Prop where
  LETTERS : ∃ t, mg "LETTERS" = some (.str "abcdefghijklmnopqrstuvwxyz" t)
  RUN_SIGNS : ∃ t, mg "RUN_SIGNS" = some (.str "abcdefghijklmnopqrstuvwxyz0123456789" t)
  BLANKS : ∃ t, mg "BLANKS" = some (.str " \n" t)
  LONGEST_WORD : ∃ t, mg "LONGEST_WORD" = some (.int 12 t)
  TRANSLATOR : ∃ t, mg "TRANSLATOR" = some (.str t_TRANSLATOR t)
  MACHINE_UNIVERSAL : ∃ t, mg "MACHINE_UNIVERSAL" = some (.str t_MACHINE_UNIVERSAL t)
  UNIVERSAL : ∃ t, mg "UNIVERSAL" = some (.str t_UNIVERSAL t)
/-- the names of built-ins that no row of the program gives another meaning -/
structure Bn (mg : Str → Option Value) : Prop where
  len : mg "len" = none
  range : mg "range" = none
  int : mg "int" = none
  abs : mg "abs" = none
  str : mg "str" = none
  tuple : mg "tuple" = none
  list : mg "list" = none
  bool : mg "bool" = none
  isinstance : mg "isinstance" = none
  ValueError : mg "ValueError" = none
/-- what law(script) promises: for a list of at most 63 ints the answer is True -/
def spLaw (K : PySem.W.Frag) : Sp := fun vs H Q _ => ∃ (a : Addr) (ns : List Int), vs = [.ref a] ∧ SqL K H a (ns.map V.int) ∧ ns.length ≤ 63 ∧ ∀ H', Q (.bl true) H'
end Og

namespace Og
open PySem PySem.Spec PyProof.Rows L2
section
variable {P : Program} {w : World} {K : PySem.W.Frag} {mg : Str → Option Value} {base : Heap}
def spDraws (K : PySem.W.Frag) : Sp := fun vs H Q _ => ∃ (a : Addr) (ns : List Int) (m : Nat), vs = [.ref a, .int m] ∧ SqL K H a (ns.map V.int) ∧ ns.length ≤ 63 ∧ m ≤ 100000 ∧
  ∀ (p : Addr) (ds : List Int) (H' : Hp), Keep [] H H' → H p = none → H' p = some (.lst (ds.map V.int)) → ds.length = m → Q (.ref p) H'
theorem has_draws {k : Nat} (D : DefAt K mg "_law_draws" s_law_draws p_law_draws) (B : Bn mg) : Has P w K mg base (k + 1) "_law_draws" p_law_draws (spDraws K) := by
  obtain ⟨f, fd, F, hm, hb⟩ := D.ex
  refine ⟨f, fd, F.ok sc_law_draws (fun vs H Q E h => ?_) (fun cdv A outer s H vs Q E hr h => ?_), hm, F.kp, hb⟩
  · obtain ⟨a, ns, m, rfl, _⟩ := h
    rfl
  obtain ⟨a, ns, m, rfl, hS, h63, hm1, q⟩ := h
  refine ⟨_, (pss_cons (ps_setLc (i := 2) (own := [("cell", 3)]) (g := gName 3) (tt := tYes) rfl sc_law_draws.nd rfl rfl (sw_true rfl rfl rfl (by decide +kernel)) (pi_list (pv 0)) (blkOk_by (N := n_law_draws) (sc := defScope s_law_draws) (by decide +kernel)) (fun _ _ _ _ _ => pg_name (i := 3) sc_law_draws.nd rfl (Or.inl rfl)) (fun _ _ _ _ _ => pts_nil) (fun _ _ _ _ _ => (pe_callB call_abs (by rfl) B.abs (by decide +kernel) (pa_cons (pe_callTy call_int1 (by rfl) B.int (by decide +kernel) (pa_cons (pv 3) pa_nil)) pa_nil))))
    (pss_cons (ps_set (i := 4) sc_law_draws.nd rfl (.inl rfl) (pe_lst pa_nil))
    (pss_cons (ps_for PassesOwn.never rfl (pi_range1 (by rfl) B.range (pa_cons (pv 1) pa_nil)) (pg_name (i := 5) sc_law_draws.nd rfl (.inl rfl))
      (pss_cons (ps_set (i := 3) sc_law_draws.nd rfl (.inl rfl) (pv 5))
      (C8.pss_cut (ps_if (pt_cmpR op_gt (pe_callB call_len_seq (by rfl) B.len PySem.boot_len (pa_cons (pv 0) pa_nil)) pe_int (nomark _)) (pss_cons (ps_set (i := 6) sc_law_draws.nd rfl (.inl rfl) (pe_op op_mod (pv 5) (pe_callB call_len_seq (by rfl) B.len PySem.boot_len (pa_cons (pv 0) pa_nil))))
        (pss_cons (ps_set (i := 3) sc_law_draws.nd rfl (.inl rfl) (pe_callTy call_int1 (by rfl) B.int (by decide +kernel) (pa_cons (pe_ix ix_list (pv 0) (pv 6) (fun _ _ => rfl)) pa_nil)))
        (pss_one (ps_if (PW.pt (pw_and (pt_cmpR op_ge (pv 3) (pe_op op_pow pe_int pe_int) (nomark _)) (pw_and1 (pt_cmpR op_gt (pe_ix ix_list (pv 2) (pv 6) (fun _ _ => rfl)) pe_int (nomark _))))) (pss_cons (ps_expr (pe_bm PySem.F.plainAttrs_list PySem.F.slot_list_append PySem.F.type_list_append mt_append (pv 4) (pa_cons (pe_op op_mod (pe_callTy call_int1 (by rfl) B.int (by decide +kernel) (pa_cons (pe_ix ix_list (pv 2) (pv 6) (fun _ _ => rfl)) pa_nil)) pe_int) pa_nil)))
          (pss_cons (ps_asg (pe_op op_fdiv (pe_callTy call_int1 (by rfl) B.int (by decide +kernel) (pa_cons (pe_ix ix_list (pv 2) (pv 6) (fun _ _ => rfl)) pa_nil)) pe_int) (pg_sub (pv 2) (pv 6) set_list))
          (pss_one ps_continue))) pss_nil)))) pss_nil)
      (pss_cons (ps_set (i := 7) sc_law_draws.nd rfl (.inl rfl) (pe_op op_mod (pe_callTy call_int1 (by rfl) B.int (by decide +kernel) (pa_cons (pe_op op_add (pe_op op_add (pe_op op_mul (pv 3) pe_int) (pe_op op_mul (pv 5) pe_int)) pe_int) pa_nil)) pe_int))
      (pss_cons (ps_set (i := 7) sc_law_draws.nd rfl (.inl rfl) (pe_op op_mod (pe_callTy call_int1 (by rfl) B.int (by decide +kernel) (pa_cons (pe_op op_add (pe_op op_fdiv (pe_op op_mul (pv 7) (pv 7)) pe_int) (pv 7)) pa_nil)) pe_int))
      (pss_one (ps_expr (pe_bm PySem.F.plainAttrs_list PySem.F.slot_list_append PySem.F.type_list_append mt_append (pv 4) (pa_cons (pe_op op_mod (pe_callTy call_int1 (by rfl) B.int (by decide +kernel) (pa_cons (pe_op op_add (pe_op op_fdiv (pe_op op_mul (pv 7) (pv 7)) pe_int) (pe_op op_mul (pv 5) pe_int)) pa_nil)) pe_int) pa_nil)))))))))
    (pss_one (ps_ret (pv 4)))))), ?_⟩
  -- rests
  refine ⟨_, rfl, a, rfl, ⟨_, hS⟩, fun r nr => ?_⟩
  refine lc_list (K := K) (a := a) (xs := ns.map V.int) (fun i H' => Keep [] H H' ∧ ∃ rs : List Int, rs.length = i ∧ H' r = some (.lst (rs.map V.int))) ⟨Keep.new nr, [], rfl, upd_same⟩ (fun i H' _ p => p.1.sqL (by simp) hS) (fun i x H1 hx p => ?_) (fun H1 p => ?_)
  · obtain ⟨n, rfl, hn⟩ := map_int_get hx
    obtain ⟨k1, rs, e1, e2⟩ := p
    have hi : i < ns.length := (List.getElem?_eq_some_iff.mp hn).1
    refine ⟨rfl, yes ?_⟩
    refine ⟨_, rfl, .inl ⟨_, rfl, _, rfl, _, e2, ?_, ?_⟩⟩
    · rw [List.length_map]
      exact sizeLt (by omega)
    · refine ⟨(k1.cons.setT e2 (List.mem_cons_self ..)).drop nr, rs ++ [if n < 0 then -n else n], (by rw [List.length_append, e1]; rfl), ?_⟩
      rw [upd_same, map_int_app]
  -- draws
  obtain ⟨k1, rs, e1, e2⟩ := p
  rw [List.length_map] at e1
  refine ⟨Nat.zero_le _, fun d nd => ?_⟩
  have k2 : Keep [] H (upd H1 d (.lst [])) := k1.newT nd
  have drn : d ≠ r := (ne_of_none e2 nd).symm
  have nd0 : H d = none := k1.free nd
  have nr0 : H r = none := nr
  refine ⟨_, rfl, (m : Int), rfl, by omega, by omega, ?_⟩
  refine for_range (lo := 0) (n := (m : Int).toNat) (fun i σ H' => ∃ y3 y5 y6 y7, σ = [some (.ref a), some (.int m), some (.ref r), y3, some (.ref d), y5, y6, y7] ∧ Keep [] H H' ∧ (∃ rs : List Int, rs.length = ns.length ∧ H' r = some (.lst (rs.map V.int))) ∧ ∃ ds : List Int, ds.length = i ∧ H' d = some (.lst (ds.map V.int)))
    ⟨_, _, _, _, rfl, k2, ⟨rs, e1, by rw [upd_ne drn.symm]; exact e2⟩, [], rfl, upd_same⟩ (fun i σ H2 hi p => ?_) (fun σ H2 p => ?_)
  · obtain ⟨y3, y5, y6, y7, rfl, k3, ⟨rs, e3, e4⟩, ds, e5, e6⟩ := p
    have sL : SqL K H2 a (ns.map V.int) := k3.sqL (by simp) hS
    have dsz : (ds.map V.int).length < sizeLine := by rw [List.length_map]; exact sizeLt (by omega)
    -- cell = k
    refine ⟨_, rfl, ?_⟩
    refine ⟨fun σ' H' => H' = H2 ∧ ∃ (cell : Int) (y6 y7 : Option V), σ' = [some (.ref a), some (.int m), some (.ref r), some (.int cell), some (.ref d), some (.int (0 + i)), y6, y7], ?_, fun σ' H' hmid => ?_⟩
    refine ⟨_, rfl, _, _, rfl, .inl sL, _, _, rfl, rfl, _, rfl, ?_⟩
    refine ite2 (fun c => ?_) (fun c => ?_)
    · have c0 : (0 : Int) < ((ns.map V.int).length : Nat) := of_decide_eq_true c
      rw [List.length_map] at c0
      have at0 : 0 ≤ (0 + (i : Int)) % (ns.length : Int) := Int.emod_nonneg _ (by omega)
      have at1 : (0 + (i : Int)) % (ns.length : Int) < (ns.length : Int) := Int.emod_lt_of_pos _ c0
      obtain ⟨x, hx⟩ := atI_int (ns := ns) at0 at1
      obtain ⟨y, hy⟩ := atI_int (ns := rs) at0 (by rw [e3]; exact at1)
      refine ⟨_, rfl, _, rfl, _, _, rfl, .inl sL, _, _, rfl, rfl, (by show (0 : Int) < _; rw [List.length_map]; exact c0), ?_⟩
      rw [List.length_map]
      refine ⟨_, rfl, _, rfl, _, _, _, _, rfl, rfl, sL, hx, .inl ⟨_, rfl, ?_⟩⟩
      refine ⟨_, rfl, _, _, rfl, rfl, ⟨by decide, by decide, by decide⟩, _, _, rfl, rfl, _, rfl, ?_⟩
      refine ite2 (fun c1 => ?_) (fun c1 => ?_)
      · refine ⟨_, rfl, _, rfl, _, _, _, _, rfl, rfl, SqL.of e4, hy, _, _, rfl, rfl, _, rfl, ?_⟩
        refine ite2 (fun c2 => ?_) (fun c2 => ?_)
        · -- draws.append(..), rests[at] = .., continue
          refine ⟨_, rfl, .inl ⟨rfl, _, SqL.of e6⟩, _, rfl, _, rfl, _, _, _, _, rfl, rfl, SqL.of e4, hy, .inl ⟨_, rfl, _, _, rfl, rfl, by show (0 : Int) < 1000003; decide, _, _, _, rfl, rfl, e6, dsz, ?_⟩⟩
          have e4' : (upd H2 d (.lst (ds.map V.int ++ [.int (y % 1000003)]))) r = some (.lst (rs.map V.int)) := by rw [upd_ne drn.symm]; exact e4
          refine ⟨_, rfl, _, rfl, _, _, _, _, rfl, rfl, SqL.of e4', hy, .inl ⟨_, rfl, _, _, rfl, rfl, ⟨by decide, by decide⟩, _, rfl, _, rfl, _, _, _, _, rfl, rfl, e4', ixN_int at0 (by rw [List.length_map, e3]; exact at1), ?_⟩⟩
          refine ⟨_, _, _, _, rfl, ?_, ⟨rs.set ((0 + (i : Int)) % (ns.length : Int)).toNat (y / 1000003), by rw [List.length_set]; exact e3, by rw [upd_same, map_int_set]⟩, ds ++ [y % 1000003], by rw [List.length_append, e5]; rfl, by rw [upd_ne drn, upd_same, map_int_app]⟩
          exact (((k3.cons (p := d)).setT e6 (List.mem_cons_self ..)).cons (p := r)).setT e4' (List.mem_cons_self ..) |>.drop nr0 |>.drop nd0
        · exact ⟨rfl, _, _, _, rfl⟩
      · exact ⟨rfl, _, _, _, rfl⟩
    · exact ⟨rfl, _, _, _, rfl⟩
    · obtain ⟨rfl, cell, y6, y7, rfl⟩ := hmid
      have big : ∀ z : Int, 0 ≤ z % 2147483647 ∧ z % 2147483647 < 2147483647 := fun z => ⟨Int.emod_nonneg _ (by decide), Int.emod_lt_of_pos _ (by decide)⟩
      have big2 : ∀ z : Int, 0 ≤ z % 2147483629 ∧ z % 2147483629 < 2147483629 := fun z => ⟨Int.emod_nonneg _ (by decide), Int.emod_lt_of_pos _ (by decide)⟩
      refine ⟨_, rfl, _, _, rfl, rfl, .inr ⟨by decide, by decide⟩, _, rfl, _, _, rfl, rfl, .inr ⟨by decide, by decide⟩, _, _, rfl, rfl, _, _, rfl, rfl, .inl ⟨_, rfl, _, _, rfl, rfl, by show (0 : Int) < 2147483647; decide, ?_⟩⟩
      generalize e1 : (cell * 48271 + (0 + (i : Int)) * 69621 + 11) % 2147483647 = m1
      have b1 := big (cell * 48271 + (0 + (i : Int)) * 69621 + 11)
      rw [e1] at b1
      refine ⟨_, rfl, _, rfl, _, _, rfl, rfl, .inl ⟨by omega, by omega⟩, _, _, rfl, rfl, ⟨by decide, by decide⟩, _, rfl, _, _, rfl, rfl, .inl ⟨_, rfl, _, _, rfl, rfl, by show (0 : Int) < 2147483629; decide, ?_⟩⟩
      generalize e2 : (m1 * m1 / 4096 + m1) % 2147483629 = m2
      have b2 := big2 (m1 * m1 / 4096 + m1)
      rw [e2] at b2
      refine ⟨_, rfl, .inl ⟨rfl, _, SqL.of e6⟩, _, rfl, _, rfl, _, _, rfl, rfl, .inl ⟨by omega, by omega⟩, _, _, rfl, rfl, ⟨by decide, by decide⟩, _, rfl, _, _, rfl, rfl, .inr ⟨by decide, by decide⟩, _, _, rfl, rfl, .inl ⟨_, rfl, _, _, rfl, rfl, by show (0 : Int) < 2147483629; decide, _, _, _, rfl, rfl, e6, dsz, ?_⟩⟩
      exact ⟨_, _, _, _, rfl, (k3.cons.setT e6 (List.mem_cons_self ..)).drop nd0, ⟨rs, e3, by rw [upd_ne drn.symm]; exact e4⟩, ds ++ [_], by rw [List.length_append, e5]; rfl, by rw [upd_same, map_int_app]⟩
  · obtain ⟨y3, y5, y6, y7, rfl, k3, _, ds, e5, e6⟩ := p
    refine ⟨_, rfl, ?_⟩
    exact q d ds H2 k3 nd0 e6 (by omega)
end
end Og

namespace Og
open PySem PySem.Spec PyProof.Rows L2
section
variable {P : Program} {w : World} {K : PySem.W.Frag} {mg : Str → Option Value} {base : Heap}
def spTake : Sp := fun vs H Q _ => ∃ (h d : Addr) (m : Int), vs = [.ref h, .int m] ∧ Hd H h d ∧ 0 < m ∧
  ∀ (i : Int) (H' : Hp), 0 ≤ i → i < m → Keep [h] H H' → Hd H' h d → Q (.int i) H'
theorem has_take {k : Nat} (D : DefAt K mg "_law_take" s_law_take p_law_take) (B : Bn mg) : Has P w K mg base (k + 1) "_law_take" p_law_take spTake := by
  obtain ⟨f, fd, F, hm, hb⟩ := D.ex
  refine ⟨f, fd, F.ok sc_law_take (fun vs H Q E h => ?_) (fun cdv A outer s H vs Q E hr h => ?_), hm, F.kp, hb⟩
  · obtain ⟨a, d, m, rfl, _⟩ := h
    rfl
  obtain ⟨a, d, m, rfl, hd, hm1, q⟩ := h
  refine ⟨_, (pss_cons (ps_set (i := 2) sc_law_take.nd rfl (.inl rfl) (pe_ix ix_list (pv 0) pe_int (fun _ _ => rfl)))
    (pss_cons (ps_asg (pe_op op_add (pv 2) pe_int) (pg_sub (pv 0) pe_int set_list))
    (pss_cons (ps_set (i := 3) sc_law_take.nd rfl (.inl rfl) (pe_ix ix_list (pv 0) pe_int (fun _ _ => rfl)))
    (pss_cons (ps_if (pt_cmpR op_ge (pv 2) (pe_callB call_len_seq (by rfl) B.len PySem.boot_len (pa_cons (pv 3) pa_nil)) (nomark _)) (pss_one (ps_ret pe_int)) pss_nil)
    (pss_one (ps_ret (pe_op op_mod (pe_op op_fdiv (pe_callTy call_int1 (by rfl) B.int (by decide +kernel) (pa_cons (pe_ix ix_list (pv 3) (pv 2) (fun _ _ => rfl)) pa_nil)) pe_int) (pv 1)))))))), ?_⟩
  obtain ⟨n, ds, e1, e2, l⟩ := id hd
  refine ⟨_, rfl, _, _, _, _, rfl, rfl, SqL.of e1, rfl, ?_⟩
  refine ⟨_, rfl, _, _, rfl, rfl, _, rfl, _, _, _, _, rfl, rfl, e1, rfl, ?_⟩
  have e3 : (upd H a (.lst [.ref d, .int ((n : Int) + 1)])) a = some (.lst [.ref d, .int ((n : Int) + 1)]) := upd_same
  have e4 : (upd H a (.lst [.ref d, .int ((n : Int) + 1)])) d = some (.lst (ds.map V.int)) := by rw [upd_ne hd.ne]; exact e2
  have k1 : Keep [a] H (upd H a (.lst [.ref d, .int ((n : Int) + 1)])) := Keep.set e1 (List.mem_cons_self ..)
  have hd2 : Hd (upd H a (.lst [.ref d, .int ((n : Int) + 1)])) a d := ⟨n + 1, ds, upd_same, e4, l⟩
  refine ⟨_, rfl, _, _, _, _, rfl, rfl, SqL.of e3, rfl, ?_⟩
  refine ⟨_, rfl, _, rfl, _, _, rfl, .inl (SqL.of e4), _, _, rfl, rfl, _, rfl, ?_⟩
  refine ite2 (fun c => ?_) (fun c => ?_)
  · exact q 0 _ (by omega) hm1 k1 hd2
  · have c' : ¬ (((ds.map V.int).length : Nat) : Int) ≤ (n : Int) := of_decide_eq_false (Bool.eq_false_iff.mpr c)
    rw [List.length_map] at c'
    obtain ⟨x, hx⟩ := atI_int (ns := ds) (z := (n : Int)) (by omega) (by omega)
    refine ⟨_, rfl, _, rfl, _, _, _, _, rfl, rfl, SqL.of e4, hx, .inl ⟨_, rfl, _, _, rfl, rfl, ⟨by decide, by decide⟩, _, rfl, _, _, rfl, rfl, hm1, ?_⟩⟩
    exact q _ _ (Int.emod_nonneg _ (by omega)) (Int.emod_lt_of_pos _ hm1) k1 hd2
end
end Og

namespace Og
open PySem PySem.Spec PyProof.Rows L2
theorem dT {i j : Int} (h : i = j) : decide (V.int i = V.int j) = true := by rw [h]; simp
theorem dF {i j : Int} (h : i ≠ j) : decide (V.int i = V.int j) = false := decide_eq_false fun e => h (V.int.inj e)
theorem nT {i j : Int} (h : i ≠ j) : (!decide (V.int i = V.int j)) = true := by rw [dF h]; rfl
theorem nF {i j : Int} (h : i = j) : (!decide (V.int i = V.int j)) = false := by rw [dT h]; rfl
theorem sT {a b : List Nat} (h : a = b) : decide (V.str (tx a) = V.str (tx b)) = true := by rw [h]; simp
theorem sF {a b : List Nat} (h : a ≠ b) : decide (V.str (tx a) = V.str (tx b)) = false := decide_eq_false fun e => h (tx_str e)
theorem nsT {a b : List Nat} (h : a ≠ b) : (!decide (V.str (tx a) = V.str (tx b))) = true := by rw [sF h]; rfl
theorem nsF {a b : List Nat} (h : a = b) : (!decide (V.str (tx a) = V.str (tx b))) = false := by rw [sT h]; rfl
theorem three_of {α : Type} {xs : List α} (h : xs.length = 3) : ∃ a b c, xs = [a, b, c] := by
  match xs, h with
  | [a, b, c], _ => exact ⟨a, b, c, rfl⟩
theorem Trs.three {K : PySem.W.Frag} {H : Hp} {vs : List V} {a b c : Tree} (h : Trs K H vs [a, b, c]) : ∃ x y z, vs = [x, y, z] ∧ Tr K H x a ∧ Tr K H y b ∧ Tr K H z c := by
  obtain ⟨x, r, rfl, h1, h2⟩ := h.cons
  obtain ⟨y, r, rfl, h3, h4⟩ := h2.cons
  obtain ⟨z, r, rfl, h5, h6⟩ := h4.cons
  rw [h6.nil]
  exact ⟨x, y, z, rfl, h1, h3, h5⟩
theorem Keep.updNew {S : List Addr} {H H1 : Hp} {p : Addr} {o : HO} (a : Keep S H H1) (h : H p = none) : Keep S H (upd H1 p o) := fun b u e => by
  have ne : b ≠ p := fun q => by rw [q, h] at e; cases e
  rw [upd_ne ne]
  exact a b u e
end Og
namespace Og
open PySem PySem.Spec PyProof.Rows L2
section
variable {X : Cx} {k : Nat} {x : Str} {f : Addr} {fd : FuncData} {ps : List Str} {sp : Sp} {p pos : Pos}
theorem cal0 (C : Callee X.prog X.w X.K X.mg X.base CX0 k x f fd ps sp) (hr : Room k X.A) (hg : Gl X x := by rfl) (hdb : (x == ("__debug__" : Str)) = false := by decide) : PE X (.Call (.Name x p) [] [] pos) (tCall sp [] E0 tNil) :=
  pe_call0 C.ok hr hg C.mg C.kp C.bi .nil pass0 hdb
end
/-- a loop over the signs of a text -/
theorem for_str {z : Str} {g : TG} {tb : TS} {D : Ends} {σ : L2.St} {H : Hp} (Pv : Nat → L2.St → Hp → Prop) (h0 : Pv 0 σ H)
    (hs : ∀ (i : Nat) (c : Nat) (σ : L2.St) (H : Hp), z.cps.toList[i]? = some c → Pv i σ H → g (.str ⟨#[c]⟩) σ H fun σ2 H2 => tb { D with nx := Pv (i + 1), ct := Pv (i + 1), bk := D.nx } σ2 H2) (hd : ∀ σ H, Pv z.cps.toList.length σ H → D.nx σ H) :
    ∃ W : Nat → Nat → L2.St → Hp → Prop, (∃ m, W 0 m σ H) ∧ ∀ i m σ H, W i m σ H →
      ((Its z).stop i H ∧ D.nx σ H) ∨ ((Its z).go i H ∧ ∃ N : L2.St → Hp → Prop, (∀ σ' H', N σ' H' → ∃ m', m' < m ∧ W (i + 1) m' σ' H') ∧ ∀ v H', (Its z).yld i H v H' → g v σ H' fun σ2 H2 => tb { D with nx := N, ct := N, bk := D.nx } σ2 H2) := by
  refine ⟨fun i m σ H => m = z.cps.toList.length - i ∧ i ≤ z.cps.toList.length ∧ Pv i σ H, ⟨z.cps.toList.length, rfl, Nat.zero_le _, h0⟩, ?_⟩
  rintro i m σ H ⟨rfl, hi, p⟩
  by_cases hlt : i < z.cps.toList.length
  · have hx : z.cps.toList[i]? = some z.cps.toList[i] := List.getElem?_eq_getElem hlt
    refine .inr ⟨?_, Pv (i + 1), fun σ' H' p' => ⟨z.cps.toList.length - (i + 1), by omega, rfl, hlt, p'⟩, fun v H' y => ?_⟩
    · show i < z.cps.size
      simpa using hlt
    · obtain ⟨rfl, c, hc, rfl⟩ := y
      exact hs i c σ _ (by rw [Array.getElem?_toList]; exact hc) p
  · have e : i = z.cps.toList.length := by omega
    subst e
    exact .inl ⟨by show z.cps.size ≤ _; simp, hd σ H p⟩
end Og
namespace Og
open PySem PySem.Spec PyProof.Rows L2
/-- len of a list or tuple -/
def rLenK (K : PySem.W.Frag) : List V → Hp → VK → Prop := fun xs H Q => ∃ p ys, xs = [V.ref p] ∧ (SqL K H p ys ∨ SqT K H p ys) ∧ Q (.int (ys.length : Nat)) H
end Og

namespace Og
open PySem PySem.Spec PyProof.Rows L2
/-- a small letter; a letter or a digit -/
def Letter (c : Nat) : Prop := 97 ≤ c ∧ c ≤ 122
def Sign (c : Nat) : Prop := (97 ≤ c ∧ c ≤ 122) ∨ (48 ≤ c ∧ c ≤ 57)
/-- a word of the document -/
def IsWord (x : List Nat) : Prop := ∃ c cs, x = c :: cs ∧ Letter c ∧ (∀ y ∈ cs, Sign y) ∧ cs.length ≤ 11
theorem IsWord.ne {x : List Nat} (h : IsWord x) : x ≠ [] := by
  obtain ⟨c, cs, rfl, _⟩ := h
  simp
theorem IsWord.len {x : List Nat} (h : IsWord x) : x.length ≤ 12 := by
  obtain ⟨c, cs, rfl, _, _, l⟩ := h
  rw [List.length_cons]
  omega
theorem lit_letters : ("abcdefghijklmnopqrstuvwxyz" : Str) = tx ((List.range 26).map (· + 97)) := by decide +kernel
theorem lit_digits : ("0123456789" : Str) = tx ((List.range 10).map (· + 48)) := by decide +kernel
theorem letters_at {z : Int} (h0 : 0 ≤ z) (h : z < 26) : ∃ c, atI ((List.range 26).map (· + 97)) z = some c ∧ Letter c := by
  obtain ⟨x, h1, h2⟩ := atI_of (xs := (List.range 26).map (· + 97)) h0 (by simpa using h)
  refine ⟨x, h1, ?_⟩
  have m := List.mem_of_getElem? h2
  obtain ⟨y, hy, rfl⟩ := List.mem_map.mp m
  have := List.mem_range.mp hy
  exact ⟨by omega, by omega⟩
theorem signs_at {z : Int} (h0 : 0 ≤ z) (h : z < 36) : ∃ c, atI ((List.range 26).map (· + 97) ++ (List.range 10).map (· + 48)) z = some c ∧ Sign c := by
  obtain ⟨x, h1, h2⟩ := atI_of (xs := (List.range 26).map (· + 97) ++ (List.range 10).map (· + 48)) h0 (by simpa using h)
  refine ⟨x, h1, ?_⟩
  have m := List.mem_of_getElem? h2
  rcases List.mem_append.mp m with m | m
  · obtain ⟨y, hy, rfl⟩ := List.mem_map.mp m
    have := List.mem_range.mp hy
    exact .inl ⟨by omega, by omega⟩
  · obtain ⟨y, hy, rfl⟩ := List.mem_map.mp m
    have := List.mem_range.mp hy
    exact .inr ⟨by omega, by omega⟩
theorem four {j : Int} (h0 : 0 ≤ j) (h : j < 4) : j = 0 ∨ j = 1 ∨ j = 2 ∨ j = 3 := by omega
end Og

namespace Og
open PySem PySem.Spec PyProof.Rows L2
/-! ### drawn trees -/
mutual
def WT : Tree → Prop
  | .w x => IsWord x
  | .l ts => WTs ts
def WTs : List Tree → Prop
  | [] => True
  | t :: ts => WT t ∧ WTs ts
end
mutual
def Tree.size : Tree → Nat
  | .w _ => 1
  | .l ts => sizes ts + 1
def sizes : List Tree → Nat
  | [] => 0
  | t :: ts => t.size + sizes ts
end
theorem wt_w {x : List Nat} (h : IsWord x) : WT (.w x) := by rw [WT]; exact h
theorem wt_l {ts : List Tree} (h : WTs ts) : WT (.l ts) := by rw [WT]; exact h
theorem WT.word {x : List Nat} (h : WT (.w x)) : IsWord x := by rw [WT] at h; exact h
theorem WT.list {ts : List Tree} (h : WT (.l ts)) : WTs ts := by rw [WT] at h; exact h
theorem wts_nil : WTs [] := by rw [WTs]; trivial
theorem wts_cons {t : Tree} {ts : List Tree} (h : WT t) (r : WTs ts) : WTs (t :: ts) := by rw [WTs]; exact ⟨h, r⟩
theorem WTs.head {t : Tree} {ts : List Tree} (h : WTs (t :: ts)) : WT t := by rw [WTs] at h; exact h.1
theorem WTs.tail {t : Tree} {ts : List Tree} (h : WTs (t :: ts)) : WTs ts := by rw [WTs] at h; exact h.2
theorem WTs.app : ∀ {ts us : List Tree}, WTs ts → WTs us → WTs (ts ++ us)
  | [], us, _, g => g
  | t :: ts, us, h, g => wts_cons h.head (WTs.app h.tail g)
theorem WTs.all : ∀ {ts : List Tree}, WTs ts → ∀ t ∈ ts, WT t
  | [], _, t, m => absurd m (List.not_mem_nil)
  | u :: ts, h, t, m => by
    rcases List.mem_cons.mp m with e | m
    · rw [e]; exact h.head
    · exact WTs.all h.tail t m
theorem WTs.of : ∀ {ts : List Tree}, (∀ t ∈ ts, WT t) → WTs ts
  | [], _ => wts_nil
  | u :: ts, h => wts_cons (h u (List.mem_cons_self ..)) (WTs.of fun t m => h t (List.mem_cons_of_mem _ m))
theorem size_w (x : List Nat) : (Tree.w x).size = 1 := by rw [Tree.size]
theorem size_l (ts : List Tree) : (Tree.l ts).size = sizes ts + 1 := by rw [Tree.size]
theorem sizes_nil : sizes [] = 0 := by rw [sizes]
theorem sizes_cons (t : Tree) (ts : List Tree) : sizes (t :: ts) = t.size + sizes ts := by rw [sizes]
theorem sizes_app : ∀ (ts us : List Tree), sizes (ts ++ us) = sizes ts + sizes us
  | [], us => by rw [List.nil_append, sizes_nil, Nat.zero_add]
  | t :: ts, us => by rw [List.cons_append, sizes_cons, sizes_cons, sizes_app ts us, Nat.add_assoc]
theorem size_pos : ∀ t : Tree, 0 < t.size
  | .w x => by rw [size_w]; omega
  | .l ts => by rw [size_l]; omega
theorem len_sizes : ∀ ts : List Tree, ts.length ≤ sizes ts
  | [] => by rw [sizes_nil]; exact Nat.le_refl _
  | t :: ts => by
    have h := len_sizes ts
    have h2 := size_pos t
    rw [sizes_cons, List.length_cons]
    omega
theorem sizes_take : ∀ (ts : List Tree) (n : Nat), sizes (ts.take n) ≤ sizes ts
  | ts, 0 => by rw [List.take_zero, sizes_nil]; omega
  | [], n + 1 => by rw [List.take_nil]; omega
  | t :: ts, n + 1 => by
    rw [List.take_succ_cons, sizes_cons, sizes_cons]
    have := sizes_take ts n
    omega
theorem sizes_drop : ∀ (ts : List Tree) (n : Nat), sizes (ts.drop n) ≤ sizes ts
  | ts, 0 => by rw [List.drop_zero]; omega
  | [], n + 1 => by rw [List.drop_nil]; omega
  | t :: ts, n + 1 => by
    rw [List.drop_succ_cons, sizes_cons]
    have := sizes_drop ts n
    omega
theorem size_of_get {ts : List Tree} {i : Nat} {t : Tree} (h : ts[i]? = some t) : t.size ≤ sizes ts := by
  induction ts generalizing i with
  | nil => simp at h
  | cons u r ih =>
    rw [sizes_cons]
    cases i with
    | zero =>
      have e : u = t := Option.some.inj h
      rw [e]
      omega
    | succ j =>
      have := ih (i := j) h
      omega
/-- how many parts a drawn value has at most -/
def Most : Nat → Nat
  | 0 => 1
  | n + 1 => 1 + 11 * Most n
/-- nested at most n deep -/
def Deep : Nat → Tree → Prop
  | _, .w _ => True
  | 0, .l _ => False
  | n + 1, .l ts => ∀ t ∈ ts, Deep n t
theorem deep_w (n : Nat) (x : List Nat) : Deep n (.w x) := by cases n <;> trivial
theorem Deep.mono : ∀ {m n : Nat} {t : Tree}, m ≤ n → Deep m t → Deep n t
  | _, n, .w x, _, _ => deep_w n x
  | 0, _, .l _, _, h => h.elim
  | m + 1, 0, .l _, l, _ => absurd l (by omega)
  | m + 1, n + 1, .l ts, l, h => fun t q => Deep.mono (Nat.le_of_succ_le_succ l) (h t q)
def Drawn (n : Nat) (t : Tree) : Prop := WT t ∧ t.size ≤ Most n ∧ Deep n t
theorem Most.le (n : Nat) : Most n ≤ Most (n + 1) := by rw [show Most (n + 1) = 1 + 11 * Most n from rfl]; omega
theorem Most.mono {m n : Nat} (h : m ≤ n) : Most m ≤ Most n := by
  induction h with
  | refl => exact Nat.le_refl _
  | step _ ih => exact Nat.le_trans ih (Most.le _)
theorem most_pos (n : Nat) : 1 ≤ Most n := by
  have := Most.mono (Nat.zero_le n)
  exact this
theorem sizes_le {ts : List Tree} {b : Nat} (h : ∀ t ∈ ts, t.size ≤ b) : sizes ts ≤ ts.length * b := by
  induction ts with
  | nil => rw [sizes_nil]; omega
  | cons t r ih =>
    have h1 := h t (List.mem_cons_self ..)
    have h2 := ih fun u m => h u (List.mem_cons_of_mem _ m)
    rw [sizes_cons, List.length_cons, Nat.add_mul]
    omega
theorem sizes_split : ∀ {ts : List Tree} {n : Nat} {t : Tree}, ts[n]? = some t → sizes (ts.take n) + t.size + sizes (ts.drop (n + 1)) = sizes ts
  | [], n, t, h => by simp at h
  | u :: r, 0, t, h => by
    have e : u = t := Option.some.inj h
    subst e
    rw [List.take_zero, sizes_nil, sizes_cons, List.drop_succ_cons, List.drop_zero]
    omega
  | u :: r, n + 1, t, h => by
    have ih := sizes_split (ts := r) (n := n) (t := t) h
    rw [List.take_succ_cons, sizes_cons, sizes_cons, List.drop_succ_cons]
    omega
theorem sizes_two (ts : List Tree) (n : Nat) : sizes (ts.take n) + sizes (ts.drop n) = sizes ts := by
  have h := sizes_app (ts.take n) (ts.drop n)
  rw [List.take_append_drop] at h
  exact h.symm
theorem cutS_len2 (z : Str) (lo hi : Option Int) : (cutS z lo hi).length ≤ z.length := by
  unfold cutS
  show (List.toArray _).size ≤ _
  rw [List.size_toArray, List.length_take, List.length_drop]
  have e : z.cps.toList.length = z.length := by show z.cps.toList.length = z.cps.size; simp
  omega
end Og

namespace Og
open PySem PySem.Spec PyProof.Rows L2
/-! ### the text of a tree -/
mutual
def txt : Tree → List Nat
  | .w x => x
  | .l [] => [40, 41]
  | .l (t :: r) => 40 :: (txt t ++ seps r ++ [41])
def seps : List Tree → List Nat
  | [] => []
  | t :: r => 32 :: (txt t ++ seps r)
end
def txts : List Tree → List Nat
  | [] => []
  | t :: r => txt t ++ seps r
theorem txt_w (x : List Nat) : txt (.w x) = x := by rw [txt]
theorem txt_l (ts : List Tree) : txt (.l ts) = 40 :: (txts ts ++ [41]) := by
  cases ts with
  | nil => rw [txt]; rfl
  | cons t r => rw [txt]; rfl
theorem seps_nil : seps [] = [] := by rw [seps]
theorem seps_cons (t : Tree) (r : List Tree) : seps (t :: r) = 32 :: (txt t ++ seps r) := by rw [seps]
theorem seps_app : ∀ a b : List Tree, seps (a ++ b) = seps a ++ seps b
  | [], b => by rw [seps_nil]; rfl
  | t :: a, b => by rw [List.cons_append, seps_cons, seps_cons, seps_app a b, List.cons_append, List.append_assoc]
theorem join_sp : ∀ (t : Tree) (r : List Tree), Str.join (tx [32]) ((t :: r).map fun u => tx (txt u)) = tx (txt t ++ seps r)
  | t, [] => by rw [seps_nil, List.append_nil]; rfl
  | t, u :: r => by
    have h := join_sp u r
    rw [List.map_cons] at h
    rw [List.map_cons, List.map_cons]
    show tx (txt t) ++ tx [32] ++ Str.join (tx [32]) (tx (txt u) :: r.map fun u => tx (txt u)) = _
    rw [h, tx_app, tx_app, seps_cons, List.append_assoc]
    rfl
theorem join_txts (ts : List Tree) : Str.join (tx [32]) (ts.map fun u => tx (txt u)) = tx (txts ts) := by
  cases ts with
  | nil => rfl
  | cons t r => exact join_sp t r
theorem join_nil : ∀ ys : List (List Nat), Str.join (tx []) (ys.map tx) = tx ys.flatten
  | [] => rfl
  | [y] => by
    rw [List.flatten_cons, List.flatten_nil, List.append_nil]; rfl
  | y :: z :: r => by
    have h := join_nil (z :: r)
    rw [List.map_cons] at h
    rw [List.map_cons, List.map_cons]
    show tx y ++ tx [] ++ Str.join (tx []) (tx z :: r.map tx) = _
    rw [h, tx_app, tx_app, List.append_nil, List.flatten_cons (l := y)]
theorem txt_pos : ∀ {t : Tree}, WT t → 0 < (txt t).length
  | .w x, h => by rw [txt_w]; exact List.length_pos_iff.mpr h.word.ne
  | .l ts, _ => by rw [txt_l, List.length_cons]; omega
mutual
theorem txt_len : ∀ {t : Tree}, WT t → (txt t).length + 1 ≤ 14 * t.size
  | .w x, h => by
    rw [txt_w, size_w]
    have := h.word.len
    omega
  | .l [], _ => by
    rw [txt, size_l, sizes_nil]
    show 2 + 1 ≤ _
    omega
  | .l (t :: r), h => by
    have h1 := txt_len h.list.head
    have h2 := seps_len h.list.tail
    rw [txt, size_l, sizes_cons, List.length_cons, List.length_append, List.length_append, List.length_singleton]
    omega
theorem seps_len : ∀ {ts : List Tree}, WTs ts → (seps ts).length ≤ 14 * sizes ts
  | [], _ => by rw [seps_nil]; exact Nat.zero_le _
  | t :: r, h => by
    have h1 := txt_len h.head
    have h2 := seps_len h.tail
    rw [seps_cons, sizes_cons, List.length_cons, List.length_append]
    omega
end
/-! ### tokens, and texts that hold them with blanks between -/
mutual
def toks : Tree → List (List Nat)
  | .w x => [x]
  | .l ts => [40] :: (tokss ts ++ [[41]])
def tokss : List Tree → List (List Nat)
  | [] => []
  | t :: r => toks t ++ tokss r
end
theorem toks_w (x : List Nat) : toks (.w x) = [x] := by rw [toks]
theorem toks_l (ts : List Tree) : toks (.l ts) = [40] :: (tokss ts ++ [[41]]) := by rw [toks]
theorem tokss_nil : tokss [] = [] := by rw [tokss]
theorem tokss_cons (t : Tree) (r : List Tree) : tokss (t :: r) = toks t ++ tokss r := by rw [tokss]
theorem tokss_app : ∀ a b : List Tree, tokss (a ++ b) = tokss a ++ tokss b
  | [], b => by rw [tokss_nil]; rfl
  | t :: a, b => by rw [List.cons_append, tokss_cons, tokss_cons, tokss_app a b, List.append_assoc]
def Blanks (g : List Nat) : Prop := ∀ b ∈ g, b = 32 ∨ b = 10
/-- what stands behind a word without a blank begins with no sign -/
def Free (cs : List Nat) : Prop := ∀ c r, cs = c :: r → ¬ Sign c
/-- cs, which begins with no blank, holds the tokens -/
def Rest : List Nat → List (List Nat) → Prop
  | cs, [] => cs = []
  | cs, t :: r => ∃ g cs', cs = t ++ (g ++ cs') ∧ Blanks g ∧ (IsWord t → g = [] → Free cs') ∧ Rest cs' r
/-- s follows a token (a word or not) and holds the tokens r -/
def After (word : Bool) (s : List Nat) (r : List (List Nat)) : Prop := ∃ g cs', s = g ++ cs' ∧ Blanks g ∧ (word = true → g = [] → Free cs') ∧ Rest cs' r
theorem blanks_nil : Blanks [] := fun b h => absurd h (List.not_mem_nil)
theorem not_word40 : ¬ IsWord [40] := fun ⟨c, cs, e, h, _⟩ => by
  have e1 := (List.cons.inj e).1
  have := h.1
  omega
theorem not_word41 : ¬ IsWord [41] := fun ⟨c, cs, e, h, _⟩ => by
  have e1 := (List.cons.inj e).1
  have := h.1
  omega
theorem After.word {x s : List Nat} {r : List (List Nat)} (h : After true s r) : Rest (x ++ s) (x :: r) := by
  obtain ⟨g, cs', rfl, b, f, q⟩ := h
  exact ⟨g, cs', rfl, b, fun _ => f rfl, q⟩
theorem After.paren {x s : List Nat} {r : List (List Nat)} (n : ¬ IsWord x) (h : After false s r) : Rest (x ++ s) (x :: r) := by
  obtain ⟨g, cs', rfl, b, f, q⟩ := h
  exact ⟨g, cs', rfl, b, fun z => absurd z n, q⟩
theorem Rest.after {cs : List Nat} {r : List (List Nat)} (h : Rest cs r) : After false cs r := ⟨[], cs, rfl, blanks_nil, fun z => Bool.noConfusion z, h⟩
theorem After.weak {s : List Nat} {r : List (List Nat)} (h : After true s r) : After false s r := by
  obtain ⟨g, cs', e, b, f, q⟩ := h
  exact ⟨g, cs', e, b, fun z => Bool.noConfusion z, q⟩
theorem free41 (s : List Nat) : Free (41 :: s) := fun c r e h => by
  cases e
  rcases h with ⟨h, _⟩ | ⟨h, _⟩ <;> omega
mutual
theorem rest_txt : ∀ {t : Tree} {s : List Nat} {r : List (List Nat)}, WT t → After true s r → Rest (txt t ++ s) (toks t ++ r)
  | .w x, s, r, h, a => by
    rw [txt_w, toks_w]
    exact a.word
  | .l [], s, r, h, a => by
    rw [txt, toks_l, tokss_nil]
    exact After.paren (x := [40]) (s := 41 :: s) not_word40 (Rest.after (After.paren (x := [41]) not_word41 a.weak))
  | .l (t :: l), s, r, h, a => by
    rw [txt, toks_l, tokss_cons]
    have h1 := rest_seps (ts := l) (s := s) h.list.tail a
    have h2 := rest_txt (t := t) h.list.head h1
    have e1 : 40 :: (txt t ++ seps l ++ [41]) ++ s = [40] ++ (txt t ++ (seps l ++ (41 :: s))) := by simp
    have e2 : [40] :: (toks t ++ tokss l ++ [[41]]) ++ r = [40] :: (toks t ++ (tokss l ++ ([41] :: r))) := by simp
    rw [e1, e2]
    exact After.paren not_word40 h2.after
theorem rest_seps : ∀ {ts : List Tree} {s : List Nat} {r : List (List Nat)}, WTs ts → After true s r → After true (seps ts ++ (41 :: s)) (tokss ts ++ ([41] :: r))
  | [], s, r, h, a => by
    rw [seps_nil, tokss_nil]
    exact ⟨[], 41 :: s, rfl, blanks_nil, fun _ _ => free41 s, After.paren (x := [41]) not_word41 a.weak⟩
  | t :: l, s, r, h, a => by
    have h1 := rest_seps (ts := l) (s := s) h.tail a
    have h2 := rest_txt (t := t) h.head h1
    rw [seps_cons, tokss_cons]
    refine ⟨[32], txt t ++ (seps l ++ (41 :: s)), by simp, fun b hb => .inl (List.mem_singleton.mp hb), fun _ z => absurd z (by simp), ?_⟩
    rw [List.append_assoc]
    exact h2
end
theorem rest_of_txt {t : Tree} (h : WT t) : Rest (txt t) (toks t) := by
  have q := rest_txt (t := t) (s := []) (r := []) h ⟨[], [], rfl, blanks_nil, fun _ _ c r e => (by cases e), rfl⟩
  rw [List.append_nil, List.append_nil] at q
  exact q
/-! ### the reader over tokens: the lists that are open, the innermost first (without the one that takes the whole) -/
def reads : List (List Nat) → List (List Tree) → Option Tree
  | [], _ => none
  | t :: r, st =>
    if t = [40] then reads r ([] :: st)
    else if t = [41] then
      match st with
      | [] => none
      | [l] => if r = [] then some (.l l) else none
      | l :: l2 :: st => reads r ((l2 ++ [.l l]) :: st)
    else
      match st with
      | [] => if r = [] then some (.w t) else none
      | l :: st => reads r ((l ++ [.w t]) :: st)
theorem reads_open (r : List (List Nat)) (st : List (List Tree)) : reads ([40] :: r) st = reads r ([] :: st) := by
  conv => lhs; unfold reads
  rw [if_pos rfl]
theorem reads_close (r : List (List Nat)) (l l2 : List Tree) (st : List (List Tree)) : reads ([41] :: r) (l :: l2 :: st) = reads r ((l2 ++ [.l l]) :: st) := by
  conv => lhs; unfold reads
  rw [if_neg (by decide), if_pos rfl]
theorem reads_close1 (r : List (List Nat)) (l : List Tree) : reads ([41] :: r) [l] = if r = [] then some (.l l) else none := by
  conv => lhs; unfold reads
  rw [if_neg (by decide), if_pos rfl]
theorem reads_close0 (r : List (List Nat)) : reads ([41] :: r) [] = none := by
  conv => lhs; unfold reads
  rw [if_neg (by decide), if_pos rfl]
theorem reads_word {x : List Nat} (h1 : x ≠ [40]) (h2 : x ≠ [41]) (r : List (List Nat)) (l : List Tree) (st : List (List Tree)) : reads (x :: r) (l :: st) = reads r ((l ++ [.w x]) :: st) := by
  conv => lhs; unfold reads
  rw [if_neg h1, if_neg h2]
theorem reads_word0 {x : List Nat} (h1 : x ≠ [40]) (h2 : x ≠ [41]) (r : List (List Nat)) : reads (x :: r) [] = if r = [] then some (.w x) else none := by
  conv => lhs; unfold reads
  rw [if_neg h1, if_neg h2]
theorem word_ne {x : List Nat} (h : IsWord x) : x ≠ [40] ∧ x ≠ [41] := ⟨fun e => not_word40 (e ▸ h), fun e => not_word41 (e ▸ h)⟩
mutual
theorem reads_in : ∀ {t : Tree} {r : List (List Nat)} {l : List Tree} {st : List (List Tree)}, WT t → reads (toks t ++ r) (l :: st) = reads r ((l ++ [t]) :: st)
  | .w x, r, l, st, h => by
    have n := word_ne h.word
    rw [toks_w, List.singleton_append, reads_word n.1 n.2]
  | .l ts, r, l, st, h => by
    rw [toks_l, List.cons_append, reads_open, List.append_assoc, reads_ins h.list, List.nil_append, List.singleton_append, reads_close]
theorem reads_ins : ∀ {ts : List Tree} {r : List (List Nat)} {l : List Tree} {st : List (List Tree)}, WTs ts → reads (tokss ts ++ r) (l :: st) = reads r ((l ++ ts) :: st)
  | [], r, l, st, h => by rw [tokss_nil, List.append_nil, List.nil_append]
  | t :: ts, r, l, st, h => by
    rw [tokss_cons, List.append_assoc, reads_in h.head, reads_ins h.tail, List.append_assoc]
    rfl
end
theorem reads_whole : ∀ {t : Tree}, WT t → reads (toks t) [] = some t
  | .w x, h => by
    have n := word_ne h.word
    rw [toks_w, reads_word0 n.1 n.2]
    rfl
  | .l ts, h => by
    rw [toks_l, reads_open, reads_ins h.list, List.nil_append, reads_close1]
    rfl
/-- a token of a tree -/
def IsTok (x : List Nat) : Prop := x = [40] ∨ x = [41] ∨ IsWord x
mutual
theorem toks_all : ∀ {t : Tree}, WT t → ∀ x ∈ toks t, IsTok x
  | .w x, h, y, m => by
    rw [toks_w] at m
    rw [List.mem_singleton.mp m]
    exact .inr (.inr h.word)
  | .l ts, h, y, m => by
    rw [toks_l] at m
    rcases List.mem_cons.mp m with e | m
    · exact .inl e
    · rcases List.mem_append.mp m with m | m
      · exact tokss_all h.list y m
      · exact .inr (.inl (List.mem_singleton.mp m))
theorem tokss_all : ∀ {ts : List Tree}, WTs ts → ∀ x ∈ tokss ts, IsTok x
  | [], h, y, m => by rw [tokss_nil] at m; cases m
  | t :: ts, h, y, m => by
    rw [tokss_cons] at m
    rcases List.mem_append.mp m with m | m
    · exact toks_all h.head y m
    · exact tokss_all h.tail y m
end
theorem IsTok.ne {x : List Nat} (h : IsTok x) : x ≠ [] := by
  rcases h with rfl | rfl | h
  · simp
  · simp
  · exact h.ne
theorem IsTok.first {x : List Nat} (h : IsTok x) : ∃ c r, x = c :: r ∧ c ≠ 32 ∧ c ≠ 10 := by
  rcases h with rfl | rfl | ⟨c, r, rfl, hc, _⟩
  · exact ⟨40, [], rfl, by decide, by decide⟩
  · exact ⟨41, [], rfl, by decide, by decide⟩
  · have := hc.1
    exact ⟨c, r, rfl, by omega, by omega⟩
theorem IsTok.word {x : List Nat} (h : IsTok x) (h1 : x ≠ [40]) (h2 : x ≠ [41]) : IsWord x := by
  rcases h with e | e | h
  · exact absurd e h1
  · exact absurd e h2
  · exact h
/-- a text that holds tokens begins with no blank -/
def NoBlank (cs : List Nat) : Prop := ∀ c r, cs = c :: r → c ≠ 32 ∧ c ≠ 10
theorem Rest.noBlank {cs : List Nat} {r : List (List Nat)} (h : Rest cs r) (ht : ∀ x ∈ r, IsTok x) : NoBlank cs := by
  intro c r' e
  cases r with
  | nil =>
    rw [show cs = [] from h] at e
    cases e
  | cons t r =>
    obtain ⟨g, cs', rfl, _⟩ := h
    obtain ⟨d, q, rfl, h1, h2⟩ := (ht t (List.mem_cons_self ..)).first
    rw [List.cons_append] at e
    have := (List.cons.inj e).1
    rw [← this]
    exact ⟨h1, h2⟩
end Og

namespace Og
open PySem PySem.Spec PyProof.Rows L2
theorem lit_BLANKS : (" \n" : Str) = tx [32, 10] := by decide +kernel
theorem blank_mem {c : Nat} : c ∈ [32, 10] ↔ c = 32 ∨ c = 10 := by simp
theorem drop_at {cs : List Nat} {j : Nat} (h : j < cs.length) : ∃ c, atI cs (j : Int) = some c ∧ cs.drop j = c :: cs.drop (j + 1) :=
  ⟨cs[j], atI_nat (List.getElem?_eq_getElem h), List.drop_eq_getElem_cons h⟩
/-- blanks ahead of what begins with none: one way only -/
theorem blanks_one : ∀ {g g' a b : List Nat}, Blanks g → Blanks g' → NoBlank a → NoBlank b → g ++ a = g' ++ b → g = g' ∧ a = b
  | [], [], a, b, _, _, _, _, e => ⟨rfl, e⟩
  | [], c :: g', a, b, _, h, n, _, e => by
    have q := n c (g' ++ b) e
    rcases h c (List.mem_cons_self ..) with z | z
    · exact absurd z q.1
    · exact absurd z q.2
  | c :: g, [], a, b, h, _, _, n, e => by
    have q := n c (g ++ a) e.symm
    rcases h c (List.mem_cons_self ..) with z | z
    · exact absurd z q.1
    · exact absurd z q.2
  | c :: g, c' :: g', a, b, h, h', n, n', e => by
    have e1 := (List.cons.inj e).1
    have q := blanks_one (fun x m => h x (List.mem_cons_of_mem _ m)) (fun x m => h' x (List.mem_cons_of_mem _ m)) n n' (List.cons.inj e).2
    exact ⟨by rw [e1, q.1], q.2⟩
section
variable {P : Program} {w : World} {K : PySem.W.Frag} {mg : Str → Option Value} {base : Heap}
def spBlanks : Sp := fun vs H Q _ => ∃ (cs : List Nat) (i : Nat), vs = [.str (tx cs), .int i] ∧ i ≤ cs.length ∧ cs.length ≤ 4000000 ∧
  ∀ (j : Nat) (g : List Nat), i ≤ j → j ≤ cs.length → cs.drop i = g ++ cs.drop j → Blanks g → NoBlank (cs.drop j) → j = i + g.length → Q (.int j) H
theorem has_blanks {k : Nat} (D : DefAt K mg "_behind_blanks" s_behind_blanks p_behind_blanks) (B : Bn mg) (M : Mc mg) : Has P w K mg base (k + 1) "_behind_blanks" p_behind_blanks spBlanks := by
  obtain ⟨f, fd, F, hm, hb⟩ := D.ex
  obtain ⟨_, M_BLANKS⟩ := M.BLANKS
  refine ⟨f, fd, F.ok sc_behind_blanks (fun vs H Q E h => ?_) (fun cdv A outer s H vs Q E hr h => ?_), hm, F.kp, hb⟩
  · obtain ⟨a, d, rfl, _⟩ := h
    rfl
  obtain ⟨cs, i, rfl, hi, hl, q⟩ := h
  refine ⟨_, (pss_cons (ps_set (i := 2) sc_behind_blanks.nd rfl (.inl rfl) (pv 1))
    (pss_cons (ps_while PassesOwn.never (PW.pt (pw_and (pt_cmpR op_lt (pv 2) (pe_callB call_len_str (by rfl) B.len PySem.boot_len (pa_cons (pv 0) pa_nil)) (nomark _)) (pw_and1 (pt_cmpR op_in_sign (pe_ix ix_str (pv 0) (pv 2) (fun _ _ => rfl)) (pe_glob (v := .str " \n") rfl M_BLANKS ⟨_, rfl⟩) (by rfl))))) (pss_one (ps_aug (i := 2) sc_behind_blanks.nd rfl (.inl rfl) pe_int ip_add)))
    (pss_one (ps_ret (pv 2))))), ?_⟩
  refine ⟨_, rfl, ?_⟩
  have sz : (tx cs).length ≤ sizeLine := by rw [tx_len]; exact Nat.le_trans hl (by decide)
  obtain ⟨W, hW⟩ : ∃ W : Nat → L2.St → Hp → Prop, W = fun m σ H' => H' = H ∧ ∃ (j : Nat) (g : List Nat), σ = [some (.str (tx cs)), some (.int i), some (.int j)] ∧ m = cs.length - j ∧ i ≤ j ∧ j ≤ cs.length ∧ cs.drop i = g ++ cs.drop j ∧ Blanks g ∧ j = i + g.length := ⟨_, rfl⟩
  refine ⟨W, ⟨cs.length - i, by rw [hW]; exact ⟨rfl, i, [], rfl, rfl, Nat.le_refl _, hi, rfl, blanks_nil, rfl⟩⟩, fun m σ H1 p => ?_⟩
  rw [hW] at p
  obtain ⟨rfl, j, g, rfl, rfl, h1, h2, h3, h4, h5⟩ := p
  have fin : NoBlank (cs.drop j) → Q (.int j) H1 := fun n => q j g h1 h2 h3 h4 n h5
  refine ⟨_, rfl, _, rfl, _, rfl, sz, _, _, rfl, rfl, _, rfl, ?_⟩
  rw [tx_len]
  refine ite2 (fun c => ?_) (fun c => ?_)
  · have c' : (j : Int) < (cs.length : Int) := of_decide_eq_true c
    have c2 : j < cs.length := by omega
    obtain ⟨x, hx, hd⟩ := drop_at c2
    refine ⟨_, rfl, _, rfl, _, _, x, rfl, rfl, sz, hx, x, _, rfl, rfl, _, rfl, ?_⟩
    refine ite2 (fun b => ?_) (fun b => ?_)
    · have b' := of_decide_eq_true b
      rw [lit_BLANKS, tx_list, blank_mem] at b'
      refine ⟨fun σ' H' => ∃ m', m' < cs.length - j ∧ W m' σ' H', fun _ _ h => h, ?_⟩
      refine ⟨_, rfl, _, _, rfl, rfl, ?_⟩
      refine ⟨cs.length - (j + 1), by omega, ?_⟩
      rw [hW]
      refine ⟨rfl, j + 1, g ++ [x], rfl, rfl, by omega, by omega, ?_, ?_, by rw [List.length_append, List.length_singleton]; omega⟩
      · rw [h3, hd, List.append_assoc]; rfl
      · intro y hy
        rcases List.mem_append.mp hy with m | m
        · exact h4 y m
        · rw [List.mem_singleton.mp m]; exact b'
    · have b' := of_decide_eq_false (Bool.eq_false_iff.mpr b)
      rw [lit_BLANKS, tx_list, blank_mem] at b'
      refine ⟨_, rfl, fin fun c r e => ?_⟩
      rw [hd] at e
      have e1 := (List.cons.inj e).1
      subst e1
      exact ⟨fun z => b' (.inl z), fun z => b' (.inr z)⟩
  · have c' : ¬ (j : Int) < (cs.length : Int) := of_decide_eq_false (Bool.eq_false_iff.mpr c)
    refine iteF ⟨_, rfl, fin fun c r e => ?_⟩
    rw [List.drop_eq_nil_of_le (by omega)] at e
    cases e
end
end Og

namespace Og
open PySem PySem.Spec PyProof.Rows L2
theorem lit_RUN : ("abcdefghijklmnopqrstuvwxyz0123456789" : Str) = tx ((List.range 26).map (· + 97) ++ (List.range 10).map (· + 48)) := by decide +kernel
theorem mem_letters {c : Nat} : c ∈ (List.range 26).map (· + 97) ↔ Letter c := by
  constructor
  · intro h
    obtain ⟨y, hy, rfl⟩ := List.mem_map.mp h
    have := List.mem_range.mp hy
    exact ⟨by omega, by omega⟩
  · intro ⟨h1, h2⟩
    exact List.mem_map.mpr ⟨c - 97, List.mem_range.mpr (by omega), by omega⟩
theorem mem_signs {c : Nat} : c ∈ (List.range 26).map (· + 97) ++ (List.range 10).map (· + 48) ↔ Sign c := by
  rw [List.mem_append, mem_letters]
  constructor
  · rintro (h | h)
    · exact .inl h
    · obtain ⟨y, hy, rfl⟩ := List.mem_map.mp h
      have := List.mem_range.mp hy
      exact .inr ⟨by omega, by omega⟩
  · rintro (h | ⟨h1, h2⟩)
    · exact .inl h
    · exact .inr (List.mem_map.mpr ⟨c - 48, List.mem_range.mpr (by omega), by omega⟩)
theorem IsWord.signs {x : List Nat} (h : IsWord x) : ∀ y ∈ x, Sign y := by
  obtain ⟨c, cs, rfl, hc, hs, _⟩ := h
  intro y m
  rcases List.mem_cons.mp m with e | m
  · rw [e]; exact .inl hc
  · exact hs y m
theorem drop_get {cs x : List Nat} {i e : Nat} (h : cs.drop i = x) : cs[i + e]? = x[e]? := by
  rw [← h, List.getElem?_drop]
end Og

namespace Og
open PySem PySem.Spec PyProof.Rows L2
section
variable {P : Program} {w : World} {K : PySem.W.Frag} {mg : Str → Option Value} {base : Heap}
def spWordAt : Sp := fun vs H Q _ => ∃ (cs x rest : List Nat) (i : Nat), vs = [.str (tx cs), .int i] ∧ cs.drop i = x ++ rest ∧ IsWord x ∧ Free rest ∧ cs.length ≤ 4000000 ∧ Q (.str (tx x)) H
theorem has_wordat {k : Nat} (D : DefAt K mg "_word_at" s_word_at p_word_at) (B : Bn mg) (M : Mc mg) : Has P w K mg base (k + 1) "_word_at" p_word_at spWordAt := by
  obtain ⟨f, fd, F, hm, hb⟩ := D.ex
  obtain ⟨_, M_LETTERS⟩ := M.LETTERS
  obtain ⟨_, M_RUN_SIGNS⟩ := M.RUN_SIGNS
  obtain ⟨_, M_LONGEST_WORD⟩ := M.LONGEST_WORD
  refine ⟨f, fd, F.ok sc_word_at (fun vs H Q E h => ?_) (fun cdv A outer s H vs Q E hr h => ?_), hm, F.kp, hb⟩
  · obtain ⟨a, d, _, _, rfl, _⟩ := h
    rfl
  obtain ⟨cs, x, rest, i, rfl, hd, wx, fr, hl, q⟩ := h
  refine ⟨_, (pss_cons (ps_if (pt_cmpR op_notIn_sign (pe_ix ix_str (pv 0) (pv 1) (fun _ _ => rfl)) (pe_glob (v := .str "abcdefghijklmnopqrstuvwxyz") rfl M_LETTERS ⟨_, rfl⟩) (by rfl)) (pss_one ps_never) pss_nil)
    (pss_cons (ps_set (i := 2) sc_word_at.nd rfl (.inl rfl) (pe_op op_add (pv 1) pe_int))
    (pss_cons (ps_while PassesOwn.never (PW.pt (pw_and (pt_cmpR op_lt (pv 2) (pe_callB call_len_str (by rfl) B.len PySem.boot_len (pa_cons (pv 0) pa_nil)) (nomark _)) (pw_and1 (pt_cmpR op_in_sign (pe_ix ix_str (pv 0) (pv 2) (fun _ _ => rfl)) (pe_glob (v := .str "abcdefghijklmnopqrstuvwxyz0123456789") rfl M_RUN_SIGNS ⟨_, rfl⟩) (by rfl))))) (pss_cons (ps_if (pt_cmpR op_eq (pe_op op_sub (pv 2) (pv 1)) (pe_glob (v := .int 12) rfl M_LONGEST_WORD ⟨_, rfl⟩) (nomark _)) (pss_one ps_never) pss_nil)
      (pss_one (ps_aug (i := 2) sc_word_at.nd rfl (.inl rfl) pe_int ip_add))))
    (pss_one (ps_ret (pe_slice sl_str (pv 0) (po_some (pv 1)) (po_some (pv 2)))))))), ?_⟩
  have sz : (tx cs).length ≤ sizeLine := by rw [tx_len]; exact Nat.le_trans hl (by decide)
  have l12 := wx.len
  have lx : 0 < x.length := List.length_pos_iff.mpr wx.ne
  have li : i + x.length + rest.length = cs.length := by
    have := congrArg List.length hd
    rw [List.length_drop, List.length_append] at this
    omega
  have at_ : ∀ e, e < x.length → ∃ c, atI cs ((i + e : Nat) : Int) = some c ∧ c ∈ x := fun e he => by
    have h1 : cs[i + e]? = some x[e] := by rw [drop_get hd, List.getElem?_append_left he, List.getElem?_eq_getElem he]
    exact ⟨_, atI_nat h1, List.getElem_mem he⟩
  -- the first sign is a letter
  obtain ⟨c0, hc0, _⟩ := at_ 0 lx
  have first : Letter c0 := by
    obtain ⟨c, r, rfl, hc, _⟩ := wx
    have h1 : cs[i + 0]? = some c := by rw [drop_get hd]; rfl
    have h2 : atI cs ((i + 0 : Nat) : Int) = some c := atI_nat h1
    rw [h2] at hc0
    cases hc0
    exact hc
  refine ⟨_, rfl, _, rfl, _, _, c0, rfl, rfl, sz, hc0, c0, _, rfl, rfl, _, rfl, ?_⟩
  rw [lit_letters, tx_list, decide_eq_true (mem_letters.mpr first)]
  refine iteF ?_
  refine ⟨_, rfl, _, _, rfl, rfl, ?_⟩
  obtain ⟨W, hW⟩ : ∃ W : Nat → L2.St → Hp → Prop, W = fun m σ H' => H' = H ∧ ∃ (e : Nat), σ = [some (.str (tx cs)), some (.int i), some (.int ((i : Int) + (e : Int)))] ∧ m = x.length - e ∧ 1 ≤ e ∧ e ≤ x.length := ⟨_, rfl⟩
  refine ⟨W, ⟨x.length - 1, by rw [hW]; exact ⟨rfl, 1, rfl, rfl, Nat.le_refl _, lx⟩⟩, fun m σ H1 p => ?_⟩
  rw [hW] at p
  obtain ⟨rfl, e, rfl, rfl, h1, h2⟩ := p
  have cut : e = x.length → cutS (tx cs) (some (i : Int)) (some ((i : Int) + (e : Int))) = tx x := fun z => by
    rw [show (i : Int) + (e : Int) = ((i + e : Nat) : Int) by omega, cutS_nat cs (by omega) (by omega), hd]
    rw [show i + e - i = x.length by omega, List.take_left]
  have e0 : (i : Int) + (e : Int) = ((i + e : Nat) : Int) := by omega
  refine ⟨_, rfl, _, rfl, _, rfl, sz, _, _, rfl, rfl, _, rfl, ?_⟩
  rw [tx_len]
  refine ite2 (fun c => ?_) (fun c => ?_)
  · have c' : (i : Int) + (e : Int) < (cs.length : Int) := of_decide_eq_true c
    by_cases he : e < x.length
    · obtain ⟨c1, hc1, m1⟩ := at_ e he
      refine ⟨_, rfl, _, rfl, _, _, c1, rfl, rfl, sz, by rw [e0]; exact hc1, c1, _, rfl, rfl, _, rfl, ?_⟩
      rw [lit_RUN, tx_list, decide_eq_true (mem_signs.mpr (wx.signs _ m1))]
      refine iteT ⟨fun σ' H' => ∃ m', m' < x.length - e ∧ W m' σ' H', fun _ _ h => h, ?_⟩
      refine ⟨_, rfl, _, rfl, _, _, rfl, rfl, rfl, _, rfl, ?_⟩
      rw [decide_eq_false (fun z => by have := V.int.inj z; omega)]
      refine iteF ?_
      refine ⟨_, rfl, _, _, rfl, rfl, x.length - (e + 1), by omega, ?_⟩
      rw [hW]
      refine ⟨rfl, e + 1, ?_, rfl, by omega, by omega⟩
      show [some (V.str (tx cs)), some (V.int i), some (V.int ((i : Int) + (e : Int) + 1))] = _
      rw [show (i : Int) + (e : Int) + 1 = (i : Int) + ((e + 1 : Nat) : Int) by omega]
    · have he' : e = x.length := by omega
      have hr : rest ≠ [] := by
        intro z
        rw [z] at li
        have : ([] : List Nat).length = 0 := rfl
        omega
      obtain ⟨c1, r1, rfl⟩ := List.exists_cons_of_ne_nil hr
      have hc1 : atI cs ((i + e : Nat) : Int) = some c1 := atI_nat (by rw [drop_get hd, he', List.getElem?_append_right (Nat.le_refl _), Nat.sub_self]; rfl)
      refine ⟨_, rfl, _, rfl, _, _, c1, rfl, rfl, sz, by rw [e0]; exact hc1, c1, _, rfl, rfl, _, rfl, ?_⟩
      rw [lit_RUN, tx_list, decide_eq_false (fun z => fr c1 r1 rfl (mem_signs.mp z))]
      refine iteF ?_
      refine ⟨_, rfl, _, rfl, _, rfl, _, rfl, _, rfl, _, rfl, sz, ?_⟩
      rw [cut he']
      exact q
  · have c' : ¬ (i : Int) + (e : Int) < (cs.length : Int) := of_decide_eq_false (Bool.eq_false_iff.mpr c)
    have he' : e = x.length := by omega
    refine iteF ?_
    refine ⟨_, rfl, _, rfl, _, rfl, _, rfl, _, rfl, _, rfl, sz, ?_⟩
    rw [cut he']
    exact q
end
end Og

namespace Og
open PySem PySem.Spec PyProof.Rows L2
/-! ### read_value on a text that holds the tokens of a tree -/
/-- the open lists: at as, the innermost first; none has more than n items -/
def Stk (K : PySem.W.Frag) (H : Hp) (n : Nat) : List Addr → List (List Tree) → Prop
  | [], [] => True
  | a :: as, l :: st => (∃ vs, H a = some (.lst vs) ∧ Trs K H vs l ∧ vs.length ≤ n) ∧ Stk K H n as st
  | _, _ => False
theorem Stk.keep {K : PySem.W.Frag} {S : List Addr} {H H1 : Hp} {n m : Nat} (k : Keep S H H1) (hn : n ≤ m) : ∀ {as : List Addr} {st : List (List Tree)}, (∀ a ∈ as, a ∉ S) → Stk K H n as st → Stk K H1 m as st
  | [], [], _, _ => trivial
  | a :: as, l :: st, d, ⟨⟨vs, e, tr, hl⟩, h⟩ => ⟨⟨vs, k.get e (d a (List.mem_cons_self ..)), tr.keep k, Nat.le_trans hl hn⟩, Stk.keep k hn (fun x m => d x (List.mem_cons_of_mem _ m)) h⟩
  | [], _ :: _, _, h => h.elim
  | _ :: _, [], _, h => h.elim
theorem Stk.some {K : PySem.W.Frag} {H : Hp} {n : Nat} : ∀ {as : List Addr} {st : List (List Tree)}, Stk K H n as st → ∀ a ∈ as, ∃ o, H a = some o
  | [], _, _, a, m => absurd m (List.not_mem_nil)
  | b :: as, l :: st, ⟨⟨vs, e, _⟩, h⟩, a, m => by
    rcases List.mem_cons.mp m with q | q
    · rw [q]; exact ⟨_, e⟩
    · exact Stk.some h a q
  | _ :: _, [], h, _, _ => h.elim
theorem Stk.len {K : PySem.W.Frag} {H : Hp} {n : Nat} : ∀ {as : List Addr} {st : List (List Tree)}, Stk K H n as st → as.length = st.length
  | [], [], _ => rfl
  | _ :: _, _ :: _, ⟨_, h⟩ => by rw [List.length_cons, List.length_cons, Stk.len h]
  | [], _ :: _, h => h.elim
  | _ :: _, [], h => h.elim
theorem Blanks.free {g cs' : List Nat} (h : Blanks g) (ne : g ≠ []) : Free (g ++ cs') := by
  obtain ⟨c, r, rfl⟩ := List.exists_cons_of_ne_nil ne
  intro d r' e hs
  have e1 := (List.cons.inj e).1
  subst e1
  rcases h c (List.mem_cons_self ..) with q | q <;> rcases hs with ⟨h1, _⟩ | ⟨h1, h2⟩ <;> omega
end Og

namespace Og
open PySem PySem.Spec PyProof.Rows L2
theorem lit_open : ("(" : Str) = tx [40] := by decide +kernel
theorem lit_close : (")" : Str) = tx [41] := by decide +kernel
theorem lit_blank : (" " : Str) = tx [32] := by decide +kernel
theorem lit_nl : ("\n" : Str) = tx [10] := by decide +kernel
theorem lit_empty : ("" : Str) = tx [] := by decide +kernel
theorem lit_sopen : (" ( " : Str) = tx [32, 40, 32] := by decide +kernel
theorem lit_sclose : (" ) " : Str) = tx [32, 41, 32] := by decide +kernel
end Og

namespace Og
open PySem PySem.Spec PyProof.Rows L2
def Going (K : PySem.W.Frag) (H0 H : Hp) (u b : Addr) (n : Nat) (toks : List (List Nat)) (t : Tree) : Prop :=
  Keep [] H0 H ∧ ((∃ as st, H u = some (.lst ((b :: as.reverse).map V.ref)) ∧ H b = some (.lst []) ∧ Stk K H n as st ∧ (u :: b :: as).Nodup ∧ (∀ a ∈ as, H0 a = none) ∧ as.length ≤ n ∧ reads toks st = some t) ∨
    (∃ v, H u = some (.lst [.ref b]) ∧ H b = some (.lst [v]) ∧ Tr K H v t ∧ toks = []))
section
variable {P : Program} {w : World} {K : PySem.W.Frag} {mg : Str → Option Value} {base : Heap}
def spRead (K : PySem.W.Frag) : Sp := fun vs H Q _ => ∃ (g cs : List Nat) (toks : List (List Nat)) (t : Tree), vs = [.str (tx (g ++ cs))] ∧ Blanks g ∧ Rest cs toks ∧ (∀ x ∈ toks, IsTok x) ∧ reads toks [] = some t ∧ (g ++ cs).length ≤ 4000000 ∧
  ∀ (v : V) (H' : Hp), Tr K H' v t → Keep [] H H' → Q v H'
theorem has_read {k : Nat} (D : DefAt K mg "read_value" s_read_value p_read_value) (B : Bn mg) (c1 : Has P w K mg base k "_behind_blanks" p_behind_blanks spBlanks) (c2 : Has P w K mg base k "_word_at" p_word_at spWordAt) :
    Has P w K mg base (k + 1) "read_value" p_read_value (spRead K) := by
  obtain ⟨f, fd, F, hm, hb⟩ := D.ex
  obtain ⟨_, _, c_behind_blanks⟩ := c1
  obtain ⟨_, _, c_word_at⟩ := c2
  refine ⟨f, fd, F.ok sc_read_value (fun vs H Q E h => ?_) (fun cdv A outer s H vs Q E hr h => ?_), hm, F.kp, hb⟩
  · obtain ⟨_, _, _, _, rfl, _⟩ := h
    rfl
  obtain ⟨g0, cs0, toks0, t, rfl, bl0, rest0, tk0, rd0, sz0, q⟩ := h
  refine ⟨_, (pss_cons (ps_set (i := 1) sc_read_value.nd rfl (.inl rfl) (pe_lst (pa_cons (pe_lst pa_nil) pa_nil)))
    (pss_cons (ps_set (i := 2) sc_read_value.nd rfl (.inl rfl) (cal c_behind_blanks hr rfl (pa_cons (pv 0) (pa_cons pe_int pa_nil))))
    (pss_cons (ps_while PassesOwn.never (pt_not (pt_truth (pe_ix ix_list (pv 1) pe_int (fun _ _ => rfl)) (by intro _; rfl))) (pss_cons (ps_if (pt_cmpR op_eq (pv 2) (pe_callB call_len_str (by rfl) B.len PySem.boot_len (pa_cons (pv 0) pa_nil)) (nomark _)) (pss_one ps_never) pss_nil)
      (C8.pss_cut (ps_if (pt_cmpR op_eq (pe_ix ix_str (pv 0) (pv 2) (fun _ _ => rfl)) pe_str (nomark _)) (pss_cons (ps_expr (pe_bm PySem.F.plainAttrs_list PySem.F.slot_list_append PySem.F.type_list_append mt_append (pv 1) (pa_cons (pe_lst pa_nil) pa_nil)))
        (pss_one (ps_aug (i := 2) sc_read_value.nd rfl (.inl rfl) pe_int ip_add))) (pss_one (ps_if (PW.pt (pw_and (pt_cmpR op_eq (pe_ix ix_str (pv 0) (pv 2) (fun _ _ => rfl)) pe_str (nomark _)) (pw_and1 (pt_cmpR op_gt (pe_callB call_len_seq (by rfl) B.len PySem.boot_len (pa_cons (pv 1) pa_nil)) pe_int (nomark _))))) (pss_cons (ps_set (i := 3) sc_read_value.nd rfl (.inl rfl) (pe_bm0 PySem.F.plainAttrs_list PySem.F.slot_list_pop PySem.F.type_list_pop mt_pop (pv 1)))
          (pss_cons (ps_expr (pe_bm PySem.F.plainAttrs_list PySem.F.slot_list_append PySem.F.type_list_append mt_append (pe_ix ix_list (pv 1) (pe_un un_neg pe_int) (fun _ _ => rfl)) (pa_cons (pe_callTy call_tuple_of (by rfl) B.tuple (by decide +kernel) (pa_cons (pv 3) pa_nil)) pa_nil)))
          (pss_one (ps_aug (i := 2) sc_read_value.nd rfl (.inl rfl) pe_int ip_add)))) (pss_cons (ps_set (i := 4) sc_read_value.nd rfl (.inl rfl) (cal c_word_at hr rfl (pa_cons (pv 0) (pa_cons (pv 2) pa_nil))))
          (pss_cons (ps_expr (pe_bm PySem.F.plainAttrs_list PySem.F.slot_list_append PySem.F.type_list_append mt_append (pe_ix ix_list (pv 1) (pe_un un_neg pe_int) (fun _ _ => rfl)) (pa_cons (pv 4) pa_nil)))
          (pss_one (ps_aug (i := 2) sc_read_value.nd rfl (.inl rfl) (pe_callB call_len_str (by rfl) B.len PySem.boot_len (pa_cons (pv 4) pa_nil)) ip_add)))))))
      (pss_one (ps_set (i := 2) sc_read_value.nd rfl (.inl rfl) (cal c_behind_blanks hr rfl (pa_cons (pv 0) (pa_cons (pv 2) pa_nil))))))))
    (pss_cons (ps_if (pt_cmpR op_lt (pv 2) (pe_callB call_len_str (by rfl) B.len PySem.boot_len (pa_cons (pv 0) pa_nil)) (nomark _)) (pss_one ps_never) pss_nil)
    (pss_one (ps_ret (pe_ix ix_list (pe_ix ix_list (pv 1) pe_int (fun _ _ => rfl)) pe_int (fun _ _ => rfl)))))))), ?_⟩
  generalize hcs : g0 ++ cs0 = cs at sz0
  have sz : (tx cs).length ≤ sizeLine := by rw [tx_len]; exact Nat.le_trans sz0 (by decide)
  -- unfinished = [[]]
  refine ⟨Nat.zero_le _, fun b nb => ?_⟩
  refine ⟨by show (1 : Nat) ≤ sizeLine; decide, fun u nu => ?_⟩
  have ub : u ≠ b := by intro e; rw [e, upd_same] at nu; cases nu
  have k0 : Keep [] H (upd (upd H b (.lst [])) u (.lst [.ref b])) := (Keep.new nb).newT nu
  have nu0 : H u = none := (Keep.new (S := []) nb).free nu
  generalize hHa : upd (upd H b (.lst [])) u (.lst [.ref b]) = Ha at k0
  have ea : Ha u = some (.lst [.ref b]) := by rw [← hHa, upd_same]
  have eb : Ha b = some (.lst []) := by rw [← hHa, upd_ne ub.symm, upd_same]
  -- at = _behind_blanks(text, 0)
  refine ⟨_, rfl, cs, 0, rfl, Nat.zero_le _, sz0, fun j g' h1 h2 h3 h4 h5 h6 => ?_⟩
  have nbk := rest0.noBlank tk0
  rw [List.drop_zero] at h3
  obtain ⟨eg, ec⟩ := blanks_one bl0 h4 nbk h5 (hcs.trans h3)
  obtain ⟨W, hW⟩ : ∃ W : Nat → L2.St → Hp → Prop, W = fun m σ H' => ∃ (y3 y4 : Option V) (i : Nat) (toks : List (List Nat)), σ = [some (.str (tx cs)), some (.ref u), some (.int i), y3, y4] ∧ m = toks.length ∧ i ≤ cs.length ∧ Rest (cs.drop i) toks ∧ (∀ x ∈ toks, IsTok x) ∧ Going K H H' u b i toks t := ⟨_, rfl⟩
  refine ⟨W, ⟨toks0.length, ?_⟩, fun m σ H1 pw => ?_⟩
  · rw [hW]
    refine ⟨none, none, j, toks0, rfl, rfl, h2, by rw [← ec]; exact rest0, tk0, k0, .inl ⟨[], [], ea, eb, trivial, ?_, by simp, Nat.zero_le _, rd0⟩⟩
    simp [ub]
  clear eg ec h1 h2 h3 h4 h5 h6 ea eb hHa k0 nbk
  rw [hW] at pw
  obtain ⟨y3, y4, i, toks, rfl, rfl, hi, rest, tks, k1, go⟩ := pw
  rcases go with ⟨as, st, eu, eb, stk, nd, fresh, asl, rd⟩ | ⟨v, eu, eb, tv, rfl⟩
  · -- the reading goes on
    refine ⟨_, rfl, u, _, _, _, rfl, rfl, SqL.of eu, atI_zero _ _, _, tru_list eb, ?_⟩
    refine iteT ⟨fun σ' H' => ∃ m', m' < toks.length ∧ W m' σ' H', fun _ _ h => h, ?_⟩
    cases toks with
    | nil => cases rd
    | cons tk r =>
    obtain ⟨g, cs', e0, bg, fr, rest'⟩ := rest
    have tkok := tks tk (List.mem_cons_self ..)
    have tks' : ∀ x ∈ r, IsTok x := fun x m => tks x (List.mem_cons_of_mem _ m)
    obtain ⟨c, tr, etk, _, _⟩ := tkok.first
    have lene : i + tk.length + g.length + cs'.length = cs.length := by
      have := congrArg List.length e0
      rw [List.length_drop, List.length_append, List.length_append] at this
      omega
    have tkl : 0 < tk.length := List.length_pos_iff.mpr tkok.ne
    have hci : atI cs (i : Int) = some c := atI_nat (by
      have := drop_get (e := 0) e0
      rw [Nat.add_zero] at this
      rw [this, etk]; rfl)
    have ddrop : cs.drop (i + tk.length) = g ++ cs' := by
      rw [← List.drop_drop, e0, List.drop_left]
    have nu1 : u ≠ b := ub
    have asu : ∀ a ∈ as, a ≠ u := fun a m e => (List.nodup_cons.mp nd).1 (List.mem_cons_of_mem _ (e ▸ m))
    have asb : ∀ a ∈ as, a ≠ b := fun a m e => (List.nodup_cons.mp (List.nodup_cons.mp nd).2).1 (e ▸ m)
    have ndas : as.Nodup := (List.nodup_cons.mp (List.nodup_cons.mp nd).2).2
    -- if at == len(text)
    refine ⟨_, rfl, _, rfl, _, rfl, sz, rfl, _, rfl, ?_⟩
    rw [tx_len, decide_eq_false (fun z => by have := V.int.inj z; omega)]
    refine iteF ?_
    -- the three ways, up to the blanks
    refine ⟨fun σ' H' => ∃ y3 y4, σ' = [some (.str (tx cs)), some (.ref u), some (.int ((i + tk.length : Nat) : Int)), y3, y4] ∧ Going K H H' u b (i + tk.length) r t, ?_, fun σ' H' hmid => ?_⟩
    · refine ⟨_, rfl, _, rfl, _, _, c, rfl, rfl, sz, hci, rfl, _, rfl, ?_⟩
      by_cases hop : tk = [40]
      · subst hop
        have e1 := (List.cons.inj etk).1
        subst e1
        rw [lit_open, decide_eq_true (show V.str ⟨#[40]⟩ = V.str (tx [40]) from rfl)]
        refine iteT ?_
        refine ⟨_, rfl, .inl ⟨rfl, _, SqL.of eu⟩, Nat.zero_le _, fun n nn => ?_⟩
        have un : u ≠ n := ne_of_none eu nn
        have bn : b ≠ n := ne_of_none eb nn
        have eu2 : (upd H1 n (.lst [])) u = some (.lst ((b :: as.reverse).map V.ref)) := by rw [upd_ne un]; exact eu
        refine ⟨u, _, _, rfl, rfl, eu2, ?_, ?_⟩
        · rw [List.length_map, List.length_cons, List.length_reverse]
          exact Nat.lt_of_le_of_lt (show _ ≤ 4000001 by omega) (by decide)
        refine ⟨_, rfl, _, _, rfl, rfl, _, _, rfl, ?_⟩
        have kn : Keep [] H1 (upd H1 n (.lst [])) := Keep.new nn
        have ku : Keep [u] (upd H1 n (.lst [])) (upd (upd H1 n (.lst [])) u (.lst ((b :: as.reverse).map V.ref ++ [.ref n]))) := Keep.set eu2 (List.mem_cons_self ..)
        refine ⟨((k1.trans kn).cons.trans (ku.mono (by simp))).drop nu0, .inl ⟨n :: as, [] :: st, ?_, ?_, ⟨⟨[], ?_, trs_nil, Nat.zero_le _⟩, ?_⟩, ?_, ?_, ?_, ?_⟩⟩
        · rw [upd_same, List.reverse_cons]
          simp
        · rw [upd_ne ub.symm, upd_ne bn]; exact eb
        · rw [upd_ne un.symm, upd_same]
        · exact (stk.keep (m := i) kn (Nat.le_refl _) (by simp)).keep ku (by omega) (fun a m => by simpa using asu a m)
        · have na : n ∉ as := fun m => by
            obtain ⟨o, e⟩ := stk.some n m
            rw [nn] at e; cases e
          simp only [List.nodup_cons, List.mem_cons, not_or] at nd ⊢
          exact ⟨⟨ub, un, nd.1.2⟩, ⟨bn, nd.2.1⟩, na, nd.2.2⟩
        · intro a m
          rcases List.mem_cons.mp m with e | m
          · rw [e]; exact k1.free nn
          · exact fresh a m
        · rw [List.length_cons]
          have : ([40] : List Nat).length = 1 := rfl
          omega
        · rw [reads_open] at rd; exact rd
      · have c40 : c ≠ 40 := by
          intro e
          subst e
          rcases tkok with h | h | ⟨d, r', h, hl, _⟩
          · exact hop h
          · rw [h] at etk; cases etk
          · rw [h] at etk
            have := (List.cons.inj etk).1
            rw [this] at hl
            exact absurd hl.1 (by decide)
        rw [lit_open, decide_eq_false (show ¬ V.str ⟨#[c]⟩ = V.str (tx [40]) from fun z => c40 (List.cons.inj (tx_str (a := [c]) z)).1)]
        refine iteF ?_
        refine ⟨_, rfl, _, rfl, _, _, c, rfl, rfl, sz, hci, rfl, _, rfl, ?_⟩
        -- where the next item goes: the innermost open list, or the one that takes the whole
        have put : ∀ (H2 : Hp) (as : List Addr) (st : List (List Tree)) (x : V) (tt : Tree) (y3 y4 : Option V), Keep [] H H2 → H2 u = some (.lst ((b :: as.reverse).map V.ref)) → H2 b = some (.lst []) → Stk K H2 i as st → (u :: b :: as).Nodup → (∀ a ∈ as, H a = none) → as.length ≤ i → Tr K H2 x tt →
            (∀ l st', st = l :: st' → reads r ((l ++ [tt]) :: st') = some t) → (st = [] → r = [] ∧ tt = t) →
            ∃ (p : Addr) (vs : List V), atI ((b :: as.reverse).map V.ref) (-1) = some (.ref p) ∧ p ≠ u ∧ H2 p = some (.lst vs) ∧ vs.length < sizeLine ∧ Going K H (upd H2 p (.lst (vs ++ [x]))) u b (i + tk.length) r t := by
          intro H2 as st x tt y3 y4 kk eu eb stk nd fresh asl tx1 hgo hend
          have nub : u ≠ b := ub
          cases as with
          | nil =>
            cases st with
            | cons l st' => exact stk.elim
            | nil =>
              obtain ⟨er, et⟩ := hend rfl
              subst er et
              refine ⟨b, [], rfl, ub.symm, eb, (by decide), ?_⟩
              have kb : Keep [b] H2 (upd H2 b (.lst ([] ++ [x]))) := Keep.set eb (List.mem_cons_self ..)
              exact ⟨(kk.cons.trans (kb.mono (by simp))).drop nb, .inr ⟨x, by rw [upd_ne ub]; exact eu, upd_same, tx1.keep kb, rfl⟩⟩
          | cons a as' =>
            cases st with
            | nil => exact stk.elim
            | cons l st' =>
              obtain ⟨⟨vs, ea, ta, la⟩, stk'⟩ := stk
              have nau : a ≠ u := fun e => (List.nodup_cons.mp nd).1 (by rw [e]; simp)
              have nab : a ≠ b := fun e => (List.nodup_cons.mp (List.nodup_cons.mp nd).2).1 (by rw [e]; simp)
              have naas : a ∉ as' := (List.nodup_cons.mp (List.nodup_cons.mp (List.nodup_cons.mp nd).2).2).1
              refine ⟨a, vs, ?_, nau, ea, Nat.lt_of_le_of_lt (show _ ≤ 4000000 by omega) (by decide), ?_⟩
              · rw [List.reverse_cons, ← List.cons_append, List.map_append]
                exact atI_last _ _
              · have ka : Keep [a] H2 (upd H2 a (.lst (vs ++ [x]))) := Keep.set ea (List.mem_cons_self ..)
                refine ⟨(kk.cons.trans (ka.mono (by simp))).drop (fresh a (List.mem_cons_self ..)), .inl ⟨a :: as', (l ++ [tt]) :: st', by rw [upd_ne nau.symm]; exact eu, by rw [upd_ne nab.symm]; exact eb, ⟨⟨vs ++ [x], upd_same, (ta.append (Trs.one tx1)).keep ka, ?_⟩, stk'.keep ka (by omega) ?_⟩, nd, fresh, by omega, hgo l st' rfl⟩⟩
                · rw [List.length_append, List.length_singleton]; omega
                · intro z m
                  rw [List.mem_singleton]
                  intro e
                  rw [e] at m
                  exact naas m
        by_cases hcl : tk = [41]
        · subst hcl
          have e1 := (List.cons.inj etk).1
          subst e1
          rw [lit_close, decide_eq_true (show V.str ⟨#[41]⟩ = V.str (tx [41]) from rfl)]
          refine iteT ?_
          cases as with
          | nil =>
            cases st with
            | cons l st' => exact stk.elim
            | nil => rw [reads_close0] at rd; cases rd
          | cons a as' =>
          cases st with
          | nil => exact stk.elim
          | cons l st' =>
          obtain ⟨⟨vs, ea, ta, la⟩, stk'⟩ := stk
          have nau : a ≠ u := asu a (List.mem_cons_self ..)
          have nab : a ≠ b := asb a (List.mem_cons_self ..)
          refine ⟨_, rfl, u, _, rfl, .inl (SqL.of eu), _, _, rfl, rfl, _, rfl, ?_⟩
          have hlen : ((b :: (a :: as').reverse).map V.ref).length = as'.length + 2 := by simp
          rw [hlen, decide_eq_true (by omega)]
          refine iteT ?_
          -- items = unfinished.pop()
          have eu' : H1 u = some (.lst (((b :: as'.reverse).map V.ref) ++ [.ref a])) := by rw [eu, List.reverse_cons, ← List.cons_append, List.map_append]; rfl
          refine ⟨_, rfl, .inl ⟨rfl, _, SqL.of eu'⟩, u, _, _, rfl, rfl, eu', last_get _ _, ?_⟩
          rw [List.dropLast_concat]
          generalize hH2 : upd H1 u (.lst ((b :: as'.reverse).map V.ref)) = H2
          have ku : Keep [u] H1 H2 := by rw [← hH2]; exact Keep.set eu' (List.mem_cons_self ..)
          have eu2 : H2 u = some (.lst ((b :: as'.reverse).map V.ref)) := by rw [← hH2, upd_same]
          have eb2 : H2 b = some (.lst []) := by rw [← hH2, upd_ne ub.symm]; exact eb
          have ea2 : H2 a = some (.lst vs) := by rw [← hH2, upd_ne nau]; exact ea
          have k2 : Keep [] H H2 := (k1.cons.trans (ku.mono (by simp))).drop nu0
          have stk2 := stk'.keep ku (Nat.le_refl _) (fun z m => by simpa using asu z (List.mem_cons_of_mem _ m))
          have nd2 : (u :: b :: as').Nodup := by
            simp only [List.nodup_cons, List.mem_cons, not_or] at nd ⊢
            exact ⟨⟨nd.1.1, nd.1.2.2⟩, nd.2.1.2, nd.2.2.2⟩
          obtain ⟨p, ws, hp1, hp2, hp3, hp4, hp5⟩ : ∃ (p : Addr) (ws : List V), atI ((b :: as'.reverse).map V.ref) (-1) = some (.ref p) ∧ p ≠ u ∧ H2 p = some (.lst ws) ∧ ws.length < sizeLine ∧ True := by
            cases as' with
            | nil => exact ⟨b, [], rfl, ub.symm, eb2, by decide, trivial⟩
            | cons a2 as2 =>
              cases st' with
              | nil => exact stk2.elim
              | cons l2 st2 =>
                obtain ⟨⟨ws, e, _, lw⟩, _⟩ := stk2
                refine ⟨a2, ws, ?_, asu a2 (by simp), e, Nat.lt_of_le_of_lt (show _ ≤ 4000000 by omega) (by decide), trivial⟩
                rw [List.reverse_cons, ← List.cons_append, List.map_append]
                exact atI_last _ _
          clear hp5
          refine ⟨_, rfl, _, rfl, _, _, _, _, rfl, rfl, SqL.of eu2, hp1, .inl ⟨rfl, _, SqL.of hp3⟩, _, rfl, a, vs, rfl, .inl ⟨SqL.of ea2, fun tp ntp => ?_⟩⟩
          have kt : Keep [] H2 (upd H2 tp (.tup vs)) := Keep.new ntp
          have tv : Tr K (upd H2 tp (.tup vs)) (.ref tp) (.l l) := tr_tup upd_same ((ta.keep ku).keep kt)
          obtain ⟨p', ws', g1, g2, g3, g4, g5⟩ := put (upd H2 tp (.tup vs)) as' st' (.ref tp) (.l l) none none (k2.trans kt) (kt.get eu2 (by simp)) (kt.get eb2 (by simp)) (stk2.keep kt (Nat.le_refl _) (by simp)) nd2 (fun z m => fresh z (List.mem_cons_of_mem _ m)) (by rw [List.length_cons] at asl; omega) tv
            (fun l2 st2 e => by rw [e, reads_close] at rd; exact rd) (fun e => by
              rw [e, reads_close1] at rd
              split at rd
              · rename_i hr
                exact ⟨hr, Option.some.inj rd⟩
              · cases rd)
          rw [hp1] at g1
          cases g1
          refine ⟨p, ws', _, rfl, rfl, g3, g4, ?_⟩
          refine ⟨_, rfl, _, _, rfl, rfl, _, _, rfl, g5⟩
        · have wtk : IsWord tk := tkok.word hop hcl
          have c41 : c ≠ 41 := by
            intro e
            subst e
            obtain ⟨d, r', h, hl, _⟩ := wtk
            rw [h] at etk
            have := (List.cons.inj etk).1
            rw [this] at hl
            exact absurd hl.1 (by decide)
          rw [lit_close, decide_eq_false (show ¬ V.str ⟨#[c]⟩ = V.str (tx [41]) from fun z => c41 (List.cons.inj (tx_str (a := [c]) z)).1)]
          refine iteF (iteF ?_)
          have free : Free (g ++ cs') := by
            by_cases hg : g = []
            · rw [hg]; exact fr wtk hg
            · exact bg.free hg
          refine ⟨_, rfl, _, rfl, cs, tk, g ++ cs', i, rfl, e0, wtk, free, sz0, ?_⟩
          obtain ⟨p', ws', g1, g2, g3, g4, g5⟩ := put H1 as st (.str (tx tk)) (.w tk) none none k1 eu eb stk nd fresh asl tr_w
            (fun l2 st2 e => by rw [e, reads_word hop hcl] at rd; exact rd) (fun e => by
              rw [e, reads_word0 hop hcl] at rd
              split at rd
              · rename_i hr
                exact ⟨hr, Option.some.inj rd⟩
              · cases rd)
          refine ⟨_, rfl, _, rfl, _, _, _, _, rfl, rfl, SqL.of eu, g1, .inl ⟨rfl, _, SqL.of g3⟩, _, rfl, p', ws', _, rfl, rfl, g3, g4, ?_⟩
          refine ⟨_, rfl, _, rfl, _, rfl, ?_, _, _, rfl, rfl, y3, some (.str (tx tk)), ?_, g5⟩
          · rw [tx_len]; exact Nat.le_trans (show _ ≤ 4000000 by omega) (by decide)
          · rw [tx_len]; rfl
    · obtain ⟨y3, y4, rfl, go⟩ := hmid
      refine ⟨_, rfl, _, rfl, cs, i + tk.length, rfl, by omega, sz0, fun j g' h1 h2 h3 h4 h5 h6 => ?_⟩
      rw [ddrop] at h3
      obtain ⟨eg, ec⟩ := blanks_one bg h4 (rest'.noBlank tks') h5 h3
      refine ⟨r.length, Nat.lt_succ_self _, ?_⟩
      rw [hW]
      refine ⟨_, _, j, r, rfl, rfl, h2, by rw [← ec]; exact rest', tks', ?_⟩
      obtain ⟨kk, go⟩ := go
      refine ⟨kk, ?_⟩
      rcases go with ⟨as, st, g1, g2, g3, g4, g5, g6, g7⟩ | go
      · exact .inl ⟨as, st, g1, g2, g3.keep (S := []) Keep.refl h1 (by simp), g4, g5, by omega, g7⟩
      · exact .inr go
  · -- the whole is read
    refine ⟨_, rfl, u, _, _, _, rfl, rfl, SqL.of eu, rfl, _, tru_list eb, ?_⟩
    refine iteF ?_
    have e0 : cs.drop i = [] := rest
    have : cs.length ≤ i := List.drop_eq_nil_iff.mp e0
    refine ⟨_, rfl, _, rfl, _, rfl, sz, _, _, rfl, rfl, _, rfl, ?_⟩
    rw [tx_len, decide_eq_false (by omega)]
    refine iteF ⟨_, rfl, u, _, _, _, rfl, rfl, SqL.of eu, rfl, b, _, _, _, rfl, rfl, SqL.of eb, rfl, ?_⟩
    exact q v _ tv k1
end
end Og

namespace Og
open PySem PySem.Spec PyProof.Rows L2
/-! ### the reader, sign by sign: the place where a text is wrong, or its value -/
def isSign (c : Nat) : Bool := (decide (97 ≤ c) && decide (c ≤ 122)) || (decide (48 ≤ c) && decide (c ≤ 57))
theorem isSign_iff {c : Nat} : isSign c = true ↔ Sign c := by
  unfold isSign Sign
  simp
/-- the run of letters and digits at the head -/
def run (cs : List Nat) : List Nat := cs.takeWhile isSign
theorem run_app (cs : List Nat) : cs = run cs ++ cs.drop (run cs).length := by
  unfold run
  induction cs with
  | nil => rfl
  | cons c r ih =>
    rw [List.takeWhile_cons]
    split
    · rw [List.cons_append, List.length_cons, List.drop_succ_cons, ← ih]
    · rfl
theorem run_len (cs : List Nat) : (run cs).length ≤ cs.length := by
  have h := congrArg List.length (run_app cs)
  rw [List.length_append] at h
  omega
theorem run_signs (cs : List Nat) : ∀ c ∈ run cs, Sign c := by
  unfold run
  induction cs with
  | nil => intro c h; cases h
  | cons d r ih =>
    rw [List.takeWhile_cons]
    split
    · rename_i hd
      intro c h
      rcases List.mem_cons.mp h with e | h
      · rw [e]; exact isSign_iff.mp hd
      · exact ih c h
    · intro c h; cases h
theorem run_free (cs : List Nat) : Free (cs.drop (run cs).length) := by
  unfold run
  induction cs with
  | nil => intro c r e; cases e
  | cons c r ih =>
    rw [List.takeWhile_cons]
    split
    · rw [List.length_cons, List.drop_succ_cons]
      exact ih
    · rename_i h
      intro d q e
      cases e
      exact fun hs => h (isSign_iff.mpr hs)
def fin : Nat → List Nat → Tree → Sum Nat Tree
  | _, [], t => .inr t
  | n, c :: r, t => if c = 32 ∨ c = 10 then fin (n + 1) r t else .inl n
def rdk : Nat → List (List Tree) → Nat → List Nat → Sum Nat Tree
  | 0, _, n, _ => .inl n
  | _ + 1, _, n, [] => .inl n
  | k + 1, st, n, c :: r =>
    if c = 32 ∨ c = 10 then rdk k st (n + 1) r
    else if c = 40 then rdk k ([] :: st) (n + 1) r
    else if c = 41 then
      match st with
      | [] => .inl n
      | [l] => fin (n + 1) r (.l l)
      | l :: l2 :: st' => rdk k ((l2 ++ [.l l]) :: st') (n + 1) r
    else if 97 ≤ c ∧ c ≤ 122 then
      if 12 < (run (c :: r)).length then .inl (n + 12)
      else
        match st with
        | [] => fin (n + (run (c :: r)).length) ((c :: r).drop (run (c :: r)).length) (.w (run (c :: r)))
        | l :: st' => rdk k ((l ++ [.w (run (c :: r))]) :: st') (n + (run (c :: r)).length) ((c :: r).drop (run (c :: r)).length)
    else .inl n
section
variable {k n : Nat} {st : List (List Tree)} {c : Nat} {r : List Nat}
theorem rd_nil : rdk k st n [] = .inl n := by cases k <;> rfl
theorem rd_blank (h : c = 32 ∨ c = 10) : rdk (k + 1) st n (c :: r) = rdk k st (n + 1) r := by
  conv => lhs; unfold rdk
  rw [if_pos h]
theorem rd_open : rdk (k + 1) st n (40 :: r) = rdk k ([] :: st) (n + 1) r := by
  conv => lhs; unfold rdk
  rw [if_neg (by decide), if_pos rfl]
theorem rd_close0 : rdk (k + 1) [] n (41 :: r) = .inl n := by
  conv => lhs; unfold rdk
  rw [if_neg (by decide), if_neg (by decide), if_pos rfl]
theorem rd_close1 {l : List Tree} : rdk (k + 1) [l] n (41 :: r) = fin (n + 1) r (.l l) := by
  conv => lhs; unfold rdk
  rw [if_neg (by decide), if_neg (by decide), if_pos rfl]
theorem rd_close {l l2 : List Tree} : rdk (k + 1) (l :: l2 :: st) n (41 :: r) = rdk k ((l2 ++ [.l l]) :: st) (n + 1) r := by
  conv => lhs; unfold rdk
  rw [if_neg (by decide), if_neg (by decide), if_pos rfl]
theorem letter_no {c : Nat} (h : Letter c) : ¬ (c = 32 ∨ c = 10) ∧ c ≠ 40 ∧ c ≠ 41 := by
  obtain ⟨h1, h2⟩ := h
  exact ⟨by omega, by omega, by omega⟩
theorem rd_long (h : Letter c) (h2 : 12 < (run (c :: r)).length) : rdk (k + 1) st n (c :: r) = .inl (n + 12) := by
  have ⟨a, b, d⟩ := letter_no h
  conv => lhs; unfold rdk
  rw [if_neg a, if_neg b, if_neg d, if_pos (show 97 ≤ c ∧ c ≤ 122 from h), if_pos h2]
theorem rd_word0 (h : Letter c) (h2 : ¬ 12 < (run (c :: r)).length) : rdk (k + 1) [] n (c :: r) = fin (n + (run (c :: r)).length) ((c :: r).drop (run (c :: r)).length) (.w (run (c :: r))) := by
  have ⟨a, b, d⟩ := letter_no h
  conv => lhs; unfold rdk
  rw [if_neg a, if_neg b, if_neg d, if_pos (show 97 ≤ c ∧ c ≤ 122 from h), if_neg h2]
theorem rd_word {l : List Tree} (h : Letter c) (h2 : ¬ 12 < (run (c :: r)).length) : rdk (k + 1) (l :: st) n (c :: r) = rdk k ((l ++ [.w (run (c :: r))]) :: st) (n + (run (c :: r)).length) ((c :: r).drop (run (c :: r)).length) := by
  have ⟨a, b, d⟩ := letter_no h
  conv => lhs; unfold rdk
  rw [if_neg a, if_neg b, if_neg d, if_pos (show 97 ≤ c ∧ c ≤ 122 from h), if_neg h2]
theorem rd_odd (h1 : ¬ (c = 32 ∨ c = 10)) (h2 : c ≠ 40) (h3 : c ≠ 41) (h4 : ¬ Letter c) : rdk (k + 1) st n (c :: r) = .inl n := by
  conv => lhs; unfold rdk
  rw [if_neg h1, if_neg h2, if_neg h3, if_neg (show ¬ (97 ≤ c ∧ c ≤ 122) from h4)]
end
theorem run_pos {c : Nat} {r : List Nat} (h : Letter c) : 0 < (run (c :: r)).length := by
  unfold run
  rw [List.takeWhile_cons, if_pos (isSign_iff.mpr (.inl h)), List.length_cons]
  omega
theorem run_word {c : Nat} {r : List Nat} (h : Letter c) (h2 : ¬ 12 < (run (c :: r)).length) : IsWord (run (c :: r)) := by
  have hs := run_signs (c :: r)
  have e : run (c :: r) = c :: r.takeWhile isSign := by
    unfold run
    rw [List.takeWhile_cons, if_pos (isSign_iff.mpr (.inl h))]
  rw [e] at hs h2 ⊢
  exact ⟨c, _, rfl, h, fun y m => hs y (List.mem_cons_of_mem _ m), by rw [List.length_cons] at h2; omega⟩
/-- enough turns are enough -/
theorem rdk_more : ∀ (k j : Nat) (st : List (List Tree)) (n : Nat) (cs : List Nat), cs.length ≤ k → cs.length ≤ j → rdk k st n cs = rdk j st n cs
  | k, j, st, n, [], _, _ => by rw [rd_nil, rd_nil]
  | 0, _, _, _, _ :: _, h, _ => absurd h (by rw [List.length_cons]; omega)
  | _ + 1, 0, _, _, _ :: _, _, h => absurd h (by rw [List.length_cons]; omega)
  | k + 1, j + 1, st, n, c :: r, h1, h2 => by
    rw [List.length_cons] at h1 h2
    by_cases hb : c = 32 ∨ c = 10
    · rw [rd_blank hb, rd_blank hb]
      exact rdk_more k j _ _ _ (by omega) (by omega)
    · by_cases h40 : c = 40
      · subst h40
        rw [rd_open, rd_open]
        exact rdk_more k j _ _ _ (by omega) (by omega)
      · by_cases h41 : c = 41
        · subst h41
          match st with
          | [] => rw [rd_close0, rd_close0]
          | [l] => rw [rd_close1, rd_close1]
          | l :: l2 :: st' =>
            rw [rd_close, rd_close]
            exact rdk_more k j _ _ _ (by omega) (by omega)
        · by_cases hl : Letter c
          · by_cases hw : 12 < (run (c :: r)).length
            · rw [rd_long hl hw, rd_long hl hw]
            · have hp := run_pos (r := r) hl
              have hd : ((c :: r).drop (run (c :: r)).length).length ≤ r.length := by rw [List.length_drop, List.length_cons]; omega
              match st with
              | [] => rw [rd_word0 hl hw, rd_word0 hl hw]
              | l :: st' =>
                rw [rd_word hl hw, rd_word hl hw]
                exact rdk_more k j _ _ _ (by omega) (by omega)
          · rw [rd_odd hb h40 h41 hl, rd_odd hb h40 h41 hl]
def rd (st : List (List Tree)) (n : Nat) (cs : List Nat) : Sum Nat Tree := rdk cs.length st n cs
theorem rd_of {k n : Nat} {st : List (List Tree)} {cs : List Nat} (h : cs.length ≤ k) : rdk k st n cs = rd st n cs := rdk_more k cs.length st n cs h (Nat.le_refl _)
theorem rd_skip : ∀ {g : List Nat} {st : List (List Tree)} {n : Nat} {cs : List Nat}, Blanks g → rd st n (g ++ cs) = rd st (n + g.length) cs
  | [], st, n, cs, _ => rfl
  | c :: g, st, n, cs, h => by
    have ih := rd_skip (g := g) (st := st) (n := n + 1) (cs := cs) fun x m => h x (List.mem_cons_of_mem _ m)
    show rdk (g ++ cs).length.succ st n (c :: (g ++ cs)) = _
    rw [rd_blank (h c (List.mem_cons_self ..)), List.length_cons, show n + (g.length + 1) = n + 1 + g.length by omega]
    exact ih
theorem fin_skip : ∀ {g : List Nat} {n : Nat} {cs : List Nat} {t : Tree}, Blanks g → fin n (g ++ cs) t = fin (n + g.length) cs t
  | [], n, cs, t, _ => rfl
  | c :: g, n, cs, t, h => by
    have ih := fin_skip (g := g) (n := n + 1) (cs := cs) (t := t) fun x m => h x (List.mem_cons_of_mem _ m)
    rw [List.cons_append, fin, if_pos (h c (List.mem_cons_self ..)), ih, List.length_cons, show n + (g.length + 1) = n + 1 + g.length by omega]
/-- how many parts a read value has at most -/
def stsz (st : List (List Tree)) : Nat := (st.map fun l => sizes l + 1).sum
theorem fin_tree : ∀ {n : Nat} {cs : List Nat} {t u : Tree}, fin n cs t = .inr u → u = t
  | n, [], t, u, h => (Sum.inr.inj h).symm
  | n, c :: r, t, u, h => by
    rw [fin] at h
    split at h
    · exact fin_tree h
    · cases h
theorem stsz_cons (l : List Tree) (st : List (List Tree)) : stsz (l :: st) = sizes l + 1 + stsz st := by
  unfold stsz
  rw [List.map_cons, List.sum_cons]
theorem rdk_size : ∀ (k : Nat) (st : List (List Tree)) (n : Nat) (cs : List Nat) (t : Tree), rdk k st n cs = .inr t → t.size ≤ stsz st + cs.length
  | 0, _, _, _, _, h => by cases h
  | k + 1, st, n, [], t, h => by rw [rd_nil] at h; cases h
  | k + 1, st, n, c :: r, t, h => by
    rw [List.length_cons]
    by_cases hb : c = 32 ∨ c = 10
    · rw [rd_blank hb] at h
      have := rdk_size k _ _ _ _ h
      omega
    · by_cases h40 : c = 40
      · subst h40
        rw [rd_open] at h
        have := rdk_size k _ _ _ _ h
        rw [stsz_cons, sizes_nil] at this
        omega
      · by_cases h41 : c = 41
        · subst h41
          match st with
          | [] => rw [rd_close0] at h; cases h
          | [l] =>
            rw [rd_close1] at h
            rw [fin_tree h, size_l, stsz_cons]
            omega
          | l :: l2 :: st' =>
            rw [rd_close] at h
            have := rdk_size k _ _ _ _ h
            rw [stsz_cons, sizes_app, sizes_cons, sizes_nil, size_l] at this
            rw [stsz_cons, stsz_cons]
            omega
        · by_cases hl : Letter c
          · by_cases hw : 12 < (run (c :: r)).length
            · rw [rd_long hl hw] at h; cases h
            · have hp := run_pos (r := r) hl
              match st with
              | [] =>
                rw [rd_word0 hl hw] at h
                rw [fin_tree h, size_w]
                omega
              | l :: st' =>
                rw [rd_word hl hw] at h
                have := rdk_size k _ _ _ _ h
                rw [stsz_cons, sizes_app, sizes_cons, sizes_nil, size_w, List.length_drop, List.length_cons] at this
                rw [stsz_cons]
                omega
          · rw [rd_odd hb h40 h41 hl] at h; cases h
theorem rd_size {st : List (List Tree)} {n : Nat} {cs : List Nat} {t : Tree} (h : rd st n cs = .inr t) : t.size ≤ stsz st + cs.length := rdk_size _ _ _ _ _ h
end Og

namespace Og
open PySem PySem.Spec PyProof.Rows L2
/-! ### str.split() and str.replace on lists of signs -/
def wstep (st : List (List Nat) × List Nat) (c : Nat) : List (List Nat) × List Nat := if Unicode.isSpace c = true then (if st.2 = [] then st else (st.1 ++ [st.2], [])) else (st.1, st.2 ++ [c])
def wk : List Nat → List Nat → List (List Nat)
  | r, [] => if r = [] then [] else [r]
  | r, c :: cs => if Unicode.isSpace c = true then (if r = [] then wk [] cs else r :: wk [] cs) else wk (r ++ [c]) cs
def wordsL (cs : List Nat) : List (List Nat) := wk [] cs
theorem wk_fold : ∀ (cs : List Nat) (ws : List (List Nat)) (r : List Nat), (if (cs.foldl wstep (ws, r)).2 = [] then (cs.foldl wstep (ws, r)).1 else (cs.foldl wstep (ws, r)).1 ++ [(cs.foldl wstep (ws, r)).2]) = ws ++ wk r cs
  | [], ws, r => by
    show (if r = [] then ws else ws ++ [r]) = _
    rw [wk]
    split
    · rw [List.append_nil]
    · rfl
  | c :: cs, ws, r => by
    rw [List.foldl_cons, wk]
    by_cases h : Unicode.isSpace c = true
    · rw [if_pos h]
      by_cases h2 : r = []
      · rw [if_pos h2, show wstep (ws, r) c = (ws, r) by unfold wstep; rw [if_pos h, if_pos h2], wk_fold cs, h2]
      · rw [if_neg h2, show wstep (ws, r) c = (ws ++ [r], []) by unfold wstep; rw [if_pos h, if_neg h2], wk_fold cs, List.append_assoc]
        rfl
    · rw [if_neg h, show wstep (ws, r) c = (ws, r ++ [c]) by unfold wstep; rw [if_neg h], wk_fold cs]
theorem wstep_tx (cs : List Nat) : ∀ (ws : List (List Nat)) (r : List Nat), cs.foldl KWd.step (ws.map tx, tx r) = ((cs.foldl wstep (ws, r)).1.map tx, tx (cs.foldl wstep (ws, r)).2) := by
  induction cs with
  | nil => intro ws r; rfl
  | cons c cs ih =>
    intro ws r
    rw [List.foldl_cons, List.foldl_cons]
    have e : KWd.step (ws.map tx, tx r) c = ((wstep (ws, r) c).1.map tx, tx (wstep (ws, r) c).2) := by
      unfold KWd.step wstep
      by_cases h : Unicode.isSpace c = true
      · rw [if_pos h, if_pos h]
        by_cases h2 : r = []
        · subst h2
          rfl
        · rw [if_neg (show ¬ (tx r).length = 0 by rw [tx_len]; exact fun z => h2 (List.length_eq_zero_iff.mp z)), if_neg h2]
          show (ws.map tx ++ [tx r], Str.empty) = ((ws ++ [r]).map tx, tx [])
          rw [List.map_append]
          rfl
      · rw [if_neg h, if_neg h]
        show (ws.map tx, tx r ++ tx [c]) = (ws.map tx, tx (r ++ [c]))
        rw [tx_app]
    rw [e]
    exact ih _ _
theorem words_tx (cs : List Nat) : Txt.words (tx cs) = (wordsL cs).map tx := by
  rw [KWd.words_scan]
  have h := wstep_tx cs [] []
  have h2 : KWd.scan (tx cs) = ((cs.foldl wstep ([], [])).1.map tx, tx (cs.foldl wstep ([], [])).2) := h
  unfold KWd.fin
  rw [h2]
  have key := wk_fold cs [] []
  rw [List.nil_append] at key
  unfold wordsL
  rw [← key]
  by_cases c : (cs.foldl wstep ([], [])).2 = []
  · rw [if_pos c, if_pos (show (tx _).length = 0 by rw [tx_len, c]; rfl)]
  · rw [if_neg c, if_neg (show ¬ (tx _).length = 0 by rw [tx_len]; exact fun z => c (List.length_eq_zero_iff.mp z)), List.map_append]
    rfl
theorem replace_tx {y : List Nat} (z cs : List Nat) (h : 1 ≤ y.length) : Txt.replace (tx cs) (tx y) (tx z) = tx (StrLaws.replL y z cs) := by
  rw [tx_of (Txt.replace (tx cs) (tx y) (tx z))]
  exact congrArg tx (StrLaws.replace_list (x := tx cs) (y := tx y) (z := tx z) (by rw [tx_len]; exact h))
/-! ### the reader over words, with a list that takes the whole -/
def rdw : List (List Nat) → List (List Tree) → Option (List (List Tree))
  | [], st => some st
  | t :: r, st =>
    if t = [40] then rdw r ([] :: st)
    else if t = [41] then
      match st with
      | l :: l2 :: st => rdw r ((l2 ++ [.l l]) :: st)
      | _ => none
    else
      match st with
      | [] => none
      | l :: st => rdw r ((l ++ [.w t]) :: st)
theorem rdw_open (r : List (List Nat)) (st : List (List Tree)) : rdw ([40] :: r) st = rdw r ([] :: st) := by
  conv => lhs; unfold rdw
  rw [if_pos rfl]
theorem rdw_close (r : List (List Nat)) (l l2 : List Tree) (st : List (List Tree)) : rdw ([41] :: r) (l :: l2 :: st) = rdw r ((l2 ++ [.l l]) :: st) := by
  conv => lhs; unfold rdw
  rw [if_neg (by decide), if_pos rfl]
theorem rdw_close0 (r : List (List Nat)) : rdw ([41] :: r) [] = none := by
  conv => lhs; unfold rdw
  rw [if_neg (by decide), if_pos rfl]
theorem rdw_close1 (r : List (List Nat)) (l : List Tree) : rdw ([41] :: r) [l] = none := by
  conv => lhs; unfold rdw
  rw [if_neg (by decide), if_pos rfl]
theorem rdw_word {x : List Nat} (h1 : x ≠ [40]) (h2 : x ≠ [41]) (r : List (List Nat)) (l : List Tree) (st : List (List Tree)) : rdw (x :: r) (l :: st) = rdw r ((l ++ [.w x]) :: st) := by
  conv => lhs; unfold rdw
  rw [if_neg h1, if_neg h2]
theorem rdw_word0 {x : List Nat} (h1 : x ≠ [40]) (h2 : x ≠ [41]) (r : List (List Nat)) : rdw (x :: r) [] = none := by
  conv => lhs; unfold rdw
  rw [if_neg h1, if_neg h2]
/-- what `reads` reads, `rdw` reads, too -/
theorem rdw_of : ∀ {ts : List (List Nat)} {st : List (List Tree)} {base : List Tree} {t : Tree}, reads ts st = some t → rdw ts (st ++ [base]) = some [base ++ [t]]
  | [], st, base, t, h => by cases h
  | x :: r, st, base, t, h => by
    by_cases h1 : x = [40]
    · subst h1
      rw [reads_open] at h
      rw [rdw_open]
      exact rdw_of (st := [] :: st) h
    · by_cases h2 : x = [41]
      · subst h2
        cases st with
        | nil => rw [reads_close0] at h; cases h
        | cons l st =>
          cases st with
          | nil =>
            rw [reads_close1] at h
            by_cases hr : r = []
            · rw [if_pos hr] at h
              have e := Option.some.inj h
              rw [hr, ← e]
              show rdw _ (l :: base :: []) = _
              rw [rdw_close]
              rfl
            · rw [if_neg hr] at h; cases h
          | cons l2 st' =>
            rw [reads_close] at h
            show rdw _ (l :: l2 :: (st' ++ [base])) = _
            rw [rdw_close]
            exact rdw_of (st := (l2 ++ [.l l]) :: st') h
      · cases st with
        | nil =>
          rw [reads_word0 h1 h2] at h
          by_cases hr : r = []
          · rw [if_pos hr] at h
            have e := Option.some.inj h
            rw [hr, ← e]
            show rdw _ (base :: []) = _
            rw [rdw_word h1 h2]
            rfl
          · rw [if_neg hr] at h; cases h
        | cons l st' =>
          rw [reads_word h1 h2] at h
          show rdw _ (l :: (st' ++ [base])) = _
          rw [rdw_word h1 h2]
          exact rdw_of (st := (l ++ [.w x]) :: st') h
/-! ### the tokens of a text -/
def isBl (c : Nat) : Bool := decide (c = 32) || decide (c = 10)
def tok1 (c : Nat) (r : List Nat) : Option (List Nat) :=
  if c = 40 then some [40] else if c = 41 then some [41] else
  if (decide (97 ≤ c) && decide (c ≤ 122) && decide ((run (c :: r)).length ≤ 12)) = true then some (run (c :: r)) else none
def skipB (cs : List Nat) : List Nat := cs.drop (cs.takeWhile isBl).length
def lexk : Nat → List Nat → Option (List (List Nat))
  | _, [] => some []
  | 0, _ :: _ => none
  | k + 1, c :: r => match tok1 c r with
    | none => none
    | some t => match lexk k (skipB ((c :: r).drop t.length)) with
      | none => none
      | some ts => some (t :: ts)
theorem skipB_eq (cs : List Nat) : cs = cs.takeWhile isBl ++ skipB cs := by
  unfold skipB
  induction cs with
  | nil => rfl
  | cons c r ih =>
    rw [List.takeWhile_cons]
    split
    · rw [List.cons_append, List.length_cons, List.drop_succ_cons, ← ih]
    · rfl
theorem takeB (cs : List Nat) : Blanks (cs.takeWhile isBl) := by
  induction cs with
  | nil => exact blanks_nil
  | cons c r ih =>
    rw [List.takeWhile_cons]
    split
    · rename_i h
      intro b m
      rcases List.mem_cons.mp m with e | m
      · rw [e]
        unfold isBl at h
        rw [Bool.or_eq_true, decide_eq_true_eq, decide_eq_true_eq] at h
        exact h
      · exact ih b m
    · exact blanks_nil
theorem tok1_ok {c : Nat} {r t : List Nat} (h : tok1 c r = some t) : IsTok t ∧ c :: r = t ++ (c :: r).drop t.length ∧ (IsWord t → Free ((c :: r).drop t.length)) := by
  unfold tok1 at h
  split at h
  · rename_i h1
    cases h
    subst h1
    exact ⟨.inl rfl, rfl, fun w => absurd w not_word40⟩
  · split at h
    · rename_i h1
      cases h
      subst h1
      exact ⟨.inr (.inl rfl), rfl, fun w => absurd w not_word41⟩
    · split at h
      · rename_i h1
        cases h
        rw [Bool.and_eq_true, Bool.and_eq_true, decide_eq_true_eq, decide_eq_true_eq, decide_eq_true_eq] at h1
        exact ⟨.inr (.inr (run_word h1.1 (by omega))), run_app _, fun _ => run_free _⟩
      · cases h
theorem lexk_ok : ∀ {k : Nat} {cs : List Nat} {ts : List (List Nat)}, lexk k cs = some ts → Rest cs ts ∧ ∀ x ∈ ts, IsTok x
  | k, [], ts, h => by
    have e : ts = [] := by
      cases k <;> exact (Option.some.inj h).symm
    subst e
    exact ⟨rfl, fun x m => absurd m (List.not_mem_nil)⟩
  | 0, c :: r, ts, h => by cases h
  | k + 1, c :: r, ts, h => by
    rw [lexk] at h
    split at h
    · cases h
    · rename_i t ht
      split at h
      · cases h
      · rename_i us hu
        cases h
        obtain ⟨a1, a2, a3⟩ := tok1_ok ht
        obtain ⟨b1, b2⟩ := lexk_ok hu
        refine ⟨⟨((c :: r).drop t.length).takeWhile isBl, skipB ((c :: r).drop t.length), ?_, takeB _, fun w e => ?_, b1⟩, fun x m => ?_⟩
        · rw [← skipB_eq]; exact a2
        · have f := a3 w
          have q := skipB_eq ((c :: r).drop t.length)
          rw [e, List.nil_append] at q
          rw [← q]
          exact f
        · rcases List.mem_cons.mp m with e | m
          · rw [e]; exact a1
          · exact b2 x m
end Og

namespace Og
open PySem PySem.Spec PyProof.Rows L2
section
variable {X : Cx} {i : Nat} {x : Str} {e : Expr} {te : TE} {pos pos' : Pos}
theorem pst_set (hN : X.N.Nodup) (hi : X.N[i]? = some x) (hx : Loc X.env.scope x) (he : PET X e te) (hs : swapsWith e (some (.Name x pos')) pos.line X.env = pure false := by rfl) (hf : X.fn x = true ∨ X.env.scope.names.lookup x = some .local := by first | exact .inl rfl | exact .inr rfl | assumption) :
    PST X (.Assign [.Name x pos'] e pos) (tAsg te (gName i)) := by
  intro pins s σ H D h0 I h
  refine wpAny_Assign_Name (thn (he pins s σ H _ h0 I h) fun v s1 ⟨y, H1, I1, r1, q1⟩ => ?_) hs
  exact store_ok I1 hN hi hx r1 (fun s2 I2 => ⟨_, H1, I2, q1⟩) hf
end
end Og
namespace Og
open PySem PySem.Spec PyProof.Rows L2
section
variable {P : Program} {w : World} {K : PySem.W.Frag} {mg : Str → Option Value} {base : Heap}
/-- a def's promise by its body, where a token is out -/
theorem Fun.okT {x qual : Str} {st : Stmt} {f : Addr} {fd : FuncData} {N ps : List Str} {k : Nat} {sp : Sp} (F : Fun K x qual st f fd) (S : FnScope N ps (defScope st)) (hnc : ∀ y ∈ (defScope st).names, y.2 ≠ .cell) (hps : 1 ≤ ps.length) (len : ∀ vs H Q E, sp vs H Q E → vs.length = ps.length)
    (hbody : ∀ (cdv : Value) (A : Around) (outer : List PySem.Env) (s : Shared) (H : Hp) (vs : List V) (Q : VK) (E : XK), Room k (A.deeper (envOfC qual (defScope st) s.heap.objs.size f cdv)) → sp vs H Q E →
      ∃ t, PSsT (cxOf CX0 P w K mg base N qual (defScope st) f cdv A outer s H E) (defBody st) t ∧ t { nx := fun _ H' => Q .non H', rt := Q } (L2.start N vs) H) : FnOk P w K mg base CX0 (k + 1) f fd ps sp := by
  obtain ⟨oc, od, kV, doc, pm, an, cdv, ct, osl, rfl, lk, hcd⟩ := F.ex
  exact fn_ofT lk hcd S hnc hps len fun A outer s H vs Q E hr hsp => hbody cdv A outer s H vs Q E hr hsp
/-- the list that takes the whole, and those that are open: the innermost first -/
def LGo (K : PySem.W.Frag) (H0 H : Hp) (u p : Addr) (n : Nat) (ts : List (List Nat)) (fin : List (List Tree)) : Prop :=
  Keep [] H0 H ∧ ∃ as st, H u = some (.lst (as.reverse.map V.ref)) ∧ Stk K H n as st ∧ (u :: p :: as).Nodup ∧ (∀ a ∈ as, H0 a = none) ∧ as.length ≤ n + 1 ∧ rdw ts st = some fin
def spLRead (K : PySem.W.Frag) : Sp := fun vs H Q _ => ∃ (cs : List Nat) (ws : List (List Nat)) (t : Tree), vs = [.str (tx cs)] ∧ cs.length ≤ 5000 ∧ (StrLaws.replL [40] [32, 40, 32] cs).length ≤ 15005 ∧
  (StrLaws.replL [41] [32, 41, 32] (StrLaws.replL [40] [32, 40, 32] cs)).length ≤ 45050 ∧ wordsL (StrLaws.replL [41] [32, 41, 32] (StrLaws.replL [40] [32, 40, 32] cs)) = ws ∧ ws.length ≤ 45050 ∧ rdw ws [[]] = some [[t]] ∧
  ∀ (v : V) (H' : Hp), Tr K H' v t → Keep [] H H' → Q v H'
theorem has_lread {k : Nat} (D : DefAt K mg "_law_read" s_law_read p_law_read) (B : Bn mg) : Has P w K mg base (k + 1) "_law_read" p_law_read (spLRead K) := by
  obtain ⟨f, fd, F, hm, hb⟩ := D.ex
  refine ⟨f, fd, Fun.okT F sc_law_read (by decide +kernel) (by decide) (fun vs H Q E h => ?_) (fun cdv A outer s H vs Q E hr h => ?_), hm, F.kp, hb⟩
  · obtain ⟨_, _, _, rfl, _⟩ := h
    rfl
  obtain ⟨cs, ws, t, rfl, l1, l2, l3, ew, lw, er, q⟩ := h
  refine ⟨_, (psst_cons (pst_set (i := 1) sc_law_read.nd rfl (.inl rfl) (CwR.pet_replT (CwR.pet_replC (pv 0) (by decide)) (by decide))) (PSsT.of (PSs.nox (pss_cons (ps_set (i := 2) sc_law_read.nd rfl (.inl rfl) (pe_lst (pa_cons (pe_lst pa_nil) pa_nil)))
    (pss_cons (ps_for PassesOwn.never rfl (pi_list (pe_m0 PySem.F.slot_str_split PySem.F.type_str_split mt_words (pv 1))) (pg_name (i := 3) sc_law_read.nd rfl (.inl rfl))
      (pss_one (ps_if (pt_cmpR op_eq (pv 3) pe_str (nomark _)) (pss_one (ps_expr (pe_bm PySem.F.plainAttrs_list PySem.F.slot_list_append PySem.F.type_list_append mt_append (pv 2) (pa_cons (pe_lst pa_nil) pa_nil)))) (pss_one (ps_if (pt_cmpR op_eq (pv 3) pe_str (nomark _)) (pss_cons (ps_set (i := 4) sc_law_read.nd rfl (.inl rfl) (pe_callTy call_tuple_of (by rfl) B.tuple (by decide +kernel) (pa_cons (pe_bm0 PySem.F.plainAttrs_list PySem.F.slot_list_pop PySem.F.type_list_pop mt_pop (pv 2)) pa_nil)))
          (pss_one (ps_expr (pe_bm PySem.F.plainAttrs_list PySem.F.slot_list_append PySem.F.type_list_append mt_append (pe_ix ix_list (pv 2) (pe_un un_neg pe_int) (fun _ _ => rfl)) (pa_cons (pv 4) pa_nil))))) (pss_one (ps_expr (pe_bm PySem.F.plainAttrs_list PySem.F.slot_list_append PySem.F.type_list_append mt_append (pe_ix ix_list (pv 2) (pe_un un_neg pe_int) (fun _ _ => rfl)) (pa_cons (pv 3) pa_nil)))))))))
    (pss_one (ps_ret (pe_ix ix_list (pe_ix ix_list (pv 2) pe_int (fun _ _ => rfl)) pe_int (fun _ _ => rfl))))))))), ?_⟩
  have pow : ∀ {a b : Nat}, a ≤ 5000 → b ≤ 3 → a + (a + 1) * b ≤ 16777216 := fun {a b} ha hb' => by
    have : (a + 1) * b ≤ (a + 1) * 3 := Nat.mul_le_mul_left _ hb'
    omega
  refine ⟨_, rfl, _, rfl, ?_, _, rfl, ?_, ?_⟩
  · rw [tx_len, lit_sopen, tx_len]
    exact pow l1 (by decide)
  · rw [lit_open, lit_sopen, replace_tx _ _ (by decide), tx_len, lit_sclose, tx_len]
    have : ((StrLaws.replL [40] [32, 40, 32] cs).length + 1) * [32, 41, 32].length ≤ 15006 * 3 := Nat.mul_le_mul (by omega) (by decide)
    omega
  rw [lit_open, lit_sopen, replace_tx _ _ (by decide), lit_close, lit_sclose, replace_tx _ _ (by decide)]
  generalize StrLaws.replL [41] [32, 41, 32] (StrLaws.replL [40] [32, 40, 32] cs) = cs2 at l3 ew ⊢
  -- open_lists = [[]]
  refine ⟨Nat.zero_le _, fun b nb => ?_⟩
  refine ⟨by show (1 : Nat) ≤ sizeLine; decide, fun u nu => ?_⟩
  have ub : u ≠ b := by intro e; rw [e, upd_same] at nu; cases nu
  have k0 : Keep [] H (upd (upd H b (.lst [])) u (.lst [.ref b])) := (Keep.new nb).newT nu
  have nu0 : H u = none := (Keep.new (S := []) nb).free nu
  generalize hHa : upd (upd H b (.lst [])) u (.lst [.ref b]) = Ha at k0
  have ea : Ha u = some (.lst [.ref b]) := by rw [← hHa, upd_same]
  have eb : Ha b = some (.lst []) := by rw [← hHa, upd_ne ub.symm, upd_same]
  -- spaced.split()
  refine ⟨_, rfl, ⟨_, rfl⟩, _, rfl, rfl, by rw [tx_len]; exact Nat.le_trans (show _ ≤ 50000 by omega) (by decide), fun p np => ?_⟩
  rw [words_tx, ew]
  have kp : Keep [] Ha (upd Ha p (.lst ((ws.map tx).map V.str))) := Keep.new np
  have ep : (upd Ha p (.lst ((ws.map tx).map V.str))) p = some (.lst ((ws.map tx).map V.str)) := upd_same
  have eu1 := kp.get ea (by simp)
  have eb1 := kp.get eb (by simp)
  have up : u ≠ p := ne_of_none ea np
  have bp : b ≠ p := ne_of_none eb np
  generalize upd Ha p (.lst ((ws.map tx).map V.str)) = Hb at kp ep eu1 eb1
  have kb := k0.trans kp
  refine ⟨p, rfl, ⟨_, SqL.of ep⟩, ?_⟩
  refine for_list (K := K) (a := p) (xs := (ws.map tx).map V.str) (D := { nx := _, rt := Q }) (fun i σ H' => ∃ y3 y4 : Option V, σ = [some (.str (tx cs)), some (.str (tx cs2)), some (.ref u), y3, y4] ∧ H' p = some (.lst ((ws.map tx).map V.str)) ∧ LGo K H H' u p i (ws.drop i) [[t]])
    ⟨none, none, rfl, ep, kb, [b], [[]], eu1, ⟨⟨[], eb1, trs_nil, Nat.zero_le _⟩, trivial⟩, by simp [ub, up, bp.symm], fun a m => by rw [List.mem_singleton.mp m]; exact nb, by simp, by rw [List.drop_zero]; exact er⟩ (fun i σ H' _ pw => ?_) (fun i z σ H1 hz pw => ?_) (fun σ H1 pw => ?_)
  · obtain ⟨_, _, _, e, _⟩ := pw
    exact SqL.of e
  · obtain ⟨y3, y4, rfl, ep1, k1, as, st, eu, stk, nd, fresh, asl, rd⟩ := pw
    rw [List.map_map, List.getElem?_map] at hz
    cases hw : ws[i]? with
    | none => rw [hw] at hz; cases hz
    | some x =>
    rw [hw] at hz
    have ez := Option.some.inj hz
    subst ez
    have il : i < ws.length := (List.getElem?_eq_some_iff.mp hw).1
    have ed : ws.drop i = x :: ws.drop (i + 1) := by
      rw [List.drop_eq_getElem_cons il]
      congr 1
      exact Option.some.inj ((List.getElem?_eq_getElem il).symm.trans hw)
    rw [ed] at rd
    have ndu := List.nodup_cons.mp nd
    have ndp := List.nodup_cons.mp ndu.2
    have asu : ∀ a ∈ as, a ≠ u := fun a m e => ndu.1 (by rw [← e]; exact List.mem_cons_of_mem _ m)
    have asp : ∀ a ∈ as, a ≠ p := fun a m e => ndp.1 (by rw [← e]; exact m)
    -- where an item goes: the innermost list
    have put : ∀ (H2 : Hp) (a : Addr) (as' : List Addr) (l : List Tree) (st' : List (List Tree)) (v : V) (tt : Tree), Keep [] H H2 → H2 u = some (.lst ((a :: as').reverse.map V.ref)) → H2 p = some (.lst ((ws.map tx).map V.str)) → Stk K H2 i (a :: as') (l :: st') → (u :: p :: a :: as').Nodup → (∀ z ∈ a :: as', H z = none) → (a :: as').length ≤ i + 1 → Tr K H2 v tt →
        rdw (ws.drop (i + 1)) ((l ++ [tt]) :: st') = some [[t]] →
        ∃ vs, H2 a = some (.lst vs) ∧ vs.length < sizeLine ∧ atI ((a :: as').reverse.map V.ref) (-1) = some (.ref a) ∧ (upd H2 a (.lst (vs ++ [v]))) p = some (.lst ((ws.map tx).map V.str)) ∧ LGo K H (upd H2 a (.lst (vs ++ [v]))) u p (i + 1) (ws.drop (i + 1)) [[t]] := by
      intro H2 a as' l st' v tt kk eu ep stk nd fresh asl tv rd
      obtain ⟨⟨vs, ea, ta, la⟩, stk'⟩ := stk
      have n1 := List.nodup_cons.mp nd
      have n2 := List.nodup_cons.mp n1.2
      have n3 := List.nodup_cons.mp n2.2
      have nau : a ≠ u := fun e => n1.1 (by rw [e]; simp)
      have nap : a ≠ p := fun e => n2.1 (by rw [e]; simp)
      have ka : Keep [a] H2 (upd H2 a (.lst (vs ++ [v]))) := Keep.set ea (List.mem_cons_self ..)
      refine ⟨vs, ea, Nat.lt_of_le_of_lt (show _ ≤ 50000 by omega) (by decide), by rw [List.reverse_cons, List.map_append]; exact atI_last _ _, by rw [upd_ne nap.symm]; exact ep, (kk.cons.trans (ka.mono (by simp))).drop (fresh a (List.mem_cons_self ..)), a :: as', (l ++ [tt]) :: st', by rw [upd_ne nau.symm]; exact eu, ⟨⟨vs ++ [v], upd_same, (ta.append (Trs.one tv)).keep ka, by rw [List.length_append, List.length_singleton]; omega⟩, stk'.keep ka (by omega) fun z m => ?_⟩, nd, fresh, by omega, rd⟩
      rw [List.mem_singleton]
      intro e
      rw [e] at m
      exact n3.1 m
    refine ⟨_, rfl, rfl, _, rfl, ?_⟩
    by_cases hop : x = [40]
    · subst hop
      rw [rdw_open] at rd
      rw [show decide ((V.str ∘ tx) [40] = V.str (tx [40])) = true from decide_eq_true rfl]
      refine iteT ⟨_, rfl, .inl ⟨rfl, _, SqL.of eu⟩, Nat.zero_le _, fun n nn => ?_⟩
      have un : u ≠ n := ne_of_none eu nn
      have pn : p ≠ n := ne_of_none ep1 nn
      have kn : Keep [] H1 (upd H1 n (.lst [])) := Keep.new nn
      have eu2 := kn.get eu (by simp)
      have ku : Keep [u] (upd H1 n (.lst [])) (upd (upd H1 n (.lst [])) u (.lst (as.reverse.map V.ref ++ [.ref n]))) := Keep.set eu2 (List.mem_cons_self ..)
      refine ⟨u, _, _, rfl, rfl, eu2, ?_, _, _, rfl, ?_, ((k1.trans kn).cons.trans (ku.mono (by simp))).drop nu0, n :: as, [] :: st, ?_, ⟨⟨[], ?_, trs_nil, Nat.zero_le _⟩, ?_⟩, ?_, ?_, ?_, rd⟩
      · rw [List.length_map, List.length_reverse]
        exact Nat.lt_of_le_of_lt (show _ ≤ 50000 by omega) (by decide)
      · rw [upd_ne up.symm, upd_ne pn]; exact ep1
      · rw [upd_same, List.reverse_cons, List.map_append]; rfl
      · rw [upd_ne un.symm, upd_same]
      · exact (stk.keep (m := i) kn (Nat.le_refl _) (by simp)).keep ku (by omega) (fun a m => by simpa using asu a m)
      · have na : n ∉ as := fun m => by
          obtain ⟨o, e⟩ := stk.some n m
          rw [nn] at e; cases e
        simp only [List.nodup_cons, List.mem_cons, not_or] at nd ⊢
        exact ⟨⟨nd.1.1, un, nd.1.2⟩, ⟨pn, nd.2.1⟩, na, nd.2.2⟩
      · intro a m
        rcases List.mem_cons.mp m with e | m
        · rw [e]; exact k1.free nn
        · exact fresh a m
      · rw [List.length_cons]; omega
    · rw [show decide ((V.str ∘ tx) x = V.str (tx [40])) = false from decide_eq_false fun e => hop (tx_str e)]
      refine iteF ⟨_, rfl, rfl, _, rfl, ?_⟩
      by_cases hcl : x = [41]
      · subst hcl
        rw [show decide ((V.str ∘ tx) [41] = V.str (tx [41])) = true from decide_eq_true rfl]
        cases as with
        | nil =>
          cases st with
          | cons l st' => exact stk.elim
          | nil => rw [rdw_close0] at rd; cases rd
        | cons a as' =>
        cases st with
        | nil => exact stk.elim
        | cons l st' =>
        cases as' with
        | nil =>
          cases st' with
          | cons l2 st2 => exact stk.2.elim
          | nil => rw [rdw_close1] at rd; cases rd
        | cons a2 as2 =>
        cases st' with
        | nil => exact stk.2.elim
        | cons l2 st2 =>
        rw [rdw_close] at rd
        obtain ⟨⟨vs, ea, ta, la⟩, stk'⟩ := stk
        have eu' : H1 u = some (.lst ((a2 :: as2).reverse.map V.ref ++ [.ref a])) := by rw [eu, List.reverse_cons, List.map_append]; rfl
        refine iteT ⟨_, rfl, .inl ⟨rfl, _, SqL.of eu'⟩, u, _, _, rfl, rfl, eu', last_get _ _, ?_⟩
        rw [List.dropLast_concat]
        have ku : Keep [u] H1 (upd H1 u (.lst ((a2 :: as2).reverse.map V.ref))) := Keep.set eu' (List.mem_cons_self ..)
        have eu2 : (upd H1 u (.lst ((a2 :: as2).reverse.map V.ref))) u = some (.lst ((a2 :: as2).reverse.map V.ref)) := upd_same
        have ea2 : (upd H1 u (.lst ((a2 :: as2).reverse.map V.ref))) a = some (.lst vs) := by rw [upd_ne (asu a (List.mem_cons_self ..))]; exact ea
        have ep2 : (upd H1 u (.lst ((a2 :: as2).reverse.map V.ref))) p = some (.lst ((ws.map tx).map V.str)) := by rw [upd_ne up.symm]; exact ep1
        generalize upd H1 u (.lst ((a2 :: as2).reverse.map V.ref)) = H2 at ku eu2 ea2 ep2
        have k2 : Keep [] H H2 := (k1.cons.trans (ku.mono (by simp))).drop nu0
        have stk2 := stk'.keep ku (Nat.le_refl _) (fun z m => by simpa using asu z (List.mem_cons_of_mem _ m))
        refine ⟨a, vs, rfl, .inl ⟨SqL.of ea2, fun tp ntp => ?_⟩⟩
        have kt : Keep [] H2 (upd H2 tp (.tup vs)) := Keep.new ntp
        have tv : Tr K (upd H2 tp (.tup vs)) (.ref tp) (.l l) := tr_tup upd_same ((ta.keep ku).keep kt)
        have nd2 : (u :: p :: a2 :: as2).Nodup := by
          simp only [List.nodup_cons, List.mem_cons, not_or] at nd ⊢
          exact ⟨⟨nd.1.1, nd.1.2.2⟩, nd.2.1.2, nd.2.2.2⟩
        obtain ⟨ws', g1, g2, g3, g4, g5⟩ := put (upd H2 tp (.tup vs)) a2 as2 l2 st2 (.ref tp) (.l l) (k2.trans kt) (kt.get eu2 (by simp)) (kt.get ep2 (by simp)) (stk2.keep kt (Nat.le_refl _) (by simp)) nd2 (fun z m => fresh z (List.mem_cons_of_mem _ m)) (by rw [List.length_cons] at asl; omega) tv rd
        exact ⟨_, rfl, _, rfl, _, _, _, _, rfl, rfl, SqL.of (kt.get eu2 (by simp)), g3, .inl ⟨rfl, _, SqL.of g1⟩, _, rfl, a2, ws', _, rfl, rfl, g1, g2, _, _, rfl, g4, g5⟩
      · rw [show decide ((V.str ∘ tx) x = V.str (tx [41])) = false from decide_eq_false fun e => hcl (tx_str e)]
        cases as with
        | nil =>
          cases st with
          | cons l st' => exact stk.elim
          | nil => rw [rdw_word0 hop hcl] at rd; cases rd
        | cons a as' =>
        cases st with
        | nil => exact stk.elim
        | cons l st' =>
        rw [rdw_word hop hcl] at rd
        obtain ⟨ws', g1, g2, g3, g4, g5⟩ := put H1 a as' l st' (.str (tx x)) (.w x) k1 eu ep1 stk nd fresh asl tr_w rd
        exact iteF ⟨_, rfl, _, rfl, _, _, _, _, rfl, rfl, SqL.of eu, g3, .inl ⟨rfl, _, SqL.of g1⟩, _, rfl, a, ws', _, rfl, rfl, g1, g2, _, _, rfl, g4, g5⟩
  · obtain ⟨y3, y4, rfl, ep1, k1, as, st, eu, stk, nd, fresh, asl, rd⟩ := pw
    rw [List.drop_of_length_le (by rw [List.length_map, List.length_map]; exact Nat.le_refl _)] at rd
    have e := Option.some.inj rd
    subst e
    match as, stk with
    | [a], ⟨⟨vs, ea, ta, _⟩, _⟩ =>
      obtain ⟨v, r, rfl, tv, e⟩ := ta.cons
      have e2 := e.nil
      subst e2
      exact ⟨_, rfl, u, _, _, _, rfl, rfl, SqL.of eu, atI_zero _ _, a, _, _, _, rfl, rfl, SqL.of ea, atI_zero _ _, q v H1 tv k1⟩
end
end Og

namespace Og
open PySem PySem.Spec PyProof.Rows L2
theorem room_n {k n : Nat} {A : Around} (hr : Room k A) (hn : n ≤ 16 * k + 200) : A.units + n < cLine := by
  have := hr.un
  omega
def wordW : List Nat := [119, 111, 114, 100]
def headW : List Nat := [104, 101, 97, 100]
def tailW : List Nat := [116, 97, 105, 108]
def sameW : List Nat := [115, 97, 109, 101]
def joinW : List Nat := [106, 111, 105, 110]
def yesT : Tree := .w [121, 101, 115]
def headT : Tree → Tree
  | .l (t :: _) => t
  | _ => .l []
def tailT : Tree → Tree
  | .l (_ :: ts) => .l ts
  | _ => .l []
def consT (f : Tree) : Tree → Tree
  | .l ts => .l (f :: ts)
  | .w _ => .l [f]
/-- what word, head and tail make -/
def prim1 (w : List Nat) (l : Tree) : Tree := if w = wordW then (if l.isW then yesT else .l []) else if w = headW then headT l else tailT l
theorem prim1_word (l : Tree) : prim1 wordW l = if l.isW then yesT else .l [] := if_pos rfl
theorem prim1_head (l : Tree) : prim1 headW l = headT l := by unfold prim1; rw [if_neg (by decide), if_pos rfl]
theorem prim1_tail (l : Tree) : prim1 tailW l = tailT l := by unfold prim1; rw [if_neg (by decide), if_neg (by decide)]
open Classical in
/-- what same and join make -/
noncomputable def prim2 (w : List Nat) (f l : Tree) : Tree := if w = sameW then (if f = l then yesT else .l []) else consT f l
theorem prim2_same_eq (f l : Tree) (h : f = l) : prim2 sameW f l = yesT := by unfold prim2; rw [if_pos rfl, if_pos h]
theorem prim2_same_ne (f l : Tree) (h : ¬ f = l) : prim2 sameW f l = .l [] := by unfold prim2; rw [if_pos rfl, if_neg h]
theorem prim2_join (f l : Tree) : prim2 joinW f l = consT f l := by unfold prim2; rw [if_neg (by decide)]
end Og

namespace Og
open PySem PySem.Spec PyProof.Rows L2
/-! ### == and != of trees of any kind and size, as deep as there is room -/
mutual
def td : Tree → Nat
  | .w _ => 0
  | .l ts => tds ts + 1
def tds : List Tree → Nat
  | [] => 0
  | t :: ts => max (td t) (tds ts)
end
theorem td_mem : ∀ {ts : List Tree} {t : Tree}, t ∈ ts → td t ≤ tds ts
  | [], t, m => absurd m (List.not_mem_nil)
  | u :: ts, t, m => by
    rw [tds]
    rcases List.mem_cons.mp m with e | m
    · rw [e]; exact Nat.le_max_left ..
    · exact Nat.le_trans (td_mem m) (Nat.le_max_right ..)
section
variable {X : Cx} {pins : List (Addr × Obj)} {σ : L2.St} {H : Hp} {s : Shared}
theorem isTup_uniq {h : Heap} {a : Addr} {x y : Array Value} (p : IsTup h a x) (q : IsTup h a y) : x = y := by
  obtain ⟨o, e, _, n, d⟩ := p
  obtain ⟨o', e', _, n', d'⟩ := q
  rw [e] at e'
  have := Option.some.inj e'
  subst this
  rw [d] at d'
  injection d'
theorem tr_uniq (I : L2.Inv X pins σ H s) : ∀ (n : Nat) (t u : Tree) (x y : V) (v : Value), td t ≤ n → Tr X.K H x t → Tr X.K H y u → L2.RelV x v → L2.RelV y v → t = u := by
  have step : ∀ n : Nat, (∀ (ts us : List Tree) (vs ws : List V) (its : List Value), (∀ t ∈ ts, td t + 1 ≤ n) → Trs X.K H vs ts → Trs X.K H ws us → L2.Vals vs its → L2.Vals ws its → ts = us) → ∀ (t u : Tree) (x y : V) (v : Value), td t ≤ n → Tr X.K H x t → Tr X.K H y u → L2.RelV x v → L2.RelV y v → t = u := by
    intro n items t u x y v d hx hy rx ry
    cases t with
    | w a =>
      have ex := hx.word
      subst ex
      obtain ⟨tk, rfl⟩ := rx
      cases u with
      | w c =>
        have ey := hy.word
        subst ey
        obtain ⟨tk', e⟩ := ry
        injection e with e1 _
        exact congrArg Tree.w (tx_str (congrArg V.str e1))
      | l us =>
        obtain ⟨p, ws, rfl, _, _⟩ := hy.list
        have e : Value.str (tx a) tk = Value.ref p := ry
        cases e
    | l ts =>
      obtain ⟨p, vs, rfl, hs, r⟩ := hx.list
      have ev : v = Value.ref p := rx
      subst ev
      cases u with
      | w c =>
        have ey := hy.word
        subst ey
        obtain ⟨tk', e⟩ := ry
        cases e
      | l us =>
        obtain ⟨q, ws, rfl, hs', r'⟩ := hy.list
        have e : Value.ref p = Value.ref q := ry
        injection e with e
        subst e
        obtain ⟨i1, v1, p1, _⟩ := I.tuple hs
        obtain ⟨i2, v2, p2, _⟩ := I.tuple hs'
        have ei := isTup_uniq p1 p2
        have ei : i1 = i2 := by simpa using ei
        subst ei
        refine congrArg Tree.l (items ts us vs ws i1 (fun t m => ?_) r r' v1 v2)
        have := td_mem m
        rw [td] at d
        omega
  intro n
  induction n with
  | zero =>
    refine step 0 fun ts us vs ws its d r r' v1 v2 => ?_
    cases ts with
    | nil =>
      rw [r.nil] at v1
      cases v1
      cases us with
      | nil => rfl
      | cons u us =>
        obtain ⟨_, _, rfl, _, _⟩ := r'.cons
        cases v2
    | cons t ts => exact absurd (d t (List.mem_cons_self ..)) (by omega)
  | succ n ih =>
    refine step (n + 1) fun ts => ?_
    induction ts with
    | nil =>
      intro us vs ws its d r r' v1 v2
      rw [r.nil] at v1
      cases v1
      cases us with
      | nil => rfl
      | cons u us =>
        obtain ⟨_, _, rfl, _, _⟩ := r'.cons
        cases v2
    | cons t ts iht =>
      intro us vs ws its d r r' v1 v2
      obtain ⟨v0, vr, rfl, r0, rr⟩ := r.cons
      cases v1 with
      | cons a1 b1 =>
      cases us with
      | nil =>
        rw [r'.nil] at v2
        cases v2
      | cons u us =>
        obtain ⟨w0, wr, rfl, q0, qr⟩ := r'.cons
        cases v2 with
        | cons a2 b2 =>
        have h1 := d t (List.mem_cons_self ..)
        rw [ih t u v0 w0 _ (by omega) r0 q0 a1 a2, iht us vr wr _ (fun t m => d t (List.mem_cons_of_mem _ m)) rr qr b1 b2]
theorem paired_get {F : V → Value → Prop} : ∀ {vs : List V} {its : List Value} {j : Nat}, Paired F vs its → (h : j < its.length) → ∃ x, vs[j]? = some x ∧ F x its[j]
  | [], [], j, _, h => absurd h (Nat.not_lt_zero _)
  | x :: vs, y :: its, j, .cons a b, h => by
    cases j with
    | zero => exact ⟨x, rfl, a⟩
    | succ j => exact paired_get b (Nat.lt_of_succ_lt_succ h)
theorem paired_len {F : V → Value → Prop} : ∀ {vs : List V} {its : List Value}, Paired F vs its → vs.length = its.length
  | [], [], _ => rfl
  | x :: vs, y :: its, .cons a b => congrArg (· + 1) (paired_len b)
open Classical in
theorem all_items {ts us : List Tree} {m : Nat} {b : Bool} (hm : m = min ts.length us.length) (h : b = true ↔ ts = us) :
    ((List.range m).all (fun j => decide (ts[j]? = us[j]?)) && decide (ts.length = us.length)) = b := by
  rw [Bool.eq_iff_iff, Bool.and_eq_true, List.all_eq_true, decide_eq_true_eq, h]
  constructor
  · rintro ⟨a, l⟩
    refine List.ext_getElem? fun j => ?_
    by_cases c : j < m
    · exact of_decide_eq_true (a j (List.mem_range.mpr c))
    · rw [List.getElem?_eq_none (by omega), List.getElem?_eq_none (by omega)]
  · rintro rfl
    exact ⟨fun j _ => decide_eq_true rfl, rfl⟩
open Classical in
theorem eq_trees (I : L2.Inv X pins σ H s) : ∀ (n : Nat) (t u : Tree) (x y : V) (v w : Value) (A : Around) (b : Bool), td t ≤ n → (b = true ↔ t = u) → Tr X.K H x t → Tr X.K H y u → L2.RelV x v → L2.RelV y w → A.units + n < cLine → SeqAt.EqAt A s v w b ∧ ((t.isW = false ∧ u.isW = false) → SeqAt.RcAt A s v w b ∧ SeqAt.RcNeAt A s v w (!b)) := by
  have step : ∀ n : Nat, (∀ (t u : Tree) (x y : V) (v w : Value) (A : Around) (b : Bool), td t + 1 ≤ n → (b = true ↔ t = u) → Tr X.K H x t → Tr X.K H y u → L2.RelV x v → L2.RelV y w → A.units + n < cLine + 1 → SeqAt.EqAt A s v w b) →
      ∀ (t u : Tree) (x y : V) (v w : Value) (A : Around) (b : Bool), td t ≤ n → (b = true ↔ t = u) → Tr X.K H x t → Tr X.K H y u → L2.RelV x v → L2.RelV y w → A.units + n < cLine → SeqAt.EqAt A s v w b ∧ ((t.isW = false ∧ u.isW = false) → SeqAt.RcAt A s v w b ∧ SeqAt.RcNeAt A s v w (!b)) := by
    intro n ih t u x y v w A b d hb hx hy rx ry hu
    cases t with
    | w a =>
      refine ⟨?_, fun h => by cases h.1⟩
      have ex := hx.word
      subst ex
      obtain ⟨tk, rfl⟩ := rx
      cases u with
      | w c =>
        have ey := hy.word
        subst ey
        obtain ⟨tk', rfl⟩ := ry
        have e : b = (tx a == tx c) := by
          rw [Bool.eq_iff_iff, hb, beq_iff_eq]
          exact ⟨fun h => by rw [Tree.w.inj h], fun h => congrArg Tree.w (tx_str (congrArg V.str h))⟩
        rw [e]
        exact SeqAt.EqAt.str_str _ _ _ _
      | l us =>
        obtain ⟨p, ws, rfl, hs, _⟩ := hy.list
        obtain ⟨its, _, pt, _⟩ := I.tuple hs
        obtain rfl : w = Value.ref p := ry
        have e : b = false := by
          cases b with
          | false => rfl
          | true => have := hb.mp rfl; cases this
        rw [e]
        exact SeqAt.EqAt.str_tuple _ _ pt (by omega)
    | l ts =>
      obtain ⟨p, vs, rfl, hs, r⟩ := hx.list
      obtain ⟨i1, v1, p1, _⟩ := I.tuple hs
      obtain rfl : v = Value.ref p := rx
      cases u with
      | w c =>
        refine ⟨?_, fun h => by cases h.2⟩
        have ey := hy.word
        subst ey
        obtain ⟨tk', rfl⟩ := ry
        have e : b = false := by
          cases b with
          | false => rfl
          | true => have := hb.mp rfl; cases this
        rw [e]
        exact SeqAt.EqAt.tuple_str _ _ p1 (by omega)
      | l us =>
        obtain ⟨q, ws, rfl, hs', r'⟩ := hy.list
        obtain ⟨i2, v2, p2, _⟩ := I.tuple hs'
        obtain rfl : w = Value.ref q := ry
        have l1 : i1.length = ts.length := (paired_len v1).symm.trans r.length
        have l2 : i2.length = us.length := (paired_len v2).symm.trans r'.length
        have items : ∀ (j : Nat) (h1 : j < i1.toArray.size) (h2 : j < i2.toArray.size), SeqAt.EqAt A.in1 s i1.toArray[j] i2.toArray[j] (decide (ts[j]? = us[j]?)) := by
          intro j h1 h2
          have j1 : j < i1.length := by simpa using h1
          have j2 : j < i2.length := by simpa using h2
          obtain ⟨x1, e1, f1⟩ := paired_get v1 j1
          obtain ⟨x2, e2, f2⟩ := paired_get v2 j2
          have g1 : ts[j]? = some ts[j] := List.getElem?_eq_getElem (by omega)
          have g2 : us[j]? = some us[j] := List.getElem?_eq_getElem (by omega)
          obtain ⟨z1, h1', t1⟩ := r.get g1
          obtain ⟨z2, h2', t2⟩ := r'.get g2
          rw [e1] at h1'
          rw [e2] at h2'
          cases h1'
          cases h2'
          have dm := td_mem (List.getElem_mem (show j < ts.length by omega))
          rw [td] at d
          refine ih ts[j] us[j] x1 x2 _ _ A.in1 _ (by omega) ?_ t1 t2 (by simpa using f1) (by simpa using f2) (by rw [Around.in1_units]; omega)
          rw [decide_eq_true_eq, g1, g2, Option.some.injEq]
        have hb' : b = true ↔ ts = us := hb.trans ⟨fun h => Tree.l.inj h, fun h => congrArg Tree.l h⟩
        have eb : ((List.range (min i1.toArray.size i2.toArray.size)).all (fun j => decide (ts[j]? = us[j]?)) && i1.toArray.size == i2.toArray.size) = b := by
          have hsz : (i1.toArray.size == i2.toArray.size) = decide (ts.length = us.length) := by
            rw [Bool.eq_iff_iff, beq_iff_eq, decide_eq_true_eq, List.size_toArray, List.size_toArray, l1, l2]
          rw [hsz]
          exact all_items (by rw [List.size_toArray, List.size_toArray, l1, l2]) hb'
        have rc : SeqAt.RcAt A s (.ref p) (.ref q) b := by
          have := SeqAt.RcAt.tuples (A := A) p1 p2 (by omega) items
          rw [eb] at this
          exact this
        have rn : SeqAt.RcNeAt A s (.ref p) (.ref q) (!b) := by
          have := SeqAt.RcNeAt.tuples (A := A) p1 p2 (by omega) items
          rw [eb] at this
          exact this
        refine ⟨?_, fun _ => ⟨rc, rn⟩⟩
        by_cases hpq : p = q
        · subst hpq
          have e := tr_uniq I (td (.l ts)) (.l ts) (.l us) _ _ (.ref p) (Nat.le_refl _) hx hy rfl rfl
          rw [hb.mpr e]
          exact SeqAt.EqAt.same _
        · exact SeqAt.EqAt.of_refs hpq rc
  intro n
  induction n with
  | zero => exact step 0 fun t u x y v w A b d => absurd d (by omega)
  | succ n ih => exact step (n + 1) fun t u x y v w A b d hb hx hy rx ry hu => (ih t u x y v w A b (by omega) hb hx hy rx ry (by omega)).1
/-- x == y, x != y of trees -/
def rEqT (K : PySem.W.Frag) (n : Nat) : R2 := fun x y H Q => ∃ t u : Tree, Tr K H x t ∧ Tr K H y u ∧ td t ≤ n ∧ ∀ b : Bool, (b = true ↔ t = u) → Q (.bl b) H
def rNeT (K : PySem.W.Frag) (n : Nat) : R2 := fun x y H Q => ∃ t u : Tree, Tr K H x t ∧ Tr K H y u ∧ td t ≤ n ∧ ∀ b : Bool, (b = true ↔ t ≠ u) → Q (.bl b) H
open Classical in
theorem op_eqT {n : Nat} (hu : X.A.units + 64 < cLine) (hn : X.A.units + n < cLine) : OpR X (compareOp .Eq) (rEqT X.K n) := by
  intro pins s σ H x y v w Q I rx ry h
  obtain ⟨t, u, hx, hy, d, q⟩ := h
  by_cases hw : t.isW = false ∧ u.isW = false
  · have rc := ((eq_trees I n t u x y v w X.A (decide (t = u)) d decide_eq_true_iff hx hy rx ry hn).2 hw).1
    exact rc _ _ _ _ ⟨.bl (decide (t = u)), H, I, rfl, q _ decide_eq_true_iff⟩
  · refine op_eqTr hu pins s σ H x y v w Q I rx ry ⟨t, u, hx, hy, ?_, q⟩
    cases h1 : t.isW with
    | true => exact .inl rfl
    | false =>
      cases h2 : u.isW with
      | true => exact .inr rfl
      | false => exact absurd ⟨h1, h2⟩ hw
open Classical in
theorem op_neT {n : Nat} (hu : X.A.units + 64 < cLine) (hn : X.A.units + n < cLine) : OpR X (compareOp .NotEq) (rNeT X.K n) := by
  intro pins s σ H x y v w Q I rx ry h
  obtain ⟨t, u, hx, hy, d, q⟩ := h
  by_cases hw : t.isW = false ∧ u.isW = false
  · have rc := ((eq_trees I n t u x y v w X.A (decide (t = u)) d decide_eq_true_iff hx hy rx ry hn).2 hw).2
    refine rc _ _ _ _ ⟨.bl (!decide (t = u)), H, I, rfl, q _ ?_⟩
    rw [Bool.not_eq_true', decide_eq_false_iff_not]
  · refine op_neTr hu pins s σ H x y v w Q I rx ry ⟨t, u, hx, hy, ?_, q⟩
    cases h1 : t.isW with
    | true => exact .inl rfl
    | false =>
      cases h2 : u.isW with
      | true => exact .inr rfl
      | false => exact absurd ⟨h1, h2⟩ hw
end
end Og

namespace Og
open PySem PySem.Spec PyProof.Rows L2
/-! ### texts of the program that are read, and the law's own -/
/-- the text of the program begins with a new line; the law's own is spaced and split -/
def spcd (lc : List Nat) : List Nat := StrLaws.replL [41] [32, 41, 32] (StrLaws.replL [40] [32, 40, 32] lc)
def okText (cs lc : List Nat) : Bool := match cs with
  | [] => false
  | b :: c => decide (b = 10) && decide (cs.length ≤ 100000) && decide (lexk 5000 c = some (wordsL (spcd lc))) && decide (lc.length ≤ 5000) && decide ((StrLaws.replL [40] [32, 40, 32] lc).length ≤ 15005) && decide ((spcd lc).length ≤ 45050) && decide ((wordsL (spcd lc)).length ≤ 45050) &&
    (match reads (wordsL (spcd lc)) [] with
    | some t => decide (td t ≤ 100) && !t.isW
    | none => false)
structure PText (cs lc : List Nat) (t : Tree) : Prop where
  dp : td t ≤ 100
  lw : t.isW = false
  rd : ∃ c toks, cs = [10] ++ c ∧ Rest c toks ∧ (∀ x ∈ toks, IsTok x) ∧ reads toks [] = some t
  ln : cs.length ≤ 100000
  l1 : lc.length ≤ 5000
  l2 : (StrLaws.replL [40] [32, 40, 32] lc).length ≤ 15005
  l3 : (spcd lc).length ≤ 45050
  l4 : (wordsL (spcd lc)).length ≤ 45050
  lr : rdw (wordsL (spcd lc)) [[]] = some [[t]]
theorem pText_of {cs lc : List Nat} (h : okText cs lc = true) : ∃ t, PText cs lc t := by
  unfold okText at h
  cases cs with
  | nil => cases h
  | cons b c =>
    simp only [Bool.and_eq_true, decide_eq_true_eq] at h
    obtain ⟨⟨⟨⟨⟨⟨⟨rfl, h0⟩, h1⟩, h2⟩, h3⟩, h4⟩, h5⟩, h6⟩ := h
    cases e : reads (wordsL (spcd lc)) [] with
    | none => rw [e] at h6; cases h6
    | some t =>
      rw [e] at h6
      obtain ⟨a, b⟩ := lexk_ok h1
      simp only [Bool.and_eq_true, decide_eq_true_eq, Bool.not_eq_true'] at h6
      exact ⟨t, h6.1, h6.2, ⟨c, _, rfl, a, b, e⟩, h0, h2, h3, h4, h5, rdw_of (base := []) e⟩
section
variable {P : Program} {w : World} {K : PySem.W.Frag} {mg : Str → Option Value} {base : Heap}
/-- f(), f any value that is known as a def -/
def tCallE0 (X : Cx) (tf : TE) : TE := fun σ H Q => tf σ H fun x H1 => ∃ (k : Nat) (nm : Str) (f : Addr) (fd : FuncData) (sp : Sp), x = .ref f ∧ Callee X.prog X.w X.K X.mg X.base CX0 k nm f fd [] sp ∧ Room k X.A ∧ sp [] H1 Q E0
theorem pe_callE0 {X : Cx} {f : Expr} {tf : TE} {pos : Pos} (hf : PE X f tf)
    (ht : eval (.Call f [] [] pos) X.env = (do callWith pos (← eval f X.env) [] (backTo pos (starEach [] X.env)) (backToKw pos (keywordEach [] X.env))) := by rfl) : PE X (.Call f [] [] pos) (tCallE0 X tf) := by
  refine ⟨fun pins s σ H Q I h => ?_⟩
  refine Call_ (thn (hf.run pins s σ H _ I h) fun u s1 ⟨x, H1, I1, rx, k, nm, fa, fd, sp, ex, C, hr, q⟩ => ?_) ht
  subst ex
  obtain rfl : u = Value.ref fa := rx
  exact PySem.W.callWith_K0 I1.kIn C.kp (run_fn (us := []) (vs := []) (dvs := []) C.ok hr C.bi .nil pass0 I1 .nil q)
def spLText (lc : List Nat) : Sp := fun vs H Q _ => vs = [] ∧ Q (.str (tx lc)) H
def spPText (K : PySem.W.Frag) (cs lc : List Nat) : Sp := fun vs H Q _ => vs = [] ∧ ∃ t, PText cs lc t ∧ ∀ (v : V) (H' : Hp), Tr K H' v t → Keep [] H H' → Q v H'
end
end Og

namespace Og
open PySem PySem.Spec PyProof.Rows L2
theorem lit_of {s : String} {cs : List Nat} (h : s = String.ofList (cs.map Char.ofNat)) (v : cs.all (fun c => decide (c < 128)) = true) : Str.ofString s = tx cs := by
  rw [h, Str.ofString_eq_toList, String.toList_ofList, List.map_map]
  have e : cs.map (Char.toNat ∘ Char.ofNat) = cs := by
    conv => rhs; rw [← List.map_id cs]
    refine List.map_congr_left fun c m => ?_
    have hc := of_decide_eq_true (List.all_eq_true.mp v c m)
    have key : ∀ k, k < 128 → (Char.ofNat k).toNat = k := by decide
    exact key c hc
  rw [e]
  rfl
theorem lit_at {st : Stmt} {ts : List Expr} {k p q} {s : String} {cs : List Nat} (e : st = .Assign ts (.Constant (.str (Str.ofString s)) k p) q) (h : s = String.ofList (cs.map Char.ofNat)) (v : cs.all (fun c => decide (c < 128)) = true) : txA st = tx cs := by
  subst e
  exact lit_of h v
def csU : List Nat := [10, 40, 40, 109, 97, 105, 110, 32, 40, 112, 32, 120, 115, 41, 32, 40, 97, 112, 112, 108, 121, 32, 40, 104, 101, 97, 100, 32, 112, 41, 32, 120, 115, 32, 112, 41, 41, 10, 32, 40, 97, 112, 112, 108, 121, 32, 40, 102, 32, 118, 115, 32, 112, 41, 32, 40, 101, 118, 32, 40, 116, 104, 105, 114, 100, 32, 102, 41, 32, 40, 115, 101, 99, 111, 110, 100, 32, 102, 41, 32, 118, 115, 32, 112, 41, 41, 10, 32, 40, 115, 101, 99, 111, 110, 100, 32, 40, 108, 41, 32, 40, 104, 101, 97, 100, 32, 40, 116, 97, 105, 108, 32, 108, 41, 41, 41, 10, 32, 40, 116, 104, 105, 114, 100, 32, 40, 108, 41, 32, 40, 104, 101, 97, 100, 32, 40, 116, 97, 105, 108, 32, 40, 116, 97, 105, 108, 32, 108, 41, 41, 41, 41, 10, 32, 40, 102, 111, 117, 114, 116, 104, 32, 40, 108, 41, 32, 40, 104, 101, 97, 100, 32, 40, 116, 97, 105, 108, 32, 40, 116, 97, 105, 108, 32, 40, 116, 97, 105, 108, 32, 108, 41, 41, 41, 41, 41, 10, 32, 40, 101, 118, 32, 40, 101, 32, 110, 115, 32, 118, 115, 32, 112, 41, 32, 40, 105, 102, 32, 40, 119, 111, 114, 100, 32, 101, 41, 32, 40, 108, 111, 111, 107, 32, 101, 32, 110, 115, 32, 118, 115, 41, 32, 40, 101, 118, 108, 105, 115, 116, 32, 40, 104, 101, 97, 100, 32, 101, 41, 32, 101, 32, 110, 115, 32, 118, 115, 32, 112, 41, 41, 41, 10, 32, 40, 108, 111, 111, 107, 32, 40, 101, 32, 110, 115, 32, 118, 115, 41, 32, 40, 105, 102, 32, 40, 115, 97, 109, 101, 32, 101, 32, 40, 104, 101, 97, 100, 32, 110, 115, 41, 41, 32, 40, 104, 101, 97, 100, 32, 118, 115, 41, 32, 40, 108, 111, 111, 107, 32, 101, 32, 40, 116, 97, 105, 108, 32, 110, 115, 41, 32, 40, 116, 97, 105, 108, 32, 118, 115, 41, 41, 41, 41, 10, 32, 40, 101, 118, 108, 105, 115, 116, 32, 40, 119, 32, 101, 32, 110, 115, 32, 118, 115, 32, 112, 41, 10, 32, 32, 40, 105, 102, 32, 40, 115, 97, 109, 101, 32, 119, 32, 40, 113, 117, 111, 116, 101, 32, 113, 117, 111, 116, 101, 41, 41, 32, 40, 115, 101, 99, 111, 110, 100, 32, 101, 41, 10, 32, 32, 40, 105, 102, 32, 40, 115, 97, 109, 101, 32, 119, 32, 40, 113, 117, 111, 116, 101, 32, 105, 102, 41, 41, 10, 32, 32, 32, 40, 105, 102, 32, 40, 101, 118, 32, 40, 115, 101, 99, 111, 110, 100, 32, 101, 41, 32, 110, 115, 32, 118, 115, 32, 112, 41, 32, 40, 101, 118, 32, 40, 116, 104, 105, 114, 100, 32, 101, 41, 32, 110, 115, 32, 118, 115, 32, 112, 41, 32, 40, 101, 118, 32, 40, 102, 111, 117, 114, 116, 104, 32, 101, 41, 32, 110, 115, 32, 118, 115, 32, 112, 41, 41, 10, 32, 32, 40, 101, 118, 99, 97, 108, 108, 32, 119, 32, 40, 101, 118, 115, 32, 40, 116, 97, 105, 108, 32, 101, 41, 32, 110, 115, 32, 118, 115, 32, 112, 41, 32, 112, 41, 41, 41, 41, 10, 32, 40, 101, 118, 115, 32, 40, 101, 115, 32, 110, 115, 32, 118, 115, 32, 112, 41, 32, 40, 105, 102, 32, 101, 115, 32, 40, 106, 111, 105, 110, 32, 40, 101, 118, 32, 40, 104, 101, 97, 100, 32, 101, 115, 41, 32, 110, 115, 32, 118, 115, 32, 112, 41, 32, 40, 101, 118, 115, 32, 40, 116, 97, 105, 108, 32, 101, 115, 41, 32, 110, 115, 32, 118, 115, 32, 112, 41, 41, 32, 40, 113, 117, 111, 116, 101, 32, 40, 41, 41, 41, 41, 10, 32, 40, 101, 118, 99, 97, 108, 108, 32, 40, 119, 32, 121, 115, 32, 112, 41, 10, 32, 32, 40, 105, 102, 32, 40, 115, 97, 109, 101, 32, 119, 32, 40, 113, 117, 111, 116, 101, 32, 115, 97, 109, 101, 41, 41, 32, 40, 115, 97, 109, 101, 32, 40, 104, 101, 97, 100, 32, 121, 115, 41, 32, 40, 115, 101, 99, 111, 110, 100, 32, 121, 115, 41, 41, 10, 32, 32, 40, 105, 102, 32, 40, 115, 97, 109, 101, 32, 119, 32, 40, 113, 117, 111, 116, 101, 32, 119, 111, 114, 100, 41, 41, 32, 40, 119, 111, 114, 100, 32, 40, 104, 101, 97, 100, 32, 121, 115, 41, 41, 10, 32, 32, 40, 105, 102, 32, 40, 115, 97, 109, 101, 32, 119, 32, 40, 113, 117, 111, 116, 101, 32, 104, 101, 97, 100, 41, 41, 32, 40, 104, 101, 97, 100, 32, 40, 104, 101, 97, 100, 32, 121, 115, 41, 41, 10, 32, 32, 40, 105, 102, 32, 40, 115, 97, 109, 101, 32, 119, 32, 40, 113, 117, 111, 116, 101, 32, 116, 97, 105, 108, 41, 41, 32, 40, 116, 97, 105, 108, 32, 40, 104, 101, 97, 100, 32, 121, 115, 41, 41, 10, 32, 32, 40, 105, 102, 32, 40, 115, 97, 109, 101, 32, 119, 32, 40, 113, 117, 111, 116, 101, 32, 106, 111, 105, 110, 41, 41, 32, 40, 106, 111, 105, 110, 32, 40, 104, 101, 97, 100, 32, 121, 115, 41, 32, 40, 115, 101, 99, 111, 110, 100, 32, 121, 115, 41, 41, 10, 32, 32, 40, 97, 112, 112, 108, 121, 32, 40, 102, 105, 110, 100, 32, 119, 32, 112, 41, 32, 121, 115, 32, 112, 41, 41, 41, 41, 41, 41, 41, 10, 32, 40, 102, 105, 110, 100, 32, 40, 119, 32, 112, 41, 32, 40, 105, 102, 32, 40, 115, 97, 109, 101, 32, 119, 32, 40, 104, 101, 97, 100, 32, 40, 104, 101, 97, 100, 32, 112, 41, 41, 41, 32, 40, 104, 101, 97, 100, 32, 112, 41, 32, 40, 102, 105, 110, 100, 32, 119, 32, 40, 116, 97, 105, 108, 32, 112, 41, 41, 41, 41, 41, 10]
def csT : List Nat := [10, 40, 40, 109, 97, 105, 110, 32, 40, 112, 41, 32, 40, 105, 102, 32, 112, 32, 40, 97, 112, 112, 32, 40, 102, 117, 110, 99, 32, 40, 104, 101, 97, 100, 32, 112, 41, 41, 32, 40, 109, 97, 105, 110, 32, 40, 116, 97, 105, 108, 32, 112, 41, 41, 41, 32, 40, 113, 117, 111, 116, 101, 32, 40, 41, 41, 41, 41, 10, 32, 40, 102, 117, 110, 99, 32, 40, 102, 41, 32, 40, 102, 117, 110, 32, 40, 104, 101, 97, 100, 32, 102, 41, 32, 40, 104, 101, 97, 100, 32, 40, 116, 97, 105, 108, 32, 102, 41, 41, 32, 40, 104, 101, 97, 100, 32, 40, 116, 97, 105, 108, 32, 40, 116, 97, 105, 108, 32, 102, 41, 41, 41, 41, 41, 10, 32, 40, 102, 117, 110, 32, 40, 110, 32, 112, 115, 32, 98, 41, 10, 32, 32, 40, 106, 111, 105, 110, 10, 32, 32, 32, 40, 106, 111, 105, 110, 32, 110, 32, 40, 97, 112, 112, 32, 40, 111, 112, 115, 32, 98, 32, 112, 115, 32, 40, 113, 117, 111, 116, 101, 32, 40, 41, 41, 32, 40, 111, 110, 101, 32, 110, 41, 41, 32, 40, 111, 110, 101, 32, 40, 106, 111, 105, 110, 32, 40, 113, 117, 111, 116, 101, 32, 115, 108, 105, 100, 101, 41, 32, 40, 111, 110, 101, 32, 112, 115, 41, 41, 41, 41, 41, 10, 32, 32, 32, 40, 114, 111, 117, 116, 115, 32, 98, 32, 112, 115, 32, 40, 113, 117, 111, 116, 101, 32, 40, 41, 41, 32, 40, 111, 110, 101, 32, 110, 41, 41, 41, 41, 10, 32, 40, 111, 110, 101, 32, 40, 120, 41, 32, 40, 106, 111, 105, 110, 32, 120, 32, 40, 113, 117, 111, 116, 101, 32, 40, 41, 41, 41, 41, 10, 32, 40, 97, 112, 112, 32, 40, 120, 32, 121, 41, 32, 40, 105, 102, 32, 120, 32, 40, 106, 111, 105, 110, 32, 40, 104, 101, 97, 100, 32, 120, 41, 32, 40, 97, 112, 112, 32, 40, 116, 97, 105, 108, 32, 120, 41, 32, 121, 41, 41, 32, 121, 41, 41, 10, 32, 40, 97, 102, 116, 101, 114, 32, 40, 101, 32, 112, 115, 41, 32, 40, 105, 102, 32, 40, 115, 97, 109, 101, 32, 101, 32, 40, 104, 101, 97, 100, 32, 112, 115, 41, 41, 32, 40, 116, 97, 105, 108, 32, 112, 115, 41, 32, 40, 97, 102, 116, 101, 114, 32, 101, 32, 40, 116, 97, 105, 108, 32, 112, 115, 41, 41, 41, 41, 10, 32, 40, 111, 112, 115, 32, 40, 101, 32, 112, 115, 32, 100, 32, 119, 41, 10, 32, 32, 40, 105, 102, 32, 40, 119, 111, 114, 100, 32, 101, 41, 10, 32, 32, 32, 40, 111, 110, 101, 32, 40, 106, 111, 105, 110, 32, 40, 113, 117, 111, 116, 101, 32, 99, 111, 112, 121, 41, 32, 40, 111, 110, 101, 32, 40, 97, 112, 112, 32, 40, 97, 102, 116, 101, 114, 32, 101, 32, 112, 115, 41, 32, 100, 41, 41, 41, 41, 10, 32, 32, 32, 40, 111, 112, 108, 105, 115, 116, 32, 40, 104, 101, 97, 100, 32, 101, 41, 32, 101, 32, 112, 115, 32, 100, 32, 119, 41, 41, 41, 10, 32, 40, 111, 112, 108, 105, 115, 116, 32, 40, 107, 32, 101, 32, 112, 115, 32, 100, 32, 119, 41, 10, 32, 32, 40, 105, 102, 32, 40, 115, 97, 109, 101, 32, 107, 32, 40, 113, 117, 111, 116, 101, 32, 113, 117, 111, 116, 101, 41, 41, 32, 40, 111, 110, 101, 32, 40, 106, 111, 105, 110, 32, 40, 113, 117, 111, 116, 101, 32, 112, 117, 115, 104, 41, 32, 40, 116, 97, 105, 108, 32, 101, 41, 41, 41, 10, 32, 32, 40, 105, 102, 32, 40, 115, 97, 109, 101, 32, 107, 32, 40, 113, 117, 111, 116, 101, 32, 105, 102, 41, 41, 10, 32, 32, 32, 40, 97, 112, 112, 10, 32, 32, 32, 32, 40, 111, 112, 115, 32, 40, 104, 101, 97, 100, 32, 40, 116, 97, 105, 108, 32, 101, 41, 41, 32, 112, 115, 32, 100, 32, 40, 106, 111, 105, 110, 32, 40, 113, 117, 111, 116, 101, 32, 112, 49, 41, 32, 119, 41, 41, 10, 32, 32, 32, 32, 40, 111, 110, 101, 32, 40, 106, 111, 105, 110, 32, 40, 113, 117, 111, 116, 101, 32, 105, 102, 41, 32, 40, 106, 111, 105, 110, 32, 40, 106, 111, 105, 110, 32, 40, 113, 117, 111, 116, 101, 32, 112, 50, 41, 32, 119, 41, 32, 40, 111, 110, 101, 32, 40, 106, 111, 105, 110, 32, 40, 113, 117, 111, 116, 101, 32, 112, 51, 41, 32, 119, 41, 41, 41, 41, 41, 41, 10, 32, 32, 40, 97, 112, 112, 10, 32, 32, 32, 40, 97, 114, 103, 115, 32, 40, 116, 97, 105, 108, 32, 101, 41, 32, 112, 115, 32, 100, 32, 119, 32, 40, 113, 117, 111, 116, 101, 32, 40, 112, 49, 32, 112, 50, 32, 112, 51, 32, 112, 52, 32, 112, 53, 32, 112, 54, 32, 112, 55, 32, 112, 56, 32, 112, 57, 32, 112, 49, 48, 32, 112, 49, 49, 32, 112, 49, 50, 41, 41, 41, 10, 32, 32, 32, 40, 111, 110, 101, 32, 40, 108, 97, 115, 116, 111, 112, 32, 107, 32, 40, 113, 117, 111, 116, 101, 32, 40, 115, 97, 109, 101, 32, 119, 111, 114, 100, 32, 104, 101, 97, 100, 32, 116, 97, 105, 108, 32, 106, 111, 105, 110, 41, 41, 41, 41, 41, 41, 41, 41, 10, 32, 40, 108, 97, 115, 116, 111, 112, 32, 40, 107, 32, 108, 41, 32, 40, 105, 102, 32, 108, 32, 40, 105, 102, 32, 40, 115, 97, 109, 101, 32, 107, 32, 40, 104, 101, 97, 100, 32, 108, 41, 41, 32, 40, 111, 110, 101, 32, 107, 41, 32, 40, 108, 97, 115, 116, 111, 112, 32, 107, 32, 40, 116, 97, 105, 108, 32, 108, 41, 41, 41, 32, 40, 106, 111, 105, 110, 32, 40, 113, 117, 111, 116, 101, 32, 99, 97, 108, 108, 41, 32, 40, 111, 110, 101, 32, 107, 41, 41, 41, 41, 10, 32, 40, 97, 114, 103, 115, 32, 40, 101, 115, 32, 112, 115, 32, 100, 32, 119, 32, 105, 115, 41, 10, 32, 32, 40, 105, 102, 32, 101, 115, 10, 32, 32, 32, 40, 97, 112, 112, 10, 32, 32, 32, 32, 40, 111, 112, 115, 32, 40, 104, 101, 97, 100, 32, 101, 115, 41, 32, 112, 115, 32, 100, 32, 40, 106, 111, 105, 110, 32, 40, 104, 101, 97, 100, 32, 105, 115, 41, 32, 119, 41, 41, 10, 32, 32, 32, 32, 40, 97, 114, 103, 115, 32, 40, 116, 97, 105, 108, 32, 101, 115, 41, 32, 112, 115, 32, 40, 106, 111, 105, 110, 32, 40, 113, 117, 111, 116, 101, 32, 97, 41, 32, 100, 41, 32, 119, 32, 40, 116, 97, 105, 108, 32, 105, 115, 41, 41, 41, 10, 32, 32, 32, 40, 113, 117, 111, 116, 101, 32, 40, 41, 41, 41, 41, 10, 32, 40, 114, 111, 117, 116, 115, 32, 40, 101, 32, 112, 115, 32, 100, 32, 119, 41, 32, 40, 105, 102, 32, 40, 119, 111, 114, 100, 32, 101, 41, 32, 40, 113, 117, 111, 116, 101, 32, 40, 41, 41, 32, 40, 114, 111, 117, 116, 108, 105, 115, 116, 32, 40, 104, 101, 97, 100, 32, 101, 41, 32, 40, 116, 97, 105, 108, 32, 101, 41, 32, 112, 115, 32, 100, 32, 119, 41, 41, 41, 10, 32, 40, 114, 111, 117, 116, 108, 105, 115, 116, 32, 40, 107, 32, 101, 115, 32, 112, 115, 32, 100, 32, 119, 41, 10, 32, 32, 40, 105, 102, 32, 40, 115, 97, 109, 101, 32, 107, 32, 40, 113, 117, 111, 116, 101, 32, 113, 117, 111, 116, 101, 41, 41, 32, 40, 113, 117, 111, 116, 101, 32, 40, 41, 41, 10, 32, 32, 40, 105, 102, 32, 40, 115, 97, 109, 101, 32, 107, 32, 40, 113, 117, 111, 116, 101, 32, 105, 102, 41, 41, 10, 32, 32, 32, 40, 97, 112, 112, 10, 32, 32, 32, 32, 40, 114, 111, 117, 116, 115, 32, 40, 104, 101, 97, 100, 32, 101, 115, 41, 32, 112, 115, 32, 100, 32, 40, 106, 111, 105, 110, 32, 40, 113, 117, 111, 116, 101, 32, 112, 49, 41, 32, 119, 41, 41, 10, 32, 32, 32, 32, 40, 97, 112, 112, 10, 32, 32, 32, 32, 32, 40, 98, 114, 97, 110, 99, 104, 32, 40, 104, 101, 97, 100, 32, 40, 116, 97, 105, 108, 32, 101, 115, 41, 41, 32, 112, 115, 32, 100, 32, 40, 106, 111, 105, 110, 32, 40, 113, 117, 111, 116, 101, 32, 112, 50, 41, 32, 119, 41, 41, 10, 32, 32, 32, 32, 32, 40, 98, 114, 97, 110, 99, 104, 32, 40, 104, 101, 97, 100, 32, 40, 116, 97, 105, 108, 32, 40, 116, 97, 105, 108, 32, 101, 115, 41, 41, 41, 32, 112, 115, 32, 100, 32, 40, 106, 111, 105, 110, 32, 40, 113, 117, 111, 116, 101, 32, 112, 51, 41, 32, 119, 41, 41, 41, 41, 10, 32, 32, 40, 114, 111, 117, 116, 97, 114, 103, 115, 32, 101, 115, 32, 112, 115, 32, 100, 32, 119, 32, 40, 113, 117, 111, 116, 101, 32, 40, 112, 49, 32, 112, 50, 32, 112, 51, 32, 112, 52, 32, 112, 53, 32, 112, 54, 32, 112, 55, 32, 112, 56, 32, 112, 57, 32, 112, 49, 48, 32, 112, 49, 49, 32, 112, 49, 50, 41, 41, 41, 41, 41, 41, 10, 32, 40, 98, 114, 97, 110, 99, 104, 32, 40, 101, 32, 112, 115, 32, 100, 32, 119, 41, 32, 40, 106, 111, 105, 110, 32, 40, 106, 111, 105, 110, 32, 119, 32, 40, 111, 112, 115, 32, 101, 32, 112, 115, 32, 100, 32, 119, 41, 41, 32, 40, 114, 111, 117, 116, 115, 32, 101, 32, 112, 115, 32, 100, 32, 119, 41, 41, 41, 10, 32, 40, 114, 111, 117, 116, 97, 114, 103, 115, 32, 40, 101, 115, 32, 112, 115, 32, 100, 32, 119, 32, 105, 115, 41, 10, 32, 32, 40, 105, 102, 32, 101, 115, 10, 32, 32, 32, 40, 97, 112, 112, 10, 32, 32, 32, 32, 40, 114, 111, 117, 116, 115, 32, 40, 104, 101, 97, 100, 32, 101, 115, 41, 32, 112, 115, 32, 100, 32, 40, 106, 111, 105, 110, 32, 40, 104, 101, 97, 100, 32, 105, 115, 41, 32, 119, 41, 41, 10, 32, 32, 32, 32, 40, 114, 111, 117, 116, 97, 114, 103, 115, 32, 40, 116, 97, 105, 108, 32, 101, 115, 41, 32, 112, 115, 32, 40, 106, 111, 105, 110, 32, 40, 113, 117, 111, 116, 101, 32, 97, 41, 32, 100, 41, 32, 119, 32, 40, 116, 97, 105, 108, 32, 105, 115, 41, 41, 41, 10, 32, 32, 32, 40, 113, 117, 111, 116, 101, 32, 40, 41, 41, 41, 41, 41, 10]
def csM : List Nat := [10, 40, 40, 109, 97, 105, 110, 32, 40, 112, 32, 120, 115, 41, 32, 40, 104, 101, 97, 100, 32, 40, 114, 117, 110, 32, 40, 116, 97, 105, 108, 32, 40, 104, 101, 97, 100, 32, 112, 41, 41, 32, 40, 116, 117, 114, 110, 32, 120, 115, 32, 40, 113, 117, 111, 116, 101, 32, 40, 41, 41, 41, 32, 112, 41, 41, 41, 10, 32, 40, 116, 117, 114, 110, 32, 40, 108, 32, 115, 41, 32, 40, 105, 102, 32, 108, 32, 40, 116, 117, 114, 110, 32, 40, 116, 97, 105, 108, 32, 108, 41, 32, 40, 106, 111, 105, 110, 32, 40, 104, 101, 97, 100, 32, 108, 41, 32, 115, 41, 41, 32, 115, 41, 41, 10, 32, 40, 114, 117, 110, 32, 40, 105, 115, 32, 115, 32, 112, 41, 10, 32, 32, 40, 105, 102, 32, 105, 115, 10, 32, 32, 32, 40, 114, 117, 110, 32, 40, 116, 97, 105, 108, 32, 105, 115, 41, 32, 40, 115, 116, 101, 112, 32, 40, 104, 101, 97, 100, 32, 40, 104, 101, 97, 100, 32, 105, 115, 41, 41, 32, 40, 104, 101, 97, 100, 32, 40, 116, 97, 105, 108, 32, 40, 104, 101, 97, 100, 32, 105, 115, 41, 41, 41, 32, 40, 104, 101, 97, 100, 32, 105, 115, 41, 32, 115, 32, 112, 41, 32, 112, 41, 10, 32, 32, 32, 115, 41, 41, 10, 32, 40, 115, 116, 101, 112, 32, 40, 107, 32, 118, 32, 105, 32, 115, 32, 112, 41, 10, 32, 32, 40, 105, 102, 32, 40, 115, 97, 109, 101, 32, 107, 32, 40, 113, 117, 111, 116, 101, 32, 112, 117, 115, 104, 41, 41, 32, 40, 106, 111, 105, 110, 32, 118, 32, 115, 41, 10, 32, 32, 40, 105, 102, 32, 40, 115, 97, 109, 101, 32, 107, 32, 40, 113, 117, 111, 116, 101, 32, 99, 111, 112, 121, 41, 41, 32, 40, 106, 111, 105, 110, 32, 40, 104, 101, 97, 100, 32, 40, 115, 107, 105, 112, 32, 118, 32, 115, 41, 41, 32, 115, 41, 10, 32, 32, 40, 105, 102, 32, 40, 115, 97, 109, 101, 32, 107, 32, 40, 113, 117, 111, 116, 101, 32, 115, 108, 105, 100, 101, 41, 41, 32, 40, 106, 111, 105, 110, 32, 40, 104, 101, 97, 100, 32, 115, 41, 32, 40, 115, 107, 105, 112, 32, 118, 32, 40, 116, 97, 105, 108, 32, 115, 41, 41, 41, 10, 32, 32, 40, 105, 102, 32, 40, 115, 97, 109, 101, 32, 107, 32, 40, 113, 117, 111, 116, 101, 32, 99, 97, 108, 108, 41, 41, 32, 40, 114, 117, 110, 32, 40, 102, 105, 110, 100, 32, 118, 32, 112, 41, 32, 115, 32, 112, 41, 10, 32, 32, 40, 105, 102, 32, 40, 115, 97, 109, 101, 32, 107, 32, 40, 113, 117, 111, 116, 101, 32, 105, 102, 41, 41, 32, 40, 114, 117, 110, 32, 40, 102, 105, 110, 100, 32, 40, 105, 102, 32, 40, 104, 101, 97, 100, 32, 115, 41, 32, 118, 32, 40, 104, 101, 97, 100, 32, 40, 116, 97, 105, 108, 32, 40, 116, 97, 105, 108, 32, 105, 41, 41, 41, 41, 32, 112, 41, 32, 40, 116, 97, 105, 108, 32, 115, 41, 32, 112, 41, 10, 32, 32, 40, 112, 108, 97, 105, 110, 32, 107, 32, 115, 41, 41, 41, 41, 41, 41, 41, 10, 32, 40, 112, 108, 97, 105, 110, 32, 40, 107, 32, 115, 41, 10, 32, 32, 40, 105, 102, 32, 40, 115, 97, 109, 101, 32, 107, 32, 40, 113, 117, 111, 116, 101, 32, 119, 111, 114, 100, 41, 41, 32, 40, 106, 111, 105, 110, 32, 40, 119, 111, 114, 100, 32, 40, 104, 101, 97, 100, 32, 115, 41, 41, 32, 40, 116, 97, 105, 108, 32, 115, 41, 41, 10, 32, 32, 40, 105, 102, 32, 40, 115, 97, 109, 101, 32, 107, 32, 40, 113, 117, 111, 116, 101, 32, 104, 101, 97, 100, 41, 41, 32, 40, 106, 111, 105, 110, 32, 40, 104, 101, 97, 100, 32, 40, 104, 101, 97, 100, 32, 115, 41, 41, 32, 40, 116, 97, 105, 108, 32, 115, 41, 41, 10, 32, 32, 40, 105, 102, 32, 40, 115, 97, 109, 101, 32, 107, 32, 40, 113, 117, 111, 116, 101, 32, 116, 97, 105, 108, 41, 41, 32, 40, 106, 111, 105, 110, 32, 40, 116, 97, 105, 108, 32, 40, 104, 101, 97, 100, 32, 115, 41, 41, 32, 40, 116, 97, 105, 108, 32, 115, 41, 41, 10, 32, 32, 40, 105, 102, 32, 40, 115, 97, 109, 101, 32, 107, 32, 40, 113, 117, 111, 116, 101, 32, 115, 97, 109, 101, 41, 41, 32, 40, 106, 111, 105, 110, 32, 40, 115, 97, 109, 101, 32, 40, 104, 101, 97, 100, 32, 40, 116, 97, 105, 108, 32, 115, 41, 41, 32, 40, 104, 101, 97, 100, 32, 115, 41, 41, 32, 40, 116, 97, 105, 108, 32, 40, 116, 97, 105, 108, 32, 115, 41, 41, 41, 10, 32, 32, 40, 106, 111, 105, 110, 32, 40, 106, 111, 105, 110, 32, 40, 104, 101, 97, 100, 32, 40, 116, 97, 105, 108, 32, 115, 41, 41, 32, 40, 104, 101, 97, 100, 32, 115, 41, 41, 32, 40, 116, 97, 105, 108, 32, 40, 116, 97, 105, 108, 32, 115, 41, 41, 41, 41, 41, 41, 41, 41, 10, 32, 40, 115, 107, 105, 112, 32, 40, 110, 32, 115, 41, 32, 40, 105, 102, 32, 110, 32, 40, 115, 107, 105, 112, 32, 40, 116, 97, 105, 108, 32, 110, 41, 32, 40, 116, 97, 105, 108, 32, 115, 41, 41, 32, 115, 41, 41, 10, 32, 40, 102, 105, 110, 100, 32, 40, 118, 32, 112, 41, 32, 40, 105, 102, 32, 40, 115, 97, 109, 101, 32, 118, 32, 40, 104, 101, 97, 100, 32, 40, 104, 101, 97, 100, 32, 112, 41, 41, 41, 32, 40, 116, 97, 105, 108, 32, 40, 104, 101, 97, 100, 32, 112, 41, 41, 32, 40, 102, 105, 110, 100, 32, 118, 32, 40, 116, 97, 105, 108, 32, 112, 41, 41, 41, 41, 41, 10]
def lcU : List Nat := [40, 40, 109, 97, 105, 110, 32, 40, 112, 32, 120, 115, 41, 32, 40, 97, 112, 112, 108, 121, 32, 40, 104, 101, 97, 100, 32, 112, 41, 32, 120, 115, 32, 112, 41, 41, 32, 40, 97, 112, 112, 108, 121, 32, 40, 102, 32, 118, 115, 32, 112, 41, 32, 40, 101, 118, 32, 40, 116, 104, 105, 114, 100, 32, 102, 41, 32, 40, 115, 101, 99, 111, 110, 100, 32, 102, 41, 32, 118, 115, 32, 112, 41, 41, 32, 40, 115, 101, 99, 111, 110, 100, 32, 40, 108, 41, 32, 40, 104, 101, 97, 100, 32, 40, 116, 97, 105, 108, 32, 108, 41, 41, 41, 32, 40, 116, 104, 105, 114, 100, 32, 40, 108, 41, 32, 40, 104, 101, 97, 100, 32, 40, 116, 97, 105, 108, 32, 40, 116, 97, 105, 108, 32, 108, 41, 41, 41, 41, 32, 40, 102, 111, 117, 114, 116, 104, 32, 40, 108, 41, 32, 40, 104, 101, 97, 100, 32, 40, 116, 97, 105, 108, 32, 40, 116, 97, 105, 108, 32, 40, 116, 97, 105, 108, 32, 108, 41, 41, 41, 41, 41, 32, 40, 101, 118, 32, 40, 101, 32, 110, 115, 32, 118, 115, 32, 112, 41, 32, 40, 105, 102, 32, 40, 119, 111, 114, 100, 32, 101, 41, 32, 40, 108, 111, 111, 107, 32, 101, 32, 110, 115, 32, 118, 115, 41, 32, 40, 101, 118, 108, 105, 115, 116, 32, 40, 104, 101, 97, 100, 32, 101, 41, 32, 101, 32, 110, 115, 32, 118, 115, 32, 112, 41, 41, 41, 32, 40, 108, 111, 111, 107, 32, 40, 101, 32, 110, 115, 32, 118, 115, 41, 32, 40, 105, 102, 32, 40, 115, 97, 109, 101, 32, 101, 32, 40, 104, 101, 97, 100, 32, 110, 115, 41, 41, 32, 40, 104, 101, 97, 100, 32, 118, 115, 41, 32, 40, 108, 111, 111, 107, 32, 101, 32, 40, 116, 97, 105, 108, 32, 110, 115, 41, 32, 40, 116, 97, 105, 108, 32, 118, 115, 41, 41, 41, 41, 32, 40, 101, 118, 108, 105, 115, 116, 32, 40, 119, 32, 101, 32, 110, 115, 32, 118, 115, 32, 112, 41, 32, 40, 105, 102, 32, 40, 115, 97, 109, 101, 32, 119, 32, 40, 113, 117, 111, 116, 101, 32, 113, 117, 111, 116, 101, 41, 41, 32, 40, 115, 101, 99, 111, 110, 100, 32, 101, 41, 32, 40, 105, 102, 32, 40, 115, 97, 109, 101, 32, 119, 32, 40, 113, 117, 111, 116, 101, 32, 105, 102, 41, 41, 32, 40, 105, 102, 32, 40, 101, 118, 32, 40, 115, 101, 99, 111, 110, 100, 32, 101, 41, 32, 110, 115, 32, 118, 115, 32, 112, 41, 32, 40, 101, 118, 32, 40, 116, 104, 105, 114, 100, 32, 101, 41, 32, 110, 115, 32, 118, 115, 32, 112, 41, 32, 40, 101, 118, 32, 40, 102, 111, 117, 114, 116, 104, 32, 101, 41, 32, 110, 115, 32, 118, 115, 32, 112, 41, 41, 32, 40, 101, 118, 99, 97, 108, 108, 32, 119, 32, 40, 101, 118, 115, 32, 40, 116, 97, 105, 108, 32, 101, 41, 32, 110, 115, 32, 118, 115, 32, 112, 41, 32, 112, 41, 41, 41, 41, 32, 40, 101, 118, 115, 32, 40, 101, 115, 32, 110, 115, 32, 118, 115, 32, 112, 41, 32, 40, 105, 102, 32, 101, 115, 32, 40, 106, 111, 105, 110, 32, 40, 101, 118, 32, 40, 104, 101, 97, 100, 32, 101, 115, 41, 32, 110, 115, 32, 118, 115, 32, 112, 41, 32, 40, 101, 118, 115, 32, 40, 116, 97, 105, 108, 32, 101, 115, 41, 32, 110, 115, 32, 118, 115, 32, 112, 41, 41, 32, 40, 113, 117, 111, 116, 101, 32, 40, 41, 41, 41, 41, 32, 40, 101, 118, 99, 97, 108, 108, 32, 40, 119, 32, 121, 115, 32, 112, 41, 32, 40, 105, 102, 32, 40, 115, 97, 109, 101, 32, 119, 32, 40, 113, 117, 111, 116, 101, 32, 115, 97, 109, 101, 41, 41, 32, 40, 115, 97, 109, 101, 32, 40, 104, 101, 97, 100, 32, 121, 115, 41, 32, 40, 115, 101, 99, 111, 110, 100, 32, 121, 115, 41, 41, 32, 40, 105, 102, 32, 40, 115, 97, 109, 101, 32, 119, 32, 40, 113, 117, 111, 116, 101, 32, 119, 111, 114, 100, 41, 41, 32, 40, 119, 111, 114, 100, 32, 40, 104, 101, 97, 100, 32, 121, 115, 41, 41, 32, 40, 105, 102, 32, 40, 115, 97, 109, 101, 32, 119, 32, 40, 113, 117, 111, 116, 101, 32, 104, 101, 97, 100, 41, 41, 32, 40, 104, 101, 97, 100, 32, 40, 104, 101, 97, 100, 32, 121, 115, 41, 41, 32, 40, 105, 102, 32, 40, 115, 97, 109, 101, 32, 119, 32, 40, 113, 117, 111, 116, 101, 32, 116, 97, 105, 108, 41, 41, 32, 40, 116, 97, 105, 108, 32, 40, 104, 101, 97, 100, 32, 121, 115, 41, 41, 32, 40, 105, 102, 32, 40, 115, 97, 109, 101, 32, 119, 32, 40, 113, 117, 111, 116, 101, 32, 106, 111, 105, 110, 41, 41, 32, 40, 106, 111, 105, 110, 32, 40, 104, 101, 97, 100, 32, 121, 115, 41, 32, 40, 115, 101, 99, 111, 110, 100, 32, 121, 115, 41, 41, 32, 40, 97, 112, 112, 108, 121, 32, 40, 102, 105, 110, 100, 32, 119, 32, 112, 41, 32, 121, 115, 32, 112, 41, 41, 41, 41, 41, 41, 41, 32, 40, 102, 105, 110, 100, 32, 40, 119, 32, 112, 41, 32, 40, 105, 102, 32, 40, 115, 97, 109, 101, 32, 119, 32, 40, 104, 101, 97, 100, 32, 40, 104, 101, 97, 100, 32, 112, 41, 41, 41, 32, 40, 104, 101, 97, 100, 32, 112, 41, 32, 40, 102, 105, 110, 100, 32, 119, 32, 40, 116, 97, 105, 108, 32, 112, 41, 41, 41, 41, 41, 32]
def lcT : List Nat := [40, 40, 109, 97, 105, 110, 32, 40, 112, 41, 32, 40, 105, 102, 32, 112, 32, 40, 97, 112, 112, 32, 40, 102, 117, 110, 99, 32, 40, 104, 101, 97, 100, 32, 112, 41, 41, 32, 40, 109, 97, 105, 110, 32, 40, 116, 97, 105, 108, 32, 112, 41, 41, 41, 32, 40, 113, 117, 111, 116, 101, 32, 40, 41, 41, 41, 41, 32, 40, 102, 117, 110, 99, 32, 40, 102, 41, 32, 40, 102, 117, 110, 32, 40, 104, 101, 97, 100, 32, 102, 41, 32, 40, 104, 101, 97, 100, 32, 40, 116, 97, 105, 108, 32, 102, 41, 41, 32, 40, 104, 101, 97, 100, 32, 40, 116, 97, 105, 108, 32, 40, 116, 97, 105, 108, 32, 102, 41, 41, 41, 41, 41, 32, 40, 102, 117, 110, 32, 40, 110, 32, 112, 115, 32, 98, 41, 32, 40, 106, 111, 105, 110, 32, 40, 106, 111, 105, 110, 32, 110, 32, 40, 97, 112, 112, 32, 40, 111, 112, 115, 32, 98, 32, 112, 115, 32, 40, 113, 117, 111, 116, 101, 32, 40, 41, 41, 32, 40, 111, 110, 101, 32, 110, 41, 41, 32, 40, 111, 110, 101, 32, 40, 106, 111, 105, 110, 32, 40, 113, 117, 111, 116, 101, 32, 115, 108, 105, 100, 101, 41, 32, 40, 111, 110, 101, 32, 112, 115, 41, 41, 41, 41, 41, 32, 40, 114, 111, 117, 116, 115, 32, 98, 32, 112, 115, 32, 40, 113, 117, 111, 116, 101, 32, 40, 41, 41, 32, 40, 111, 110, 101, 32, 110, 41, 41, 41, 41, 32, 40, 111, 110, 101, 32, 40, 120, 41, 32, 40, 106, 111, 105, 110, 32, 120, 32, 40, 113, 117, 111, 116, 101, 32, 40, 41, 41, 41, 41, 32, 40, 97, 112, 112, 32, 40, 120, 32, 121, 41, 32, 40, 105, 102, 32, 120, 32, 40, 106, 111, 105, 110, 32, 40, 104, 101, 97, 100, 32, 120, 41, 32, 40, 97, 112, 112, 32, 40, 116, 97, 105, 108, 32, 120, 41, 32, 121, 41, 41, 32, 121, 41, 41, 32, 40, 97, 102, 116, 101, 114, 32, 40, 101, 32, 112, 115, 41, 32, 40, 105, 102, 32, 40, 115, 97, 109, 101, 32, 101, 32, 40, 104, 101, 97, 100, 32, 112, 115, 41, 41, 32, 40, 116, 97, 105, 108, 32, 112, 115, 41, 32, 40, 97, 102, 116, 101, 114, 32, 101, 32, 40, 116, 97, 105, 108, 32, 112, 115, 41, 41, 41, 41, 32, 40, 111, 112, 115, 32, 40, 101, 32, 112, 115, 32, 100, 32, 119, 41, 32, 40, 105, 102, 32, 40, 119, 111, 114, 100, 32, 101, 41, 32, 40, 111, 110, 101, 32, 40, 106, 111, 105, 110, 32, 40, 113, 117, 111, 116, 101, 32, 99, 111, 112, 121, 41, 32, 40, 111, 110, 101, 32, 40, 97, 112, 112, 32, 40, 97, 102, 116, 101, 114, 32, 101, 32, 112, 115, 41, 32, 100, 41, 41, 41, 41, 32, 40, 111, 112, 108, 105, 115, 116, 32, 40, 104, 101, 97, 100, 32, 101, 41, 32, 101, 32, 112, 115, 32, 100, 32, 119, 41, 41, 41, 32, 40, 111, 112, 108, 105, 115, 116, 32, 40, 107, 32, 101, 32, 112, 115, 32, 100, 32, 119, 41, 32, 40, 105, 102, 32, 40, 115, 97, 109, 101, 32, 107, 32, 40, 113, 117, 111, 116, 101, 32, 113, 117, 111, 116, 101, 41, 41, 32, 40, 111, 110, 101, 32, 40, 106, 111, 105, 110, 32, 40, 113, 117, 111, 116, 101, 32, 112, 117, 115, 104, 41, 32, 40, 116, 97, 105, 108, 32, 101, 41, 41, 41, 32, 40, 105, 102, 32, 40, 115, 97, 109, 101, 32, 107, 32, 40, 113, 117, 111, 116, 101, 32, 105, 102, 41, 41, 32, 40, 97, 112, 112, 32, 40, 111, 112, 115, 32, 40, 104, 101, 97, 100, 32, 40, 116, 97, 105, 108, 32, 101, 41, 41, 32, 112, 115, 32, 100, 32, 40, 106, 111, 105, 110, 32, 40, 113, 117, 111, 116, 101, 32, 112, 49, 41, 32, 119, 41, 41, 32, 40, 111, 110, 101, 32, 40, 106, 111, 105, 110, 32, 40, 113, 117, 111, 116, 101, 32, 105, 102, 41, 32, 40, 106, 111, 105, 110, 32, 40, 106, 111, 105, 110, 32, 40, 113, 117, 111, 116, 101, 32, 112, 50, 41, 32, 119, 41, 32, 40, 111, 110, 101, 32, 40, 106, 111, 105, 110, 32, 40, 113, 117, 111, 116, 101, 32, 112, 51, 41, 32, 119, 41, 41, 41, 41, 41, 41, 32, 40, 97, 112, 112, 32, 40, 97, 114, 103, 115, 32, 40, 116, 97, 105, 108, 32, 101, 41, 32, 112, 115, 32, 100, 32, 119, 32, 40, 113, 117, 111, 116, 101, 32, 40, 112, 49, 32, 112, 50, 32, 112, 51, 32, 112, 52, 32, 112, 53, 32, 112, 54, 32, 112, 55, 32, 112, 56, 32, 112, 57, 32, 112, 49, 48, 32, 112, 49, 49, 32, 112, 49, 50, 41, 41, 41, 32, 40, 111, 110, 101, 32, 40, 108, 97, 115, 116, 111, 112, 32, 107, 32, 40, 113, 117, 111, 116, 101, 32, 40, 115, 97, 109, 101, 32, 119, 111, 114, 100, 32, 104, 101, 97, 100, 32, 116, 97, 105, 108, 32, 106, 111, 105, 110, 41, 41, 41, 41, 41, 41, 41, 41, 32, 40, 108, 97, 115, 116, 111, 112, 32, 40, 107, 32, 108, 41, 32, 40, 105, 102, 32, 108, 32, 40, 105, 102, 32, 40, 115, 97, 109, 101, 32, 107, 32, 40, 104, 101, 97, 100, 32, 108, 41, 41, 32, 40, 111, 110, 101, 32, 107, 41, 32, 40, 108, 97, 115, 116, 111, 112, 32, 107, 32, 40, 116, 97, 105, 108, 32, 108, 41, 41, 41, 32, 40, 106, 111, 105, 110, 32, 40, 113, 117, 111, 116, 101, 32, 99, 97, 108, 108, 41, 32, 40, 111, 110, 101, 32, 107, 41, 41, 41, 41, 32, 40, 97, 114, 103, 115, 32, 40, 101, 115, 32, 112, 115, 32, 100, 32, 119, 32, 105, 115, 41, 32, 40, 105, 102, 32, 101, 115, 32, 40, 97, 112, 112, 32, 40, 111, 112, 115, 32, 40, 104, 101, 97, 100, 32, 101, 115, 41, 32, 112, 115, 32, 100, 32, 40, 106, 111, 105, 110, 32, 40, 104, 101, 97, 100, 32, 105, 115, 41, 32, 119, 41, 41, 32, 40, 97, 114, 103, 115, 32, 40, 116, 97, 105, 108, 32, 101, 115, 41, 32, 112, 115, 32, 40, 106, 111, 105, 110, 32, 40, 113, 117, 111, 116, 101, 32, 97, 41, 32, 100, 41, 32, 119, 32, 40, 116, 97, 105, 108, 32, 105, 115, 41, 41, 41, 32, 40, 113, 117, 111, 116, 101, 32, 40, 41, 41, 41, 41, 32, 40, 114, 111, 117, 116, 115, 32, 40, 101, 32, 112, 115, 32, 100, 32, 119, 41, 32, 40, 105, 102, 32, 40, 119, 111, 114, 100, 32, 101, 41, 32, 40, 113, 117, 111, 116, 101, 32, 40, 41, 41, 32, 40, 114, 111, 117, 116, 108, 105, 115, 116, 32, 40, 104, 101, 97, 100, 32, 101, 41, 32, 40, 116, 97, 105, 108, 32, 101, 41, 32, 112, 115, 32, 100, 32, 119, 41, 41, 41, 32, 40, 114, 111, 117, 116, 108, 105, 115, 116, 32, 40, 107, 32, 101, 115, 32, 112, 115, 32, 100, 32, 119, 41, 32, 40, 105, 102, 32, 40, 115, 97, 109, 101, 32, 107, 32, 40, 113, 117, 111, 116, 101, 32, 113, 117, 111, 116, 101, 41, 41, 32, 40, 113, 117, 111, 116, 101, 32, 40, 41, 41, 32, 40, 105, 102, 32, 40, 115, 97, 109, 101, 32, 107, 32, 40, 113, 117, 111, 116, 101, 32, 105, 102, 41, 41, 32, 40, 97, 112, 112, 32, 40, 114, 111, 117, 116, 115, 32, 40, 104, 101, 97, 100, 32, 101, 115, 41, 32, 112, 115, 32, 100, 32, 40, 106, 111, 105, 110, 32, 40, 113, 117, 111, 116, 101, 32, 112, 49, 41, 32, 119, 41, 41, 32, 40, 97, 112, 112, 32, 40, 98, 114, 97, 110, 99, 104, 32, 40, 104, 101, 97, 100, 32, 40, 116, 97, 105, 108, 32, 101, 115, 41, 41, 32, 112, 115, 32, 100, 32, 40, 106, 111, 105, 110, 32, 40, 113, 117, 111, 116, 101, 32, 112, 50, 41, 32, 119, 41, 41, 32, 40, 98, 114, 97, 110, 99, 104, 32, 40, 104, 101, 97, 100, 32, 40, 116, 97, 105, 108, 32, 40, 116, 97, 105, 108, 32, 101, 115, 41, 41, 41, 32, 112, 115, 32, 100, 32, 40, 106, 111, 105, 110, 32, 40, 113, 117, 111, 116, 101, 32, 112, 51, 41, 32, 119, 41, 41, 41, 41, 32, 40, 114, 111, 117, 116, 97, 114, 103, 115, 32, 101, 115, 32, 112, 115, 32, 100, 32, 119, 32, 40, 113, 117, 111, 116, 101, 32, 40, 112, 49, 32, 112, 50, 32, 112, 51, 32, 112, 52, 32, 112, 53, 32, 112, 54, 32, 112, 55, 32, 112, 56, 32, 112, 57, 32, 112, 49, 48, 32, 112, 49, 49, 32, 112, 49, 50, 41, 41, 41, 41, 41, 41, 32, 40, 98, 114, 97, 110, 99, 104, 32, 40, 101, 32, 112, 115, 32, 100, 32, 119, 41, 32, 40, 106, 111, 105, 110, 32, 40, 106, 111, 105, 110, 32, 119, 32, 40, 111, 112, 115, 32, 101, 32, 112, 115, 32, 100, 32, 119, 41, 41, 32, 40, 114, 111, 117, 116, 115, 32, 101, 32, 112, 115, 32, 100, 32, 119, 41, 41, 41, 32, 40, 114, 111, 117, 116, 97, 114, 103, 115, 32, 40, 101, 115, 32, 112, 115, 32, 100, 32, 119, 32, 105, 115, 41, 32, 40, 105, 102, 32, 101, 115, 32, 40, 97, 112, 112, 32, 40, 114, 111, 117, 116, 115, 32, 40, 104, 101, 97, 100, 32, 101, 115, 41, 32, 112, 115, 32, 100, 32, 40, 106, 111, 105, 110, 32, 40, 104, 101, 97, 100, 32, 105, 115, 41, 32, 119, 41, 41, 32, 40, 114, 111, 117, 116, 97, 114, 103, 115, 32, 40, 116, 97, 105, 108, 32, 101, 115, 41, 32, 112, 115, 32, 40, 106, 111, 105, 110, 32, 40, 113, 117, 111, 116, 101, 32, 97, 41, 32, 100, 41, 32, 119, 32, 40, 116, 97, 105, 108, 32, 105, 115, 41, 41, 41, 32, 40, 113, 117, 111, 116, 101, 32, 40, 41, 41, 41, 41, 41, 32]
def lcM : List Nat := [40, 40, 109, 97, 105, 110, 32, 40, 112, 32, 120, 115, 41, 32, 40, 104, 101, 97, 100, 32, 40, 114, 117, 110, 32, 40, 116, 97, 105, 108, 32, 40, 104, 101, 97, 100, 32, 112, 41, 41, 32, 40, 116, 117, 114, 110, 32, 120, 115, 32, 40, 113, 117, 111, 116, 101, 32, 40, 41, 41, 41, 32, 112, 41, 41, 41, 32, 40, 116, 117, 114, 110, 32, 40, 108, 32, 115, 41, 32, 40, 105, 102, 32, 108, 32, 40, 116, 117, 114, 110, 32, 40, 116, 97, 105, 108, 32, 108, 41, 32, 40, 106, 111, 105, 110, 32, 40, 104, 101, 97, 100, 32, 108, 41, 32, 115, 41, 41, 32, 115, 41, 41, 32, 40, 114, 117, 110, 32, 40, 105, 115, 32, 115, 32, 112, 41, 32, 40, 105, 102, 32, 105, 115, 32, 40, 114, 117, 110, 32, 40, 116, 97, 105, 108, 32, 105, 115, 41, 32, 40, 115, 116, 101, 112, 32, 40, 104, 101, 97, 100, 32, 40, 104, 101, 97, 100, 32, 105, 115, 41, 41, 32, 40, 104, 101, 97, 100, 32, 40, 116, 97, 105, 108, 32, 40, 104, 101, 97, 100, 32, 105, 115, 41, 41, 41, 32, 40, 104, 101, 97, 100, 32, 105, 115, 41, 32, 115, 32, 112, 41, 32, 112, 41, 32, 115, 41, 41, 32, 40, 115, 116, 101, 112, 32, 40, 107, 32, 118, 32, 105, 32, 115, 32, 112, 41, 32, 40, 105, 102, 32, 40, 115, 97, 109, 101, 32, 107, 32, 40, 113, 117, 111, 116, 101, 32, 112, 117, 115, 104, 41, 41, 32, 40, 106, 111, 105, 110, 32, 118, 32, 115, 41, 32, 40, 105, 102, 32, 40, 115, 97, 109, 101, 32, 107, 32, 40, 113, 117, 111, 116, 101, 32, 99, 111, 112, 121, 41, 41, 32, 40, 106, 111, 105, 110, 32, 40, 104, 101, 97, 100, 32, 40, 115, 107, 105, 112, 32, 118, 32, 115, 41, 41, 32, 115, 41, 32, 40, 105, 102, 32, 40, 115, 97, 109, 101, 32, 107, 32, 40, 113, 117, 111, 116, 101, 32, 115, 108, 105, 100, 101, 41, 41, 32, 40, 106, 111, 105, 110, 32, 40, 104, 101, 97, 100, 32, 115, 41, 32, 40, 115, 107, 105, 112, 32, 118, 32, 40, 116, 97, 105, 108, 32, 115, 41, 41, 41, 32, 40, 105, 102, 32, 40, 115, 97, 109, 101, 32, 107, 32, 40, 113, 117, 111, 116, 101, 32, 99, 97, 108, 108, 41, 41, 32, 40, 114, 117, 110, 32, 40, 102, 105, 110, 100, 32, 118, 32, 112, 41, 32, 115, 32, 112, 41, 32, 40, 105, 102, 32, 40, 115, 97, 109, 101, 32, 107, 32, 40, 113, 117, 111, 116, 101, 32, 105, 102, 41, 41, 32, 40, 114, 117, 110, 32, 40, 102, 105, 110, 100, 32, 40, 105, 102, 32, 40, 104, 101, 97, 100, 32, 115, 41, 32, 118, 32, 40, 104, 101, 97, 100, 32, 40, 116, 97, 105, 108, 32, 40, 116, 97, 105, 108, 32, 105, 41, 41, 41, 41, 32, 112, 41, 32, 40, 116, 97, 105, 108, 32, 115, 41, 32, 112, 41, 32, 40, 112, 108, 97, 105, 110, 32, 107, 32, 115, 41, 41, 41, 41, 41, 41, 41, 32, 40, 112, 108, 97, 105, 110, 32, 40, 107, 32, 115, 41, 32, 40, 105, 102, 32, 40, 115, 97, 109, 101, 32, 107, 32, 40, 113, 117, 111, 116, 101, 32, 119, 111, 114, 100, 41, 41, 32, 40, 106, 111, 105, 110, 32, 40, 119, 111, 114, 100, 32, 40, 104, 101, 97, 100, 32, 115, 41, 41, 32, 40, 116, 97, 105, 108, 32, 115, 41, 41, 32, 40, 105, 102, 32, 40, 115, 97, 109, 101, 32, 107, 32, 40, 113, 117, 111, 116, 101, 32, 104, 101, 97, 100, 41, 41, 32, 40, 106, 111, 105, 110, 32, 40, 104, 101, 97, 100, 32, 40, 104, 101, 97, 100, 32, 115, 41, 41, 32, 40, 116, 97, 105, 108, 32, 115, 41, 41, 32, 40, 105, 102, 32, 40, 115, 97, 109, 101, 32, 107, 32, 40, 113, 117, 111, 116, 101, 32, 116, 97, 105, 108, 41, 41, 32, 40, 106, 111, 105, 110, 32, 40, 116, 97, 105, 108, 32, 40, 104, 101, 97, 100, 32, 115, 41, 41, 32, 40, 116, 97, 105, 108, 32, 115, 41, 41, 32, 40, 105, 102, 32, 40, 115, 97, 109, 101, 32, 107, 32, 40, 113, 117, 111, 116, 101, 32, 115, 97, 109, 101, 41, 41, 32, 40, 106, 111, 105, 110, 32, 40, 115, 97, 109, 101, 32, 40, 104, 101, 97, 100, 32, 40, 116, 97, 105, 108, 32, 115, 41, 41, 32, 40, 104, 101, 97, 100, 32, 115, 41, 41, 32, 40, 116, 97, 105, 108, 32, 40, 116, 97, 105, 108, 32, 115, 41, 41, 41, 32, 40, 106, 111, 105, 110, 32, 40, 106, 111, 105, 110, 32, 40, 104, 101, 97, 100, 32, 40, 116, 97, 105, 108, 32, 115, 41, 41, 32, 40, 104, 101, 97, 100, 32, 115, 41, 41, 32, 40, 116, 97, 105, 108, 32, 40, 116, 97, 105, 108, 32, 115, 41, 41, 41, 41, 41, 41, 41, 41, 32, 40, 115, 107, 105, 112, 32, 40, 110, 32, 115, 41, 32, 40, 105, 102, 32, 110, 32, 40, 115, 107, 105, 112, 32, 40, 116, 97, 105, 108, 32, 110, 41, 32, 40, 116, 97, 105, 108, 32, 115, 41, 41, 32, 115, 41, 41, 32, 40, 102, 105, 110, 100, 32, 40, 118, 32, 112, 41, 32, 40, 105, 102, 32, 40, 115, 97, 109, 101, 32, 118, 32, 40, 104, 101, 97, 100, 32, 40, 104, 101, 97, 100, 32, 112, 41, 41, 41, 32, 40, 116, 97, 105, 108, 32, 40, 104, 101, 97, 100, 32, 112, 41, 41, 32, 40, 102, 105, 110, 100, 32, 118, 32, 40, 116, 97, 105, 108, 32, 112, 41, 41, 41, 41, 41, 32]
set_option maxRecDepth 1000000
theorem lit_csU : t_UNIVERSAL = tx csU := lit_at rfl rfl (by decide +kernel)
theorem lit_csT : t_TRANSLATOR = tx csT := lit_at rfl rfl (by decide +kernel)
theorem lit_csM : t_MACHINE_UNIVERSAL = tx csM := lit_at rfl rfl (by decide +kernel)
theorem ok_U : okText csU lcU = true := by decide +kernel
theorem ok_T : okText csT lcT = true := by decide +kernel
theorem ok_M : okText csM lcM = true := by decide +kernel
section
variable {P : Program} {w : World} {K : PySem.W.Frag} {mg : Str → Option Value} {base : Heap}
/-- read_value of a text that is known -/
theorem rd_known {cs lc : List Nat} {H : Hp} {Q : VK} {E : XK} (ok : okText cs lc = true) (q : ∃ t, PText cs lc t) (h : ∀ t, PText cs lc t → ∀ (v : V) (H' : Hp), Tr K H' v t → Keep [] H H' → Q v H') : spRead K [.str (tx cs)] H Q E := by
  obtain ⟨t, p⟩ := q
  obtain ⟨c, toks, ec, a, b, e⟩ := p.rd
  refine ⟨[10], c, toks, t, by rw [← ec], fun x m => .inr (List.mem_singleton.mp m), a, b, e, ?_, h t p⟩
  rw [← ec]
  exact Nat.le_trans p.ln (by decide)
def spPText2 (K : PySem.W.Frag) (cs lc : List Nat) : Sp := fun vs H Q _ => vs = [] ∧ ∀ t, PText cs lc t → ∀ (v : V) (H' : Hp), Tr K H' v t → Keep [] H H' → Q v H'
theorem has_U {k : Nat} (D : DefAt K mg "universal" s_universal p_universal) (B : Bn mg) (M : Mc mg) (c1 : Has P w K mg base k "read_value" p_read_value (spRead K)) : Has P w K mg base (k + 1) "universal" p_universal (spPText2 K csU lcU) := by
  obtain ⟨f, fd, F, hm, hb⟩ := D.ex
  obtain ⟨_, _, c_read_value⟩ := c1
  obtain ⟨_, M_UNIVERSAL⟩ := M.UNIVERSAL
  refine ⟨f, fd, F.ok sc_universal (fun vs H Q E h => ?_) (fun cdv A outer s H vs Q E hr h => ?_), hm, F.kp, hb⟩
  · rw [h.1]; rfl
  obtain ⟨rfl, h⟩ := h
  refine ⟨_, (pss_one (ps_ret (cal c_read_value hr rfl (pa_cons (pe_glob (v := .str t_UNIVERSAL) rfl M_UNIVERSAL ⟨_, rfl⟩) pa_nil)))), ?_⟩
  rw [lit_csU]
  exact rd_known (E := E0) ok_U (pText_of ok_U) h
theorem has_T {k : Nat} (D : DefAt K mg "translator" s_translator p_translator) (B : Bn mg) (M : Mc mg) (c1 : Has P w K mg base k "read_value" p_read_value (spRead K)) : Has P w K mg base (k + 1) "translator" p_translator (spPText2 K csT lcT) := by
  obtain ⟨f, fd, F, hm, hb⟩ := D.ex
  obtain ⟨_, _, c_read_value⟩ := c1
  obtain ⟨_, M_TRANSLATOR⟩ := M.TRANSLATOR
  refine ⟨f, fd, F.ok sc_translator (fun vs H Q E h => ?_) (fun cdv A outer s H vs Q E hr h => ?_), hm, F.kp, hb⟩
  · rw [h.1]; rfl
  obtain ⟨rfl, h⟩ := h
  refine ⟨_, (pss_one (ps_ret (cal c_read_value hr rfl (pa_cons (pe_glob (v := .str t_TRANSLATOR) rfl M_TRANSLATOR ⟨_, rfl⟩) pa_nil)))), ?_⟩
  rw [lit_csT]
  exact rd_known (E := E0) ok_T (pText_of ok_T) h
theorem has_MU {k : Nat} (D : DefAt K mg "machine_universal" s_machine_universal p_machine_universal) (B : Bn mg) (M : Mc mg) (c1 : Has P w K mg base k "read_value" p_read_value (spRead K)) : Has P w K mg base (k + 1) "machine_universal" p_machine_universal (spPText2 K csM lcM) := by
  obtain ⟨f, fd, F, hm, hb⟩ := D.ex
  obtain ⟨_, _, c_read_value⟩ := c1
  obtain ⟨_, M_MACHINE_UNIVERSAL⟩ := M.MACHINE_UNIVERSAL
  refine ⟨f, fd, F.ok sc_machine_universal (fun vs H Q E h => ?_) (fun cdv A outer s H vs Q E hr h => ?_), hm, F.kp, hb⟩
  · rw [h.1]; rfl
  obtain ⟨rfl, h⟩ := h
  refine ⟨_, (pss_one (ps_ret (cal c_read_value hr rfl (pa_cons (pe_glob (v := .str t_MACHINE_UNIVERSAL) rfl M_MACHINE_UNIVERSAL ⟨_, rfl⟩) pa_nil)))), ?_⟩
  rw [lit_csM]
  exact rd_known (E := E0) ok_M (pText_of ok_M) h
theorem has_lU {k : Nat} (D : DefAt K mg "_law_universal_text" s_law_universal_text p_law_universal_text) (B : Bn mg) : Has P w K mg base (k + 1) "_law_universal_text" p_law_universal_text (spLText lcU) := by
  obtain ⟨f, fd, F, hm, hb⟩ := D.ex
  refine ⟨f, fd, F.ok sc_law_universal_text (fun vs H Q E h => ?_) (fun cdv A outer s H vs Q E hr h => ?_), hm, F.kp, hb⟩
  · rw [h.1]; rfl
  obtain ⟨rfl, h⟩ := h
  refine ⟨_, (pss_one (ps_ret pe_str)), ?_⟩
  rw [lit_of (cs := lcU) ?hx (by decide +kernel)]
  · exact h
  · rfl
theorem has_lT {k : Nat} (D : DefAt K mg "_law_translator_text" s_law_translator_text p_law_translator_text) (B : Bn mg) : Has P w K mg base (k + 1) "_law_translator_text" p_law_translator_text (spLText lcT) := by
  obtain ⟨f, fd, F, hm, hb⟩ := D.ex
  refine ⟨f, fd, F.ok sc_law_translator_text (fun vs H Q E h => ?_) (fun cdv A outer s H vs Q E hr h => ?_), hm, F.kp, hb⟩
  · rw [h.1]; rfl
  obtain ⟨rfl, h⟩ := h
  refine ⟨_, (pss_one (ps_ret pe_str)), ?_⟩
  rw [lit_of (cs := lcT) ?hx (by decide +kernel)]
  · exact h
  · rfl
theorem has_lM {k : Nat} (D : DefAt K mg "_law_machine_text" s_law_machine_text p_law_machine_text) (B : Bn mg) : Has P w K mg base (k + 1) "_law_machine_text" p_law_machine_text (spLText lcM) := by
  obtain ⟨f, fd, F, hm, hb⟩ := D.ex
  refine ⟨f, fd, F.ok sc_law_machine_text (fun vs H Q E h => ?_) (fun cdv A outer s H vs Q E hr h => ?_), hm, F.kp, hb⟩
  · rw [h.1]; rfl
  obtain ⟨rfl, h⟩ := h
  refine ⟨_, (pss_one (ps_ret pe_str)), ?_⟩
  rw [lit_of (cs := lcM) ?hx (by decide +kernel)]
  · exact h
  · rfl
end
end Og

namespace Og
open PySem PySem.Spec PyProof.Rows L2
theorem three_k {i : Int} (h0 : 0 ≤ i) (h : i < 3) : i = 0 ∨ i = 1 ∨ i = 2 := by omega
theorem td_get {ts : List Tree} {t : Tree} (m : t ∈ ts) {n : Nat} (h : td (.l ts) ≤ n) : td t ≤ n := by
  rw [td] at h
  have := td_mem m
  omega
theorem ok_law {P : Program} {w : World} {K : PySem.W.Frag} {mg : Str → Option Value} {base : Heap} {e : Addr} {ed : FuncData} (F : Fun K "law" "law" s_law e ed) (B : Bn mg) (M : Mc mg)
    (D_read_value : DefAt K mg "read_value" s_read_value p_read_value)
    (D_behind_blanks : DefAt K mg "_behind_blanks" s_behind_blanks p_behind_blanks)
    (D_word_at : DefAt K mg "_word_at" s_word_at p_word_at)
    (D_translator : DefAt K mg "translator" s_translator p_translator)
    (D_machine_universal : DefAt K mg "machine_universal" s_machine_universal p_machine_universal)
    (D_universal : DefAt K mg "universal" s_universal p_universal)
    (D_law_universal_text : DefAt K mg "_law_universal_text" s_law_universal_text p_law_universal_text)
    (D_law_translator_text : DefAt K mg "_law_translator_text" s_law_translator_text p_law_translator_text)
    (D_law_machine_text : DefAt K mg "_law_machine_text" s_law_machine_text p_law_machine_text)
    (D_law_draws : DefAt K mg "_law_draws" s_law_draws p_law_draws)
    (D_law_take : DefAt K mg "_law_take" s_law_take p_law_take)
    (D_law_read : DefAt K mg "_law_read" s_law_read p_law_read) :
    FnOk P w K mg base CX0 30 e ed ["script"] (spLaw K) := by
  have hn : 100 ≤ 16 * 29 + 200 := by decide
  have h_draws := has_draws (P := P) (w := w) (base := base) (k := 0) D_law_draws B
  have h_take := has_take (P := P) (w := w) (base := base) (k := 0) D_law_take B
  have h_blanks := has_blanks (P := P) (w := w) (base := base) (k := 0) D_behind_blanks B M
  have h_wordat := has_wordat (P := P) (w := w) (base := base) (k := 0) D_word_at B M
  have h_read := has_read (P := P) (w := w) (base := base) (k := 1) D_read_value B h_blanks h_wordat
  have h_U := has_U (P := P) (w := w) (base := base) (k := 2) D_universal B M h_read
  have h_T := has_T (P := P) (w := w) (base := base) (k := 2) D_translator B M h_read
  have h_M := has_MU (P := P) (w := w) (base := base) (k := 2) D_machine_universal B M h_read
  have h_lU := has_lU (P := P) (w := w) (base := base) (k := 0) D_law_universal_text B
  have h_lT := has_lT (P := P) (w := w) (base := base) (k := 0) D_law_translator_text B
  have h_lM := has_lM (P := P) (w := w) (base := base) (k := 0) D_law_machine_text B
  have h_lread := has_lread (P := P) (w := w) (base := base) (k := 0) D_law_read B
  obtain ⟨_, _, c_law_draws⟩ := h_draws.mono (show 1 ≤ 29 by decide)
  obtain ⟨_, _, c_law_take⟩ := h_take.mono (show 1 ≤ 29 by decide)
  obtain ⟨_, _, c_law_read⟩ := h_lread.mono (show 1 ≤ 29 by decide)
  obtain ⟨f_universal, _, c_universal⟩ := h_U.mono (show 3 ≤ 29 by decide)
  obtain ⟨f_translator, _, c_translator⟩ := h_T.mono (show 3 ≤ 29 by decide)
  obtain ⟨f_machine_universal, _, c_machine_universal⟩ := h_M.mono (show 3 ≤ 29 by decide)
  obtain ⟨f_law_universal_text, _, c_law_universal_text⟩ := h_lU.mono (show 1 ≤ 29 by decide)
  obtain ⟨f_law_translator_text, _, c_law_translator_text⟩ := h_lT.mono (show 1 ≤ 29 by decide)
  obtain ⟨f_law_machine_text, _, c_law_machine_text⟩ := h_lM.mono (show 1 ≤ 29 by decide)
  -- the three, by the number
  have pick : ∀ i : Int, 0 ≤ i → i < 3 → ∃ (cs lc : List Nat) (t : Tree) (f1 f2 : Addr) (g1 g2 : FuncData) (n1 n2 : Str), PText cs lc t ∧ atI [V.ref f_law_universal_text, .ref f_law_translator_text, .ref f_law_machine_text] i = some (.ref f1) ∧ atI [V.ref f_universal, .ref f_translator, .ref f_machine_universal] i = some (.ref f2) ∧
      Callee P w K mg base CX0 29 n1 f1 g1 [] (spLText lc) ∧ Callee P w K mg base CX0 29 n2 f2 g2 [] (spPText2 K cs lc) := by
    intro i h0 h3
    rcases three_k h0 h3 with rfl | rfl | rfl
    · obtain ⟨t, p⟩ := pText_of ok_U
      exact ⟨_, _, t, _, _, _, _, _, _, p, rfl, rfl, c_law_universal_text, c_universal⟩
    · obtain ⟨t, p⟩ := pText_of ok_T
      exact ⟨_, _, t, _, _, _, _, _, _, p, rfl, rfl, c_law_translator_text, c_translator⟩
    · obtain ⟨t, p⟩ := pText_of ok_M
      exact ⟨_, _, t, _, _, _, _, _, _, p, rfl, rfl, c_law_machine_text, c_machine_universal⟩
  refine F.ok sc_law (fun vs H Q E h => ?_) (fun cdv A outer s H vs Q E hr h => ?_)
  · obtain ⟨a, ns, rfl, _⟩ := h
    rfl
  obtain ⟨a, ns, rfl, hS, h63, q⟩ := h
  refine ⟨_, (pss_cons (ps_set (i := 1) sc_law.nd rfl (.inl rfl) (pe_lst (pa_cons (cal c_law_draws hr rfl (pa_cons (pv 0) (pa_cons pe_int pa_nil))) (pa_cons pe_int pa_nil))))
    (pss_cons (ps_set (i := 2) sc_law.nd rfl (.inl rfl) (cal c_law_take hr rfl (pa_cons (pv 1) (pa_cons pe_int pa_nil))))
    (pss_cons (ps_set (i := 3) sc_law.nd rfl (.inl rfl) (cal c_law_read hr rfl (pa_cons (pe_callE0 (pe_ix ix_list (pe_lst (pa_cons (pe_glob (v := .ref f_law_universal_text) rfl c_law_universal_text.mg rfl) (pa_cons (pe_glob (v := .ref f_law_translator_text) rfl c_law_translator_text.mg rfl) (pa_cons (pe_glob (v := .ref f_law_machine_text) rfl c_law_machine_text.mg rfl) pa_nil)))) (pv 2) (fun _ _ => rfl))) pa_nil)))
    (pss_cons (ps_set (i := 4) sc_law.nd rfl (.inl rfl) (pe_callE0 (pe_ix ix_list (pe_lst (pa_cons (pe_glob (v := .ref f_universal) rfl c_universal.mg rfl) (pa_cons (pe_glob (v := .ref f_translator) rfl c_translator.mg rfl) (pa_cons (pe_glob (v := .ref f_machine_universal) rfl c_machine_universal.mg rfl) pa_nil)))) (pv 2) (fun _ _ => rfl))))
    (pss_cons (ps_if (PW.pt (pw_or (pt_not (pt_val (pe_callB call_isi (by rfl) B.isinstance (by decide +kernel) (pa_cons (pv 4) (pa_cons (pe_bltn (v := .ty "tuple") rfl B.tuple (by decide +kernel) rfl) pa_nil))))) (pw_or1 (pt_cmpR (op_neT hr.units (room_n hr hn)) (pv 4) (pv 3) (nomark _))))) (pss_one (ps_ret pe_bl)) pss_nil)
    (pss_cons (ps_par (i := 5) (j := 6) (by rfl) sc_law.nd rfl rfl (by decide) rfl rfl (pa_cons (pv 3) (pa_cons (pe_callE0 (pe_ix ix_list (pe_lst (pa_cons (pe_glob (v := .ref f_universal) rfl c_universal.mg rfl) (pa_cons (pe_glob (v := .ref f_translator) rfl c_translator.mg rfl) (pa_cons (pe_glob (v := .ref f_machine_universal) rfl c_machine_universal.mg rfl) pa_nil)))) (pv 2) (fun _ _ => rfl))) pa_nil)) (by rfl))
    (pss_cons (ps_for PassesOwn.never rfl (pi_range1 (by rfl) B.range (pa_cons pe_int pa_nil)) (pg_name (i := 7) sc_law.nd rfl (.inl rfl))
      (pss_cons (ps_if (PW.pt (pw_or (pt_val (pe_callB call_isi (by rfl) B.isinstance (by decide +kernel) (pa_cons (pv 5) (pa_cons (pe_bltn (v := .ty "str") rfl B.str (by decide +kernel) rfl) pa_nil)))) (pw_or1 (pt_cmpR op_eq (pe_callB call_len_seq (by rfl) B.len PySem.boot_len (pa_cons (pv 5) pa_nil)) pe_int (nomark _))))) (pss_one (ps_ret (pe_cmpR (op_eqT hr.units (room_n hr hn)) (pv 5) (pv 6) (nomark _)))) pss_nil)
      (pss_cons (ps_set (i := 8) sc_law.nd rfl (.inl rfl) (cal c_law_take hr rfl (pa_cons (pv 1) (pa_cons (pe_callB call_len_seq (by rfl) B.len PySem.boot_len (pa_cons (pv 5) pa_nil)) pa_nil))))
      (pss_cons (ps_if (PW.pt (pw_or (pt_val (pe_callB call_isi (by rfl) B.isinstance (by decide +kernel) (pa_cons (pv 6) (pa_cons (pe_bltn (v := .ty "str") rfl B.str (by decide +kernel) rfl) pa_nil)))) (pw_or1 (pt_cmpR op_ne (pe_callB call_len_seq (by rfl) B.len PySem.boot_len (pa_cons (pv 6) pa_nil)) (pe_callB call_len_seq (by rfl) B.len PySem.boot_len (pa_cons (pv 5) pa_nil)) (nomark _))))) (pss_one (ps_ret pe_bl)) pss_nil)
      (pss_cons (ps_set (i := 5) sc_law.nd rfl (.inl rfl) (pe_ix ix_tup (pv 5) (pv 8) (fun _ _ => rfl)))
      (pss_one (ps_set (i := 6) sc_law.nd rfl (.inl rfl) (pe_ix ix_tup (pv 6) (pv 8) (fun _ _ => rfl)))))))))
    (pss_one (ps_ret (pe_cmpR (op_eqT hr.units (room_n hr hn)) (pv 5) (pv 6) (nomark _))))))))))), ?_⟩
  -- hand
  refine ⟨_, rfl, a, ns, 40, rfl, hS, h63, by decide, fun d ds H1 k1 nd ed1 dl => ?_⟩
  refine ⟨by show (2 : Nat) ≤ sizeLine; decide, fun h nh => ?_⟩
  have hd0 : Hd (upd H1 h (.lst [.ref d, .int 0])) h d := ⟨0, ds, upd_same, by rw [upd_ne (ne_of_none ed1 nh)]; exact ed1, by omega⟩
  generalize upd H1 h (.lst [.ref d, .int 0]) = H2 at hd0
  -- kind
  refine ⟨_, rfl, h, d, 3, rfl, hd0, by decide, fun i H3 i0 i1 k3 hd3 => ?_⟩
  obtain ⟨cs, lc, t, f1, f2, g1, g2, n1, n2, pt, at1, at2, cc1, cc2⟩ := pick i i0 i1
  -- due
  refine ⟨by show (3 : Nat) ≤ sizeLine; decide, fun p1 np1 => ?_⟩
  have e4 : ∀ {x y z : V} {p : Addr} {G : Hp}, SqL K (upd G p (.lst [x, y, z])) p [x, y, z] := SqL.of upd_same
  refine ⟨_, rfl, _, _, _, _, rfl, rfl, e4, at1, 29, n1, f1, g1, _, rfl, cc1, hr, rfl, ?_⟩
  have k4 : Keep [] H3 (upd H3 p1 (.lst [V.ref f_law_universal_text, .ref f_law_translator_text, .ref f_law_machine_text])) := Keep.new np1
  have hd4 := hd3.keep0 k4
  generalize upd H3 p1 (.lst [V.ref f_law_universal_text, .ref f_law_translator_text, .ref f_law_machine_text]) = H4 at k4 hd4
  refine ⟨lc, _, t, rfl, pt.l1, pt.l2, pt.l3, rfl, pt.l4, pt.lr, fun v H5 tv k5 => ?_⟩
  have hd5 := hd4.keep0 k5
  -- made
  refine ⟨by show (3 : Nat) ≤ sizeLine; decide, fun p2 np2 => ?_⟩
  refine ⟨_, rfl, _, _, _, _, rfl, rfl, e4, at2, 29, n2, f2, g2, _, rfl, cc2, hr, rfl, fun t' pt' u H6 tu k6 => ?_⟩
  have et : t' = t := by
    have := pt'.lr.symm.trans pt.lr
    exact (List.cons.inj (List.cons.inj (Option.some.inj this)).1).1
  subst et
  have k56 : Keep [] H5 H6 := (Keep.new np2).trans k6
  have hd6 := hd5.keep0 k56
  have tv6 := tv.keep k56
  -- the test
  obtain ⟨ts, rfl⟩ : ∃ ts, t' = .l ts := by
    cases t' with
    | w x => have := pt.lw; cases this
    | l ts => exact ⟨ts, rfl⟩
  obtain ⟨ty, uu, q1, q2, q3⟩ := isi_tup tu
  refine ⟨_, rfl, _, _, ty, uu, _, rfl, q1, q2, q3, _, rfl, ?_⟩
  refine iteF ⟨_, rfl, _, rfl, _, _, tu, tv6, pt.dp, fun b hb => ?_⟩
  have eb : b = false := by
    cases b with
    | false => rfl
    | true => exact absurd rfl (hb.mp rfl)
  subst eb
  refine ⟨_, rfl, iteF ?_⟩
  -- one, other
  refine ⟨_, rfl, by show (3 : Nat) ≤ sizeLine; decide, fun p3 np3 => ?_⟩
  refine ⟨_, rfl, _, _, _, _, rfl, rfl, e4, at2, 29, n2, f2, g2, _, rfl, cc2, hr, rfl, fun t2 pt2 u2 H7 tu2 k7 => ?_⟩
  have et : t2 = .l ts := (List.cons.inj (List.cons.inj (Option.some.inj (pt2.lr.symm.trans pt.lr))).1).1
  subst et
  have k67 : Keep [] H6 H7 := (Keep.new np3).trans k7
  have hd7 := hd6.keep0 k67
  have tv7 := tv6.keep k67
  refine ⟨_, _, rfl, ?_⟩
  refine ⟨(12 : Int), rfl, by decide, by decide, ?_⟩
  refine for_range (lo := 0) (n := (12 : Int).toNat) (fun j σ H' => ∃ (x y : V) (tr : Tree) (y7 y8 : Option V), σ = [some (.ref a), some (.ref h), some (.int i), some v, some u, some x, some y, y7, y8] ∧ Tr K H' x tr ∧ Tr K H' y tr ∧ td tr ≤ 100 ∧ Hd H' h d) ⟨v, u2, _, none, none, rfl, tv7, tu2, pt.dp, hd7⟩ (fun j σ H8 hj pw => ?_) (fun σ H8 pw => ?_)
  · obtain ⟨x, y, tr, y7, y8, rfl, tx0, ty0, dp, hd8⟩ := pw
    obtain ⟨ty, uu, q1, q2, q3⟩ := isi_str tx0
    refine ⟨_, rfl, _, _, ty, uu, _, rfl, q1, q2, q3, _, rfl, ?_⟩
    have fin : ∀ b : Bool, (b = true ↔ tr = tr) → Q (.bl b) H8 := fun b hb => by
      have eb : b = true := hb.mpr rfl
      subst eb
      exact q H8
    cases tr with
    | w z => exact iteT (iteT ⟨_, rfl, _, rfl, _, _, tx0, ty0, dp, fin⟩)
    | l us =>
      obtain ⟨a1, vs1, rfl, hS1, r1⟩ := tx0.list
      obtain ⟨a2, vs2, rfl, hS2, r2⟩ := ty0.list
      have l1 := r1.length
      have l2 := r2.length
      refine iteF ⟨_, rfl, a1, vs1, rfl, .inr hS1, rfl, _, rfl, ?_⟩
      by_cases em : us = []
      · rw [dT (show ((vs1.length : Nat) : Int) = 0 by rw [l1, em]; rfl)]
        exact iteT ⟨_, rfl, _, rfl, _, _, tx0, ty0, dp, fin⟩
      · have lp : 0 < us.length := List.length_pos_iff.mpr em
        rw [dF (show ¬ ((vs1.length : Nat) : Int) = 0 by omega)]
        refine iteF ⟨_, rfl, _, rfl, a1, vs1, rfl, .inr hS1, h, d, _, rfl, hd8, by omega, fun at' H9 at0 at1 k9 hd9 => ?_⟩
        obtain ⟨n', rfl⟩ := Int.eq_ofNat_of_zero_le at0
        have nl : n' < us.length := by omega
        have hg : us[n']? = some us[n'] := List.getElem?_eq_getElem nl
        obtain ⟨x1, hx1, tx1⟩ := r1.get hg
        obtain ⟨x2, hx2, tx2⟩ := r2.get hg
        obtain ⟨ty, uu, q1, q2, q3⟩ := isi_str (ty0.keep k9)
        refine ⟨_, rfl, _, _, ty, uu, _, rfl, q1, q2, q3, _, rfl, ?_⟩
        refine iteF ⟨_, rfl, a2, vs2, rfl, .inr (k9.sqT hS2), _, rfl, a1, vs1, rfl, .inr (k9.sqT hS1), rfl, _, rfl, ?_⟩
        rw [nF (show ((vs2.length : Nat) : Int) = ((vs1.length : Nat) : Int) by omega)]
        refine iteF ⟨_, rfl, _, rfl, _, _, _, _, rfl, rfl, k9.sqT hS1, atI_nat hx1, _, rfl, _, rfl, _, _, _, _, rfl, rfl, k9.sqT hS2, atI_nat hx2, ?_⟩
        exact ⟨_, _, _, _, _, rfl, tx1.keep k9, tx2.keep k9, td_get (List.getElem_mem nl) dp, hd9⟩
  · obtain ⟨x, y, tr, y7, y8, rfl, tx0, ty0, dp, hd8⟩ := pw
    refine ⟨_, rfl, _, rfl, _, _, tx0, ty0, dp, fun b hb => ?_⟩
    have eb : b = true := hb.mpr rfl
    subst eb
    exact q H8
end Og

namespace Og
open PySem PySem.Spec PySem.W PyProof.Rows L2
/-! ### the look at a program with long texts: roadStr by lists -/
def roadQ (x : Str) : Bool := x.cps.toList.any (fun c => c == 123 || c == 125) || (x.cps.toList.any (· == 46) && !x.cps.toList.any (fun c => decide (c ≤ 32)))
theorem roadQ_eq (x : Str) : roadStr x = roadQ x := by
  unfold roadStr roadQ
  rw [Array.any_toList, Array.any_toList, Array.any_toList]
def strQ (k : Look) (x : Str) : Bool := (underscores x || k.word x) && (!roadQ x || (!x.endsWith ".__" && !x.endsWith "._" && (W.wordsOf x).all fun w => underscores w || (k.word w && (k.foot.isNone || k.out.field w) && (!w.opensWith "__" || w.endsWith "__"))))
theorem strQ_eq (k : Look) (x : Str) : k.str x = strQ k x := by
  unfold Look.str strQ
  rw [roadQ_eq]
theorem nr_app {lk : Look} : ∀ {a b : List Stmt}, noRoadLSs lk a = true → noRoadLSs lk b = true → noRoadLSs lk (a ++ b) = true
  | [], _, _, hb => hb
  | s :: r, b, ha, hb => by
    have e : ∀ q : List Stmt, noRoadLSs lk (s :: q) = (noRoadLS lk s && noRoadLSs lk q) := fun q => by rw [noRoadLSs]
    rw [e, Bool.and_eq_true] at ha
    show noRoadLSs lk (s :: (r ++ b)) = true
    rw [e, Bool.and_eq_true]
    exact ⟨ha.1, nr_app ha.2 hb⟩
theorem nr_cut {lk : Look} {l : List Stmt} (n : Nat) (h1 : noRoadLSs lk (l.take n) = true) (h2 : noRoadLSs lk (l.drop n) = true) : noRoadLSs lk l = true := by
  have := nr_app h1 h2
  rwa [List.take_append_drop] at this
theorem nr_assign {lk : Look} {ts : List Expr} {x : Str} {k p q} (h1 : (lk.stores ts && noRoadLs lk ts) = true) (h2 : strQ lk x = true) : noRoadLS lk (.Assign ts (.Constant (.str x) k p) q) = true := by
  rw [noRoadLS, noRoadL, strQ_eq, h1, h2]; rfl
theorem nr_ret {lk : Look} {n : Str} {a : Arguments} {d : List Expr} {r : Option Expr} {t : List TypeParam} {x : Str} {k p q sc ts b ps} (h1 : (noRoadLArgs lk a && noRoadLs lk d && noRoadLOpt lk r && noRoadLTps lk t) = true) (h2 : strQ lk.inDef x = true) : noRoadLS lk (.FunctionDef n a [.Return (some (.Constant (.str x) k p)) q] d r t sc ts b ps) = true := by
  simp only [Bool.and_eq_true] at h1
  obtain ⟨⟨⟨a1, a2⟩, a3⟩, a4⟩ := h1
  rw [noRoadLS, noRoadLSs, noRoadLS, noRoadLOpt, noRoadL, strQ_eq, h2, a1, a2, a3, a4, noRoadLSs]; rfl
theorem nr_one {lk : Look} {l : List Stmt} {s : Stmt} (e : l.take 1 = [s]) (h : noRoadLS lk s = true) : noRoadLSs lk (l.take 1) = true := by
  rw [e, noRoadLSs, h, noRoadLSs]; rfl
end Og

namespace Og
open PySem PySem.Spec PySem.W PyProof.Rows L2
set_option maxRecDepth 1000000
set_option maxHeartbeats 0
theorem nrAV : (fun lk => noRoadLSs lk PySem.Challenge.rw_ownglass_k60_printed_programs.row.prog.main.body) { strict := !(importedModules PySem.Challenge.rw_ownglass_k60_printed_programs.row.prog.main.body).all cThrough.contains, foot := none, bare := (["vars", "dir", "locals"] : List Str).filter (readsOut PySem.Challenge.rw_ownglass_k60_printed_programs.row.prog PySem.Challenge.rw_ownglass_k60_printed_programs.row.prog.main.body) } = true := by
  refine nr_cut 12 ?_ (nr_cut 1 (nr_one rfl (nr_assign ?_ ?_)) (nr_cut 1 (nr_one rfl (nr_assign ?_ ?_)) (nr_cut 3 ?_ (nr_cut 1 (nr_one rfl (nr_assign ?_ ?_)) (nr_cut 2 ?_ (nr_cut 1 (nr_one rfl (nr_ret ?_ ?_)) (nr_cut 1 (nr_one rfl (nr_ret ?_ ?_)) (nr_cut 1 (nr_one rfl (nr_ret ?_ ?_)) ?_))))))))
  all_goals k_qdec
theorem nrBV : noRoadLSs { strict := true, foot := some PySem.Challenge.rw_ownglass_k60_printed_programs.bound', writes := PySem.Challenge.rw_ownglass_k60_printed_programs.writes, may := PySem.Challenge.rw_ownglass_k60_printed_programs.may } PySem.Challenge.rw_ownglass_k60_printed_programs.footing = true := by
  refine nr_cut 1 (nr_one rfl (nr_ret ?_ ?_)) (nr_cut 1 (nr_one rfl (nr_ret ?_ ?_)) (nr_cut 1 (nr_one rfl (nr_ret ?_ ?_)) ?_))
  all_goals k_qdec
theorem saidV : PySem.Challenge.rw_ownglass_k60_printed_programs.wellSaid = true := by
  unfold OpenLaw.wellSaid OpenRow.wellSaid OpenRow.partSaid looksOpen
  repeat' with_reducible refine look_both ?_ ?_
  all_goals first
    | (with_reducible exact nrAV)
    | (with_reducible exact nrBV)
    | k_qdec
end Og

namespace Og
open PySem PySem.Spec PyProof.Rows L2
def oV2 (P : Params) : Obj :=
  Obj.mk Value.none none (Data.dict #[]) #[]
def oV3 (P : Params) : Obj :=
  Obj.mk (Value.type "dict") none (Data.dict #[DictEntry.mk (PyData.keyHash P "__name__") (Value.str "__name__" 165) (Value.str "law_ownglass_k60_printed_programs" 299),
    DictEntry.mk (PyData.keyHash P "__doc__") (Value.str "__doc__" 166) Value.none, DictEntry.mk (PyData.keyHash P "__package__") (Value.str "__package__" 167) Value.none,
    DictEntry.mk (PyData.keyHash P "__loader__") (Value.str "__loader__" 168) (Value.builtin "__main__.__loader__#opaque"), DictEntry.mk (PyData.keyHash P "__spec__") (Value.str
    "__spec__" 169) Value.none, DictEntry.mk (PyData.keyHash P "__annotations__") (Value.str "__annotations__" 170) (Value.ref 6), DictEntry.mk (PyData.keyHash P "__builtins__")
    (Value.str "__builtins__" 171) (Value.ref 4), DictEntry.mk (PyData.keyHash P "__file__") (Value.str "__file__" 173) (Value.str "/claim/cut.py" 172), DictEntry.mk
    (PyData.keyHash P "__cached__") (Value.str "__cached__" 174) Value.none, DictEntry.mk (PyData.keyHash P "GlassError") (Value.str "GlassError" 206) (Value.ref 24), DictEntry.mk
    (PyData.keyHash P "BadText") (Value.str "BadText" 231) (Value.ref 44), DictEntry.mk (PyData.keyHash P "LETTERS") (Value.str "LETTERS" 235) (Value.str
    "abcdefghijklmnopqrstuvwxyz" 234), DictEntry.mk (PyData.keyHash P "RUN_SIGNS") (Value.str "RUN_SIGNS" 237) (Value.str "abcdefghijklmnopqrstuvwxyz0123456789" 236), DictEntry.mk
    (PyData.keyHash P "BLANKS") (Value.str "BLANKS" 239) (Value.str " \n" 238), DictEntry.mk (PyData.keyHash P "LONGEST_WORD") (Value.str "LONGEST_WORD" 241) (Value.int 12 240),
    DictEntry.mk (PyData.keyHash P "read_value") (Value.str "read_value" 252) (Value.ref 53), DictEntry.mk (PyData.keyHash P "_behind_blanks") (Value.str "_behind_blanks" 261)
    (Value.ref 60), DictEntry.mk (PyData.keyHash P "_word_at") (Value.str "_word_at" 270) (Value.ref 67), DictEntry.mk (PyData.keyHash P "TRANSLATOR") (Value.str "TRANSLATOR" 274)
    (Value.str t_TRANSLATOR 273), DictEntry.mk (PyData.keyHash P "MACHINE_UNIVERSAL") (Value.str "MACHINE_UNIVERSAL" 276) (Value.str t_MACHINE_UNIVERSAL 275), DictEntry.mk
    (PyData.keyHash P "translator") (Value.str "translator" 282) (Value.ref 74), DictEntry.mk (PyData.keyHash P "machine_universal") (Value.str "machine_universal" 288) (Value.ref
    81), DictEntry.mk (PyData.keyHash P "UNIVERSAL") (Value.str "UNIVERSAL" 292) (Value.str t_UNIVERSAL 291), DictEntry.mk (PyData.keyHash P "universal") (Value.str "universal"
    298) (Value.ref 88), DictEntry.mk (PyData.keyHash P "_law_universal_text") (Value.str "_law_universal_text" 306) (Value.ref 95), DictEntry.mk (PyData.keyHash P
    "_law_translator_text") (Value.str "_law_translator_text" 312) (Value.ref 102), DictEntry.mk (PyData.keyHash P "_law_machine_text") (Value.str "_law_machine_text" 318)
    (Value.ref 109), DictEntry.mk (PyData.keyHash P "_law_draws") (Value.str "_law_draws" 324) (Value.ref 114), DictEntry.mk (PyData.keyHash P "_law_take") (Value.str "_law_take"
    334) (Value.ref 121), DictEntry.mk (PyData.keyHash P "_law_read") (Value.str "_law_read" 345) (Value.ref 128), DictEntry.mk (PyData.keyHash P "law") (Value.str "law" 360)
    (Value.ref 135)] 31) #[]
def oV6 (P : Params) : Obj :=
  Obj.mk (Value.type "dict") none (Data.dict #[]) #[]
def oV15 (P : Params) : Obj :=
  Obj.mk (Value.type "tuple") none (Data.seq #[Value.type "ValueError"]) #[]
def oV22 (P : Params) : Obj :=
  Obj.mk (Value.type "tuple") none (Data.seq #[]) #[]
def oV23 (P : Params) : Obj :=
  Obj.mk (Value.type "dict") none (Data.dict #[DictEntry.mk (PyData.keyHash P "__module__") (Value.str "__module__" 196) (Value.str "ownglass.errors" 187), DictEntry.mk
    (PyData.keyHash P "__firstlineno__") (Value.str "__firstlineno__" 200) (Value.int 2 199), DictEntry.mk (PyData.keyHash P "__static_attributes__") (Value.str
    "__static_attributes__" 201) (Value.ref 22), DictEntry.mk (PyData.keyHash P "__weakref__") (Value.str "__weakref__" 203) (Value.ref 25), DictEntry.mk (PyData.keyHash P
    "__doc__") (Value.str "__doc__" 204) Value.none] 3) #[]
def oV24 (P : Params) : Obj :=
  Obj.mk (Value.type "type") none (Data.cls (ClassData.mk "GlassError" [Value.type "ValueError"] [Value.ref 24, Value.type "ValueError", Value.type "Exception", Value.type
    "BaseException", Value.type "object"] 23 "GlassError" true [] [Value.ref 44] false none false)) #[some (Value.ref 15), none, some (Value.str "GlassError" 189), some (Value.str
    "GlassError" 197), some (Value.builtin "ValueError.__new__"), some (Value.bool true)]
def oV25 (P : Params) : Obj :=
  Obj.mk (Value.type "getset_descriptor") none (Data.fields #[Value.str "__weakref__" 202, Value.ref 24, Value.builtin "ExceptionGroup.__weakref__", Value.none]) #[]
def oV28 (P : Params) : Obj :=
  Obj.mk (Value.type "tuple") none (Data.seq #[Value.ref 24]) #[]
def oV35 (P : Params) : Obj :=
  Obj.mk (Value.type "tuple") none (Data.seq #[]) #[]
def oV37 (P : Params) : Obj :=
  Obj.mk (Value.type "tuple") none (Data.seq #[Value.str "self" 222, Value.str "place" 223]) #[]
def oV38 (P : Params) : Obj :=
  Obj.mk (Value.type "tuple") none (Data.seq #[]) #[]
def oV40 (P : Params) : Obj :=
  Obj.mk (Value.type "code") none (Data.fields #[Value.str "__init__" 219, Value.str "BadText.__init__" 220, Value.str "/claim/cut.py" 221, Value.int 6 0, Value.int 2 0, Value.int
    0 0, Value.int 0 0, Value.int 3 0, Value.ref 35, Value.bool true, Value.int 181 0, Value.ref 36, Value.none, Value.ref 37, Value.ref 38, Value.ref 39, Value.int 224 0,
    Value.int 6 0, Value.str "/claim/cut.py" 225]) #[]
def oV41 (P : Params) : Obj :=
  Obj.mk (Value.type "function") none (Data.func (FuncData.mk "__init__" "BadText.__init__" (defArgs s_BadText_init) (FuncBody.stmts (defBody s_BadText_init)) (defScope
    s_BadText_init) 3 [] Value.none Value.none Value.none (Value.str "ownglass.errors" 187) none (Value.ref 40) Value.none 0)) #[]
def oV42 (P : Params) : Obj :=
  Obj.mk (Value.type "tuple") none (Data.seq #[Value.str "place" 227]) #[]
def oV43 (P : Params) : Obj :=
  Obj.mk (Value.type "dict") none (Data.dict #[DictEntry.mk (PyData.keyHash P "__module__") (Value.str "__module__" 214) (Value.str "ownglass.errors" 187), DictEntry.mk
    (PyData.keyHash P "__firstlineno__") (Value.str "__firstlineno__" 218) (Value.int 4 217), DictEntry.mk (PyData.keyHash P "__init__") (Value.str "__init__" 226) (Value.ref 41),
    DictEntry.mk (PyData.keyHash P "__static_attributes__") (Value.str "__static_attributes__" 228) (Value.ref 42), DictEntry.mk (PyData.keyHash P "__doc__") (Value.str "__doc__"
    229) Value.none] 2) #[]
def oV44 (P : Params) : Obj :=
  Obj.mk (Value.type "type") none (Data.cls (ClassData.mk "BadText" [Value.ref 24] [Value.ref 44, Value.ref 24, Value.type "ValueError", Value.type "Exception", Value.type
    "BaseException", Value.type "object"] 43 "BadText" true [] [] false none false)) #[some (Value.ref 28), none, some (Value.str "BadText" 207), some (Value.str "BadText" 215),
    some (Value.builtin "ValueError.__new__"), some (Value.bool true)]
def oV47 (P : Params) : Obj :=
  Obj.mk (Value.type "tuple") none (Data.seq #[]) #[]
def oV49 (P : Params) : Obj :=
  Obj.mk (Value.type "tuple") none (Data.seq #[Value.str "text" 245, Value.str "unfinished" 246, Value.str "at" 247, Value.str "items" 248, Value.str "word" 249]) #[]
def oV50 (P : Params) : Obj :=
  Obj.mk (Value.type "tuple") none (Data.seq #[]) #[]
def oV52 (P : Params) : Obj :=
  Obj.mk (Value.type "code") none (Data.fields #[Value.str "read_value" 242, Value.str "read_value" 243, Value.str "/claim/cut.py" 244, Value.int 14 0, Value.int 1 0, Value.int 0
    0, Value.int 0 0, Value.int 3 0, Value.ref 47, Value.bool true, Value.int 181 0, Value.ref 48, Value.none, Value.ref 49, Value.ref 50, Value.ref 51, Value.int 250 0, Value.int
    14 0, Value.str "/claim/cut.py" 251]) #[]
def oV53 (P : Params) : Obj :=
  Obj.mk (Value.type "function") none (Data.func (FuncData.mk "read_value" "read_value" (defArgs s_read_value) (FuncBody.stmts (defBody s_read_value)) (defScope s_read_value) 3 []
    Value.none Value.none Value.none (Value.str "ownglass.texts" 232) none (Value.ref 52) Value.none 0)) #[]
def oV54 (P : Params) : Obj :=
  Obj.mk (Value.type "tuple") none (Data.seq #[]) #[]
def oV56 (P : Params) : Obj :=
  Obj.mk (Value.type "tuple") none (Data.seq #[Value.str "text" 256, Value.str "start" 257, Value.str "at" 258]) #[]
def oV57 (P : Params) : Obj :=
  Obj.mk (Value.type "tuple") none (Data.seq #[]) #[]
def oV59 (P : Params) : Obj :=
  Obj.mk (Value.type "code") none (Data.fields #[Value.str "_behind_blanks" 253, Value.str "_behind_blanks" 254, Value.str "/claim/cut.py" 255, Value.int 35 0, Value.int 2 0,
    Value.int 0 0, Value.int 0 0, Value.int 3 0, Value.ref 54, Value.bool true, Value.int 181 0, Value.ref 55, Value.none, Value.ref 56, Value.ref 57, Value.ref 58, Value.int 259
    0, Value.int 35 0, Value.str "/claim/cut.py" 260]) #[]
def oV60 (P : Params) : Obj :=
  Obj.mk (Value.type "function") none (Data.func (FuncData.mk "_behind_blanks" "_behind_blanks" (defArgs s_behind_blanks) (FuncBody.stmts (defBody s_behind_blanks)) (defScope
    s_behind_blanks) 3 [] Value.none Value.none Value.none (Value.str "ownglass.texts" 232) none (Value.ref 59) Value.none 0)) #[]
def oV61 (P : Params) : Obj :=
  Obj.mk (Value.type "tuple") none (Data.seq #[]) #[]
def oV63 (P : Params) : Obj :=
  Obj.mk (Value.type "tuple") none (Data.seq #[Value.str "text" 265, Value.str "start" 266, Value.str "end" 267]) #[]
def oV64 (P : Params) : Obj :=
  Obj.mk (Value.type "tuple") none (Data.seq #[]) #[]
def oV66 (P : Params) : Obj :=
  Obj.mk (Value.type "code") none (Data.fields #[Value.str "_word_at" 262, Value.str "_word_at" 263, Value.str "/claim/cut.py" 264, Value.int 40 0, Value.int 2 0, Value.int 0 0,
    Value.int 0 0, Value.int 3 0, Value.ref 61, Value.bool true, Value.int 181 0, Value.ref 62, Value.none, Value.ref 63, Value.ref 64, Value.ref 65, Value.int 268 0, Value.int 40
    0, Value.str "/claim/cut.py" 269]) #[]
def oV67 (P : Params) : Obj :=
  Obj.mk (Value.type "function") none (Data.func (FuncData.mk "_word_at" "_word_at" (defArgs s_word_at) (FuncBody.stmts (defBody s_word_at)) (defScope s_word_at) 3 [] Value.none
    Value.none Value.none (Value.str "ownglass.texts" 232) none (Value.ref 66) Value.none 0)) #[]
def oV68 (P : Params) : Obj :=
  Obj.mk (Value.type "tuple") none (Data.seq #[]) #[]
def oV70 (P : Params) : Obj :=
  Obj.mk (Value.type "tuple") none (Data.seq #[]) #[]
def oV71 (P : Params) : Obj :=
  Obj.mk (Value.type "tuple") none (Data.seq #[]) #[]
def oV73 (P : Params) : Obj :=
  Obj.mk (Value.type "code") none (Data.fields #[Value.str "translator" 277, Value.str "translator" 278, Value.str "/claim/cut.py" 279, Value.int 52 0, Value.int 0 0, Value.int 0
    0, Value.int 0 0, Value.int 3 0, Value.ref 68, Value.bool true, Value.int 181 0, Value.ref 69, Value.none, Value.ref 70, Value.ref 71, Value.ref 72, Value.int 280 0, Value.int
    52 0, Value.str "/claim/cut.py" 281]) #[]
def oV74 (P : Params) : Obj :=
  Obj.mk (Value.type "function") none (Data.func (FuncData.mk "translator" "translator" (defArgs s_translator) (FuncBody.stmts (defBody s_translator)) (defScope s_translator) 3 []
    Value.none Value.none Value.none (Value.str "ownglass.translator" 271) none (Value.ref 73) Value.none 0)) #[]
def oV75 (P : Params) : Obj :=
  Obj.mk (Value.type "tuple") none (Data.seq #[]) #[]
def oV77 (P : Params) : Obj :=
  Obj.mk (Value.type "tuple") none (Data.seq #[]) #[]
def oV78 (P : Params) : Obj :=
  Obj.mk (Value.type "tuple") none (Data.seq #[]) #[]
def oV80 (P : Params) : Obj :=
  Obj.mk (Value.type "code") none (Data.fields #[Value.str "machine_universal" 283, Value.str "machine_universal" 284, Value.str "/claim/cut.py" 285, Value.int 54 0, Value.int 0 0,
    Value.int 0 0, Value.int 0 0, Value.int 3 0, Value.ref 75, Value.bool true, Value.int 181 0, Value.ref 76, Value.none, Value.ref 77, Value.ref 78, Value.ref 79, Value.int 286
    0, Value.int 54 0, Value.str "/claim/cut.py" 287]) #[]
def oV81 (P : Params) : Obj :=
  Obj.mk (Value.type "function") none (Data.func (FuncData.mk "machine_universal" "machine_universal" (defArgs s_machine_universal) (FuncBody.stmts (defBody s_machine_universal))
    (defScope s_machine_universal) 3 [] Value.none Value.none Value.none (Value.str "ownglass.translator" 271) none (Value.ref 80) Value.none 0)) #[]
def oV82 (P : Params) : Obj :=
  Obj.mk (Value.type "tuple") none (Data.seq #[]) #[]
def oV84 (P : Params) : Obj :=
  Obj.mk (Value.type "tuple") none (Data.seq #[]) #[]
def oV85 (P : Params) : Obj :=
  Obj.mk (Value.type "tuple") none (Data.seq #[]) #[]
def oV87 (P : Params) : Obj :=
  Obj.mk (Value.type "code") none (Data.fields #[Value.str "universal" 293, Value.str "universal" 294, Value.str "/claim/cut.py" 295, Value.int 58 0, Value.int 0 0, Value.int 0 0,
    Value.int 0 0, Value.int 3 0, Value.ref 82, Value.bool true, Value.int 181 0, Value.ref 83, Value.none, Value.ref 84, Value.ref 85, Value.ref 86, Value.int 296 0, Value.int 58
    0, Value.str "/claim/cut.py" 297]) #[]
def oV88 (P : Params) : Obj :=
  Obj.mk (Value.type "function") none (Data.func (FuncData.mk "universal" "universal" (defArgs s_universal) (FuncBody.stmts (defBody s_universal)) (defScope s_universal) 3 []
    Value.none Value.none Value.none (Value.str "ownglass.universal" 289) none (Value.ref 87) Value.none 0)) #[]
def oV89 (P : Params) : Obj :=
  Obj.mk (Value.type "tuple") none (Data.seq #[]) #[]
def oV91 (P : Params) : Obj :=
  Obj.mk (Value.type "tuple") none (Data.seq #[]) #[]
def oV92 (P : Params) : Obj :=
  Obj.mk (Value.type "tuple") none (Data.seq #[]) #[]
def oV94 (P : Params) : Obj :=
  Obj.mk (Value.type "code") none (Data.fields #[Value.str "_law_universal_text" 301, Value.str "_law_universal_text" 302, Value.str "/claim/cut.py" 303, Value.int 61 0, Value.int
    0 0, Value.int 0 0, Value.int 0 0, Value.int 3 0, Value.ref 89, Value.bool true, Value.int 181 0, Value.ref 90, Value.none, Value.ref 91, Value.ref 92, Value.ref 93, Value.int
    304 0, Value.int 61 0, Value.str "/claim/cut.py" 305]) #[]
def oV95 (P : Params) : Obj :=
  Obj.mk (Value.type "function") none (Data.func (FuncData.mk "_law_universal_text" "_law_universal_text" (defArgs s_law_universal_text) (FuncBody.stmts (defBody
    s_law_universal_text)) (defScope s_law_universal_text) 3 [] Value.none Value.none Value.none (Value.str "law_ownglass_k60_printed_programs" 299) none (Value.ref 94) Value.none
    0)) #[]
def oV96 (P : Params) : Obj :=
  Obj.mk (Value.type "tuple") none (Data.seq #[]) #[]
def oV98 (P : Params) : Obj :=
  Obj.mk (Value.type "tuple") none (Data.seq #[]) #[]
def oV99 (P : Params) : Obj :=
  Obj.mk (Value.type "tuple") none (Data.seq #[]) #[]
def oV101 (P : Params) : Obj :=
  Obj.mk (Value.type "code") none (Data.fields #[Value.str "_law_translator_text" 307, Value.str "_law_translator_text" 308, Value.str "/claim/cut.py" 309, Value.int 63 0,
    Value.int 0 0, Value.int 0 0, Value.int 0 0, Value.int 3 0, Value.ref 96, Value.bool true, Value.int 181 0, Value.ref 97, Value.none, Value.ref 98, Value.ref 99, Value.ref 100,
    Value.int 310 0, Value.int 63 0, Value.str "/claim/cut.py" 311]) #[]
def oV102 (P : Params) : Obj :=
  Obj.mk (Value.type "function") none (Data.func (FuncData.mk "_law_translator_text" "_law_translator_text" (defArgs s_law_translator_text) (FuncBody.stmts (defBody
    s_law_translator_text)) (defScope s_law_translator_text) 3 [] Value.none Value.none Value.none (Value.str "law_ownglass_k60_printed_programs" 299) none (Value.ref 101)
    Value.none 0)) #[]
def oV103 (P : Params) : Obj :=
  Obj.mk (Value.type "tuple") none (Data.seq #[]) #[]
def oV105 (P : Params) : Obj :=
  Obj.mk (Value.type "tuple") none (Data.seq #[]) #[]
def oV106 (P : Params) : Obj :=
  Obj.mk (Value.type "tuple") none (Data.seq #[]) #[]
def oV108 (P : Params) : Obj :=
  Obj.mk (Value.type "code") none (Data.fields #[Value.str "_law_machine_text" 313, Value.str "_law_machine_text" 314, Value.str "/claim/cut.py" 315, Value.int 65 0, Value.int 0 0,
    Value.int 0 0, Value.int 0 0, Value.int 3 0, Value.ref 103, Value.bool true, Value.int 181 0, Value.ref 104, Value.none, Value.ref 105, Value.ref 106, Value.ref 107, Value.int
    316 0, Value.int 65 0, Value.str "/claim/cut.py" 317]) #[]
def oV109 (P : Params) : Obj :=
  Obj.mk (Value.type "function") none (Data.func (FuncData.mk "_law_machine_text" "_law_machine_text" (defArgs s_law_machine_text) (FuncBody.stmts (defBody s_law_machine_text))
    (defScope s_law_machine_text) 3 [] Value.none Value.none Value.none (Value.str "law_ownglass_k60_printed_programs" 299) none (Value.ref 108) Value.none 0)) #[]
def oV110 (P : Params) : Obj :=
  Obj.mk (Value.type "tuple") none (Data.seq #[]) #[]
def oV113 (P : Params) : Obj :=
  Obj.mk (Value.type "code") none (Data.fields #[Value.str "_law_draws" 319, Value.str "_law_draws" 320, Value.str "/claim/cut.py" 321, Value.int 67 0, Value.int 2 0, Value.int 0
    0, Value.int 0 0, Value.int 3 0, Value.ref 110, Value.bool true, Value.int 181 0, Value.ref 111, Value.none, Value.none, Value.none, Value.ref 112, Value.int 322 0, Value.int
    67 0, Value.str "/claim/cut.py" 323]) #[]
def oV114 (P : Params) : Obj :=
  Obj.mk (Value.type "function") none (Data.func (FuncData.mk "_law_draws" "_law_draws" (defArgs s_law_draws) (FuncBody.stmts (defBody s_law_draws)) (defScope s_law_draws) 3 []
    Value.none Value.none Value.none (Value.str "law_ownglass_k60_printed_programs" 299) none (Value.ref 113) Value.none 0)) #[]
def oV115 (P : Params) : Obj :=
  Obj.mk (Value.type "tuple") none (Data.seq #[]) #[]
def oV117 (P : Params) : Obj :=
  Obj.mk (Value.type "tuple") none (Data.seq #[Value.str "hand" 328, Value.str "many" 329, Value.str "at" 330, Value.str "draws" 331]) #[]
def oV118 (P : Params) : Obj :=
  Obj.mk (Value.type "tuple") none (Data.seq #[]) #[]
def oV120 (P : Params) : Obj :=
  Obj.mk (Value.type "code") none (Data.fields #[Value.str "_law_take" 325, Value.str "_law_take" 326, Value.str "/claim/cut.py" 327, Value.int 83 0, Value.int 2 0, Value.int 0 0,
    Value.int 0 0, Value.int 3 0, Value.ref 115, Value.bool true, Value.int 181 0, Value.ref 116, Value.none, Value.ref 117, Value.ref 118, Value.ref 119, Value.int 332 0,
    Value.int 83 0, Value.str "/claim/cut.py" 333]) #[]
def oV121 (P : Params) : Obj :=
  Obj.mk (Value.type "function") none (Data.func (FuncData.mk "_law_take" "_law_take" (defArgs s_law_take) (FuncBody.stmts (defBody s_law_take)) (defScope s_law_take) 3 []
    Value.none Value.none Value.none (Value.str "law_ownglass_k60_printed_programs" 299) none (Value.ref 120) Value.none 0)) #[]
def oV122 (P : Params) : Obj :=
  Obj.mk (Value.type "tuple") none (Data.seq #[]) #[]
def oV124 (P : Params) : Obj :=
  Obj.mk (Value.type "tuple") none (Data.seq #[Value.str "text" 338, Value.str "spaced" 339, Value.str "open_lists" 340, Value.str "word" 341, Value.str "done" 342]) #[]
def oV125 (P : Params) : Obj :=
  Obj.mk (Value.type "tuple") none (Data.seq #[]) #[]
def oV127 (P : Params) : Obj :=
  Obj.mk (Value.type "code") none (Data.fields #[Value.str "_law_read" 335, Value.str "_law_read" 336, Value.str "/claim/cut.py" 337, Value.int 90 0, Value.int 1 0, Value.int 0 0,
    Value.int 0 0, Value.int 3 0, Value.ref 122, Value.bool true, Value.int 181 0, Value.ref 123, Value.none, Value.ref 124, Value.ref 125, Value.ref 126, Value.int 343 0,
    Value.int 90 0, Value.str "/claim/cut.py" 344]) #[]
def oV128 (P : Params) : Obj :=
  Obj.mk (Value.type "function") none (Data.func (FuncData.mk "_law_read" "_law_read" (defArgs s_law_read) (FuncBody.stmts (defBody s_law_read)) (defScope s_law_read) 3 []
    Value.none Value.none Value.none (Value.str "law_ownglass_k60_printed_programs" 299) none (Value.ref 127) Value.none 0)) #[]
def oV129 (P : Params) : Obj :=
  Obj.mk (Value.type "tuple") none (Data.seq #[]) #[]
def oV131 (P : Params) : Obj :=
  Obj.mk (Value.type "tuple") none (Data.seq #[Value.str "script" 349, Value.str "hand" 350, Value.str "kind" 351, Value.str "due" 352, Value.str "made" 353, Value.str "one" 354,
    Value.str "other" 355, Value.str "turn" 356, Value.str "at" 357]) #[]
def oV132 (P : Params) : Obj :=
  Obj.mk (Value.type "tuple") none (Data.seq #[]) #[]
def oV134 (P : Params) : Obj :=
  Obj.mk (Value.type "code") none (Data.fields #[Value.str "law" 346, Value.str "law" 347, Value.str "/claim/cut.py" 348, Value.int 102 0, Value.int 1 0, Value.int 0 0, Value.int 0
    0, Value.int 3 0, Value.ref 129, Value.bool true, Value.int 181 0, Value.ref 130, Value.none, Value.ref 131, Value.ref 132, Value.ref 133, Value.int 358 0, Value.int 102 0,
    Value.str "/claim/cut.py" 359]) #[]
def oV135 (P : Params) : Obj :=
  Obj.mk (Value.type "function") none (Data.func (FuncData.mk "law" "law" (defArgs s_law) (FuncBody.stmts (defBody s_law)) (defScope s_law) 3 [] Value.none Value.none Value.none
    (Value.str "law_ownglass_k60_printed_programs" 299) none (Value.ref 134) Value.none 0)) #[]
def asV : List Addr := [2, 3, 6, 15, 22, 23, 24, 25, 28, 35, 37, 38, 40, 41, 42, 43, 44, 47, 49, 50, 52, 53, 54, 56, 57, 59, 60, 61, 63, 64, 66, 67, 68, 70, 71, 73, 74, 75, 77, 78, 80, 81, 82, 84, 85, 87, 88, 89, 91, 92, 94, 95, 96, 98, 99, 101, 102, 103, 105, 106, 108, 109, 110, 113, 114, 115, 117, 118, 120, 121, 122, 124, 125, 127, 128, 129, 131, 132, 134, 135]
def vV (P : Params) : List Obj := [oV2 P, oV3 P, oV6 P, oV15 P, oV22 P, oV23 P, oV24 P, oV25 P, oV28 P, oV35 P, oV37 P, oV38 P, oV40 P, oV41 P, oV42 P, oV43 P, oV44 P, oV47 P, oV49 P, oV50 P, oV52 P, oV53 P, oV54 P, oV56 P, oV57 P, oV59 P, oV60 P, oV61 P, oV63 P, oV64 P, oV66 P, oV67 P, oV68 P, oV70 P, oV71 P, oV73 P, oV74 P, oV75 P, oV77 P, oV78 P, oV80 P, oV81 P, oV82 P, oV84 P, oV85 P, oV87 P, oV88 P, oV89 P, oV91 P, oV92 P, oV94 P, oV95 P, oV96 P, oV98 P, oV99 P, oV101 P, oV102 P, oV103 P, oV105 P, oV106 P, oV108 P, oV109 P, oV110 P, oV113 P, oV114 P, oV115 P, oV117 P, oV118 P, oV120 P, oV121 P, oV122 P, oV124 P, oV125 P, oV127 P, oV128 P, oV129 P, oV131 P, oV132 P, oV134 P, oV135 P]
def kV : Params → PySem.W.Frag := fun P => [(nat_lit 2, oV2 P), (nat_lit 3, oV3 P), (nat_lit 6, oV6 P), (nat_lit 15, oV15 P), (nat_lit 22, oV22 P), (nat_lit 23, oV23 P), (nat_lit 24, oV24 P), (nat_lit 25, oV25 P), (nat_lit 28, oV28 P), (nat_lit 35, oV35 P), (nat_lit 37, oV37 P), (nat_lit 38, oV38 P), (nat_lit 40, oV40 P), (nat_lit 41, oV41 P), (nat_lit 42, oV42 P), (nat_lit 43, oV43 P), (nat_lit 44, oV44 P), (nat_lit 47, oV47 P), (nat_lit 49, oV49 P), (nat_lit 50, oV50 P), (nat_lit 52, oV52 P), (nat_lit 53, oV53 P), (nat_lit 54, oV54 P), (nat_lit 56, oV56 P), (nat_lit 57, oV57 P), (nat_lit 59, oV59 P), (nat_lit 60, oV60 P), (nat_lit 61, oV61 P), (nat_lit 63, oV63 P), (nat_lit 64, oV64 P), (nat_lit 66, oV66 P), (nat_lit 67, oV67 P), (nat_lit 68, oV68 P), (nat_lit 70, oV70 P), (nat_lit 71, oV71 P), (nat_lit 73, oV73 P), (nat_lit 74, oV74 P), (nat_lit 75, oV75 P), (nat_lit 77, oV77 P), (nat_lit 78, oV78 P), (nat_lit 80, oV80 P), (nat_lit 81, oV81 P), (nat_lit 82, oV82 P), (nat_lit 84, oV84 P), (nat_lit 85, oV85 P), (nat_lit 87, oV87 P), (nat_lit 88, oV88 P), (nat_lit 89, oV89 P), (nat_lit 91, oV91 P), (nat_lit 92, oV92 P), (nat_lit 94, oV94 P), (nat_lit 95, oV95 P), (nat_lit 96, oV96 P), (nat_lit 98, oV98 P), (nat_lit 99, oV99 P), (nat_lit 101, oV101 P), (nat_lit 102, oV102 P), (nat_lit 103, oV103 P), (nat_lit 105, oV105 P), (nat_lit 106, oV106 P), (nat_lit 108, oV108 P), (nat_lit 109, oV109 P), (nat_lit 110, oV110 P), (nat_lit 113, oV113 P), (nat_lit 114, oV114 P), (nat_lit 115, oV115 P), (nat_lit 117, oV117 P), (nat_lit 118, oV118 P), (nat_lit 120, oV120 P), (nat_lit 121, oV121 P), (nat_lit 122, oV122 P), (nat_lit 124, oV124 P), (nat_lit 125, oV125 P), (nat_lit 127, oV127 P), (nat_lit 128, oV128 P), (nat_lit 129, oV129 P), (nat_lit 131, oV131 P), (nat_lit 132, oV132 P), (nat_lit 134, oV134 P), (nat_lit 135, oV135 P)]
/-- a hook that looks at these objects -/
def vHook (as : List Addr) (V : Params → List Obj) : PySem.W.Hook :=
  ⟨List (Option Obj), fun s => as.map s.heap.get?, fun w => (V w.params).map some, fun w h => as.map h.get? = (V w.params).map some, fun _ _ x => x, fun _ _ _ x k => by
    rw [← x]
    refine List.map_congr_left fun a m => ?_
    have q : Heap.get? _ a ∈ List.map some (V _) := x ▸ List.mem_map_of_mem m
    obtain ⟨o, _, eo⟩ := List.mem_map.mp q
    rw [← eo]
    exact k a o eo.symm⟩
theorem kV_in {w : World} {h : Heap} (Y : (vHook asV vV).says w h) : (kV w.params).In h :=
  PySem.W.InK.of (K := kV) (as := asV) (fun _ => rfl) w { heap := h } (Y.trans rfl)
end Og

namespace Og
open PySem PySem.Spec PyProof.Rows L2
theorem all_mk {l : PySem.W.OpenLaw} {w : World} {K : PySem.W.Frag} {h : Heap} {mg : Str → Option Value} {fa f0 f1 f2 f3 f4 f5 f6 f7 f8 f9 f10 f11 f12 : Addr} (X : K.In h) (G : h.Ns mainGlobals mg) (hfa : mg "law" = some (.ref fa))
    {od0 an0 od1 an1 od2 an2 od3 an3 od4 an4 od5 an5 od6 an6 od7 an7 od8 an8 od9 an9 od10 an10 od11 an11 od12 an12 : Option Addr} {sl0 sl1 sl2 sl3 sl4 sl5 sl6 sl7 sl8 sl9 sl10 sl11 sl12 : Array (Option Value)} {oc0 kV0 dc0 pm0 cd0 ct0 oc1 kV1 dc1 pm1 cd1 ct1 oc2 kV2 dc2 pm2 cd2 ct2 oc3 kV3 dc3 pm3 cd3 ct3 oc4 kV4 dc4 pm4 cd4 ct4 oc5 kV5 dc5 pm5 cd5 ct5 oc6 kV6 dc6 pm6 cd6 ct6 oc7 kV7 dc7 pm7 cd7 ct7 oc8 kV8 dc8 pm8 cd8 ct8 oc9 kV9 dc9 pm9 cd9 ct9 oc10 kV10 dc10 pm10 cd10 ct10 oc11 kV11 dc11 pm11 cd11 ct11 oc12 kV12 dc12 pm12 cd12 ct12 : Value} {t0 t1 t2 t3 t4 t5 t6 : Tok}
    (a0 : PySem.W.nsIn K mainGlobals "read_value" = some (some (.ref f0))) (l0 : K.lookup f0 = some ⟨oc0, od0, .func (PySem.W.fnOf "read_value" "read_value" (defArgs s_read_value) (defBody s_read_value) (defScope s_read_value) .none kV0 dc0 pm0 an0 cd0 ct0), sl0⟩) (c0 : PySem.W.codeIn K cd0 "read_value" = true) (k0 : PySem.W.keepIn K (.ref f0) = true)
    (a1 : PySem.W.nsIn K mainGlobals "_behind_blanks" = some (some (.ref f1))) (l1 : K.lookup f1 = some ⟨oc1, od1, .func (PySem.W.fnOf "_behind_blanks" "_behind_blanks" (defArgs s_behind_blanks) (defBody s_behind_blanks) (defScope s_behind_blanks) .none kV1 dc1 pm1 an1 cd1 ct1), sl1⟩) (c1 : PySem.W.codeIn K cd1 "_behind_blanks" = true) (k1 : PySem.W.keepIn K (.ref f1) = true)
    (a2 : PySem.W.nsIn K mainGlobals "_word_at" = some (some (.ref f2))) (l2 : K.lookup f2 = some ⟨oc2, od2, .func (PySem.W.fnOf "_word_at" "_word_at" (defArgs s_word_at) (defBody s_word_at) (defScope s_word_at) .none kV2 dc2 pm2 an2 cd2 ct2), sl2⟩) (c2 : PySem.W.codeIn K cd2 "_word_at" = true) (k2 : PySem.W.keepIn K (.ref f2) = true)
    (a3 : PySem.W.nsIn K mainGlobals "translator" = some (some (.ref f3))) (l3 : K.lookup f3 = some ⟨oc3, od3, .func (PySem.W.fnOf "translator" "translator" (defArgs s_translator) (defBody s_translator) (defScope s_translator) .none kV3 dc3 pm3 an3 cd3 ct3), sl3⟩) (c3 : PySem.W.codeIn K cd3 "translator" = true) (k3 : PySem.W.keepIn K (.ref f3) = true)
    (a4 : PySem.W.nsIn K mainGlobals "machine_universal" = some (some (.ref f4))) (l4 : K.lookup f4 = some ⟨oc4, od4, .func (PySem.W.fnOf "machine_universal" "machine_universal" (defArgs s_machine_universal) (defBody s_machine_universal) (defScope s_machine_universal) .none kV4 dc4 pm4 an4 cd4 ct4), sl4⟩) (c4 : PySem.W.codeIn K cd4 "machine_universal" = true) (k4 : PySem.W.keepIn K (.ref f4) = true)
    (a5 : PySem.W.nsIn K mainGlobals "universal" = some (some (.ref f5))) (l5 : K.lookup f5 = some ⟨oc5, od5, .func (PySem.W.fnOf "universal" "universal" (defArgs s_universal) (defBody s_universal) (defScope s_universal) .none kV5 dc5 pm5 an5 cd5 ct5), sl5⟩) (c5 : PySem.W.codeIn K cd5 "universal" = true) (k5 : PySem.W.keepIn K (.ref f5) = true)
    (a6 : PySem.W.nsIn K mainGlobals "_law_universal_text" = some (some (.ref f6))) (l6 : K.lookup f6 = some ⟨oc6, od6, .func (PySem.W.fnOf "_law_universal_text" "_law_universal_text" (defArgs s_law_universal_text) (defBody s_law_universal_text) (defScope s_law_universal_text) .none kV6 dc6 pm6 an6 cd6 ct6), sl6⟩) (c6 : PySem.W.codeIn K cd6 "_law_universal_text" = true) (k6 : PySem.W.keepIn K (.ref f6) = true)
    (a7 : PySem.W.nsIn K mainGlobals "_law_translator_text" = some (some (.ref f7))) (l7 : K.lookup f7 = some ⟨oc7, od7, .func (PySem.W.fnOf "_law_translator_text" "_law_translator_text" (defArgs s_law_translator_text) (defBody s_law_translator_text) (defScope s_law_translator_text) .none kV7 dc7 pm7 an7 cd7 ct7), sl7⟩) (c7 : PySem.W.codeIn K cd7 "_law_translator_text" = true) (k7 : PySem.W.keepIn K (.ref f7) = true)
    (a8 : PySem.W.nsIn K mainGlobals "_law_machine_text" = some (some (.ref f8))) (l8 : K.lookup f8 = some ⟨oc8, od8, .func (PySem.W.fnOf "_law_machine_text" "_law_machine_text" (defArgs s_law_machine_text) (defBody s_law_machine_text) (defScope s_law_machine_text) .none kV8 dc8 pm8 an8 cd8 ct8), sl8⟩) (c8 : PySem.W.codeIn K cd8 "_law_machine_text" = true) (k8 : PySem.W.keepIn K (.ref f8) = true)
    (a9 : PySem.W.nsIn K mainGlobals "_law_draws" = some (some (.ref f9))) (l9 : K.lookup f9 = some ⟨oc9, od9, .func (PySem.W.fnOf "_law_draws" "_law_draws" (defArgs s_law_draws) (defBody s_law_draws) (defScope s_law_draws) .none kV9 dc9 pm9 an9 cd9 ct9), sl9⟩) (c9 : PySem.W.codeIn K cd9 "_law_draws" = true) (k9 : PySem.W.keepIn K (.ref f9) = true)
    (a10 : PySem.W.nsIn K mainGlobals "_law_take" = some (some (.ref f10))) (l10 : K.lookup f10 = some ⟨oc10, od10, .func (PySem.W.fnOf "_law_take" "_law_take" (defArgs s_law_take) (defBody s_law_take) (defScope s_law_take) .none kV10 dc10 pm10 an10 cd10 ct10), sl10⟩) (c10 : PySem.W.codeIn K cd10 "_law_take" = true) (k10 : PySem.W.keepIn K (.ref f10) = true)
    (a11 : PySem.W.nsIn K mainGlobals "_law_read" = some (some (.ref f11))) (l11 : K.lookup f11 = some ⟨oc11, od11, .func (PySem.W.fnOf "_law_read" "_law_read" (defArgs s_law_read) (defBody s_law_read) (defScope s_law_read) .none kV11 dc11 pm11 an11 cd11 ct11), sl11⟩) (c11 : PySem.W.codeIn K cd11 "_law_read" = true) (k11 : PySem.W.keepIn K (.ref f11) = true)
    (a12 : PySem.W.nsIn K mainGlobals "law" = some (some (.ref f12))) (l12 : K.lookup f12 = some ⟨oc12, od12, .func (PySem.W.fnOf "law" "law" (defArgs s_law) (defBody s_law) (defScope s_law) .none kV12 dc12 pm12 an12 cd12 ct12), sl12⟩) (c12 : PySem.W.codeIn K cd12 "law" = true) (k12 : PySem.W.keepIn K (.ref f12) = true)
    (zlen : PySem.W.nsIn K mainGlobals "len" = some none)
    (zrange : PySem.W.nsIn K mainGlobals "range" = some none)
    (zint : PySem.W.nsIn K mainGlobals "int" = some none)
    (zabs : PySem.W.nsIn K mainGlobals "abs" = some none)
    (zstr : PySem.W.nsIn K mainGlobals "str" = some none)
    (ztuple : PySem.W.nsIn K mainGlobals "tuple" = some none)
    (zlist : PySem.W.nsIn K mainGlobals "list" = some none)
    (zbool : PySem.W.nsIn K mainGlobals "bool" = some none)
    (zisinstance : PySem.W.nsIn K mainGlobals "isinstance" = some none)
    (zValueError : PySem.W.nsIn K mainGlobals "ValueError" = some none)
    (gc0 : PySem.W.nsIn K mainGlobals "LETTERS" = some (some (.str "abcdefghijklmnopqrstuvwxyz" t0)))
    (gc1 : PySem.W.nsIn K mainGlobals "RUN_SIGNS" = some (some (.str "abcdefghijklmnopqrstuvwxyz0123456789" t1)))
    (gc2 : PySem.W.nsIn K mainGlobals "BLANKS" = some (some (.str " \n" t2)))
    (gc3 : PySem.W.nsIn K mainGlobals "LONGEST_WORD" = some (some (.int 12 t3)))
    (gc4 : PySem.W.nsIn K mainGlobals "TRANSLATOR" = some (some (.str t_TRANSLATOR t4)))
    (gc5 : PySem.W.nsIn K mainGlobals "MACHINE_UNIVERSAL" = some (some (.str t_MACHINE_UNIVERSAL t5)))
    (gc6 : PySem.W.nsIn K mainGlobals "UNIVERSAL" = some (some (.str t_UNIVERSAL t6)))
    : ∃ fd : FuncData, (∀ (s : Shared) (v : Value), BindsTo s fd ⟨[v], []⟩ [("script", v)]) ∧ ∀ base : Heap, K.In base → base.Ns mainGlobals mg → FnOk l.prog w K mg base CX0 30 fa fd ["script"] (spLaw K) := by
  have e := hfa.symm.trans (PySem.W.mg_of X G a12)
  cases e
  have B : Bn mg := ⟨PySem.W.mg_none_of X G zlen, PySem.W.mg_none_of X G zrange, PySem.W.mg_none_of X G zint, PySem.W.mg_none_of X G zabs, PySem.W.mg_none_of X G zstr, PySem.W.mg_none_of X G ztuple, PySem.W.mg_none_of X G zlist, PySem.W.mg_none_of X G zbool, PySem.W.mg_none_of X G zisinstance, PySem.W.mg_none_of X G zValueError⟩
  have M : Mc mg := ⟨⟨_, PySem.W.mg_of X G gc0⟩, ⟨_, PySem.W.mg_of X G gc1⟩, ⟨_, PySem.W.mg_of X G gc2⟩, ⟨_, PySem.W.mg_of X G gc3⟩, ⟨_, PySem.W.mg_of X G gc4⟩, ⟨_, PySem.W.mg_of X G gc5⟩, ⟨_, PySem.W.mg_of X G gc6⟩⟩
  have F0 := fun_mk (st := s_read_value) l0 c0 k0
  have b0 := F0.binds (ps := p_read_value) fun _ _ _ _ _ _ us hl => match us, hl with | [_], _ => rfl
  have D_read_value : DefAt K mg "read_value" s_read_value p_read_value := ⟨⟨f0, _, F0, PySem.W.mg_of X G a0, b0⟩⟩
  have F1 := fun_mk (st := s_behind_blanks) l1 c1 k1
  have b1 := F1.binds (ps := p_behind_blanks) fun _ _ _ _ _ _ us hl => match us, hl with | [_, _], _ => rfl
  have D_behind_blanks : DefAt K mg "_behind_blanks" s_behind_blanks p_behind_blanks := ⟨⟨f1, _, F1, PySem.W.mg_of X G a1, b1⟩⟩
  have F2 := fun_mk (st := s_word_at) l2 c2 k2
  have b2 := F2.binds (ps := p_word_at) fun _ _ _ _ _ _ us hl => match us, hl with | [_, _], _ => rfl
  have D_word_at : DefAt K mg "_word_at" s_word_at p_word_at := ⟨⟨f2, _, F2, PySem.W.mg_of X G a2, b2⟩⟩
  have F3 := fun_mk (st := s_translator) l3 c3 k3
  have b3 := F3.binds (ps := p_translator) fun _ _ _ _ _ _ us hl => match us, hl with | [], _ => rfl
  have D_translator : DefAt K mg "translator" s_translator p_translator := ⟨⟨f3, _, F3, PySem.W.mg_of X G a3, b3⟩⟩
  have F4 := fun_mk (st := s_machine_universal) l4 c4 k4
  have b4 := F4.binds (ps := p_machine_universal) fun _ _ _ _ _ _ us hl => match us, hl with | [], _ => rfl
  have D_machine_universal : DefAt K mg "machine_universal" s_machine_universal p_machine_universal := ⟨⟨f4, _, F4, PySem.W.mg_of X G a4, b4⟩⟩
  have F5 := fun_mk (st := s_universal) l5 c5 k5
  have b5 := F5.binds (ps := p_universal) fun _ _ _ _ _ _ us hl => match us, hl with | [], _ => rfl
  have D_universal : DefAt K mg "universal" s_universal p_universal := ⟨⟨f5, _, F5, PySem.W.mg_of X G a5, b5⟩⟩
  have F6 := fun_mk (st := s_law_universal_text) l6 c6 k6
  have b6 := F6.binds (ps := p_law_universal_text) fun _ _ _ _ _ _ us hl => match us, hl with | [], _ => rfl
  have D_law_universal_text : DefAt K mg "_law_universal_text" s_law_universal_text p_law_universal_text := ⟨⟨f6, _, F6, PySem.W.mg_of X G a6, b6⟩⟩
  have F7 := fun_mk (st := s_law_translator_text) l7 c7 k7
  have b7 := F7.binds (ps := p_law_translator_text) fun _ _ _ _ _ _ us hl => match us, hl with | [], _ => rfl
  have D_law_translator_text : DefAt K mg "_law_translator_text" s_law_translator_text p_law_translator_text := ⟨⟨f7, _, F7, PySem.W.mg_of X G a7, b7⟩⟩
  have F8 := fun_mk (st := s_law_machine_text) l8 c8 k8
  have b8 := F8.binds (ps := p_law_machine_text) fun _ _ _ _ _ _ us hl => match us, hl with | [], _ => rfl
  have D_law_machine_text : DefAt K mg "_law_machine_text" s_law_machine_text p_law_machine_text := ⟨⟨f8, _, F8, PySem.W.mg_of X G a8, b8⟩⟩
  have F9 := fun_mk (st := s_law_draws) l9 c9 k9
  have b9 := F9.binds (ps := p_law_draws) fun _ _ _ _ _ _ us hl => match us, hl with | [_, _], _ => rfl
  have D_law_draws : DefAt K mg "_law_draws" s_law_draws p_law_draws := ⟨⟨f9, _, F9, PySem.W.mg_of X G a9, b9⟩⟩
  have F10 := fun_mk (st := s_law_take) l10 c10 k10
  have b10 := F10.binds (ps := p_law_take) fun _ _ _ _ _ _ us hl => match us, hl with | [_, _], _ => rfl
  have D_law_take : DefAt K mg "_law_take" s_law_take p_law_take := ⟨⟨f10, _, F10, PySem.W.mg_of X G a10, b10⟩⟩
  have F11 := fun_mk (st := s_law_read) l11 c11 k11
  have b11 := F11.binds (ps := p_law_read) fun _ _ _ _ _ _ us hl => match us, hl with | [_], _ => rfl
  have D_law_read : DefAt K mg "_law_read" s_law_read p_law_read := ⟨⟨f11, _, F11, PySem.W.mg_of X G a11, b11⟩⟩
  have F12 := fun_mk (st := s_law) l12 c12 k12
  have b12 := F12.binds (ps := p_law) fun _ _ _ _ _ _ us hl => match us, hl with | [_], _ => rfl
  refine ⟨PySem.W.fnOf "law" "law" (defArgs s_law) (defBody s_law) (defScope s_law) .none kV12 dc12 pm12 an12 cd12 ct12, fun s v => .of_eq rfl, fun base _ _ => ?_⟩
  exact ok_law F12 B M D_read_value D_behind_blanks D_word_at D_translator D_machine_universal D_universal D_law_universal_text D_law_translator_text D_law_machine_text D_law_draws D_law_take D_law_read
theorem walk {l : PySem.W.OpenLaw} {q : Program} {loose : List Str} {XP : (Str → Option Value) → Heap → Prop} {YP : World → Heap → Prop} {d : DefRec} {K : Params → PySem.W.Frag} (hn : l.most = some 63) (hdf : d.params.defaults = [])
    (hY : ∀ (w : World) (h : Heap), YP w h → (K w.params).In h)
    (F : ∀ (w : World) (mg : Str → Option Value) (fa : Addr) (h : Heap), (K w.params).In h → h.Ns mainGlobals mg → mg d.name = some (.ref fa) →
      ∃ fd : FuncData, (∀ (s : Shared) (u : Value), BindsTo s fd ⟨[u], []⟩ [("script", u)]) ∧ ∀ base : Heap, (K w.params).In base → base.Ns mainGlobals mg → FnOk l.prog w (K w.params) mg base CX0 30 fa fd ["script"] (spLaw (K w.params))) :
    PySem.W.WalkO q loose XP YP l.row.toRowW d [] (fun f vs => PySem.call f vs) :=
  L2.walk_of (n := 63) (k := 30) (x := "script") (CX := fun _ => CX0) (sp := fun w => spLaw (K w.params)) hn (by decide) hdf ⟨rfl, by decide, by decide⟩ hY F (fun _ _ a ns hl _ hS => ⟨a, ns, rfl, hS, hl, fun _ => rfl⟩) fun _ _ _ _ _ z => z
end Og
open PySem PySem.W PyProof.Rows
set_option maxRecDepth 100000 in
set_option maxHeartbeats 0 in
theorem PySem.Challenge.cw_ownglass_k60_printed_programs_holds : PySem.Challenge.rw_ownglass_k60_printed_programs.Holds := by
  w_on
  refine PySem.W.holds_law Og.saidV fun said => ?_
  o_head (Og.vHook Og.asV Og.vV)
  (case hw => w_witness2)
  refine Og.walk (l := PySem.Challenge.rw_ownglass_k60_printed_programs) (K := Og.kV) rfl rfl (fun w h Y => Og.kV_in Y) ?F
  case F =>
    k_fill
    intro w mg fa h KX G hmg
    refine' Og.all_mk KX G hmg ?a0 ?l0 ?c0 ?k0 ?a1 ?l1 ?c1 ?k1 ?a2 ?l2 ?c2 ?k2 ?a3 ?l3 ?c3 ?k3 ?a4 ?l4 ?c4 ?k4 ?a5 ?l5 ?c5 ?k5 ?a6 ?l6 ?c6 ?k6 ?a7 ?l7 ?c7 ?k7 ?a8 ?l8 ?c8 ?k8 ?a9 ?l9 ?c9 ?k9 ?a10 ?l10 ?c10 ?k10 ?a11 ?l11 ?c11 ?k11 ?a12 ?l12 ?c12 ?k12 ?zlen ?zrange ?zint ?zabs ?zstr ?ztuple ?zlist ?zbool ?zisinstance ?zValueError ?gc0 ?gc1 ?gc2 ?gc3 ?gc4 ?gc5 ?gc6
    (case a0 => first | k_is | rfl | decide +kernel)
    (case l0 => first | k_is | rfl | decide +kernel)
    (case c0 => first | k_is | rfl | decide +kernel)
    (case k0 => first | k_is | rfl | decide +kernel)
    (case a1 => first | k_is | rfl | decide +kernel)
    (case l1 => first | k_is | rfl | decide +kernel)
    (case c1 => first | k_is | rfl | decide +kernel)
    (case k1 => first | k_is | rfl | decide +kernel)
    (case a2 => first | k_is | rfl | decide +kernel)
    (case l2 => first | k_is | rfl | decide +kernel)
    (case c2 => first | k_is | rfl | decide +kernel)
    (case k2 => first | k_is | rfl | decide +kernel)
    (case a3 => first | k_is | rfl | decide +kernel)
    (case l3 => first | k_is | rfl | decide +kernel)
    (case c3 => first | k_is | rfl | decide +kernel)
    (case k3 => first | k_is | rfl | decide +kernel)
    (case a4 => first | k_is | rfl | decide +kernel)
    (case l4 => first | k_is | rfl | decide +kernel)
    (case c4 => first | k_is | rfl | decide +kernel)
    (case k4 => first | k_is | rfl | decide +kernel)
    (case a5 => first | k_is | rfl | decide +kernel)
    (case l5 => first | k_is | rfl | decide +kernel)
    (case c5 => first | k_is | rfl | decide +kernel)
    (case k5 => first | k_is | rfl | decide +kernel)
    (case a6 => first | k_is | rfl | decide +kernel)
    (case l6 => first | k_is | rfl | decide +kernel)
    (case c6 => first | k_is | rfl | decide +kernel)
    (case k6 => first | k_is | rfl | decide +kernel)
    (case a7 => first | k_is | rfl | decide +kernel)
    (case l7 => first | k_is | rfl | decide +kernel)
    (case c7 => first | k_is | rfl | decide +kernel)
    (case k7 => first | k_is | rfl | decide +kernel)
    (case a8 => first | k_is | rfl | decide +kernel)
    (case l8 => first | k_is | rfl | decide +kernel)
    (case c8 => first | k_is | rfl | decide +kernel)
    (case k8 => first | k_is | rfl | decide +kernel)
    (case a9 => first | k_is | rfl | decide +kernel)
    (case l9 => first | k_is | rfl | decide +kernel)
    (case c9 => first | k_is | rfl | decide +kernel)
    (case k9 => first | k_is | rfl | decide +kernel)
    (case a10 => first | k_is | rfl | decide +kernel)
    (case l10 => first | k_is | rfl | decide +kernel)
    (case c10 => first | k_is | rfl | decide +kernel)
    (case k10 => first | k_is | rfl | decide +kernel)
    (case a11 => first | k_is | rfl | decide +kernel)
    (case l11 => first | k_is | rfl | decide +kernel)
    (case c11 => first | k_is | rfl | decide +kernel)
    (case k11 => first | k_is | rfl | decide +kernel)
    (case a12 => first | k_is | rfl | decide +kernel)
    (case l12 => first | k_is | rfl | decide +kernel)
    (case c12 => first | k_is | rfl | decide +kernel)
    (case k12 => first | k_is | rfl | decide +kernel)
    (case zlen => first | k_is | rfl | decide +kernel)
    (case zrange => first | k_is | rfl | decide +kernel)
    (case zint => first | k_is | rfl | decide +kernel)
    (case zabs => first | k_is | rfl | decide +kernel)
    (case zstr => first | k_is | rfl | decide +kernel)
    (case ztuple => first | k_is | rfl | decide +kernel)
    (case zlist => first | k_is | rfl | decide +kernel)
    (case zbool => first | k_is | rfl | decide +kernel)
    (case zisinstance => first | k_is | rfl | decide +kernel)
    (case zValueError => first | k_is | rfl | decide +kernel)
    (case gc0 => first | k_is | rfl | decide +kernel)
    (case gc1 => first | k_is | rfl | decide +kernel)
    (case gc2 => first | k_is | rfl | decide +kernel)
    (case gc3 => first | k_is | rfl | decide +kernel)
    (case gc4 => first | k_is | rfl | decide +kernel)
    (case gc5 => first | k_is | rfl | decide +kernel)
    (case gc6 => first | k_is | rfl | decide +kernel)
