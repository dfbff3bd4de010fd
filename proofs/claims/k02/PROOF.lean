import PyProof.Rows.All
import Wide.All
import OpenK.AllK
import Wide.FinOn
import HandS.ForMost
import HandS.IsInst
import HandS.TupAny
import HandS.Style
import HandS.Codes
import HandS.TryOnly
import HandS.ForExc
import HandS.ExcInit
import HandS.ExcIs
import HandS.ExcField
import HandS.FStr
import HandS.WordsExc
import HandS.ExcValue
import PySem.Challenge.RW_ownglass_k02_the_place_where_a_text_is_w
set_option Elab.async false
set_option linter.all false
set_option maxRecDepth 100000
set_option maxHeartbeats 4000000
set_option Elab.async false
set_option linter.all false
set_option maxRecDepth 100000
/-! L0: what the proofs of all laws share: heaps that keep all but some lists, trees (words and lists of trees), the law's hand, callees. -/
namespace Og
open PySem PySem.Spec PyProof.Rows L2

/-! ### heaps: each tracked thing stays, but for lists at the places S -/
def Keep (S : List Addr) (H H' : Hp) : Prop := ∀ b o, H b = some o → H' b = some o ∨ (b ∈ S ∧ ∃ xs ys, o = .lst xs ∧ H' b = some (.lst ys))
theorem Keep.refl {S : List Addr} {H : Hp} : Keep S H H := fun _ _ e => .inl e
theorem Keep.trans {S : List Addr} {H H1 H2 : Hp} (a : Keep S H H1) (b : Keep S H1 H2) : Keep S H H2 := fun p o e => by
  rcases a p o e with h | ⟨h, xs, ys, e1, e2⟩
  · exact b p o h
  · rcases b p _ e2 with h' | ⟨_, xs', ys', e3, e4⟩
    · exact .inr ⟨h, xs, ys, e1, h'⟩
    · exact .inr ⟨h, xs, ys', e1, e4⟩
theorem Keep.mono {S S' : List Addr} {H H1 : Hp} (a : Keep S H H1) (h : ∀ x ∈ S, x ∈ S') : Keep S' H H1 := fun p o e => by
  rcases a p o e with q | ⟨q, r⟩
  · exact .inl q
  · exact .inr ⟨h _ q, r⟩
theorem Keep.new {S : List Addr} {H : Hp} {p : Addr} {o : HO} (h : H p = none) : Keep S H (upd H p o) := fun b u e => .inl (by rw [upd_ne (ne_of_none e h)]; exact e)
theorem Keep.newT {S : List Addr} {H H1 : Hp} {p : Addr} {o : HO} (a : Keep S H H1) (h : H1 p = none) : Keep S H (upd H1 p o) := a.trans (Keep.new h)
theorem Keep.set {S : List Addr} {H : Hp} {p : Addr} {xs ys : List V} (h : H p = some (.lst xs)) (m : p ∈ S) : Keep S H (upd H p (.lst ys)) := fun b u e => by
  by_cases hb : b = p
  · subst hb
    rw [h] at e
    cases e
    exact .inr ⟨m, xs, ys, rfl, upd_same⟩
  · exact .inl (by rw [upd_ne hb]; exact e)
theorem Keep.setT {S : List Addr} {H H1 : Hp} {p : Addr} {xs ys : List V} (a : Keep S H H1) (h : H1 p = some (.lst xs)) (m : p ∈ S) : Keep S H (upd H1 p (.lst ys)) := a.trans (Keep.set h m)
/-- a list that is new may change -/
theorem Keep.drop {S : List Addr} {H H1 : Hp} {p : Addr} (a : Keep (p :: S) H H1) (h : H p = none) : Keep S H H1 := fun b o e => by
  rcases a b o e with q | ⟨q, r⟩
  · exact .inl q
  · rcases List.mem_cons.mp q with q | q
    · subst q
      rw [h] at e
      cases e
    · exact .inr ⟨q, r⟩
theorem Keep.cons {S : List Addr} {H H1 : Hp} {p : Addr} (a : Keep S H H1) : Keep (p :: S) H H1 := a.mono fun _ h => List.mem_cons_of_mem _ h
theorem Keep.get {S : List Addr} {H H1 : Hp} {b : Addr} {o : HO} (a : Keep S H H1) (e : H b = some o) (h : b ∉ S) : H1 b = some o := by
  rcases a b o e with q | ⟨q, _⟩
  · exact q
  · exact absurd q h
theorem Keep.free {S : List Addr} {H H1 : Hp} {b : Addr} (a : Keep S H H1) (e : H1 b = none) : H b = none := by
  cases q : H b with
  | none => rfl
  | some o =>
    rcases a b o q with r | ⟨_, _, _, _, r⟩ <;> rw [r] at e <;> cases e
theorem Keep.rdT {S : List Addr} {H H1 : Hp} {b : Addr} {xs : List V} (a : Keep S H H1) (e : Rd H b (.tup xs)) : Rd H1 b (.tup xs) := by
  rcases e with e | ⟨o, e⟩
  · rcases a b _ e with q | ⟨_, _, _, q, _⟩
    · exact .inl q
    · cases q
  · rcases a b _ e with q | ⟨_, _, _, q, _⟩
    · exact .inr ⟨o, q⟩
    · cases q
theorem Keep.sqT {K : PySem.W.Frag} {S : List Addr} {H H1 : Hp} {b : Addr} {xs : List V} (a : Keep S H H1) (e : SqT K H b xs) : SqT K H1 b xs := by
  rcases e with e | e
  · exact .inl (a.rdT e)
  · exact .inr e
theorem Keep.sqL {K : PySem.W.Frag} {S : List Addr} {H H1 : Hp} {b : Addr} {xs : List V} (a : Keep S H H1) (h : b ∉ S) (e : SqL K H b xs) : SqL K H1 b xs := by
  rcases e with (e | ⟨o, e⟩) | e
  · exact .inl (.inl (a.get e h))
  · exact .inl (.inr ⟨o, a.get e h⟩)
  · exact .inr e
theorem Keep.tup {S : List Addr} {H H1 : Hp} {b : Addr} {xs : List V} (a : Keep S H H1) (e : H b = some (.tup xs)) : H1 b = some (.tup xs) := by
  rcases a b _ e with q | ⟨_, _, _, q, _⟩
  · exact q
  · cases q
theorem Keep.of_same {S : List Addr} {H H1 : Hp} (a : Same H H1) : Keep S H H1 := fun b o e => .inl (a b o e)
theorem Keep.same {H H1 : Hp} (a : Keep [] H H1) : Same H H1 := fun b o e => a.get e (by simp)

/-! ### texts by their codes -/
def tx (cs : List Nat) : Str := ⟨cs.toArray⟩
theorem tx_list (cs : List Nat) : (tx cs).cps.toList = cs := rfl
theorem tx_len (cs : List Nat) : (tx cs).length = cs.length := by
  show cs.toArray.size = cs.length
  simp
theorem tx_app (a b : List Nat) : tx a ++ tx b = tx (a ++ b) := by
  show Str.mk (a.toArray ++ b.toArray) = Str.mk (a ++ b).toArray
  simp
theorem tx_of (s : Str) : s = tx s.cps.toList := by
  cases s
  rfl
theorem tx_inj {a b : List Nat} (h : tx a = tx b) : a = b := by
  have q := congrArg (fun s : Str => s.cps.toList) h
  exact q
theorem tx_str {a b : List Nat} (h : V.str (tx a) = V.str (tx b)) : a = b := tx_inj (V.str.inj h)
theorem atI_tx {cs : List Nat} {z : Int} {c : Nat} (h : atI (tx cs).cps.toList z = some c) : atI cs z = some c := h
/-! ### trees -/
inductive Tree where
  | w (x : List Nat)
  | l (ts : List Tree)
mutual
def Tr (K : PySem.W.Frag) (H : Hp) : V → Tree → Prop
  | v, .w x => v = .str (tx x)
  | v, .l ts => ∃ a vs, v = .ref a ∧ SqT K H a vs ∧ Trs K H vs ts
def Trs (K : PySem.W.Frag) (H : Hp) : List V → List Tree → Prop
  | vs, [] => vs = []
  | vs, t :: ts => ∃ v r, vs = v :: r ∧ Tr K H v t ∧ Trs K H r ts
end
mutual
theorem Tr.keep {K : PySem.W.Frag} {S : List Addr} {H H1 : Hp} (a : Keep S H H1) : ∀ {v : V} {t : Tree}, Tr K H v t → Tr K H1 v t
  | v, .w x, h => by rw [Tr] at h ⊢; exact h
  | v, .l ts, h => by
    rw [Tr] at h ⊢
    obtain ⟨p, vs, e, h1, h2⟩ := h
    exact ⟨p, vs, e, a.sqT h1, Trs.keep a h2⟩
theorem Trs.keep {K : PySem.W.Frag} {S : List Addr} {H H1 : Hp} (a : Keep S H H1) : ∀ {vs : List V} {ts : List Tree}, Trs K H vs ts → Trs K H1 vs ts
  | vs, [], h => by rw [Trs] at h ⊢; exact h
  | vs, t :: ts, h => by
    rw [Trs] at h ⊢
    obtain ⟨v, r, e, h1, h2⟩ := h
    exact ⟨v, r, e, Tr.keep a h1, Trs.keep a h2⟩
end
section
variable {K : PySem.W.Frag} {H : Hp}
theorem tr_w {x : List Nat} : Tr K H (.str (tx x)) (.w x) := by rw [Tr]
theorem tr_l {a : Addr} {vs : List V} {ts : List Tree} (h : SqT K H a vs) (r : Trs K H vs ts) : Tr K H (.ref a) (.l ts) := by rw [Tr]; exact ⟨a, vs, rfl, h, r⟩
theorem trs_nil : Trs K H [] [] := by rw [Trs]
theorem trs_cons {v : V} {vs : List V} {t : Tree} {ts : List Tree} (h : Tr K H v t) (r : Trs K H vs ts) : Trs K H (v :: vs) (t :: ts) := by rw [Trs]; exact ⟨v, vs, rfl, h, r⟩
theorem Tr.word {v : V} {x : List Nat} (h : Tr K H v (.w x)) : v = .str (tx x) := by rw [Tr] at h; exact h
theorem Tr.list {v : V} {ts : List Tree} (h : Tr K H v (.l ts)) : ∃ a vs, v = .ref a ∧ SqT K H a vs ∧ Trs K H vs ts := by rw [Tr] at h; exact h
theorem Trs.nil {vs : List V} (h : Trs K H vs []) : vs = [] := by rw [Trs] at h; exact h
theorem Trs.cons {vs : List V} {t : Tree} {ts : List Tree} (h : Trs K H vs (t :: ts)) : ∃ v r, vs = v :: r ∧ Tr K H v t ∧ Trs K H r ts := by rw [Trs] at h; exact h
theorem Trs.length : ∀ {vs : List V} {ts : List Tree}, Trs K H vs ts → vs.length = ts.length
  | vs, [], h => by rw [h.nil]; rfl
  | vs, t :: ts, h => by
    obtain ⟨v, r, rfl, _, h2⟩ := h.cons
    rw [List.length_cons, List.length_cons, Trs.length h2]
theorem Trs.get : ∀ {vs : List V} {ts : List Tree} {i : Nat} {t : Tree}, Trs K H vs ts → ts[i]? = some t → ∃ v, vs[i]? = some v ∧ Tr K H v t
  | vs, [], i, t, h, e => by simp at e
  | vs, t' :: ts, 0, t, h, e => by
    obtain ⟨v, r, rfl, h1, h2⟩ := h.cons
    have e' : t' = t := Option.some.inj e
    subst e'
    exact ⟨v, rfl, h1⟩
  | vs, t' :: ts, i + 1, t, h, e => by
    obtain ⟨v, r, rfl, h1, h2⟩ := h.cons
    exact Trs.get (i := i) h2 e
theorem Trs.append : ∀ {vs ws : List V} {ts us : List Tree}, Trs K H vs ts → Trs K H ws us → Trs K H (vs ++ ws) (ts ++ us)
  | vs, ws, [], us, h, g => by rw [h.nil]; exact g
  | vs, ws, t :: ts, us, h, g => by
    obtain ⟨v, r, rfl, h1, h2⟩ := h.cons
    exact trs_cons h1 (Trs.append h2 g)
theorem Trs.take : ∀ {vs : List V} {ts : List Tree} (n : Nat), Trs K H vs ts → Trs K H (vs.take n) (ts.take n)
  | vs, ts, 0, h => trs_nil
  | vs, [], n + 1, h => by rw [h.nil]; exact trs_nil
  | vs, t :: ts, n + 1, h => by
    obtain ⟨v, r, rfl, h1, h2⟩ := h.cons
    exact trs_cons h1 (Trs.take n h2)
theorem Trs.drop : ∀ {vs : List V} {ts : List Tree} (n : Nat), Trs K H vs ts → Trs K H (vs.drop n) (ts.drop n)
  | vs, ts, 0, h => h
  | vs, [], n + 1, h => by rw [h.nil]; exact trs_nil
  | vs, t :: ts, n + 1, h => by
    obtain ⟨v, r, rfl, h1, h2⟩ := h.cons
    exact Trs.drop n h2
theorem tr_tup {a : Addr} {vs : List V} {ts : List Tree} (h : H a = some (.tup vs)) (r : Trs K H vs ts) : Tr K H (.ref a) (.l ts) := tr_l (.inl (.inl h)) r
end
theorem Trs.snoc {K : PySem.W.Frag} {H : Hp} {vs : List V} {its : List Tree} {x : Tree} (h : Trs K H vs (its ++ [x])) : ∃ vs' v, vs = vs' ++ [v] ∧ Trs K H vs' its ∧ Tr K H v x := by
  induction its generalizing vs with
  | nil =>
    obtain ⟨v, r, rfl, h1, h2⟩ := h.cons
    rw [h2.nil]
    exact ⟨[], v, rfl, trs_nil, h1⟩
  | cons t ts ih =>
    obtain ⟨v, r, rfl, h1, h2⟩ := h.cons
    obtain ⟨vs', v', rfl, h3, h4⟩ := ih h2
    exact ⟨v :: vs', v', rfl, trs_cons h1 h3, h4⟩
theorem Trs.one {K : PySem.W.Frag} {H : Hp} {v : V} {t : Tree} (h : Tr K H v t) : Trs K H [v] [t] := trs_cons h trs_nil
theorem last_get {α : Type} (xs : List α) (x : α) : (xs ++ [x])[(xs ++ [x]).length - 1]? = some x := by
  rw [List.length_append, List.length_singleton, Nat.add_sub_cancel, List.getElem?_append_right (Nat.le_refl _), Nat.sub_self]
  rfl
theorem snoc_of {α : Type} {xs : List α} (h : xs ≠ []) : ∃ ys y, xs = ys ++ [y] := ⟨xs.dropLast, xs.getLast h, (List.dropLast_concat_getLast h).symm⟩
theorem emp_iff {vs : List V} {its : List Tree} {K : PySem.W.Frag} {H : Hp} (h : Trs K H vs its) : vs.isEmpty = its.isEmpty := by
  cases its with
  | nil => rw [h.nil]; rfl
  | cons t r => obtain ⟨v, r', rfl, _⟩ := h.cons; rfl
theorem SqT.of_tup {K : PySem.W.Frag} {H : Hp} {a : Addr} {vs : List V} (h : H a = some (.tup vs)) : SqT K H a vs := .inl (.inl h)

/-- a comprehension without a test -/
theorem yes {σ : L2.St} {H : Hp} {A B : Hp → Prop} (h : A H) : tYes σ H fun b H3 => if b = true then A H3 else B H3 := by
  show (if true = true then A H else B H)
  rw [if_pos rfl]
  exact h
/-! ### lists of ints -/
theorem map_int_get {ns : List Int} {i : Nat} {x : V} (h : (ns.map V.int)[i]? = some x) : ∃ n, x = .int n ∧ ns[i]? = some n := by
  rw [List.getElem?_map] at h
  cases e : ns[i]? with
  | none => rw [e] at h; cases h
  | some n => rw [e] at h; exact ⟨n, (Option.some.inj h).symm, rfl⟩
theorem atI_of {α : Type} {xs : List α} {z : Int} (h0 : 0 ≤ z) (h : z < (xs.length : Int)) : ∃ x, atI xs z = some x ∧ xs[z.toNat]? = some x := by
  have l : z.toNat < xs.length := by omega
  refine ⟨xs[z.toNat], ?_, List.getElem?_eq_getElem l⟩
  have q := atI_nat (List.getElem?_eq_getElem l)
  rw [show ((z.toNat : Nat) : Int) = z by omega] at q
  exact q
theorem atI_zero {α : Type} (x : α) (xs : List α) : atI (x :: xs) 0 = some x := atI_nat (j := 0) rfl
theorem atI_int {ns : List Int} {z : Int} (h0 : 0 ≤ z) (h : z < (ns.length : Int)) : ∃ n, atI (ns.map V.int) z = some (.int n) := by
  obtain ⟨x, h1, h2⟩ := atI_of (xs := ns.map V.int) h0 (by rw [List.length_map]; exact h)
  obtain ⟨n, rfl, _⟩ := map_int_get h2
  exact ⟨n, h1⟩
theorem ixN_int {n : Nat} {z : Int} (h0 : 0 ≤ z) (h : z < (n : Int)) : ixN n z = some z.toNat := by
  unfold ixN
  rw [if_pos h0, if_pos h]
theorem map_int_set (ns : List Int) (j : Nat) (y : Int) : (ns.map V.int).set j (.int y) = (ns.set j y).map V.int := by
  rw [List.map_set]
theorem map_int_app (ns : List Int) (y : Int) : ns.map V.int ++ [V.int y] = (ns ++ [y]).map V.int := by
  rw [List.map_append]; rfl

/-! ### isinstance, truth -/
def Tree.isW : Tree → Bool
  | .w _ => true
  | .l _ => false
section
variable {K : PySem.W.Frag} {H : Hp}
theorem tyX_tup {a : Addr} {xs : List V} (h : SqT K H a xs) : TyX K H (.ref a) (.type "tuple") := by
  rcases h with (h | ⟨o, h⟩) | ⟨o, its, n, h, c, _⟩
  · exact .base (.tup h)
  · exact .fTuple h
  · exact .kTuple h c
theorem kit_ss : PySem.W.kitOne K (.type "str") (.type "str") = some true := kit_ty (by decide +kernel)
theorem kit_ts : PySem.W.kitOne K (.type "tuple") (.type "str") = some false := kit_ty (by decide +kernel)
theorem kit_st : PySem.W.kitOne K (.type "str") (.type "tuple") = some false := kit_ty (by decide +kernel)
theorem kit_tt : PySem.W.kitOne K (.type "tuple") (.type "tuple") = some true := kit_ty (by decide +kernel)
/-- the witnesses of isinstance(v, str), isinstance(v, tuple) for a tree v -/
theorem isi_str {v : V} {t : Tree} (h : Tr K H v t) : ∃ ty u, ClsV (.ty "str") u ∧ TyX K H v ty ∧ PySem.W.kitOne K ty u = some t.isW := by
  cases t with
  | w x => rw [h.word]; exact ⟨_, _, .ty _, .base (.str _), kit_ss⟩
  | l ts =>
    obtain ⟨a, vs, rfl, h1, _⟩ := h.list
    exact ⟨_, _, .ty _, tyX_tup h1, kit_ts⟩
theorem isi_tup {v : V} {t : Tree} (h : Tr K H v t) : ∃ ty u, ClsV (.ty "tuple") u ∧ TyX K H v ty ∧ PySem.W.kitOne K ty u = some (!t.isW) := by
  cases t with
  | w x => rw [h.word]; exact ⟨_, _, .ty _, .base (.str _), kit_st⟩
  | l ts =>
    obtain ⟨a, vs, rfl, h1, _⟩ := h.list
    exact ⟨_, _, .ty _, tyX_tup h1, kit_tt⟩
theorem isi_strS {x : Str} : ∃ ty u, ClsV (.ty "str") u ∧ TyX K H (.str x) ty ∧ PySem.W.kitOne K ty u = some true := ⟨_, _, .ty _, .base (.str _), kit_ty (by decide +kernel)⟩
theorem isi_boolB {x : Bool} : ∃ ty u, ClsV (.ty "bool") u ∧ TyX K H (.bl x) ty ∧ PySem.W.kitOne K ty u = some true := ⟨_, _, .ty _, .base (.bl _), kit_ty (by decide +kernel)⟩
/-- a test that is a value of True or False -/
theorem tru_list {p : Addr} {xs : List V} (h : H p = some (.lst xs)) : TruV K (.ref p) H (!xs.isEmpty) := .inl ⟨xs, SqL.of h, rfl⟩
end
theorem sIx0 (n : Nat) : HT.sIx n 0 none = 0 := rfl
/-- a text cut: from i to j -/
theorem cutS_nat (cs : List Nat) {i j : Nat} (h : i ≤ j) (hj : j ≤ cs.length) : cutS (tx cs) (some (i : Int)) (some (j : Int)) = tx ((cs.drop i).take (j - i)) := by
  unfold cutS
  rw [HT.sIx_nat, HT.sIx_nat, tx_len, tx_list]
  rw [Nat.min_eq_left hj, Nat.min_eq_left (Nat.le_trans h hj)]
  rfl
theorem cutS_to (cs : List Nat) {j : Nat} (hj : j ≤ cs.length) : cutS (tx cs) none (some (j : Int)) = tx (cs.take j) := by
  unfold cutS
  rw [HT.sIx_nat, tx_len, tx_list, Nat.min_eq_left hj, sIx0, Nat.sub_zero, List.drop_zero]
  rfl
theorem cutS_from (cs : List Nat) {i : Nat} (hj : i ≤ cs.length) : cutS (tx cs) (some (i : Int)) none = tx (cs.drop i) := by
  unfold cutS
  rw [HT.sIx_nat, tx_len, tx_list, Nat.min_eq_left hj, HT.sIx_none]
  show Str.mk (List.take (cs.length - i) (cs.drop i)).toArray = _
  rw [List.take_of_length_le (by rw [List.length_drop]; omega)]
  rfl

/-! ### callees -/
structure Callee (P : Program) (w : World) (K : PySem.W.Frag) (mg : Str → Option Value) (base : Heap) (CX : CXT) (k : Nat) (x : Str) (f : Addr) (fd : FuncData) (ps : List Str) (sp : Sp) : Prop where
  ok : FnOk P w K mg base CX k f fd ps sp
  mg : mg x = some (.ref f)
  kp : PySem.W.keepIn K (.ref f) = true
  bi : Binds K fd ps []
def Has (P : Program) (w : World) (K : PySem.W.Frag) (mg : Str → Option Value) (base : Heap) (k : Nat) (x : Str) (ps : List Str) (sp : Sp) : Prop := ∃ f fd, Callee P w K mg base CX0 k x f fd ps sp
theorem Has.mono {P : Program} {w : World} {K : PySem.W.Frag} {mg : Str → Option Value} {base : Heap} {j k : Nat} {x : Str} {ps : List Str} {sp : Sp} (h : Has P w K mg base j x ps sp) (l : j ≤ k) : Has P w K mg base k x ps sp := by
  obtain ⟨f, fd, c⟩ := h
  exact ⟨f, fd, c.ok.mono l, c.mg, c.kp, c.bi⟩
/-- a def with a promise for each n: one promise for all up to N -/
theorem has_upto {P : Program} {w : World} {K : PySem.W.Frag} {mg : Str → Option Value} {base : Heap} {k : Nat} {x : Str} {f : Addr} {fd : FuncData} {ps : List Str} {sp : Nat → Sp} (h : ∀ n, Callee P w K mg base CX0 (k + n + 1) x f fd ps (sp n)) (N : Nat) :
    Has P w K mg base (k + N + 1) x ps (fun vs H Q E => ∃ n, n ≤ N ∧ sp n vs H Q E) := by
  refine ⟨f, fd, ⟨fun vs H Q E q => ?_, fun A outer s H args us vs Q E hr e b v q => ?_⟩, (h 0).mg, (h 0).kp, (h 0).bi⟩
  · obtain ⟨n, _, q⟩ := q
    exact (h n).ok.len vs H Q E q
  · obtain ⟨n, hn, q⟩ := q
    exact ((h n).ok.mono (show k + n + 1 ≤ k + N + 1 by omega)).run A outer s H args us vs Q E hr e b v q
/-- a def as it stands behind the top -/
structure DefAt (K : PySem.W.Frag) (mg : Str → Option Value) (x : Str) (st : Stmt) (ps : List Str) : Prop where
  ex : ∃ f fd, Fun K x x st f fd ∧ mg x = some (.ref f) ∧ Binds K fd ps []
section
variable {X : Cx} {k : Nat} {x : Str} {f : Addr} {fd : FuncData} {ps : List Str} {sp : Sp} {p pos : Pos} {e : Expr} {es : List Expr} {t : TA}
theorem cal (C : Callee X.prog X.w X.K X.mg X.base CX0 k x f fd ps sp) (hr : Room k X.A) (hg : Gl X x) (ha : PA X (e :: es) t) (hdb : (x == ("__debug__" : Str)) = false := by decide)
    (he : starEach (e :: es) X.env = (false, eval e X.env) :: starEach es X.env := by rfl) (hpl : (backTo pos (starEach es X.env)).any (·.1) = false := by rfl) : PE X (.Call (.Name x p) (e :: es) [] pos) (tCall sp [] E0 t) :=
  pe_call C.ok hr hg C.mg C.kp C.bi .nil pass0 ha hdb he hpl
end
/-- the names of built-ins that no row of the program gives another meaning -/
structure Bn (mg : Str → Option Value) : Prop where
  len : mg "len" = none
  range : mg "range" = none
  int : mg "int" = none
  abs : mg "abs" = none
  str : mg "str" = none
  tuple : mg "tuple" = none
  list : mg "list" = none
  bool : mg "bool" = none
  isinstance : mg "isinstance" = none
  ValueError : mg "ValueError" = none

/-! ### the law's hand: a list of the draws (at d) and a number; all that is asked of it is that it is one -/
def Hd (H : Hp) (h d : Addr) : Prop := ∃ (n : Nat) (ds : List Int), H h = some (.lst [.ref d, .int n]) ∧ H d = some (.lst (ds.map V.int)) ∧ ds.length ≤ 100000
theorem Hd.ne {H : Hp} {h d : Addr} (a : Hd H h d) : d ≠ h := by
  intro q
  obtain ⟨n, ds, e, e2, _⟩ := a
  subst q
  rw [e] at e2
  have q := HO.lst.inj (Option.some.inj e2)
  cases ds with
  | nil => cases q
  | cons x r =>
    have := (List.cons.inj q).1
    cases this
theorem Hd.lst {H : Hp} {h d : Addr} (a : Hd H h d) : ∃ xs, H h = some (.lst xs) := by
  obtain ⟨n, ds, e, _⟩ := a
  exact ⟨_, e⟩
theorem Hd.neH {H : Hp} {h d p : Addr} (a : Hd H h d) (q : H p = none) : h ≠ p := by
  obtain ⟨n, ds, e, _⟩ := a
  exact ne_of_none e q
theorem Hd.neD {H : Hp} {h d p : Addr} (a : Hd H h d) (q : H p = none) : d ≠ p := by
  obtain ⟨n, ds, _, e, _⟩ := a
  exact ne_of_none e q
theorem Hd.keep {S : List Addr} {H H1 : Hp} {h d : Addr} (a : Hd H h d) (k : Keep S H H1) (hh : h ∉ S) (hd : d ∉ S) : Hd H1 h d := by
  obtain ⟨n, ds, e1, e2, l⟩ := a
  exact ⟨n, ds, k.get e1 hh, k.get e2 hd, l⟩
theorem Hd.keep0 {H H1 : Hp} {h d : Addr} (a : Hd H h d) (k : Keep [] H H1) : Hd H1 h d := a.keep k (by simp) (by simp)
theorem Hd.upd {H : Hp} {h d p : Addr} {o : HO} (a : Hd H h d) (q1 : h ≠ p) (q2 : d ≠ p) : Hd (upd H p o) h d := by
  obtain ⟨n, ds, e1, e2, l⟩ := a
  exact ⟨n, ds, by rw [upd_ne q1]; exact e1, by rw [upd_ne q2]; exact e2, l⟩
theorem Hd.new {H : Hp} {h d p : Addr} {o : HO} (a : Hd H h d) (q : H p = none) : Hd (L2.upd H p o) h d := a.upd (a.neH q) (a.neD q)
theorem sizeL {n : Nat} (h : n ≤ 100000) : n ≤ sizeLine := Nat.le_trans h (by decide)
theorem sizeLt {n : Nat} (h : n ≤ 100000) : n < sizeLine := Nat.lt_of_le_of_lt h (by decide)
end Og

namespace Og
open PySem PySem.Spec PyProof.Rows L2
section
variable {X : Cx} {G : Addr} {e : Expr} {es : List Expr} {ta : TA} {x : Str} {p1 p2 pos : Pos}
/-- C.__init__(self, ..) of an own class C over ValueError that has no __init__ itself -/
theorem pe_clsinit {pl : Sem Bool} (hg : Gl X x) (hm : X.mg x = some (.ref G)) (rd : PySem.W.readsIn X.K G (.type "type") = true) (sg : PySem.W.specialIn X.K (.ref G) "__getattribute__" = some (some (.builtin "type.__getattribute__")))
    (vV : PySem.W.findCls X.K (.ref G) (.type "type") "__init__" = some (.val (.builtin "ValueError.__init__"))) (ha : PA X (e :: es) ta) (hdb : (x == ("__debug__" : Str)) = false := by decide)
    (hc : eval (.Call (.Attribute (.Name x p1) "__init__" p2) (e :: es) [] pos) X.env = (do
      let ob ← eval (.Name x p1) X.env
      standAt p2.atName
      let (fn, fst) ← holding [ob] (getMethod ob "__init__" pl)
      callWith pos fn fst (backTo pos (starEach (e :: es) X.env)) (backToKw pos (keywordEach [] X.env))) := by rfl)
    (hpl : (backTo pos (starEach es X.env)).any (·.1) = false := by rfl)
    (he : starEach (e :: es) X.env = (false, eval e X.env) :: starEach es X.env := by rfl) : PE X (.Call (.Attribute (.Name x p1) "__init__" p2) (e :: es) [] pos) (tVeI X.K ta) := by
  constructor
  intro pins s σ H Q I hQ
  refine PySem.W.methodCall_KW (ld_glob I hg hm ?_ hdb) hc
  refine PySem.W.method_cls I.kIn sg (PySem.W.cls_value I.kIn rd vV (by decide +kernel) ?_)
  refine PyProof.Rows.callWith_method1 (id := "ValueError.__init__") (thn (ha.run pos pins _ σ H _ (I.tok _) hQ) fun us s1 q => ?_) he hpl
  obtain ⟨vs, H1, I1, r1, a, C, ws, rfl, hl, T, ea, q⟩ := q
  cases r1 with
  | cons ra rw' =>
    cases ra
    have few := Paired.length rw'
    exact oinit_ok T I1 ea (by rw [← few, sizeLine_eq]; omega) fun s' J => ⟨.non, H1, J, rfl, q⟩
end
/-! ### callees that may raise -/
def HasX (P : Program) (w : World) (K : PySem.W.Frag) (mg : Str → Option Value) (base : Heap) (k : Nat) (x : Str) (ps : List Str) (sp : Sp) : Prop := ∃ f fd, Callee P w K mg base (L2.CX P w) k x f fd ps sp
theorem HasX.mono {P : Program} {w : World} {K : PySem.W.Frag} {mg : Str → Option Value} {base : Heap} {j k : Nat} {x : Str} {ps : List Str} {sp : Sp} (h : HasX P w K mg base j x ps sp) (l : j ≤ k) : HasX P w K mg base k x ps sp := by
  obtain ⟨f, fd, c⟩ := h
  exact ⟨f, fd, c.ok.mono l, c.mg, c.kp, c.bi⟩
section
variable {X : Cx} {CX : CXT} {E : XK} {k : Nat} {x : Str} {f : Addr} {fd : FuncData} {ps : List Str} {sp : Sp} {p pos : Pos} {e : Expr} {es : List Expr} {t : TA}
theorem calX (C : Callee X.prog X.w X.K X.mg X.base CX k x f fd ps sp) (hr : Room k X.A) (hg : Gl X x) (hx : Passes CX X E) (ha : PA X (e :: es) t) (hdb : (x == ("__debug__" : Str)) = false := by decide)
    (he : starEach (e :: es) X.env = (false, eval e X.env) :: starEach es X.env := by rfl) (hpl : (backTo pos (starEach es X.env)).any (·.1) = false := by rfl) : PE X (.Call (.Name x p) (e :: es) [] pos) (tCall sp [] E t) :=
  pe_call C.ok hr hg C.mg C.kp C.bi .nil hx ha hdb he hpl
end
/-- what a raise C(i) leaves: the error's own dict -/
theorem keep_raised {S : List Addr} {H : Hp} {a dx C : Addr} {f : Str} {i : Int} (na : H a = none) (nd : (upd H a (exo a C none)) dx = none) (ne : dx ≠ a) :
    Keep S H (upd (del (upd (upd (upd H a (exo a C none)) dx (exd dx [(f, .int i)])) a (exo a C (some dx))) a) dx (.xd [(f, .int i)])) := fun b o e => by
  have nd0 : H dx = none := by rw [upd_ne ne] at nd; exact nd
  have ba : b ≠ a := ne_of_none e na
  have bd : b ≠ dx := ne_of_none e nd0
  exact .inl (by rw [upd_ne bd, del_ne ba, upd_ne ba, upd_ne bd, upd_ne ba]; exact e)
/-! ### an own error class C (under GlassError, at G) with a number at one field -/
structure ErrT (K : PySem.W.Frag) (mg : Str → Option Value) (x qual field : Str) (st : Stmt) (C G fI : Addr) (fd : FuncData) : Prop where
  gC : mg x = some (.ref C)
  gG : mg "GlassError" = some (.ref G)
  ox : OexC K C
  iC : PySem.W.findIn K (.ref C) "__init__" = some (some (.ref fI))
  tI : PySem.W.typeIn K (.ref fI) = some (.type "function")
  no : PySem.W.findIn K (.ref C) field = some none
  rd : PySem.W.readsIn K G (.type "type") = true
  sg : PySem.W.specialIn K (.ref G) "__getattribute__" = some (some (.builtin "type.__getattribute__"))
  vV : PySem.W.findCls K (.ref G) (.type "type") "__init__" = some (.val (.builtin "ValueError.__init__"))
  fn : Fun K "__init__" qual st fI fd
  bi : Binds K fd ["self", field] []
structure ErrH (K : PySem.W.Frag) (C G : Addr) : Prop where
  ga : PySem.W.findIn K (.ref C) "__getattribute__" = some (some (.builtin "BaseException.__getattribute__"))
  gg : PySem.W.findIn K (.ref C) "__getattr__" = some none
  hd : PySem.W.hasDictIn K C = true
  ic : PySem.W.isClsIn K C = true
  se : PySem.W.subIn K (.ref C) (.ref C) = some true
  ck : PySem.W.findIn K (.ref C) "__class__" = some (some (.builtin "object.__class__"))
  kG : PySem.W.kitOne K (.ref C) (.ref G) = some true
  kV : PySem.W.kitOne K (.ref C) (.type "ValueError") = some true
  cg : PySem.W.specialIn K (.builtin "object.__class__") "__get__" = some (some (.builtin "getset_descriptor.__get__"))
  ct : PySem.W.takesIn K (.builtin "object.__class__") = some true
  cm : PySem.W.mroIn K C (.type "object") = some true
structure ErrAll (K : PySem.W.Frag) (mg : Str → Option Value) (x qual field : Str) (st : Stmt) : Prop where
  ex : ∃ C G fI fd, ErrT K mg x qual field st C G fI fd ∧ ErrH K C G
/-- an error of the one class is none of the other -/
structure ErrNot (K : PySem.W.Frag) (mg : Str → Option Value) (x y : Str) : Prop where
  no : ∀ a b : Addr, mg x = some (.ref a) → mg y = some (.ref b) → PySem.W.kitOne K (.ref a) (.ref b) = some false
/-- what the __init__ of such a class promises -/
def spErr (K : PySem.W.Frag) (field : Str) : Sp := fun vs H Q _ => ∃ (a C : Addr) (i : Int), vs = [.ref a, .int i] ∧ OexC K C ∧ PySem.W.findIn K (.ref C) field = some none ∧ i.natAbs < 10 ^ 9 ∧ H a = some (exo a C none) ∧
  ∀ dx : Addr, H dx = none → dx ≠ a → Q .non (upd (upd H dx (exd dx [(field, .int i)])) a (exo a C (some dx)))
end Og

namespace Og
open PySem PySem.W PySem.Calls PyProof.Rows
section
variable {prog : Program} {w : World} {A : Around} {E : Value → Shared → Prop} {s : Shared} {K : Frag} {x D : Addr} {ox : Obj} {od : Obj}
/-- e.__class__ of an error with a dict of its own -/
theorem exc_class {Q : Option Value → Shared → Prop} (g1 : findIn K (.ref D) "__getattribute__" = some (some (.builtin "BaseException.__getattribute__"))) (g2 : findIn K (.ref D) "__getattr__" = some none)
    (g3 : subIn K (.ref D) (.type "BaseException") = some true) (g4 : (clsIn K D).isSome = true) (g5 : findIn K (.ref D) "__class__" = some (some (.builtin "object.__class__")))
    (g6 : specialIn K (.builtin "object.__class__") "__get__" = some (some (.builtin "getset_descriptor.__get__"))) (g7 : takesIn K (.builtin "object.__class__") = some true) (g8 : mroIn K D (.type "object") = some true)
    (X : K.In s.heap) (I : InstAt s.heap x ox D (some od)) (fin : Q (some (.ref D)) { s with toks := s.toks + 1 }) : wpAny (model prog w) A (getAttr? (.ref x) "__class__") Q E s := by
  have found : findObj K D (some od) "__class__" = some (.bind (.builtin "getset_descriptor.__get__") (.builtin "object.__class__")) := findObj_data g4 g5 g6 g7
  obtain ⟨hp, ge, dr, tk, os⟩ := s
  have ty := I.type (M := model prog w)
  have la := looks_findIn (M := model prog w) X g1
  have lb := looks_findIn (M := model prog w) X g2
  have lc := looks_find (M := model prog w) X I found
  have isB : Looks (model prog w) hp (isInstance (.ref x) (.type "BaseException")) true := ty.andThen (looks_subIn X g3)
  have ne : (Value.builtin "BaseException.__getattribute__" == Value.builtin "object.__getattribute__") = false := by decide +kernel
  unfold getAttr? getAttrBy? getAttrBy
  refine wpAny_bind (wpAny_mkText (wpAny_bind (wpAny_attempt (wpAny_holding (wpAny_bind (ty.at (wpAny_bind (la.at ?_))))))))
  dsimp only
  rw [ne, Bool.and_false, if_neg Bool.false_ne_true]
  unfold getAttrByItsOwn hookBefore
  refine wpAny_bind ?_
  rw [if_pos (show onTheHeap (Value.ref D) = true from rfl)]
  refine lb.at ?_
  refine wpAny_bind (wpAny_attempt (wpAny_holding ?_))
  unfold callGetattribute
  rw [Bool.false_and, if_neg Bool.false_ne_true]
  unfold boundAndCalled
  rw [PySem.F.excAttr_ValueError.ga.bind (.ref x)]
  refine wpAny_bind (wpAny_pure ?_)
  refine wpAny_call (codeAny_call_builtin PySem.F.excAttr_ValueError.ga.plain PySem.F.entry_bexc_ga ?_)
  refine @check_slot (model prog w) _ _ ⟨hp, ge, dr, tk + 1, os⟩ "BaseException.__getattribute__" "BaseException" "__getattribute__" (.ref x) [.str "__class__" tk] [] _ (by decide +kernel) (by decide +kernel) isB (PySem.F.args_bexc_ga (.ref x) (.str "__class__" tk)) ?_
  unfold Builtin.«object.__getattribute__»
  refine wpAny_bind (wpAny_of_eq (a := ((Value.ref x : Value), [Value.str "__class__" tk])) (by first | rfl | (simp only [slotArgs]; rfl)) ?_)
  refine wpAny_bind (wpAny_pure (wpAny_bind (ty.at (wpAny_bind (lc.at ?_)))))
  refine wpAny_bind (wpAny_holding (wpAny_call (class_get (s := ⟨hp, ge, dr, tk + 1, os⟩) (ox := ox) (od := some od) X I g8 ?_)))
  refine wpAny_pure ?_
  show wpAny _ _ (handedOut (.ref D)) _ _ _
  rw [handedOut_of (v := .ref D) rfl]
  first
    | exact wpAny_pure (wpAny_pure fin)
    | exact wpAny_pure fin
    | exact wpAny_pure (wpAny_bind (wpAny_pure (wpAny_pure fin)))
theorem exc_kit (g1 : findIn K (.ref D) "__getattribute__" = some (some (.builtin "BaseException.__getattribute__"))) (g2 : findIn K (.ref D) "__getattr__" = some none)
    (g3 : subIn K (.ref D) (.type "BaseException") = some true) (g4 : hasDictIn K D = true) (g5 : findIn K (.ref D) "__class__" = some (some (.builtin "object.__class__")))
    (g6 : specialIn K (.builtin "object.__class__") "__get__" = some (some (.builtin "getset_descriptor.__get__"))) (g7 : takesIn K (.builtin "object.__class__") = some true) (g8 : mroIn K D (.type "object") = some true) :
    KitX K (.ref x) (.ref D) (fun h => InstAt h x ox D (some od)) where
  ty := fun _ _ _ I => I.type
  it := fun _ _ X _ => by
    obtain ⟨cd, hc, _⟩ := any_some g4
    unfold clsIn at hc
    split at hc
    · rename_i ho
      intro A' Q' E' s' k q
      unfold isType loadHead
      exact wpAny_bind (wpAny_loadPart (k _ _ (X _ _ ho)) (wpAny_pure q))
    · cases hc
  ne := fun h tp dd its n sl X htp => by
    obtain ⟨cd, hc, _⟩ := any_some g4
    refine Bool.eq_false_iff.mpr fun q => ?_
    have e : D = tp := Value.ref.inj (beq_iff_eq.mp q)
    subst e
    unfold clsIn at hc
    split at hc
    · rename_i ho
      exact nomatch (X _ _ ho).symm.trans htp
    · cases hc
  ca := fun X I k => exc_class g1 g2 g3 (by obtain ⟨cd, hc, _⟩ := any_some g4; rw [hc]; rfl) g5 g6 g7 g8 X I k
end
end Og
namespace Og
open PySem PySem.Spec PyProof.Rows L2
/-- what a suite's reading takes as given -/
theorem pss_ex {α : Type} {X : Cx} {sts : List Stmt} {t : α → TS} (h : ∀ x, PSs X sts (t x)) : PSs X sts (fun D σ H => ∃ x, t x D σ H) := ⟨fun pins s σ H D I q => by
  obtain ⟨x, q⟩ := q
  exact (h x).run pins s σ H D I q⟩
theorem pss_when {C : Prop} {X : Cx} {sts : List Stmt} {t : TS} (h : C → PSs X sts t) : PSs X sts (fun D σ H => C ∧ t D σ H) := ⟨fun pins s σ H D I q => (h q.1).run pins s σ H D I q.2⟩
/-- isinstance(e, c) of the error e that a suite holds, which has a dict of its own -/
def rIsD (K : PySem.W.Frag) (D a dd : Addr) : List V → Hp → VK → Prop := fun xs H Q => ∃ (c : V) (cv : Value) (b : Bool) (fs : List (Str × V)), xs = [.ref a, c] ∧ ClsV c cv ∧ H dd = some (.xd fs) ∧ PySem.W.kitOne K (.ref D) cv = some b ∧ Q (.bl b) H
theorem call_isD {X : Cx} {a D dd : Addr} {oe : Obj} {pn : List (Addr × Obj)} (C : ExcC X.K D) (hz : Zc (.ref D) (some dd) oe) (hf : ∃ vs, oe.data = .fields vs) : CallR (X.suite a ((a, oe) :: pn)) (.builtin "isinstance") (rIsD X.K D a dd) := by
  intro pins s σ H xs us Q I r h
  obtain ⟨c, cv, b, fs, rfl, hcv, ed, e, q⟩ := h
  obtain ⟨u1, u2, rfl, r1, r2⟩ := vals2 r
  have ec := hcv.eq r2
  subst ec
  obtain rfl : u1 = Value.ref a := r1
  obtain ⟨hget, _⟩ := I.pin (a, oe) (List.mem_append.mpr (.inl List.mem_cons_self))
  obtain ⟨vs, hv⟩ := hf
  have hx : ObjOk X.prog X.w H s.heap dd (.xd fs) := I.hok dd _ ed
  obtain ⟨mA, hns, _⟩ := hx
  obtain ⟨odd, ho, _⟩ := lookIn_ns hns
  have J : PySem.W.InstAt s.heap a oe D (some odd) := ⟨hget, hz.1, by unfold PySem.W.notCls; rw [hv], by rw [hz.2]; exact ho⟩
  exact PySem.W.kia_one (exc_kit C.hg C.hk C.hs C.hd C.ha C.hn C.ht C.hm) I.kIn J e (fun z => nomatch z) fun tk => ⟨.bl b, H, I.kept (t' := tk) fun _ _ z => z, rfl, q⟩
end Og

namespace Og
open PySem PySem.Spec PyProof.Rows L2
/-- an error of the class cls with the dict d, held as a value at a -/
def ErV (cls : Value) (d : Option Addr) (a : Addr) : HO := .ext fun h => ∃ (oe : Obj) (vs : Array Value), h.get? a = some oe ∧ Zc cls d oe ∧ oe.data = .fields vs
/-- isinstance(e, c) of such an error -/
def rIsV (K : PySem.W.Frag) : List V → Hp → VK → Prop := fun xs H Q => ∃ (a C dd : Addr) (c : V) (cv : Value) (b : Bool) (fs : List (Str × V)), xs = [.ref a, c] ∧ ClsV c cv ∧ ExcC K C ∧ H a = some (ErV (.ref C) (some dd) a) ∧ H dd = some (.xd fs) ∧ PySem.W.kitOne K (.ref C) cv = some b ∧ Q (.bl b) H
/-- e.f of such an error -/
def tXv (K : PySem.W.Frag) (f : Str) (te : TE) : TE := fun σ H Q => te σ H fun x H1 => ∃ (a C dd : Addr) (fs : List (Str × V)) (v : V), x = .ref a ∧ XfC K C ∧ PySem.W.findIn K (.ref C) f = some none ∧ H1 a = some (ErV (.ref C) (some dd) a) ∧ H1 dd = some (.xd fs) ∧ fs.lookup f = some v ∧ Q v H1
section
variable {X : Cx} {e : Expr} {te : TE} {p pos : Pos}
/-- what makes an error to raise it makes it as a value as well -/
theorem pe_made {t : L2.St → Hp → XK → Prop} (h : PMk X e t) : PE X e (fun σ H Q => t σ H fun cls d H1 => ∀ a : Addr, H1 a = none → Q (.ref a) (upd H1 a (ErV cls d a))) := by
  constructor
  intro pins s0 σ H Q I q
  refine wpAny_mono (h pins s0 σ H _ I q) (fun u s1 hu => ?_) fun _ _ no => no
  obtain ⟨a, oe, vs, sI, H', cls, d, rfl, J, grows, fresh, there, zc, dt, _, na, os, bare, _, q1⟩ := hu
  have new : ObjOk X.prog X.w (upd H' a (ErV cls d a)) s1.heap a (ErV cls d a) := ⟨⟨oe, vs, there, zc, dt⟩, ⟨oe, there⟩, fun _ _ ⟨o, w, y, r⟩ k => ⟨o, w, k o y, r⟩⟩
  exact ⟨.ref a, _, J.call' (ch := []) os (Un.laidN grows fresh na) (J.hok.laidN grows na new) bare (fun b z => absurd z (by simp)), rfl, q1 a na⟩
/-- the error and its dict, in the model's heap -/
theorem erv_at {H : Hp} {s1 : Shared} {a C dd : Addr} {fs : List (Str × V)} (hok : HOk X.prog X.w H s1.heap) (ea : H a = some (ErV (.ref C) (some dd) a)) (ed : H dd = some (.xd fs)) :
    ∃ (oe odd : Obj) (mA : Str → Option Value), PySem.W.InstAt s1.heap a oe C (some odd) ∧ (∀ f, RelO (fs.lookup f) (mA f)) ∧ ∀ f, PySem.W.lookIn f odd = some (mA f) := by
  have xa : ObjOk X.prog X.w H s1.heap a (.ext fun h => ∃ (oe : Obj) (vs : Array Value), h.get? a = some oe ∧ Zc (.ref C) (some dd) oe ∧ oe.data = .fields vs) := hok a _ ea
  have xd : ObjOk X.prog X.w H s1.heap dd (.xd fs) := hok dd _ ed
  obtain ⟨oe, vs, there, zc, dt⟩ := xa.1
  obtain ⟨mA, hns, rel⟩ := xd
  obtain ⟨odd, hd, look⟩ := lookIn_ns hns
  exact ⟨oe, odd, mA, ⟨there, zc.1, by unfold PySem.W.notCls; rw [dt], by rw [zc.2]; exact hd⟩, rel, look⟩
theorem call_isV : CallR X (.builtin "isinstance") (rIsV X.K) := by
  intro pins s1 σ H xs us Q I r h
  obtain ⟨a, C, dd, c, cv, b, fs, rfl, hcv, ec, ea, ed, z, q⟩ := h
  obtain ⟨u1, u2, rfl, v1, v2⟩ := vals2 r
  have ev := hcv.eq v2
  subst ev
  obtain rfl : u1 = Value.ref a := v1
  obtain ⟨oe, odd, mA, J, _, _⟩ := erv_at I.hok ea ed
  exact PySem.W.kia_one (exc_kit ec.hg ec.hk ec.hs ec.hd ec.ha ec.hn ec.ht ec.hm) I.kIn J z (fun y => nomatch y) fun tk => ⟨.bl b, H, I.kept (t' := tk) fun _ _ y => y, rfl, q⟩
theorem pe_xv {n : Str} (he : PE X e te) (hb : attributeBase e n X.env (eval e X.env) = eval e X.env := by rfl) : PE X (.Attribute e n pos) (tXv X.K n te) := by
  constructor
  intro pins s0 σ H Q I h
  refine attr_of hb (thn (he.run pins s0 σ H _ I h) fun u0 s1 g => ?_)
  obtain ⟨x, H1, I1, rx, a, C, dd, fs, v, ex, T, hno, ea, ed, l, q⟩ := g
  subst ex
  obtain rfl : u0 = Value.ref a := rx
  obtain ⟨oe, odd, mA, J, rel, look⟩ := erv_at I1.hok ea ed
  obtain ⟨u, hu, ru⟩ := RelO.some_of (v := v) (o := mA n) (by have := rel n; rw [l] at this; exact this)
  exact HandSPX.exc_get I1.kIn J T.ga T.gg T.exC (PySem.W.findObj_own T.hdC hno rfl (by rw [look, hu])) (handed_of ru) ⟨v, H1, I1.tok _, ru, q⟩
end
end Og

namespace Og
open PySem PySem.Spec PyProof.Rows L2
def topS (i : Nat) : Stmt := PySem.Challenge.pw_ownglass_k02_the_place_where_a_text_is_w.main.body.getD i (.Pass ⟨0, 0, 0, 0⟩)
abbrev s_read_value : Stmt := topS 9
abbrev n_read_value : List Str := ["text", "unfinished", "at", "items", "word"]
abbrev p_read_value : List Str := ["text"]
theorem sc_read_value : FnScope n_read_value p_read_value (defScope s_read_value) := ⟨rfl, rfl, rfl, by decide +kernel, rfl, by decide +kernel, by decide +kernel⟩
abbrev s_behind_blanks : Stmt := topS 10
abbrev n_behind_blanks : List Str := ["text", "start", "at"]
abbrev p_behind_blanks : List Str := ["text", "start"]
theorem sc_behind_blanks : FnScope n_behind_blanks p_behind_blanks (defScope s_behind_blanks) := ⟨rfl, rfl, rfl, by decide +kernel, rfl, by decide +kernel, by decide +kernel⟩
abbrev s_word_at : Stmt := topS 11
abbrev n_word_at : List Str := ["text", "start", "end"]
abbrev p_word_at : List Str := ["text", "start"]
theorem sc_word_at : FnScope n_word_at p_word_at (defScope s_word_at) := ⟨rfl, rfl, rfl, by decide +kernel, rfl, by decide +kernel, by decide +kernel⟩
abbrev s_law_draws : Stmt := topS 13
abbrev n_law_draws : List Str := ["script", "many", "rests", "cell", "draws", "k", "at", "mixed"]
abbrev p_law_draws : List Str := ["script", "many"]
theorem sc_law_draws : FnScope n_law_draws p_law_draws (defScope s_law_draws) := ⟨rfl, rfl, rfl, by decide +kernel, rfl, by decide +kernel, by decide +kernel⟩
abbrev s_law_take : Stmt := topS 14
abbrev n_law_take : List Str := ["hand", "many", "at", "draws"]
abbrev p_law_take : List Str := ["hand", "many"]
theorem sc_law_take : FnScope n_law_take p_law_take (defScope s_law_take) := ⟨rfl, rfl, rfl, by decide +kernel, rfl, by decide +kernel, by decide +kernel⟩
abbrev s_law_word : Stmt := topS 15
abbrev n_law_word : List Str := ["hand", "letters", "size", "word", "k"]
abbrev p_law_word : List Str := ["hand"]
theorem sc_law_word : FnScope n_law_word p_law_word (defScope s_law_word) := ⟨rfl, rfl, rfl, by decide +kernel, rfl, by decide +kernel, by decide +kernel⟩
abbrev s_law_value : Stmt := topS 16
abbrev n_law_value : List Str := ["hand", "depth", "many", "k"]
abbrev p_law_value : List Str := ["hand", "depth"]
theorem sc_law_value : FnScope n_law_value p_law_value (defScope s_law_value) := ⟨rfl, rfl, rfl, by decide +kernel, rfl, by decide +kernel, by decide +kernel⟩
abbrev s_law_text : Stmt := topS 17
abbrev n_law_text : List Str := ["value", "one"]
abbrev p_law_text : List Str := ["value"]
theorem sc_law_text : FnScope n_law_text p_law_text (defScope s_law_text) := ⟨rfl, rfl, rfl, by decide +kernel, rfl, by decide +kernel, by decide +kernel⟩
abbrev s_law_deep : Stmt := topS 18
abbrev n_law_deep : List Str := ["hand", "inner", "value", "left", "right", "seed", "k", "kind", "word"]
abbrev p_law_deep : List Str := ["hand", "inner"]
theorem sc_law_deep : FnScope n_law_deep p_law_deep (defScope s_law_deep) := ⟨rfl, rfl, rfl, by decide +kernel, rfl, by decide +kernel, by decide +kernel⟩
abbrev s_law_like : Stmt := topS 19
abbrev n_law_like : List Str := ["found", "expected", "pairs", "step", "first", "second", "at"]
abbrev p_law_like : List Str := ["found", "expected"]
theorem sc_law_like : FnScope n_law_like p_law_like (defScope s_law_like) := ⟨rfl, rfl, rfl, by decide +kernel, rfl, by decide +kernel, by decide +kernel⟩
abbrev s_law_run_end : Stmt := topS 20
abbrev n_law_run_end : List Str := ["text", "at", "k"]
abbrev p_law_run_end : List Str := ["text", "at"]
theorem sc_law_run_end : FnScope n_law_run_end p_law_run_end (defScope s_law_run_end) := ⟨rfl, rfl, rfl, by decide +kernel, rfl, by decide +kernel, by decide +kernel⟩
abbrev s_law_read : Stmt := topS 21
abbrev n_law_read : List Str := ["text", "opened", "whole", "at", "step", "sign", "found", "end"]
abbrev p_law_read : List Str := ["text"]
theorem sc_law_read : FnScope n_law_read p_law_read (defScope s_law_read) := ⟨rfl, rfl, rfl, by decide +kernel, rfl, by decide +kernel, by decide +kernel⟩
abbrev s_law_piece : Stmt := topS 22
abbrev n_law_piece : List Str := ["hand", "strange", "kind"]
abbrev p_law_piece : List Str := ["hand"]
theorem sc_law_piece : FnScope n_law_piece p_law_piece (defScope s_law_piece) := ⟨rfl, rfl, rfl, by decide +kernel, rfl, by decide +kernel, by decide +kernel⟩
abbrev s_law_spoilt : Stmt := topS 23
abbrev n_law_spoilt : List Str := ["hand", "text", "at", "kind"]
abbrev p_law_spoilt : List Str := ["hand", "text"]
theorem sc_law_spoilt : FnScope n_law_spoilt p_law_spoilt (defScope s_law_spoilt) := ⟨rfl, rfl, rfl, by decide +kernel, rfl, by decide +kernel, by decide +kernel⟩
abbrev s_law_is_right : Stmt := topS 24
abbrev n_law_is_right : List Str := ["text", "due", "found", "e"]
abbrev p_law_is_right : List Str := ["text"]
theorem sc_law_is_right : FnScope n_law_is_right p_law_is_right (defScope s_law_is_right) := ⟨rfl, rfl, rfl, by decide +kernel, rfl, by decide +kernel, by decide +kernel⟩
abbrev s_law : Stmt := topS 25
abbrev n_law : List Str := ["script", "hand", "pieces", "k", "text", "one", "place", "made", "deep", "left", "right", "whole", "at"]
abbrev p_law : List Str := ["script"]
theorem sc_law : FnScope n_law p_law (defScope s_law) := ⟨rfl, rfl, rfl, by decide +kernel, rfl, by decide +kernel, by decide +kernel⟩
abbrev s_BadText_init : Stmt := inClass (topS 2) 0
abbrev n_BadText_init : List Str := ["self", "place"]
abbrev p_BadText_init : List Str := ["self", "place"]
theorem sc_BadText_init : FnScope n_BadText_init p_BadText_init (defScope s_BadText_init) := ⟨rfl, rfl, rfl, by decide +kernel, rfl, by decide +kernel, by decide +kernel⟩
abbrev s_BadProgram_init : Stmt := inClass (topS 3) 0
abbrev n_BadProgram_init : List Str := ["self", "function"]
abbrev p_BadProgram_init : List Str := ["self", "function"]
theorem sc_BadProgram_init : FnScope n_BadProgram_init p_BadProgram_init (defScope s_BadProgram_init) := ⟨rfl, rfl, rfl, by decide +kernel, rfl, by decide +kernel, by decide +kernel⟩
/-- the constants of the module -/
structure Mc (mg : Str → Option Value) : Prop where
  LETTERS : ∃ t, mg "LETTERS" = some (.str "abcdefghijklmnopqrstuvwxyz" t)
  RUN_SIGNS : ∃ t, mg "RUN_SIGNS" = some (.str "abcdefghijklmnopqrstuvwxyz0123456789" t)
  BLANKS : ∃ t, mg "BLANKS" = some (.str " \n" t)
  LONGEST_WORD : ∃ t, mg "LONGEST_WORD" = some (.int 12 t)
/-- what law(script) promises: for a list of at most 63 ints the answer is True -/
def spLaw (K : PySem.W.Frag) : Sp := fun vs H Q _ => ∃ (a : Addr) (ns : List Int), vs = [.ref a] ∧ SqL K H a (ns.map V.int) ∧ ns.length ≤ 63 ∧ ∀ H', Q (.bl true) H'
end Og

namespace Og
open PySem PySem.Spec PyProof.Rows L2
section
variable {P : Program} {w : World} {K : PySem.W.Frag} {mg : Str → Option Value} {base : Heap}
theorem str_len_app (a b : Str) : (a ++ b).length = a.length + b.length := by
  show (a.cps ++ b.cps).size = a.cps.size + b.cps.size
  simp
theorem num_fits {i : Int} (h : i.natAbs < 10 ^ 9) : (toString i : String).length ≤ 10 ∧ i.natAbs.log2 < 1920 := by
  refine ⟨int_text_length_le10 (by decide) h, ?_⟩
  have : i.natAbs.log2 ≤ i.natAbs.log2 := Nat.le_refl _
  by_cases hz : i.natAbs = 0
  · rw [hz]; decide
  · exact Nat.lt_trans ((Nat.log2_lt hz).mpr (show i.natAbs < 2 ^ 30 from Nat.lt_trans h (by decide))) (by decide)
theorem ok_BadText' {C G fI : Addr} {fd : FuncData} (T : ErrT K mg "BadText" "BadText.__init__" "place" s_BadText_init C G fI fd) : FnOk P w K mg base CX0 1 fI fd ["self", "place"] (spErr K "place") := by
  refine T.fn.ok sc_BadText_init (fun vs H Q E h => ?_) (fun cdv A outer s H vs Q E hr h => ?_)
  · obtain ⟨_, _, _, rfl, _⟩ := h
    rfl
  obtain ⟨a, C', i, rfl, ox, no, hi, ea, q⟩ := h
  refine ⟨_, pss_cons (ps_expr (pe_clsinit rfl T.gG T.rd T.sg T.vV (pa_cons (pv 0) (pa_cons (pe_joined (.cons pe_str (.cons (pe_fmt (pv 1)) (.cons pe_str .nil)))) pa_nil)))) (pss_one (ps_ost (pv 0) (pv 1))), ?_⟩
  have nf := num_fits hi
  have l1 : (Str.ofString (toString i)).length ≤ 10 := by rw [PySem.ofString_length]; exact nf.1
  have l0 : (Str.empty ++ Str.ofString "the text is wrong behind ").length ≤ 100 := by decide +kernel
  have l2 : (Str.ofString " signs").length ≤ 100 := by decide +kernel
  refine ⟨_, rfl, _, rfl, ?_, _, rfl, .inr ⟨i, rfl, nf.2, _, rfl, ?_, _, rfl, ?_, ?_⟩⟩
  · exact Nat.le_trans l0 (by decide)
  · rw [str_len_app]
    exact Nat.le_trans (show _ ≤ 1000 by omega) (by decide)
  · rw [str_len_app, str_len_app]
    exact Nat.le_trans (show _ ≤ 1000 by omega) (by decide)
  · refine ⟨a, C', _, rfl, by show 1 ≤ 1000; decide, ox, ea, ?_⟩
    exact ⟨_, rfl, _, rfl, a, C', rfl, ox, no, .inl ⟨ea, fun dx hd ne => q dx hd ne⟩⟩
end
end Og

namespace Og
open PySem PySem.Spec PyProof.Rows L2
section
variable {P : Program} {w : World} {K : PySem.W.Frag} {mg : Str → Option Value} {base : Heap}
def spDraws (K : PySem.W.Frag) : Sp := fun vs H Q _ => ∃ (a : Addr) (ns : List Int) (m : Nat), vs = [.ref a, .int m] ∧ SqL K H a (ns.map V.int) ∧ ns.length ≤ 63 ∧ m ≤ 100000 ∧
  ∀ (p : Addr) (ds : List Int) (H' : Hp), Keep [] H H' → H p = none → H' p = some (.lst (ds.map V.int)) → ds.length = m → Q (.ref p) H'
theorem has_draws {k : Nat} (D : DefAt K mg "_law_draws" s_law_draws p_law_draws) (B : Bn mg) : Has P w K mg base (k + 1) "_law_draws" p_law_draws (spDraws K) := by
  obtain ⟨f, fd, F, hm, hb⟩ := D.ex
  refine ⟨f, fd, F.ok sc_law_draws (fun vs H Q E h => ?_) (fun cdv A outer s H vs Q E hr h => ?_), hm, F.kp, hb⟩
  · obtain ⟨a, ns, m, rfl, _⟩ := h
    rfl
  obtain ⟨a, ns, m, rfl, hS, h63, hm1, q⟩ := h
  refine ⟨_, (pss_cons (ps_setLc (i := 2) (own := [("cell", 3)]) (g := gName 3) (tt := tYes) rfl sc_law_draws.nd rfl rfl (sw_true rfl rfl rfl (by decide +kernel)) (pi_list (pv 0)) (blkOk_by (N := n_law_draws) (sc := defScope s_law_draws) (by decide +kernel)) (fun _ _ _ _ _ => pg_name (i := 3) sc_law_draws.nd rfl (Or.inl rfl)) (fun _ _ _ _ _ => pts_nil) (fun _ _ _ _ _ => (pe_callB call_abs (by rfl) B.abs (by decide +kernel) (pa_cons (pe_callTy call_int1 (by rfl) B.int (by decide +kernel) (pa_cons (pv 3) pa_nil)) pa_nil))))
    (pss_cons (ps_set (i := 4) sc_law_draws.nd rfl (.inl rfl) (pe_lst pa_nil))
    (pss_cons (ps_for PassesOwn.never rfl (pi_range1 (by rfl) B.range (pa_cons (pv 1) pa_nil)) (pg_name (i := 5) sc_law_draws.nd rfl (.inl rfl))
      (pss_cons (ps_set (i := 3) sc_law_draws.nd rfl (.inl rfl) (pv 5))
      (C8.pss_cut (ps_if (pt_cmpR op_gt (pe_callB call_len_seq (by rfl) B.len PySem.boot_len (pa_cons (pv 0) pa_nil)) pe_int (nomark _)) (pss_cons (ps_set (i := 6) sc_law_draws.nd rfl (.inl rfl) (pe_op op_mod (pv 5) (pe_callB call_len_seq (by rfl) B.len PySem.boot_len (pa_cons (pv 0) pa_nil))))
        (pss_cons (ps_set (i := 3) sc_law_draws.nd rfl (.inl rfl) (pe_callTy call_int1 (by rfl) B.int (by decide +kernel) (pa_cons (pe_ix ix_list (pv 0) (pv 6) (fun _ _ => rfl)) pa_nil)))
        (pss_one (ps_if (PW.pt (pw_and (pt_cmpR op_ge (pv 3) (pe_op op_pow pe_int pe_int) (nomark _)) (pw_and1 (pt_cmpR op_gt (pe_ix ix_list (pv 2) (pv 6) (fun _ _ => rfl)) pe_int (nomark _))))) (pss_cons (ps_expr (pe_bm PySem.F.plainAttrs_list PySem.F.slot_list_append PySem.F.type_list_append mt_append (pv 4) (pa_cons (pe_op op_mod (pe_callTy call_int1 (by rfl) B.int (by decide +kernel) (pa_cons (pe_ix ix_list (pv 2) (pv 6) (fun _ _ => rfl)) pa_nil)) pe_int) pa_nil)))
          (pss_cons (ps_asg (pe_op op_fdiv (pe_callTy call_int1 (by rfl) B.int (by decide +kernel) (pa_cons (pe_ix ix_list (pv 2) (pv 6) (fun _ _ => rfl)) pa_nil)) pe_int) (pg_sub (pv 2) (pv 6) set_list))
          (pss_one ps_continue))) pss_nil)))) pss_nil)
      (pss_cons (ps_set (i := 7) sc_law_draws.nd rfl (.inl rfl) (pe_op op_mod (pe_callTy call_int1 (by rfl) B.int (by decide +kernel) (pa_cons (pe_op op_add (pe_op op_add (pe_op op_mul (pv 3) pe_int) (pe_op op_mul (pv 5) pe_int)) pe_int) pa_nil)) pe_int))
      (pss_cons (ps_set (i := 7) sc_law_draws.nd rfl (.inl rfl) (pe_op op_mod (pe_callTy call_int1 (by rfl) B.int (by decide +kernel) (pa_cons (pe_op op_add (pe_op op_fdiv (pe_op op_mul (pv 7) (pv 7)) pe_int) (pv 7)) pa_nil)) pe_int))
      (pss_one (ps_expr (pe_bm PySem.F.plainAttrs_list PySem.F.slot_list_append PySem.F.type_list_append mt_append (pv 4) (pa_cons (pe_op op_mod (pe_callTy call_int1 (by rfl) B.int (by decide +kernel) (pa_cons (pe_op op_add (pe_op op_fdiv (pe_op op_mul (pv 7) (pv 7)) pe_int) (pe_op op_mul (pv 5) pe_int)) pa_nil)) pe_int) pa_nil)))))))))
    (pss_one (ps_ret (pv 4)))))), ?_⟩
  -- rests
  refine ⟨_, rfl, a, rfl, ⟨_, hS⟩, fun r nr => ?_⟩
  refine lc_list (K := K) (a := a) (xs := ns.map V.int) (fun i H' => Keep [] H H' ∧ ∃ rs : List Int, rs.length = i ∧ H' r = some (.lst (rs.map V.int))) ⟨Keep.new nr, [], rfl, upd_same⟩ (fun i H' _ p => p.1.sqL (by simp) hS) (fun i x H1 hx p => ?_) (fun H1 p => ?_)
  · obtain ⟨n, rfl, hn⟩ := map_int_get hx
    obtain ⟨k1, rs, e1, e2⟩ := p
    have hi : i < ns.length := (List.getElem?_eq_some_iff.mp hn).1
    refine ⟨rfl, yes ?_⟩
    refine ⟨_, rfl, .inl ⟨_, rfl, _, rfl, _, e2, ?_, ?_⟩⟩
    · rw [List.length_map]
      exact sizeLt (by omega)
    · refine ⟨(k1.cons.setT e2 (List.mem_cons_self ..)).drop nr, rs ++ [if n < 0 then -n else n], (by rw [List.length_append, e1]; rfl), ?_⟩
      rw [upd_same, map_int_app]
  -- draws
  obtain ⟨k1, rs, e1, e2⟩ := p
  rw [List.length_map] at e1
  refine ⟨Nat.zero_le _, fun d nd => ?_⟩
  have k2 : Keep [] H (upd H1 d (.lst [])) := k1.newT nd
  have drn : d ≠ r := (ne_of_none e2 nd).symm
  have nd0 : H d = none := k1.free nd
  have nr0 : H r = none := nr
  refine ⟨_, rfl, (m : Int), rfl, by omega, by omega, ?_⟩
  refine for_range (lo := 0) (n := (m : Int).toNat) (fun i σ H' => ∃ y3 y5 y6 y7, σ = [some (.ref a), some (.int m), some (.ref r), y3, some (.ref d), y5, y6, y7] ∧ Keep [] H H' ∧ (∃ rs : List Int, rs.length = ns.length ∧ H' r = some (.lst (rs.map V.int))) ∧ ∃ ds : List Int, ds.length = i ∧ H' d = some (.lst (ds.map V.int)))
    ⟨_, _, _, _, rfl, k2, ⟨rs, e1, by rw [upd_ne drn.symm]; exact e2⟩, [], rfl, upd_same⟩ (fun i σ H2 hi p => ?_) (fun σ H2 p => ?_)
  · obtain ⟨y3, y5, y6, y7, rfl, k3, ⟨rs, e3, e4⟩, ds, e5, e6⟩ := p
    have sL : SqL K H2 a (ns.map V.int) := k3.sqL (by simp) hS
    have dsz : (ds.map V.int).length < sizeLine := by rw [List.length_map]; exact sizeLt (by omega)
    -- cell = k
    refine ⟨_, rfl, ?_⟩
    refine ⟨fun σ' H' => H' = H2 ∧ ∃ (cell : Int) (y6 y7 : Option V), σ' = [some (.ref a), some (.int m), some (.ref r), some (.int cell), some (.ref d), some (.int (0 + i)), y6, y7], ?_, fun σ' H' hmid => ?_⟩
    refine ⟨_, rfl, _, _, rfl, .inl sL, _, _, rfl, rfl, _, rfl, ?_⟩
    refine ite2 (fun c => ?_) (fun c => ?_)
    · have c0 : (0 : Int) < ((ns.map V.int).length : Nat) := of_decide_eq_true c
      rw [List.length_map] at c0
      have at0 : 0 ≤ (0 + (i : Int)) % (ns.length : Int) := Int.emod_nonneg _ (by omega)
      have at1 : (0 + (i : Int)) % (ns.length : Int) < (ns.length : Int) := Int.emod_lt_of_pos _ c0
      obtain ⟨x, hx⟩ := atI_int (ns := ns) at0 at1
      obtain ⟨y, hy⟩ := atI_int (ns := rs) at0 (by rw [e3]; exact at1)
      refine ⟨_, rfl, _, rfl, _, _, rfl, .inl sL, _, _, rfl, rfl, (by show (0 : Int) < _; rw [List.length_map]; exact c0), ?_⟩
      rw [List.length_map]
      refine ⟨_, rfl, _, rfl, _, _, _, _, rfl, rfl, sL, hx, .inl ⟨_, rfl, ?_⟩⟩
      refine ⟨_, rfl, _, _, rfl, rfl, ⟨by decide, by decide, by decide⟩, _, _, rfl, rfl, _, rfl, ?_⟩
      refine ite2 (fun c1 => ?_) (fun c1 => ?_)
      · refine ⟨_, rfl, _, rfl, _, _, _, _, rfl, rfl, SqL.of e4, hy, _, _, rfl, rfl, _, rfl, ?_⟩
        refine ite2 (fun c2 => ?_) (fun c2 => ?_)
        · -- draws.append(..), rests[at] = .., continue
          refine ⟨_, rfl, .inl ⟨rfl, _, SqL.of e6⟩, _, rfl, _, rfl, _, _, _, _, rfl, rfl, SqL.of e4, hy, .inl ⟨_, rfl, _, _, rfl, rfl, by show (0 : Int) < 1000003; decide, _, _, _, rfl, rfl, e6, dsz, ?_⟩⟩
          have e4' : (upd H2 d (.lst (ds.map V.int ++ [.int (y % 1000003)]))) r = some (.lst (rs.map V.int)) := by rw [upd_ne drn.symm]; exact e4
          refine ⟨_, rfl, _, rfl, _, _, _, _, rfl, rfl, SqL.of e4', hy, .inl ⟨_, rfl, _, _, rfl, rfl, ⟨by decide, by decide⟩, _, rfl, _, rfl, _, _, _, _, rfl, rfl, e4', ixN_int at0 (by rw [List.length_map, e3]; exact at1), ?_⟩⟩
          refine ⟨_, _, _, _, rfl, ?_, ⟨rs.set ((0 + (i : Int)) % (ns.length : Int)).toNat (y / 1000003), by rw [List.length_set]; exact e3, by rw [upd_same, map_int_set]⟩, ds ++ [y % 1000003], by rw [List.length_append, e5]; rfl, by rw [upd_ne drn, upd_same, map_int_app]⟩
          exact (((k3.cons (p := d)).setT e6 (List.mem_cons_self ..)).cons (p := r)).setT e4' (List.mem_cons_self ..) |>.drop nr0 |>.drop nd0
        · exact ⟨rfl, _, _, _, rfl⟩
      · exact ⟨rfl, _, _, _, rfl⟩
    · exact ⟨rfl, _, _, _, rfl⟩
    · obtain ⟨rfl, cell, y6, y7, rfl⟩ := hmid
      have big : ∀ z : Int, 0 ≤ z % 2147483647 ∧ z % 2147483647 < 2147483647 := fun z => ⟨Int.emod_nonneg _ (by decide), Int.emod_lt_of_pos _ (by decide)⟩
      have big2 : ∀ z : Int, 0 ≤ z % 2147483629 ∧ z % 2147483629 < 2147483629 := fun z => ⟨Int.emod_nonneg _ (by decide), Int.emod_lt_of_pos _ (by decide)⟩
      refine ⟨_, rfl, _, _, rfl, rfl, .inr ⟨by decide, by decide⟩, _, rfl, _, _, rfl, rfl, .inr ⟨by decide, by decide⟩, _, _, rfl, rfl, _, _, rfl, rfl, .inl ⟨_, rfl, _, _, rfl, rfl, by show (0 : Int) < 2147483647; decide, ?_⟩⟩
      generalize e1 : (cell * 48271 + (0 + (i : Int)) * 69621 + 11) % 2147483647 = m1
      have b1 := big (cell * 48271 + (0 + (i : Int)) * 69621 + 11)
      rw [e1] at b1
      refine ⟨_, rfl, _, rfl, _, _, rfl, rfl, .inl ⟨by omega, by omega⟩, _, _, rfl, rfl, ⟨by decide, by decide⟩, _, rfl, _, _, rfl, rfl, .inl ⟨_, rfl, _, _, rfl, rfl, by show (0 : Int) < 2147483629; decide, ?_⟩⟩
      generalize e2 : (m1 * m1 / 4096 + m1) % 2147483629 = m2
      have b2 := big2 (m1 * m1 / 4096 + m1)
      rw [e2] at b2
      refine ⟨_, rfl, .inl ⟨rfl, _, SqL.of e6⟩, _, rfl, _, rfl, _, _, rfl, rfl, .inl ⟨by omega, by omega⟩, _, _, rfl, rfl, ⟨by decide, by decide⟩, _, rfl, _, _, rfl, rfl, .inr ⟨by decide, by decide⟩, _, _, rfl, rfl, .inl ⟨_, rfl, _, _, rfl, rfl, by show (0 : Int) < 2147483629; decide, _, _, _, rfl, rfl, e6, dsz, ?_⟩⟩
      exact ⟨_, _, _, _, rfl, (k3.cons.setT e6 (List.mem_cons_self ..)).drop nd0, ⟨rs, e3, by rw [upd_ne drn.symm]; exact e4⟩, ds ++ [_], by rw [List.length_append, e5]; rfl, by rw [upd_same, map_int_app]⟩
  · obtain ⟨y3, y5, y6, y7, rfl, k3, _, ds, e5, e6⟩ := p
    refine ⟨_, rfl, ?_⟩
    exact q d ds H2 k3 nd0 e6 (by omega)
end
end Og

namespace Og
open PySem PySem.Spec PyProof.Rows L2
section
variable {P : Program} {w : World} {K : PySem.W.Frag} {mg : Str → Option Value} {base : Heap}
def spTake : Sp := fun vs H Q _ => ∃ (h d : Addr) (m : Int), vs = [.ref h, .int m] ∧ Hd H h d ∧ 0 < m ∧
  ∀ (i : Int) (H' : Hp), 0 ≤ i → i < m → Keep [h] H H' → Hd H' h d → Q (.int i) H'
theorem has_take {k : Nat} (D : DefAt K mg "_law_take" s_law_take p_law_take) (B : Bn mg) : Has P w K mg base (k + 1) "_law_take" p_law_take spTake := by
  obtain ⟨f, fd, F, hm, hb⟩ := D.ex
  refine ⟨f, fd, F.ok sc_law_take (fun vs H Q E h => ?_) (fun cdv A outer s H vs Q E hr h => ?_), hm, F.kp, hb⟩
  · obtain ⟨a, d, m, rfl, _⟩ := h
    rfl
  obtain ⟨a, d, m, rfl, hd, hm1, q⟩ := h
  refine ⟨_, (pss_cons (ps_set (i := 2) sc_law_take.nd rfl (.inl rfl) (pe_ix ix_list (pv 0) pe_int (fun _ _ => rfl)))
    (pss_cons (ps_asg (pe_op op_add (pv 2) pe_int) (pg_sub (pv 0) pe_int set_list))
    (pss_cons (ps_set (i := 3) sc_law_take.nd rfl (.inl rfl) (pe_ix ix_list (pv 0) pe_int (fun _ _ => rfl)))
    (pss_cons (ps_if (pt_cmpR op_ge (pv 2) (pe_callB call_len_seq (by rfl) B.len PySem.boot_len (pa_cons (pv 3) pa_nil)) (nomark _)) (pss_one (ps_ret pe_int)) pss_nil)
    (pss_one (ps_ret (pe_op op_mod (pe_op op_fdiv (pe_callTy call_int1 (by rfl) B.int (by decide +kernel) (pa_cons (pe_ix ix_list (pv 3) (pv 2) (fun _ _ => rfl)) pa_nil)) pe_int) (pv 1)))))))), ?_⟩
  obtain ⟨n, ds, e1, e2, l⟩ := id hd
  refine ⟨_, rfl, _, _, _, _, rfl, rfl, SqL.of e1, rfl, ?_⟩
  refine ⟨_, rfl, _, _, rfl, rfl, _, rfl, _, _, _, _, rfl, rfl, e1, rfl, ?_⟩
  have e3 : (upd H a (.lst [.ref d, .int ((n : Int) + 1)])) a = some (.lst [.ref d, .int ((n : Int) + 1)]) := upd_same
  have e4 : (upd H a (.lst [.ref d, .int ((n : Int) + 1)])) d = some (.lst (ds.map V.int)) := by rw [upd_ne hd.ne]; exact e2
  have k1 : Keep [a] H (upd H a (.lst [.ref d, .int ((n : Int) + 1)])) := Keep.set e1 (List.mem_cons_self ..)
  have hd2 : Hd (upd H a (.lst [.ref d, .int ((n : Int) + 1)])) a d := ⟨n + 1, ds, upd_same, e4, l⟩
  refine ⟨_, rfl, _, _, _, _, rfl, rfl, SqL.of e3, rfl, ?_⟩
  refine ⟨_, rfl, _, rfl, _, _, rfl, .inl (SqL.of e4), _, _, rfl, rfl, _, rfl, ?_⟩
  refine ite2 (fun c => ?_) (fun c => ?_)
  · exact q 0 _ (by omega) hm1 k1 hd2
  · have c' : ¬ (((ds.map V.int).length : Nat) : Int) ≤ (n : Int) := of_decide_eq_false (Bool.eq_false_iff.mpr c)
    rw [List.length_map] at c'
    obtain ⟨x, hx⟩ := atI_int (ns := ds) (z := (n : Int)) (by omega) (by omega)
    refine ⟨_, rfl, _, rfl, _, _, _, _, rfl, rfl, SqL.of e4, hx, .inl ⟨_, rfl, _, _, rfl, rfl, ⟨by decide, by decide⟩, _, rfl, _, _, rfl, rfl, hm1, ?_⟩⟩
    exact q _ _ (Int.emod_nonneg _ (by omega)) (Int.emod_lt_of_pos _ hm1) k1 hd2
end
end Og

namespace Og
open PySem PySem.Spec PyProof.Rows L2
/-- a small letter; a letter or a digit -/
def Letter (c : Nat) : Prop := 97 ≤ c ∧ c ≤ 122
def Sign (c : Nat) : Prop := (97 ≤ c ∧ c ≤ 122) ∨ (48 ≤ c ∧ c ≤ 57)
/-- a word of the document -/
def IsWord (x : List Nat) : Prop := ∃ c cs, x = c :: cs ∧ Letter c ∧ (∀ y ∈ cs, Sign y) ∧ cs.length ≤ 11
theorem lit_letters : ("abcdefghijklmnopqrstuvwxyz" : Str) = tx ((List.range 26).map (· + 97)) := by decide +kernel
theorem lit_digits : ("0123456789" : Str) = tx ((List.range 10).map (· + 48)) := by decide +kernel
theorem letters_at {z : Int} (h0 : 0 ≤ z) (h : z < 26) : ∃ c, atI ((List.range 26).map (· + 97)) z = some c ∧ Letter c := by
  obtain ⟨x, h1, h2⟩ := atI_of (xs := (List.range 26).map (· + 97)) h0 (by simpa using h)
  refine ⟨x, h1, ?_⟩
  have m := List.mem_of_getElem? h2
  obtain ⟨y, hy, rfl⟩ := List.mem_map.mp m
  have := List.mem_range.mp hy
  exact ⟨by omega, by omega⟩
theorem signs_at {z : Int} (h0 : 0 ≤ z) (h : z < 36) : ∃ c, atI ((List.range 26).map (· + 97) ++ (List.range 10).map (· + 48)) z = some c ∧ Sign c := by
  obtain ⟨x, h1, h2⟩ := atI_of (xs := (List.range 26).map (· + 97) ++ (List.range 10).map (· + 48)) h0 (by simpa using h)
  refine ⟨x, h1, ?_⟩
  have m := List.mem_of_getElem? h2
  rcases List.mem_append.mp m with m | m
  · obtain ⟨y, hy, rfl⟩ := List.mem_map.mp m
    have := List.mem_range.mp hy
    exact .inl ⟨by omega, by omega⟩
  · obtain ⟨y, hy, rfl⟩ := List.mem_map.mp m
    have := List.mem_range.mp hy
    exact .inr ⟨by omega, by omega⟩
theorem four {j : Int} (h0 : 0 ≤ j) (h : j < 4) : j = 0 ∨ j = 1 ∨ j = 2 ∨ j = 3 := by omega
section
variable {P : Program} {w : World} {K : PySem.W.Frag} {mg : Str → Option Value} {base : Heap}
def spWord : Sp := fun vs H Q _ => ∃ (h d : Addr), vs = [.ref h] ∧ Hd H h d ∧
  ∀ (x : List Nat) (H' : Hp), IsWord x → Keep [h] H H' → Hd H' h d → Q (.str (tx x)) H'
theorem has_word {k : Nat} (D : DefAt K mg "_law_word" s_law_word p_law_word) (B : Bn mg) (c1 : Has P w K mg base k "_law_take" p_law_take spTake) : Has P w K mg base (k + 1) "_law_word" p_law_word spWord := by
  obtain ⟨f, fd, F, hm, hb⟩ := D.ex
  obtain ⟨_, _, c_law_take⟩ := c1
  refine ⟨f, fd, F.ok sc_law_word (fun vs H Q E h => ?_) (fun cdv A outer s H vs Q E hr h => ?_), hm, F.kp, hb⟩
  · obtain ⟨a, d, rfl, _⟩ := h
    rfl
  obtain ⟨a, d, rfl, hd, q⟩ := h
  refine ⟨_, (pss_cons (ps_set (i := 1) sc_law_word.nd rfl (.inl rfl) pe_str)
    (pss_cons (ps_set (i := 2) sc_law_word.nd rfl (.inl rfl) (pe_ix ix_list (pe_lst (pa_cons pe_int (pa_cons pe_int (pa_cons (pe_op op_add pe_int (cal c_law_take hr rfl (pa_cons (pv 0) (pa_cons pe_int pa_nil)))) (pa_cons pe_int pa_nil))))) (cal c_law_take hr rfl (pa_cons (pv 0) (pa_cons pe_int pa_nil))) (fun _ _ => rfl)))
    (pss_cons (ps_set (i := 3) sc_law_word.nd rfl (.inl rfl) (pe_ix ix_str (pv 1) (cal c_law_take hr rfl (pa_cons (pv 0) (pa_cons pe_int pa_nil))) (fun _ _ => rfl)))
    (pss_cons (ps_for PassesOwn.never rfl (pi_range1 (by rfl) B.range (pa_cons (pe_op op_sub (pv 2) pe_int) pa_nil)) (pg_name (i := 4) sc_law_word.nd rfl (.inl rfl))
      (pss_one (ps_set (i := 3) sc_law_word.nd rfl (.inl rfl) (pe_op op_add_str (pv 3) (pe_ix ix_str (pe_op op_add_str (pv 1) pe_str) (cal c_law_take hr rfl (pa_cons (pv 0) (pa_cons pe_int pa_nil))) (fun _ _ => rfl))))))
    (pss_one (ps_ret (pv 3))))))), ?_⟩
  -- size
  refine ⟨_, rfl, a, d, 12, rfl, hd, by decide, fun i H1 i0 i1 k1 hd1 => ?_⟩
  refine ⟨1, i, rfl, rfl, by show (4 : Nat) ≤ sizeLine; decide, fun p np => ?_⟩
  refine ⟨_, rfl, a, d, 4, rfl, hd1.new np, by decide, fun j H2 j0 j1 k2 hd2 => ?_⟩
  have np0 : H p = none := k1.free np
  have pa : p ≠ a := (hd.neH np0).symm
  have pd : p ≠ d := (hd.neD np0).symm
  have hsz : ∃ z : Int, atI [V.int 1, V.int 2, V.int (1 + i), V.int 12] j = some (.int z) ∧ 1 ≤ z ∧ z ≤ 12 := by
    rcases four j0 j1 with rfl | rfl | rfl | rfl
    · exact ⟨1, rfl, by omega, by omega⟩
    · exact ⟨2, rfl, by omega, by omega⟩
    · exact ⟨1 + i, rfl, by omega, by omega⟩
    · exact ⟨12, rfl, by omega, by omega⟩
  obtain ⟨z, hz, z1, z2⟩ := hsz
  have k3 : Keep [a] H H2 := (k1.trans (Keep.new np)).trans k2
  refine ⟨p, _, j, _, rfl, rfl, SqL.of (k2.get upd_same (by simpa using pa)), hz, ?_⟩
  -- word = letters[..]
  refine ⟨_, rfl, _, rfl, a, d, 26, rfl, hd2, by decide, fun i2 H3 i20 i21 k4 hd3 => ?_⟩
  obtain ⟨c, hc, lc⟩ := letters_at i20 i21
  refine ⟨_, _, c, rfl, rfl, by decide +kernel, by rw [lit_letters]; exact hc, ?_⟩
  -- the loop
  refine ⟨_, rfl, _, _, rfl, rfl, _, rfl, by omega, by omega, ?_⟩
  refine for_range (lo := 0) (n := (z - 1).toNat) (fun i σ H' => ∃ y4 cs, σ = [some (.ref a), some (.str "abcdefghijklmnopqrstuvwxyz"), some (.int z), some (.str (tx (c :: cs))), y4] ∧ cs.length = i ∧ (∀ y ∈ cs, Sign y) ∧ Keep [a] H H' ∧ Hd H' a d)
    ⟨none, [], rfl, rfl, by simp, k3.trans k4, hd3⟩ (fun i σ H4 hi p => ?_) (fun σ H4 p => ?_)
  · obtain ⟨y4, cs, rfl, e1, e2, k5, hd4⟩ := p
    refine ⟨_, rfl, _, rfl, _, _, rfl, rfl, by decide +kernel, _, rfl, a, d, 36, rfl, hd4, by decide, fun i3 H5 i30 i31 k6 hd5 => ?_⟩
    obtain ⟨b, hb2, lb⟩ := signs_at i30 i31
    refine ⟨_, _, b, rfl, rfl, by decide +kernel, by rw [lit_letters, lit_digits, tx_app]; exact hb2, ?_⟩
    refine ⟨_, _, rfl, rfl, ?_, ?_⟩
    · rw [tx_len]
      show (c :: cs).length + 1 ≤ sizeLine
      rw [List.length_cons]
      exact sizeL (by omega)
    · have e : tx (c :: cs) ++ (⟨#[b]⟩ : Str) = tx (c :: (cs ++ [b])) := tx_app (c :: cs) [b]
      rw [e]
      refine ⟨_, cs ++ [b], rfl, by rw [List.length_append, e1]; rfl, ?_, k5.trans k6, hd5⟩
      · intro y hy
        rcases List.mem_append.mp hy with h | h
        · exact e2 y h
        · rw [List.mem_singleton] at h
          rw [h]
          exact lb
  · obtain ⟨y4, cs, rfl, e1, e2, k5, hd4⟩ := p
    refine ⟨_, rfl, ?_⟩
    exact q (c :: cs) H4 ⟨c, cs, rfl, lc, e2, by omega⟩ k5 hd4
end
end Og

namespace Og
open PySem PySem.Spec PyProof.Rows L2
/-! ### drawn trees -/
mutual
def WT : Tree → Prop
  | .w x => IsWord x
  | .l ts => WTs ts
def WTs : List Tree → Prop
  | [] => True
  | t :: ts => WT t ∧ WTs ts
end
mutual
def Tree.size : Tree → Nat
  | .w _ => 1
  | .l ts => sizes ts + 1
def sizes : List Tree → Nat
  | [] => 0
  | t :: ts => t.size + sizes ts
end
theorem wt_w {x : List Nat} (h : IsWord x) : WT (.w x) := by rw [WT]; exact h
theorem wt_l {ts : List Tree} (h : WTs ts) : WT (.l ts) := by rw [WT]; exact h
theorem WT.word {x : List Nat} (h : WT (.w x)) : IsWord x := by rw [WT] at h; exact h
theorem WT.list {ts : List Tree} (h : WT (.l ts)) : WTs ts := by rw [WT] at h; exact h
theorem wts_nil : WTs [] := by rw [WTs]; trivial
theorem wts_cons {t : Tree} {ts : List Tree} (h : WT t) (r : WTs ts) : WTs (t :: ts) := by rw [WTs]; exact ⟨h, r⟩
theorem WTs.head {t : Tree} {ts : List Tree} (h : WTs (t :: ts)) : WT t := by rw [WTs] at h; exact h.1
theorem WTs.tail {t : Tree} {ts : List Tree} (h : WTs (t :: ts)) : WTs ts := by rw [WTs] at h; exact h.2
theorem WTs.app : ∀ {ts us : List Tree}, WTs ts → WTs us → WTs (ts ++ us)
  | [], us, _, g => g
  | t :: ts, us, h, g => wts_cons h.head (WTs.app h.tail g)
theorem WTs.all : ∀ {ts : List Tree}, WTs ts → ∀ t ∈ ts, WT t
  | [], _, t, m => absurd m (List.not_mem_nil)
  | u :: ts, h, t, m => by
    rcases List.mem_cons.mp m with e | m
    · rw [e]; exact h.head
    · exact WTs.all h.tail t m
theorem WTs.of : ∀ {ts : List Tree}, (∀ t ∈ ts, WT t) → WTs ts
  | [], _ => wts_nil
  | u :: ts, h => wts_cons (h u (List.mem_cons_self ..)) (WTs.of fun t m => h t (List.mem_cons_of_mem _ m))
theorem size_w (x : List Nat) : (Tree.w x).size = 1 := by rw [Tree.size]
theorem size_l (ts : List Tree) : (Tree.l ts).size = sizes ts + 1 := by rw [Tree.size]
theorem sizes_nil : sizes [] = 0 := by rw [sizes]
theorem sizes_cons (t : Tree) (ts : List Tree) : sizes (t :: ts) = t.size + sizes ts := by rw [sizes]
theorem sizes_app : ∀ (ts us : List Tree), sizes (ts ++ us) = sizes ts + sizes us
  | [], us => by rw [List.nil_append, sizes_nil, Nat.zero_add]
  | t :: ts, us => by rw [List.cons_append, sizes_cons, sizes_cons, sizes_app ts us, Nat.add_assoc]
theorem size_pos : ∀ t : Tree, 0 < t.size
  | .w x => by rw [size_w]; omega
  | .l ts => by rw [size_l]; omega
theorem len_sizes : ∀ ts : List Tree, ts.length ≤ sizes ts
  | [] => by rw [sizes_nil]; exact Nat.le_refl _
  | t :: ts => by
    have h := len_sizes ts
    have h2 := size_pos t
    rw [sizes_cons, List.length_cons]
    omega
theorem sizes_take : ∀ (ts : List Tree) (n : Nat), sizes (ts.take n) ≤ sizes ts
  | ts, 0 => by rw [List.take_zero, sizes_nil]; omega
  | [], n + 1 => by rw [List.take_nil]; omega
  | t :: ts, n + 1 => by
    rw [List.take_succ_cons, sizes_cons, sizes_cons]
    have := sizes_take ts n
    omega
theorem sizes_drop : ∀ (ts : List Tree) (n : Nat), sizes (ts.drop n) ≤ sizes ts
  | ts, 0 => by rw [List.drop_zero]; omega
  | [], n + 1 => by rw [List.drop_nil]; omega
  | t :: ts, n + 1 => by
    rw [List.drop_succ_cons, sizes_cons]
    have := sizes_drop ts n
    omega
theorem size_of_get {ts : List Tree} {i : Nat} {t : Tree} (h : ts[i]? = some t) : t.size ≤ sizes ts := by
  induction ts generalizing i with
  | nil => simp at h
  | cons u r ih =>
    rw [sizes_cons]
    cases i with
    | zero =>
      have e : u = t := Option.some.inj h
      rw [e]
      omega
    | succ j =>
      have := ih (i := j) h
      omega
/-- how many parts a drawn value has at most -/
def Most : Nat → Nat
  | 0 => 1
  | n + 1 => 1 + 11 * Most n
/-- nested at most n deep -/
def Deep : Nat → Tree → Prop
  | _, .w _ => True
  | 0, .l _ => False
  | n + 1, .l ts => ∀ t ∈ ts, Deep n t
theorem deep_w (n : Nat) (x : List Nat) : Deep n (.w x) := by cases n <;> trivial
theorem Deep.mono : ∀ {m n : Nat} {t : Tree}, m ≤ n → Deep m t → Deep n t
  | _, n, .w x, _, _ => deep_w n x
  | 0, _, .l _, _, h => h.elim
  | m + 1, 0, .l _, l, _ => absurd l (by omega)
  | m + 1, n + 1, .l ts, l, h => fun t q => Deep.mono (Nat.le_of_succ_le_succ l) (h t q)
def Drawn (n : Nat) (t : Tree) : Prop := WT t ∧ t.size ≤ Most n ∧ Deep n t
theorem Most.le (n : Nat) : Most n ≤ Most (n + 1) := by rw [show Most (n + 1) = 1 + 11 * Most n from rfl]; omega
theorem Most.mono {m n : Nat} (h : m ≤ n) : Most m ≤ Most n := by
  induction h with
  | refl => exact Nat.le_refl _
  | step _ ih => exact Nat.le_trans ih (Most.le _)
theorem most_pos (n : Nat) : 1 ≤ Most n := by
  have := Most.mono (Nat.zero_le n)
  exact this
theorem sizes_le {ts : List Tree} {b : Nat} (h : ∀ t ∈ ts, t.size ≤ b) : sizes ts ≤ ts.length * b := by
  induction ts with
  | nil => rw [sizes_nil]; omega
  | cons t r ih =>
    have h1 := h t (List.mem_cons_self ..)
    have h2 := ih fun u m => h u (List.mem_cons_of_mem _ m)
    rw [sizes_cons, List.length_cons, Nat.add_mul]
    omega
section
variable {P : Program} {w : World} {K : PySem.W.Frag} {mg : Str → Option Value} {base : Heap}
def spValue (K : PySem.W.Frag) (n : Nat) : Sp := fun vs H Q _ => ∃ (h d : Addr), vs = [.ref h, .int n] ∧ Hd H h d ∧
  ∀ (v : V) (t : Tree) (H' : Hp), Tr K H' v t → Drawn n t → Keep [h] H H' → Hd H' h d → Q v H'
theorem has_value {k : Nat} (D : DefAt K mg "_law_value" s_law_value p_law_value) (B : Bn mg) (c1 : Has P w K mg base k "_law_take" p_law_take spTake) (c2 : Has P w K mg base k "_law_word" p_law_word spWord) :
    ∃ f fd, ∀ n, Callee P w K mg base CX0 (k + n + 1) "_law_value" f fd p_law_value (spValue K n) := by
  obtain ⟨f, fd, F, hm, hb⟩ := D.ex
  have all : ∀ n, FnOk P w K mg base CX0 (k + n + 1) f fd p_law_value (spValue K n) := fun n => by
    induction n with
    | zero =>
      obtain ⟨_, _, c_law_take⟩ := c1
      obtain ⟨_, _, c_law_word⟩ := c2
      have c_law_value : Callee P w K mg base CX0 k "_law_value" f fd p_law_value (fun _ _ _ _ => False) := ⟨⟨fun _ _ _ _ h => h.elim, fun _ _ _ _ _ _ _ _ _ _ _ _ _ h => h.elim⟩, hm, F.kp, hb⟩
      refine F.ok sc_law_value (fun vs H Q E h => ?_) (fun cdv A outer s H vs Q E hr h => ?_)
      · obtain ⟨a, d, rfl, _⟩ := h
        rfl
      obtain ⟨a, d, rfl, hd, q⟩ := h
      refine ⟨_, (pss_cons (ps_if (PW.pt (pw_or (pt_cmpR op_eq (pv 1) pe_int (nomark _)) (pw_or1 (pt_cmpR op_eq (cal c_law_take hr rfl (pa_cons (pv 0) (pa_cons pe_int pa_nil))) pe_int (nomark _))))) (pss_one (ps_ret (cal c_law_word hr rfl (pa_cons (pv 0) pa_nil)))) pss_nil)
    (pss_cons (ps_set (i := 2) sc_law_value.nd rfl (.inl rfl) (pe_ix ix_list (pe_lst (pa_cons (cal c_law_take hr rfl (pa_cons (pv 0) (pa_cons pe_int pa_nil))) (pa_cons (cal c_law_take hr rfl (pa_cons (pv 0) (pa_cons pe_int pa_nil))) pa_nil))) (pe_op op_fdiv (cal c_law_take hr rfl (pa_cons (pv 0) (pa_cons pe_int pa_nil))) pe_int) (fun _ _ => rfl)))
    (pss_one (ps_ret (pe_callTy call_tuple_of (by rfl) B.tuple (by decide +kernel) (pa_cons (pe_lc (own := [("k", 3)]) (g := gName 3) (tt := tYes) rfl sc_law_value.nd (pi_range1 (by rfl) B.range (pa_cons (pv 2) pa_nil)) (blkOk_by (N := n_law_value) (sc := defScope s_law_value) (by decide +kernel)) (fun _ _ _ _ _ => pg_name (i := 3) sc_law_value.nd rfl (Or.inl rfl)) (fun _ _ _ _ _ => pts_nil) (fun _ _ _ _ _ => (cal c_law_value hr rfl (pa_cons (pv 0) (pa_cons (pe_op op_sub (pv 1) pe_int) pa_nil))))) pa_nil)))))), ?_⟩
      refine ⟨_, rfl, rfl, _, rfl, iteT (iteT ?_)⟩
      exact ⟨_, rfl, a, d, rfl, hd, fun x H1 wx k1 hd1 => q _ _ _ tr_w ⟨wt_w wx, by rw [size_w]; exact most_pos 0, deep_w _ _⟩ k1 hd1⟩
    | succ n ih =>
      obtain ⟨_, _, c_law_take⟩ := c1.mono (show k ≤ k + n + 1 by omega)
      obtain ⟨_, _, c_law_word⟩ := c2.mono (show k ≤ k + n + 1 by omega)
      have c_law_value : Callee P w K mg base CX0 (k + n + 1) "_law_value" f fd p_law_value (spValue K n) := ⟨ih, hm, F.kp, hb⟩
      refine F.ok sc_law_value (fun vs H Q E h => ?_) (fun cdv A outer s H vs Q E hr h => ?_)
      · obtain ⟨a, d, rfl, _⟩ := h
        rfl
      obtain ⟨a, d, rfl, hd, q⟩ := h
      refine ⟨_, (pss_cons (ps_if (PW.pt (pw_or (pt_cmpR op_eq (pv 1) pe_int (nomark _)) (pw_or1 (pt_cmpR op_eq (cal c_law_take hr rfl (pa_cons (pv 0) (pa_cons pe_int pa_nil))) pe_int (nomark _))))) (pss_one (ps_ret (cal c_law_word hr rfl (pa_cons (pv 0) pa_nil)))) pss_nil)
    (pss_cons (ps_set (i := 2) sc_law_value.nd rfl (.inl rfl) (pe_ix ix_list (pe_lst (pa_cons (cal c_law_take hr rfl (pa_cons (pv 0) (pa_cons pe_int pa_nil))) (pa_cons (cal c_law_take hr rfl (pa_cons (pv 0) (pa_cons pe_int pa_nil))) pa_nil))) (pe_op op_fdiv (cal c_law_take hr rfl (pa_cons (pv 0) (pa_cons pe_int pa_nil))) pe_int) (fun _ _ => rfl)))
    (pss_one (ps_ret (pe_callTy call_tuple_of (by rfl) B.tuple (by decide +kernel) (pa_cons (pe_lc (own := [("k", 3)]) (g := gName 3) (tt := tYes) rfl sc_law_value.nd (pi_range1 (by rfl) B.range (pa_cons (pv 2) pa_nil)) (blkOk_by (N := n_law_value) (sc := defScope s_law_value) (by decide +kernel)) (fun _ _ _ _ _ => pg_name (i := 3) sc_law_value.nd rfl (Or.inl rfl)) (fun _ _ _ _ _ => pts_nil) (fun _ _ _ _ _ => (cal c_law_value hr rfl (pa_cons (pv 0) (pa_cons (pe_op op_sub (pv 1) pe_int) pa_nil))))) pa_nil)))))), ?_⟩
      have word : ∀ H1, Keep [a] H H1 → Hd H1 a d → spWord [.ref a] H1 Q E0 := fun H1 k1 hd1 => ⟨a, d, rfl, hd1, fun x H2 wx k2 hd2 => q _ _ _ tr_w ⟨wt_w wx, by rw [size_w]; exact most_pos _, deep_w _ _⟩ (k1.trans k2) hd2⟩
      refine ⟨_, rfl, rfl, _, rfl, ite2 (fun c => iteT ⟨_, rfl, word _ Keep.refl hd⟩) (fun c => ?_)⟩
      refine ⟨_, rfl, a, d, 3, rfl, hd, by decide, fun i H1 i0 i1 k1 hd1 => ?_⟩
      refine ⟨rfl, _, rfl, ite2 (fun c => ⟨_, rfl, word _ k1 hd1⟩) (fun c => ?_)⟩
      refine ⟨_, rfl, a, d, 5, rfl, hd1, by decide, fun i5 H2 i50 i51 k2 hd2 => ?_⟩
      refine ⟨_, rfl, a, d, 12, rfl, hd2, by decide, fun i12 H3 i120 i121 k3 hd3 => ?_⟩
      refine ⟨by show (2 : Nat) ≤ sizeLine; decide, fun p np => ?_⟩
      refine ⟨_, rfl, a, d, 4, rfl, hd3.new np, by decide, fun j H4 j0 j1 k4 hd4 => ?_⟩
      have kk : Keep [a] H H3 := (k1.trans k2).trans k3
      have pa : p ≠ a := (hd3.neH np).symm
      have k5 : Keep [a] H H4 := (kk.trans (Keep.new np)).trans k4
      have hz : ∃ z : Int, atI [V.int i5, V.int i12] (j / 3) = some (.int z) ∧ 0 ≤ z ∧ z ≤ 11 := by
        rcases four j0 j1 with rfl | rfl | rfl | rfl
        · exact ⟨i5, rfl, by omega, by omega⟩
        · exact ⟨i5, rfl, by omega, by omega⟩
        · exact ⟨i5, rfl, by omega, by omega⟩
        · exact ⟨i12, rfl, by omega, by omega⟩
      obtain ⟨z, hz, z0, z1⟩ := hz
      refine ⟨_, _, rfl, rfl, ⟨by decide, by decide⟩, p, _, _, _, rfl, rfl, SqL.of (k4.get upd_same (by simpa using pa)), hz, ?_⟩
      refine ⟨_, rfl, z, rfl, by omega, by omega, fun L nL => ?_⟩
      have La : L ≠ a := (hd4.neH nL).symm
      have Ld : L ≠ d := (hd4.neD nL).symm
      have nL0 : H L = none := k5.free nL
      refine lc_range (lo := 0) (n := z.toNat) (fun i H' => ∃ vs ts, H' L = some (.lst vs) ∧ Trs K H' vs ts ∧ ts.length = i ∧ (∀ t ∈ ts, Drawn n t) ∧ Keep [a] H H' ∧ Hd H' a d)
        ⟨[], [], upd_same, trs_nil, rfl, by simp, k5.newT nL, hd4.new nL⟩ (fun i H5 hi p => ?_) (fun H5 p => ?_)
      · obtain ⟨vs, ts, e1, e2, e3, e4, k6, hd5⟩ := p
        refine ⟨rfl, yes ?_⟩
        refine ⟨_, rfl, _, rfl, _, _, rfl, rfl, a, d, ?_, hd5, fun v t H6 tv dt k7 hd6 => ?_⟩
        · show [V.ref a, V.int ((((n + 1 : Nat)) : Int) - 1)] = [V.ref a, V.int (n : Int)]
          rw [show (((n + 1 : Nat)) : Int) - 1 = (n : Int) by omega]
        have e1' : H6 L = some (.lst vs) := k7.get e1 (by simpa using La)
        have k8 : Keep [L] H6 (upd H6 L (.lst (vs ++ [v]))) := Keep.set e1' (List.mem_cons_self ..)
        refine ⟨vs, e1', ?_, vs ++ [v], ts ++ [t], upd_same, (e2.keep k7 |>.append (trs_cons tv trs_nil)).keep k8, by rw [List.length_append, e3]; rfl, ?_, ((k6.trans k7).cons.trans (k8.mono (by simp))).drop nL0, hd6.upd La.symm Ld.symm⟩
        · rw [e2.length]
          exact sizeLt (by omega)
        · intro u hu
          rcases List.mem_append.mp hu with m | m
          · exact e4 u m
          · rw [List.mem_singleton.mp m]
            exact dt
      · obtain ⟨vs, ts, e1, e2, e3, e4, k6, hd5⟩ := p
        refine ⟨L, vs, rfl, .inl ⟨SqL.of e1, fun T nT => ?_⟩⟩
        refine q _ (.l ts) _ (tr_tup upd_same (e2.keep (Keep.new (S := []) nT))) ⟨wt_l (WTs.of fun t m => (e4 t m).1), ?_, fun t m => (e4 t m).2.2⟩ (k6.newT nT) (hd5.new nT)
        rw [size_l]
        have := sizes_le fun t m => (e4 t m).2.1
        have l : ts.length ≤ 11 := by omega
        have := Nat.mul_le_mul_right (Most n) l
        rw [show Most (n + 1) = 1 + 11 * Most n from rfl]
        omega
  exact ⟨f, fd, fun n => ⟨all n, hm, F.kp, hb⟩⟩
end
end Og

namespace Og
open PySem PySem.Spec PyProof.Rows L2
/-! ### the text of a tree -/
mutual
def txt : Tree → List Nat
  | .w x => x
  | .l [] => [40, 41]
  | .l (t :: r) => 40 :: (txt t ++ seps r ++ [41])
def seps : List Tree → List Nat
  | [] => []
  | t :: r => 32 :: (txt t ++ seps r)
end
def txts : List Tree → List Nat
  | [] => []
  | t :: r => txt t ++ seps r
theorem txt_w (x : List Nat) : txt (.w x) = x := by rw [txt]
theorem txt_l (ts : List Tree) : txt (.l ts) = 40 :: (txts ts ++ [41]) := by
  cases ts with
  | nil => rw [txt]; rfl
  | cons t r => rw [txt]; rfl
theorem seps_nil : seps [] = [] := by rw [seps]
theorem seps_cons (t : Tree) (r : List Tree) : seps (t :: r) = 32 :: (txt t ++ seps r) := by rw [seps]
theorem seps_app : ∀ a b : List Tree, seps (a ++ b) = seps a ++ seps b
  | [], b => by rw [seps_nil]; rfl
  | t :: a, b => by rw [List.cons_append, seps_cons, seps_cons, seps_app a b, List.cons_append, List.append_assoc]
theorem join_sp : ∀ (t : Tree) (r : List Tree), Str.join (tx [32]) ((t :: r).map fun u => tx (txt u)) = tx (txt t ++ seps r)
  | t, [] => by rw [seps_nil, List.append_nil]; rfl
  | t, u :: r => by
    have h := join_sp u r
    rw [List.map_cons] at h
    rw [List.map_cons, List.map_cons]
    show tx (txt t) ++ tx [32] ++ Str.join (tx [32]) (tx (txt u) :: r.map fun u => tx (txt u)) = _
    rw [h, tx_app, tx_app, seps_cons, List.append_assoc]
    rfl
theorem join_txts (ts : List Tree) : Str.join (tx [32]) (ts.map fun u => tx (txt u)) = tx (txts ts) := by
  cases ts with
  | nil => rfl
  | cons t r => exact join_sp t r
theorem join_nil : ∀ ys : List (List Nat), Str.join (tx []) (ys.map tx) = tx ys.flatten
  | [] => rfl
  | [y] => by
    rw [List.flatten_cons, List.flatten_nil, List.append_nil]; rfl
  | y :: z :: r => by
    have h := join_nil (z :: r)
    rw [List.map_cons] at h
    rw [List.map_cons, List.map_cons]
    show tx y ++ tx [] ++ Str.join (tx []) (tx z :: r.map tx) = _
    rw [h, tx_app, tx_app, List.append_nil, List.flatten_cons (l := y)]
theorem IsWord.ne {x : List Nat} (h : IsWord x) : x ≠ [] := by
  obtain ⟨c, cs, rfl, _⟩ := h
  simp
theorem IsWord.len {x : List Nat} (h : IsWord x) : x.length ≤ 12 := by
  obtain ⟨c, cs, rfl, _, _, l⟩ := h
  rw [List.length_cons]
  omega
theorem txt_pos : ∀ {t : Tree}, WT t → 0 < (txt t).length
  | .w x, h => by rw [txt_w]; exact List.length_pos_iff.mpr h.word.ne
  | .l ts, _ => by rw [txt_l, List.length_cons]; omega
mutual
theorem txt_len : ∀ {t : Tree}, WT t → (txt t).length + 1 ≤ 14 * t.size
  | .w x, h => by
    rw [txt_w, size_w]
    have := h.word.len
    omega
  | .l [], _ => by
    rw [txt, size_l, sizes_nil]
    show 2 + 1 ≤ _
    omega
  | .l (t :: r), h => by
    have h1 := txt_len h.list.head
    have h2 := seps_len h.list.tail
    rw [txt, size_l, sizes_cons, List.length_cons, List.length_append, List.length_append, List.length_singleton]
    omega
theorem seps_len : ∀ {ts : List Tree}, WTs ts → (seps ts).length ≤ 14 * sizes ts
  | [], _ => by rw [seps_nil]; exact Nat.zero_le _
  | t :: r, h => by
    have h1 := txt_len h.head
    have h2 := seps_len h.tail
    rw [seps_cons, sizes_cons, List.length_cons, List.length_append]
    omega
end
/-! ### tokens, and texts that hold them with blanks between -/
mutual
def toks : Tree → List (List Nat)
  | .w x => [x]
  | .l ts => [40] :: (tokss ts ++ [[41]])
def tokss : List Tree → List (List Nat)
  | [] => []
  | t :: r => toks t ++ tokss r
end
theorem toks_w (x : List Nat) : toks (.w x) = [x] := by rw [toks]
theorem toks_l (ts : List Tree) : toks (.l ts) = [40] :: (tokss ts ++ [[41]]) := by rw [toks]
theorem tokss_nil : tokss [] = [] := by rw [tokss]
theorem tokss_cons (t : Tree) (r : List Tree) : tokss (t :: r) = toks t ++ tokss r := by rw [tokss]
theorem tokss_app : ∀ a b : List Tree, tokss (a ++ b) = tokss a ++ tokss b
  | [], b => by rw [tokss_nil]; rfl
  | t :: a, b => by rw [List.cons_append, tokss_cons, tokss_cons, tokss_app a b, List.append_assoc]
def Blanks (g : List Nat) : Prop := ∀ b ∈ g, b = 32 ∨ b = 10
/-- what stands behind a word without a blank begins with no sign -/
def Free (cs : List Nat) : Prop := ∀ c r, cs = c :: r → ¬ Sign c
/-- cs, which begins with no blank, holds the tokens -/
def Rest : List Nat → List (List Nat) → Prop
  | cs, [] => cs = []
  | cs, t :: r => ∃ g cs', cs = t ++ (g ++ cs') ∧ Blanks g ∧ (IsWord t → g = [] → Free cs') ∧ Rest cs' r
/-- s follows a token (a word or not) and holds the tokens r -/
def After (word : Bool) (s : List Nat) (r : List (List Nat)) : Prop := ∃ g cs', s = g ++ cs' ∧ Blanks g ∧ (word = true → g = [] → Free cs') ∧ Rest cs' r
theorem blanks_nil : Blanks [] := fun b h => absurd h (List.not_mem_nil)
theorem not_word40 : ¬ IsWord [40] := fun ⟨c, cs, e, h, _⟩ => by
  have e1 := (List.cons.inj e).1
  have := h.1
  omega
theorem not_word41 : ¬ IsWord [41] := fun ⟨c, cs, e, h, _⟩ => by
  have e1 := (List.cons.inj e).1
  have := h.1
  omega
theorem After.word {x s : List Nat} {r : List (List Nat)} (h : After true s r) : Rest (x ++ s) (x :: r) := by
  obtain ⟨g, cs', rfl, b, f, q⟩ := h
  exact ⟨g, cs', rfl, b, fun _ => f rfl, q⟩
theorem After.paren {x s : List Nat} {r : List (List Nat)} (n : ¬ IsWord x) (h : After false s r) : Rest (x ++ s) (x :: r) := by
  obtain ⟨g, cs', rfl, b, f, q⟩ := h
  exact ⟨g, cs', rfl, b, fun z => absurd z n, q⟩
theorem Rest.after {cs : List Nat} {r : List (List Nat)} (h : Rest cs r) : After false cs r := ⟨[], cs, rfl, blanks_nil, fun z => Bool.noConfusion z, h⟩
theorem After.weak {s : List Nat} {r : List (List Nat)} (h : After true s r) : After false s r := by
  obtain ⟨g, cs', e, b, f, q⟩ := h
  exact ⟨g, cs', e, b, fun z => Bool.noConfusion z, q⟩
theorem free41 (s : List Nat) : Free (41 :: s) := fun c r e h => by
  cases e
  rcases h with ⟨h, _⟩ | ⟨h, _⟩ <;> omega
mutual
theorem rest_txt : ∀ {t : Tree} {s : List Nat} {r : List (List Nat)}, WT t → After true s r → Rest (txt t ++ s) (toks t ++ r)
  | .w x, s, r, h, a => by
    rw [txt_w, toks_w]
    exact a.word
  | .l [], s, r, h, a => by
    rw [txt, toks_l, tokss_nil]
    exact After.paren (x := [40]) (s := 41 :: s) not_word40 (Rest.after (After.paren (x := [41]) not_word41 a.weak))
  | .l (t :: l), s, r, h, a => by
    rw [txt, toks_l, tokss_cons]
    have h1 := rest_seps (ts := l) (s := s) h.list.tail a
    have h2 := rest_txt (t := t) h.list.head h1
    have e1 : 40 :: (txt t ++ seps l ++ [41]) ++ s = [40] ++ (txt t ++ (seps l ++ (41 :: s))) := by simp
    have e2 : [40] :: (toks t ++ tokss l ++ [[41]]) ++ r = [40] :: (toks t ++ (tokss l ++ ([41] :: r))) := by simp
    rw [e1, e2]
    exact After.paren not_word40 h2.after
theorem rest_seps : ∀ {ts : List Tree} {s : List Nat} {r : List (List Nat)}, WTs ts → After true s r → After true (seps ts ++ (41 :: s)) (tokss ts ++ ([41] :: r))
  | [], s, r, h, a => by
    rw [seps_nil, tokss_nil]
    exact ⟨[], 41 :: s, rfl, blanks_nil, fun _ _ => free41 s, After.paren (x := [41]) not_word41 a.weak⟩
  | t :: l, s, r, h, a => by
    have h1 := rest_seps (ts := l) (s := s) h.tail a
    have h2 := rest_txt (t := t) h.head h1
    rw [seps_cons, tokss_cons]
    refine ⟨[32], txt t ++ (seps l ++ (41 :: s)), by simp, fun b hb => .inl (List.mem_singleton.mp hb), fun _ z => absurd z (by simp), ?_⟩
    rw [List.append_assoc]
    exact h2
end
theorem rest_of_txt {t : Tree} (h : WT t) : Rest (txt t) (toks t) := by
  have q := rest_txt (t := t) (s := []) (r := []) h ⟨[], [], rfl, blanks_nil, fun _ _ c r e => (by cases e), rfl⟩
  rw [List.append_nil, List.append_nil] at q
  exact q
/-! ### the reader over tokens: the lists that are open, the innermost first (without the one that takes the whole) -/
def reads : List (List Nat) → List (List Tree) → Option Tree
  | [], _ => none
  | t :: r, st =>
    if t = [40] then reads r ([] :: st)
    else if t = [41] then
      match st with
      | [] => none
      | [l] => if r = [] then some (.l l) else none
      | l :: l2 :: st => reads r ((l2 ++ [.l l]) :: st)
    else
      match st with
      | [] => if r = [] then some (.w t) else none
      | l :: st => reads r ((l ++ [.w t]) :: st)
theorem reads_open (r : List (List Nat)) (st : List (List Tree)) : reads ([40] :: r) st = reads r ([] :: st) := by
  conv => lhs; unfold reads
  rw [if_pos rfl]
theorem reads_close (r : List (List Nat)) (l l2 : List Tree) (st : List (List Tree)) : reads ([41] :: r) (l :: l2 :: st) = reads r ((l2 ++ [.l l]) :: st) := by
  conv => lhs; unfold reads
  rw [if_neg (by decide), if_pos rfl]
theorem reads_close1 (r : List (List Nat)) (l : List Tree) : reads ([41] :: r) [l] = if r = [] then some (.l l) else none := by
  conv => lhs; unfold reads
  rw [if_neg (by decide), if_pos rfl]
theorem reads_close0 (r : List (List Nat)) : reads ([41] :: r) [] = none := by
  conv => lhs; unfold reads
  rw [if_neg (by decide), if_pos rfl]
theorem reads_word {x : List Nat} (h1 : x ≠ [40]) (h2 : x ≠ [41]) (r : List (List Nat)) (l : List Tree) (st : List (List Tree)) : reads (x :: r) (l :: st) = reads r ((l ++ [.w x]) :: st) := by
  conv => lhs; unfold reads
  rw [if_neg h1, if_neg h2]
theorem reads_word0 {x : List Nat} (h1 : x ≠ [40]) (h2 : x ≠ [41]) (r : List (List Nat)) : reads (x :: r) [] = if r = [] then some (.w x) else none := by
  conv => lhs; unfold reads
  rw [if_neg h1, if_neg h2]
theorem word_ne {x : List Nat} (h : IsWord x) : x ≠ [40] ∧ x ≠ [41] := ⟨fun e => not_word40 (e ▸ h), fun e => not_word41 (e ▸ h)⟩
mutual
theorem reads_in : ∀ {t : Tree} {r : List (List Nat)} {l : List Tree} {st : List (List Tree)}, WT t → reads (toks t ++ r) (l :: st) = reads r ((l ++ [t]) :: st)
  | .w x, r, l, st, h => by
    have n := word_ne h.word
    rw [toks_w, List.singleton_append, reads_word n.1 n.2]
  | .l ts, r, l, st, h => by
    rw [toks_l, List.cons_append, reads_open, List.append_assoc, reads_ins h.list, List.nil_append, List.singleton_append, reads_close]
theorem reads_ins : ∀ {ts : List Tree} {r : List (List Nat)} {l : List Tree} {st : List (List Tree)}, WTs ts → reads (tokss ts ++ r) (l :: st) = reads r ((l ++ ts) :: st)
  | [], r, l, st, h => by rw [tokss_nil, List.append_nil, List.nil_append]
  | t :: ts, r, l, st, h => by
    rw [tokss_cons, List.append_assoc, reads_in h.head, reads_ins h.tail, List.append_assoc]
    rfl
end
theorem reads_whole : ∀ {t : Tree}, WT t → reads (toks t) [] = some t
  | .w x, h => by
    have n := word_ne h.word
    rw [toks_w, reads_word0 n.1 n.2]
    rfl
  | .l ts, h => by
    rw [toks_l, reads_open, reads_ins h.list, List.nil_append, reads_close1]
    rfl
/-- a token of a tree -/
def IsTok (x : List Nat) : Prop := x = [40] ∨ x = [41] ∨ IsWord x
mutual
theorem toks_all : ∀ {t : Tree}, WT t → ∀ x ∈ toks t, IsTok x
  | .w x, h, y, m => by
    rw [toks_w] at m
    rw [List.mem_singleton.mp m]
    exact .inr (.inr h.word)
  | .l ts, h, y, m => by
    rw [toks_l] at m
    rcases List.mem_cons.mp m with e | m
    · exact .inl e
    · rcases List.mem_append.mp m with m | m
      · exact tokss_all h.list y m
      · exact .inr (.inl (List.mem_singleton.mp m))
theorem tokss_all : ∀ {ts : List Tree}, WTs ts → ∀ x ∈ tokss ts, IsTok x
  | [], h, y, m => by rw [tokss_nil] at m; cases m
  | t :: ts, h, y, m => by
    rw [tokss_cons] at m
    rcases List.mem_append.mp m with m | m
    · exact toks_all h.head y m
    · exact tokss_all h.tail y m
end
theorem IsTok.ne {x : List Nat} (h : IsTok x) : x ≠ [] := by
  rcases h with rfl | rfl | h
  · simp
  · simp
  · exact h.ne
theorem IsTok.first {x : List Nat} (h : IsTok x) : ∃ c r, x = c :: r ∧ c ≠ 32 ∧ c ≠ 10 := by
  rcases h with rfl | rfl | ⟨c, r, rfl, hc, _⟩
  · exact ⟨40, [], rfl, by decide, by decide⟩
  · exact ⟨41, [], rfl, by decide, by decide⟩
  · have := hc.1
    exact ⟨c, r, rfl, by omega, by omega⟩
theorem IsTok.word {x : List Nat} (h : IsTok x) (h1 : x ≠ [40]) (h2 : x ≠ [41]) : IsWord x := by
  rcases h with e | e | h
  · exact absurd e h1
  · exact absurd e h2
  · exact h
/-- a text that holds tokens begins with no blank -/
def NoBlank (cs : List Nat) : Prop := ∀ c r, cs = c :: r → c ≠ 32 ∧ c ≠ 10
theorem Rest.noBlank {cs : List Nat} {r : List (List Nat)} (h : Rest cs r) (ht : ∀ x ∈ r, IsTok x) : NoBlank cs := by
  intro c r' e
  cases r with
  | nil =>
    rw [show cs = [] from h] at e
    cases e
  | cons t r =>
    obtain ⟨g, cs', rfl, _⟩ := h
    obtain ⟨d, q, rfl, h1, h2⟩ := (ht t (List.mem_cons_self ..)).first
    rw [List.cons_append] at e
    have := (List.cons.inj e).1
    rw [← this]
    exact ⟨h1, h2⟩
end Og

namespace Og
open PySem PySem.Spec PyProof.Rows L2
theorem lit_open : ("(" : Str) = tx [40] := by decide +kernel
theorem lit_close : (")" : Str) = tx [41] := by decide +kernel
theorem lit_blank : (" " : Str) = tx [32] := by decide +kernel
theorem lit_nl : ("\n" : Str) = tx [10] := by decide +kernel
theorem lit_empty : ("" : Str) = tx [] := by decide +kernel
theorem seps_ge : ∀ ts : List Tree, ((ts.map fun u => (tx (txt u)).length).sum + ts.length) = (seps ts).length
  | [] => by rw [seps_nil]; rfl
  | t :: r => by
    have h := seps_ge r
    rw [List.map_cons, List.sum_cons, List.length_cons, seps_cons, List.length_cons, List.length_append, tx_len]
    omega
theorem txts_seps (ts : List Tree) : (seps ts).length ≤ (txts ts).length + 1 := by
  cases ts with
  | nil => rw [seps_nil]; exact Nat.zero_le _
  | cons t r => rw [seps_cons, List.length_cons]; exact Nat.le_refl _
theorem le_sum_of {x : Nat} : ∀ {xs : List Nat}, x ∈ xs → x ≤ xs.sum
  | [], h => absurd h (List.not_mem_nil)
  | y :: r, h => by
    rw [List.sum_cons]
    rcases List.mem_cons.mp h with e | h
    · omega
    · have := le_sum_of h
      omega
section
variable {P : Program} {w : World} {K : PySem.W.Frag} {mg : Str → Option Value} {base : Heap}
def spText (K : PySem.W.Frag) (n : Nat) : Sp := fun vs H Q _ => ∃ (v : V) (t : Tree), vs = [v] ∧ Tr K H v t ∧ WT t ∧ Deep n t ∧ (txt t).length ≤ 1000000 ∧
  ∀ (H' : Hp), Keep [] H H' → Q (.str (tx (txt t))) H'
theorem has_text {k : Nat} (D : DefAt K mg "_law_text" s_law_text p_law_text) (B : Bn mg) : ∀ n, Has P w K mg base (k + n + 1) "_law_text" p_law_text (spText K n) := by
  obtain ⟨f, fd, F, hm, hb⟩ := D.ex
  have all : ∀ n, FnOk P w K mg base CX0 (k + n + 1) f fd p_law_text (spText K n) := fun n => by
    induction n with
    | zero =>
      have c_law_text : Callee P w K mg base CX0 k "_law_text" f fd p_law_text (fun _ _ _ _ => False) := ⟨⟨fun _ _ _ _ h => h.elim, fun _ _ _ _ _ _ _ _ _ _ _ _ _ h => h.elim⟩, hm, F.kp, hb⟩
      refine F.ok sc_law_text (fun vs H Q E h => ?_) (fun cdv A outer s H vs Q E hr h => ?_)
      · obtain ⟨a, d, rfl, _⟩ := h
        rfl
      obtain ⟨v, t, rfl, tv, wt, dp, sz, q⟩ := h
      refine ⟨_, (pss_cons (ps_if (pt_val (pe_callB call_isi (by rfl) B.isinstance (by decide +kernel) (pa_cons (pv 0) (pa_cons (pe_bltn (v := .ty "str") rfl B.str (by decide +kernel) rfl) pa_nil)))) (pss_one (ps_ret (pv 0))) pss_nil)
    (pss_one (ps_ret (pe_op op_add_str (pe_op op_add_str pe_str (pe_join pe_str (pe_lc (own := [("one", 1)]) (g := gName 1) (tt := tYes) rfl sc_law_text.nd (pi_tup (pv 0)) (blkOk_by (N := n_law_text) (sc := defScope s_law_text) (by decide +kernel)) (fun _ _ _ _ _ => pg_name (i := 1) sc_law_text.nd rfl (Or.inl rfl)) (fun _ _ _ _ _ => pts_nil) (fun _ _ _ _ _ => (cal c_law_text hr rfl (pa_cons (pv 1) pa_nil)))))) pe_str)))), ?_⟩
      cases t with
      | l ts => exact dp.elim
      | w x =>
        obtain ⟨ty, u, q1, q2, q3⟩ := isi_str tv
        refine ⟨_, rfl, _, _, ty, u, _, rfl, q1, q2, q3, _, rfl, iteT ⟨_, rfl, ?_⟩⟩
        rw [tv.word]
        rw [txt_w] at q
        exact q _ Keep.refl
    | succ n ih =>
      have c_law_text : Callee P w K mg base CX0 (k + n + 1) "_law_text" f fd p_law_text (spText K n) := ⟨ih, hm, F.kp, hb⟩
      refine F.ok sc_law_text (fun vs H Q E h => ?_) (fun cdv A outer s H vs Q E hr h => ?_)
      · obtain ⟨a, d, rfl, _⟩ := h
        rfl
      obtain ⟨v, t, rfl, tv, wt, dp, sz, q⟩ := h
      refine ⟨_, (pss_cons (ps_if (pt_val (pe_callB call_isi (by rfl) B.isinstance (by decide +kernel) (pa_cons (pv 0) (pa_cons (pe_bltn (v := .ty "str") rfl B.str (by decide +kernel) rfl) pa_nil)))) (pss_one (ps_ret (pv 0))) pss_nil)
    (pss_one (ps_ret (pe_op op_add_str (pe_op op_add_str pe_str (pe_join pe_str (pe_lc (own := [("one", 1)]) (g := gName 1) (tt := tYes) rfl sc_law_text.nd (pi_tup (pv 0)) (blkOk_by (N := n_law_text) (sc := defScope s_law_text) (by decide +kernel)) (fun _ _ _ _ _ => pg_name (i := 1) sc_law_text.nd rfl (Or.inl rfl)) (fun _ _ _ _ _ => pts_nil) (fun _ _ _ _ _ => (cal c_law_text hr rfl (pa_cons (pv 1) pa_nil)))))) pe_str)))), ?_⟩
      cases t with
      | w x =>
        obtain ⟨ty, u, q1, q2, q3⟩ := isi_str tv
        refine ⟨_, rfl, _, _, ty, u, _, rfl, q1, q2, q3, _, rfl, iteT ⟨_, rfl, ?_⟩⟩
        rw [tv.word]
        rw [txt_w] at q
        exact q _ Keep.refl
      | l ts =>
        obtain ⟨a, vs, rfl, hS, tvs⟩ := tv.list
        have sz2 := sz
        rw [txt_l, List.length_cons, List.length_append, List.length_singleton] at sz2
        have sz3 := txts_seps ts
        have sz4 := seps_ge ts
        obtain ⟨ty, u, q1, q2, q3⟩ := isi_str tv
        refine ⟨_, rfl, _, _, ty, u, _, rfl, q1, q2, q3, _, rfl, iteF ?_⟩
        refine ⟨⟨_, rfl⟩, _, rfl, a, rfl, ⟨_, hS⟩, fun L nL => ?_⟩
        refine lc_tup (K := K) (a := a) (xs := vs) (fun i H' => Keep [] H H' ∧ H' L = some (.lst ((ts.take i).map fun u => V.str (tx (txt u))))) ⟨Keep.new nL, upd_same⟩ (fun i H' _ p => p.1.sqT hS) (fun i x H1 hx p => ?_) (fun H1 p => ?_)
        · obtain ⟨k1, e1⟩ := p
          have il : i < vs.length := (List.getElem?_eq_some_iff.mp hx).1
          have il2 : i < ts.length := by rw [← tvs.length]; exact il
          have hg : ts[i]? = some ts[i] := List.getElem?_eq_getElem il2
          obtain ⟨y, hy, ty⟩ := tvs.get hg
          rw [hx] at hy
          cases hy
          have m := List.getElem_mem il2
          refine ⟨rfl, yes ?_⟩
          refine ⟨_, rfl, x, ts[i], rfl, ty.keep k1, wt.list.all _ m, dp _ m, ?_, fun H2 k2 => ?_⟩
          · have h1 : (txt ts[i]).length ≤ ((ts.map fun u => (tx (txt u)).length)).sum := by
              have mm : (tx (txt ts[i])).length ∈ ts.map fun u => (tx (txt u)).length := List.mem_map.mpr ⟨_, m, rfl⟩
              have := le_sum_of mm
              rw [tx_len] at this
              exact this
            omega
          · have e2 := k2.get e1 (by simp)
            refine ⟨_, e2, ?_, ((k1.trans k2).cons.setT e2 (List.mem_cons_self ..)).drop nL, ?_⟩
            · rw [List.length_map, List.length_take]
              exact Nat.lt_of_le_of_lt (Nat.min_le_right _ _) (Nat.lt_of_le_of_lt (show ts.length ≤ 2000000 by omega) (by decide))
            · rw [upd_same, List.take_add_one, hg, List.map_append]
              rfl
        · obtain ⟨k1, e1⟩ := p
          rw [tvs.length, List.take_length] at e1
          refine ⟨_, L, ts.map (fun u => tx (txt u)), rfl, rfl, .inl (SqL.of (by rw [e1, List.map_map]; rfl)), ?_, ?_⟩
          · rw [List.map_map, List.length_map]
            show (ts.map fun u => (tx (txt u)).length).sum + ts.length * (" " : Str).length ≤ _
            rw [lit_blank, tx_len]
            show _ + ts.length * 1 ≤ _
            omega
          · rw [TL.join_eq, lit_blank, join_txts]
            have l1 : (tx (txts ts)).length ≤ 1000000 := by rw [tx_len]; omega
            refine ⟨_, _, rfl, rfl, ?_, _, _, rfl, rfl, ?_, ?_⟩
            · rw [lit_open, tx_len]
              exact Nat.le_trans (Nat.add_le_add_left l1 _) (by decide)
            · rw [lit_open, lit_close, tx_app, tx_len, tx_len, List.length_append]
              rw [tx_len] at l1
              show 1 + (txts ts).length + 1 ≤ _
              exact Nat.le_trans (show _ ≤ 1000002 by omega) (by decide)
            · rw [lit_open, lit_close, tx_app, tx_app]
              have e : [40] ++ txts ts ++ [41] = txt (.l ts) := by rw [txt_l]; rfl
              rw [e]
              exact q _ k1
  exact fun n => ⟨f, fd, all n, hm, F.kp, hb⟩
end
end Og

namespace Og
open PySem PySem.Spec PyProof.Rows L2
theorem lit_BLANKS : (" \n" : Str) = tx [32, 10] := by decide +kernel
theorem blank_mem {c : Nat} : c ∈ [32, 10] ↔ c = 32 ∨ c = 10 := by simp
theorem drop_at {cs : List Nat} {j : Nat} (h : j < cs.length) : ∃ c, atI cs (j : Int) = some c ∧ cs.drop j = c :: cs.drop (j + 1) :=
  ⟨cs[j], atI_nat (List.getElem?_eq_getElem h), List.drop_eq_getElem_cons h⟩
/-- blanks ahead of what begins with none: one way only -/
theorem blanks_one : ∀ {g g' a b : List Nat}, Blanks g → Blanks g' → NoBlank a → NoBlank b → g ++ a = g' ++ b → g = g' ∧ a = b
  | [], [], a, b, _, _, _, _, e => ⟨rfl, e⟩
  | [], c :: g', a, b, _, h, n, _, e => by
    have q := n c (g' ++ b) e
    rcases h c (List.mem_cons_self ..) with z | z
    · exact absurd z q.1
    · exact absurd z q.2
  | c :: g, [], a, b, h, _, _, n, e => by
    have q := n c (g ++ a) e.symm
    rcases h c (List.mem_cons_self ..) with z | z
    · exact absurd z q.1
    · exact absurd z q.2
  | c :: g, c' :: g', a, b, h, h', n, n', e => by
    have e1 := (List.cons.inj e).1
    have q := blanks_one (fun x m => h x (List.mem_cons_of_mem _ m)) (fun x m => h' x (List.mem_cons_of_mem _ m)) n n' (List.cons.inj e).2
    exact ⟨by rw [e1, q.1], q.2⟩
section
variable {P : Program} {w : World} {K : PySem.W.Frag} {mg : Str → Option Value} {base : Heap}
def spBlanks : Sp := fun vs H Q _ => ∃ (cs : List Nat) (i : Nat), vs = [.str (tx cs), .int i] ∧ i ≤ cs.length ∧ cs.length ≤ 4000000 ∧
  ∀ (j : Nat) (g : List Nat), i ≤ j → j ≤ cs.length → cs.drop i = g ++ cs.drop j → Blanks g → NoBlank (cs.drop j) → j = i + g.length → Q (.int j) H
theorem has_blanks {k : Nat} (D : DefAt K mg "_behind_blanks" s_behind_blanks p_behind_blanks) (B : Bn mg) (M : Mc mg) : Has P w K mg base (k + 1) "_behind_blanks" p_behind_blanks spBlanks := by
  obtain ⟨f, fd, F, hm, hb⟩ := D.ex
  obtain ⟨_, M_BLANKS⟩ := M.BLANKS
  refine ⟨f, fd, F.ok sc_behind_blanks (fun vs H Q E h => ?_) (fun cdv A outer s H vs Q E hr h => ?_), hm, F.kp, hb⟩
  · obtain ⟨a, d, rfl, _⟩ := h
    rfl
  obtain ⟨cs, i, rfl, hi, hl, q⟩ := h
  refine ⟨_, (pss_cons (ps_set (i := 2) sc_behind_blanks.nd rfl (.inl rfl) (pv 1))
    (pss_cons (ps_while PassesOwn.never (PW.pt (pw_and (pt_cmpR op_lt (pv 2) (pe_callB call_len_str (by rfl) B.len PySem.boot_len (pa_cons (pv 0) pa_nil)) (nomark _)) (pw_and1 (pt_cmpR op_in_sign (pe_ix ix_str (pv 0) (pv 2) (fun _ _ => rfl)) (pe_glob (v := .str " \n") rfl M_BLANKS ⟨_, rfl⟩) (by rfl))))) (pss_one (ps_aug (i := 2) sc_behind_blanks.nd rfl (.inl rfl) pe_int ip_add)))
    (pss_one (ps_ret (pv 2))))), ?_⟩
  refine ⟨_, rfl, ?_⟩
  have sz : (tx cs).length ≤ sizeLine := by rw [tx_len]; exact Nat.le_trans hl (by decide)
  obtain ⟨W, hW⟩ : ∃ W : Nat → L2.St → Hp → Prop, W = fun m σ H' => H' = H ∧ ∃ (j : Nat) (g : List Nat), σ = [some (.str (tx cs)), some (.int i), some (.int j)] ∧ m = cs.length - j ∧ i ≤ j ∧ j ≤ cs.length ∧ cs.drop i = g ++ cs.drop j ∧ Blanks g ∧ j = i + g.length := ⟨_, rfl⟩
  refine ⟨W, ⟨cs.length - i, by rw [hW]; exact ⟨rfl, i, [], rfl, rfl, Nat.le_refl _, hi, rfl, blanks_nil, rfl⟩⟩, fun m σ H1 p => ?_⟩
  rw [hW] at p
  obtain ⟨rfl, j, g, rfl, rfl, h1, h2, h3, h4, h5⟩ := p
  have fin : NoBlank (cs.drop j) → Q (.int j) H1 := fun n => q j g h1 h2 h3 h4 n h5
  refine ⟨_, rfl, _, rfl, _, rfl, sz, _, _, rfl, rfl, _, rfl, ?_⟩
  rw [tx_len]
  refine ite2 (fun c => ?_) (fun c => ?_)
  · have c' : (j : Int) < (cs.length : Int) := of_decide_eq_true c
    have c2 : j < cs.length := by omega
    obtain ⟨x, hx, hd⟩ := drop_at c2
    refine ⟨_, rfl, _, rfl, _, _, x, rfl, rfl, sz, hx, x, _, rfl, rfl, _, rfl, ?_⟩
    refine ite2 (fun b => ?_) (fun b => ?_)
    · have b' := of_decide_eq_true b
      rw [lit_BLANKS, tx_list, blank_mem] at b'
      refine ⟨fun σ' H' => ∃ m', m' < cs.length - j ∧ W m' σ' H', fun _ _ h => h, ?_⟩
      refine ⟨_, rfl, _, _, rfl, rfl, ?_⟩
      refine ⟨cs.length - (j + 1), by omega, ?_⟩
      rw [hW]
      refine ⟨rfl, j + 1, g ++ [x], rfl, rfl, by omega, by omega, ?_, ?_, by rw [List.length_append, List.length_singleton]; omega⟩
      · rw [h3, hd, List.append_assoc]; rfl
      · intro y hy
        rcases List.mem_append.mp hy with m | m
        · exact h4 y m
        · rw [List.mem_singleton.mp m]; exact b'
    · have b' := of_decide_eq_false (Bool.eq_false_iff.mpr b)
      rw [lit_BLANKS, tx_list, blank_mem] at b'
      refine ⟨_, rfl, fin fun c r e => ?_⟩
      rw [hd] at e
      have e1 := (List.cons.inj e).1
      subst e1
      exact ⟨fun z => b' (.inl z), fun z => b' (.inr z)⟩
  · have c' : ¬ (j : Int) < (cs.length : Int) := of_decide_eq_false (Bool.eq_false_iff.mpr c)
    refine iteF ⟨_, rfl, fin fun c r e => ?_⟩
    rw [List.drop_eq_nil_of_le (by omega)] at e
    cases e
end
end Og

namespace Og
open PySem PySem.Spec PyProof.Rows L2
/-! ### pairs of trees, compared -/
def Prs (K : PySem.W.Frag) (H : Hp) : List V → List (Tree × Tree) → Prop
  | vs, [] => vs = []
  | vs, p :: ps => ∃ a x y r, vs = .ref a :: r ∧ H a = some (.tup [x, y]) ∧ Tr K H x p.1 ∧ Tr K H y p.2 ∧ Prs K H r ps
theorem Prs.keep {K : PySem.W.Frag} {S : List Addr} {H H1 : Hp} (k : Keep S H H1) : ∀ {vs : List V} {ps : List (Tree × Tree)}, Prs K H vs ps → Prs K H1 vs ps
  | vs, [], h => h
  | vs, p :: ps, ⟨a, x, y, r, e, ea, h1, h2, h3⟩ => ⟨a, x, y, r, e, k.tup ea, h1.keep k, h2.keep k, Prs.keep k h3⟩
theorem Prs.app {K : PySem.W.Frag} {H : Hp} {vs2 : List V} {ps2 : List (Tree × Tree)} (g : Prs K H vs2 ps2) : ∀ {vs : List V} {ps : List (Tree × Tree)}, Prs K H vs ps → Prs K H (vs ++ vs2) (ps ++ ps2)
  | vs, [], h => by rw [show vs = [] from h]; exact g
  | vs, p :: ps, ⟨a, x, y, r, e, ea, h1, h2, h3⟩ => ⟨a, x, y, r ++ vs2, by rw [e]; rfl, ea, h1, h2, Prs.app g h3⟩
theorem Prs.len {K : PySem.W.Frag} {H : Hp} : ∀ {vs : List V} {ps : List (Tree × Tree)}, Prs K H vs ps → vs.length = ps.length
  | vs, [], h => by rw [show vs = [] from h]; rfl
  | vs, p :: ps, ⟨a, x, y, r, e, ea, h1, h2, h3⟩ => by rw [e, List.length_cons, List.length_cons, Prs.len h3]
theorem Prs.snoc {K : PySem.W.Frag} {H : Hp} {p : Tree × Tree} : ∀ {ps : List (Tree × Tree)} {vs : List V}, Prs K H vs (ps ++ [p]) → ∃ vs' a x y, vs = vs' ++ [.ref a] ∧ Prs K H vs' ps ∧ H a = some (.tup [x, y]) ∧ Tr K H x p.1 ∧ Tr K H y p.2
  | [], vs, ⟨a, x, y, r, e, ea, h1, h2, h3⟩ => ⟨[], a, x, y, by rw [e, show r = [] from h3]; rfl, rfl, ea, h1, h2⟩
  | q :: ps, vs, ⟨a, x, y, r, e, ea, h1, h2, h3⟩ => by
    obtain ⟨vs', a', x', y', e', g1, g2, g3, g4⟩ := Prs.snoc h3
    exact ⟨.ref a :: vs', a', x', y', by rw [e, e']; rfl, ⟨a, x, y, vs', rfl, ea, h1, h2, g1⟩, g2, g3, g4⟩
/-- how many parts the second ones have -/
def psz (ps : List (Tree × Tree)) : Nat := (ps.map fun p => p.2.size).sum
theorem psz_app (a b : List (Tree × Tree)) : psz (a ++ b) = psz a + psz b := by
  unfold psz
  rw [List.map_append, List.sum_append]
theorem psz_one (p : Tree × Tree) : psz [p] = p.2.size := by
  unfold psz
  simp
theorem psz_len : ∀ ps : List (Tree × Tree), ps.length ≤ psz ps
  | [] => Nat.zero_le _
  | p :: r => by
    have h := psz_len r
    have h2 := size_pos p.2
    unfold psz at h ⊢
    rw [List.map_cons, List.sum_cons, List.length_cons]
    omega
theorem psz_zip : ∀ (ts us : List Tree), psz (ts.zip us) ≤ sizes us
  | [], us => Nat.zero_le _
  | t :: ts, [] => Nat.zero_le _
  | t :: ts, u :: us => by
    have h := psz_zip ts us
    rw [List.zip_cons_cons, sizes_cons, show (t, u) :: ts.zip us = [(t, u)] ++ ts.zip us from rfl, psz_app, psz_one]
    show u.size + psz (ts.zip us) ≤ u.size + sizes us
    omega
theorem zip_eq : ∀ {ts us : List Tree}, ts.length = us.length → ((∀ p ∈ ts.zip us, p.1 = p.2) ↔ ts = us)
  | [], [], _ => ⟨fun _ => rfl, fun _ p m => by cases m⟩
  | [], _ :: _, h => by cases h
  | _ :: _, [], h => by cases h
  | t :: ts, u :: us, h => by
    have ih := zip_eq (ts := ts) (us := us) (Nat.succ.inj h)
    rw [List.zip_cons_cons]
    constructor
    · intro q
      have e1 : t = u := q (t, u) (List.mem_cons_self ..)
      rw [e1, ih.mp fun p m => q p (List.mem_cons_of_mem _ m)]
    · intro e p m
      have e1 := (List.cons.inj e).1
      have e2 := (List.cons.inj e).2
      rcases List.mem_cons.mp m with z | z
      · rw [z]; exact e1
      · exact ih.mpr e2 p z
section
variable {P : Program} {w : World} {K : PySem.W.Frag} {mg : Str → Option Value} {base : Heap}
def spLike (K : PySem.W.Frag) : Sp := fun vs H Q _ => ∃ (x y : V) (t u : Tree), vs = [x, y] ∧ Tr K H x t ∧ Tr K H y u ∧ u.size ≤ 300000 ∧
  ∀ (b : Bool) (H' : Hp), (b = true ↔ t = u) → Keep [] H H' → Q (.bl b) H'
theorem has_like {k : Nat} (D : DefAt K mg "_law_like" s_law_like p_law_like) (B : Bn mg) : Has P w K mg base (k + 1) "_law_like" p_law_like (spLike K) := by
  obtain ⟨f, fd, F, hm, hb⟩ := D.ex
  refine ⟨f, fd, F.ok sc_law_like (fun vs H Q E h => ?_) (fun cdv A outer s H vs Q E hr h => ?_), hm, F.kp, hb⟩
  · obtain ⟨_, _, _, _, rfl, _⟩ := h
    rfl
  obtain ⟨x, y, t, u, rfl, tx1, ty1, sz, q⟩ := h
  refine ⟨_, (pss_cons (ps_set (i := 2) sc_law_like.nd rfl (.inl rfl) (pe_lst (pa_cons (pe_tup (pa_cons (pv 0) (pa_cons (pv 1) pa_nil))) pa_nil)))
    (pss_cons (ps_for PassesOwn.never rfl (pi_range1 (by rfl) B.range (pa_cons pe_int pa_nil)) (pg_name (i := 3) sc_law_like.nd rfl (.inl rfl))
      (pss_cons (ps_if (pt_cmpR op_eq (pe_callB call_len_seq (by rfl) B.len PySem.boot_len (pa_cons (pv 2) pa_nil)) pe_int (nomark _)) (pss_one (ps_ret pe_bl)) pss_nil)
      (pss_cons (ps_asg (pe_bm0 PySem.F.plainAttrs_list PySem.F.slot_list_pop PySem.F.type_list_pop mt_pop (pv 2)) (pg_tup (by rfl) (pgs_cons (pg_name (i := 4) sc_law_like.nd rfl (.inl rfl)) (pgs_cons (pg_name (i := 5) sc_law_like.nd rfl (.inl rfl)) pgs_nil))))
      (pss_cons (ps_if (pt_val (pe_callB call_isi (by rfl) B.isinstance (by decide +kernel) (pa_cons (pv 5) (pa_cons (pe_bltn (v := .ty "str") rfl B.str (by decide +kernel) rfl) pa_nil)))) (pss_cons (ps_if (PW.pt (pw_or (pt_not (pt_val (pe_callB call_isi (by rfl) B.isinstance (by decide +kernel) (pa_cons (pv 4) (pa_cons (pe_bltn (v := .ty "str") rfl B.str (by decide +kernel) rfl) pa_nil))))) (pw_or1 (pt_cmpR op_ne (pv 4) (pv 5) (nomark _))))) (pss_one (ps_ret pe_bl)) pss_nil)
        (pss_one ps_continue)) pss_nil)
      (pss_cons (ps_if (PW.pt (pw_or (pt_not (pt_val (pe_callB call_isi (by rfl) B.isinstance (by decide +kernel) (pa_cons (pv 4) (pa_cons (pe_bltn (v := .ty "tuple") rfl B.tuple (by decide +kernel) rfl) pa_nil))))) (pw_or1 (pt_cmpR op_ne (pe_callB call_len_seq (by rfl) B.len PySem.boot_len (pa_cons (pv 4) pa_nil)) (pe_callB call_len_seq (by rfl) B.len PySem.boot_len (pa_cons (pv 5) pa_nil)) (nomark _))))) (pss_one (ps_ret pe_bl)) pss_nil)
      (pss_one (ps_for PassesOwn.never rfl (pi_range1 (by rfl) B.range (pa_cons (pe_callB call_len_seq (by rfl) B.len PySem.boot_len (pa_cons (pv 5) pa_nil)) pa_nil)) (pg_name (i := 6) sc_law_like.nd rfl (.inl rfl))
        (pss_one (ps_expr (pe_bm PySem.F.plainAttrs_list PySem.F.slot_list_append PySem.F.type_list_append mt_append (pv 2) (pa_cons (pe_tup (pa_cons (pe_ix ix_tup (pv 4) (pv 6) (fun _ _ => rfl)) (pa_cons (pe_ix ix_tup (pv 5) (pv 6) (fun _ _ => rfl)) pa_nil))) pa_nil)))))))))))
    (pss_one (ps_ret pe_bl)))), ?_⟩
  refine ⟨_, rfl, _, rfl, by show (2 : Nat) ≤ sizeLine; decide, fun a na => ?_⟩
  refine ⟨by show (1 : Nat) ≤ sizeLine; decide, fun p np => ?_⟩
  have k0 : Keep [] H (upd (upd H a (.tup [x, y])) p (.lst [.ref a])) := (Keep.new na).newT np
  have np0 : H p = none := (Keep.new (S := []) na).free np
  have pa : a ≠ p := ne_of_none upd_same np
  refine ⟨(400000 : Int), rfl, by decide, by decide, ?_⟩
  refine for_range (lo := 0) (n := (400000 : Int).toNat) (fun i σ H' => ∃ (y3 y4 y5 y6 : Option V) (vs : List V) (ps : List (Tree × Tree)), σ = [some x, some y, some (.ref p), y3, y4, y5, y6] ∧ Keep [] H H' ∧ H' p = some (.lst vs) ∧ Prs K H' vs ps ∧ psz ps + i ≤ 300000 ∧ (t = u ↔ ∀ z ∈ ps, z.1 = z.2))
    ⟨none, none, none, none, _, [(t, u)], rfl, k0, upd_same, ⟨a, x, y, [], rfl, by rw [upd_ne pa, upd_same], tx1.keep k0, ty1.keep k0, rfl⟩, by rw [psz_one]; exact sz, ?_⟩ (fun i σ H1 hi pw => ?_) (fun σ H1 pw => ?_)
  · constructor
    · intro e z m
      rw [List.mem_singleton.mp m]
      exact e
    · intro h
      exact h (t, u) (List.mem_singleton.mpr rfl)
  · obtain ⟨y3, y4, y5, y6, vs, ps, rfl, k1, e1, pr, sz1, iff⟩ := pw
    have vl := pr.len
    have pl := psz_len ps
    refine ⟨_, rfl, p, vs, rfl, .inl (SqL.of e1), rfl, _, rfl, ?_⟩
    by_cases hne : ps = []
    · subst hne
      rw [show vs = [] from pr, decide_eq_true (show V.int (([] : List V).length : Nat) = V.int 0 from rfl)]
      exact iteT (q true H1 ⟨fun _ => iff.mpr fun z m => (by cases m), fun _ => rfl⟩ k1)
    · obtain ⟨ps', z, rfl⟩ := snoc_of hne
      obtain ⟨vs', a1, x1, y1, rfl, pr', ea1, tx2, ty2⟩ := pr.snoc
      rw [psz_app, psz_one] at sz1 pl
      rw [decide_eq_false (fun e => by have := V.int.inj e; rw [List.length_append, List.length_singleton] at this; omega)]
      refine iteF ?_
      refine ⟨_, rfl, .inl ⟨rfl, _, SqL.of e1⟩, p, _, _, rfl, rfl, e1, last_get _ _, ?_⟩
      rw [List.dropLast_concat]
      generalize hH2 : upd H1 p (.lst vs') = H2
      have k2 : Keep [p] H1 H2 := by rw [← hH2]; exact Keep.set e1 (List.mem_cons_self ..)
      have e2 : H2 p = some (.lst vs') := by rw [← hH2, upd_same]
      have k2' : Keep [] H H2 := (k1.cons.trans (k2.mono (by simp))).drop np0
      refine ⟨a1, _, rfl, SqT.of_tup (k2.tup ea1), rfl, x1, _, rfl, y1, _, rfl, rfl, ?_⟩
      have tx3 := tx2.keep k2
      have ty3 := ty2.keep k2
      have pr3 := pr'.keep k2
      obtain ⟨z1, z2⟩ := z
      have split : (∀ q ∈ ps' ++ [(z1, z2)], q.1 = q.2) ↔ (∀ q ∈ ps', q.1 = q.2) ∧ z1 = z2 := by
        constructor
        · intro h
          exact ⟨fun q m => h q (List.mem_append.mpr (.inl m)), h (z1, z2) (by simp)⟩
        · rintro ⟨h1, h2⟩ q m
          rcases List.mem_append.mp m with m | m
          · exact h1 q m
          · rw [List.mem_singleton.mp m]; exact h2
      have no : z1 ≠ z2 → Q (.bl false) H2 := fun h => q false H2 ⟨fun e => (by cases e), fun e => absurd (split.mp (iff.mp e)).2 h⟩ k2'
      obtain ⟨ty, uu, q1, q2, q3⟩ := isi_str ty3
      refine ⟨_, rfl, _, _, ty, uu, _, rfl, q1, q2, q3, _, rfl, ?_⟩
      cases z2 with
      | w c2 =>
        refine iteT ?_
        obtain ⟨ty', uu', q1', q2', q3'⟩ := isi_str tx3
        refine ⟨_, rfl, _, _, ty', uu', _, rfl, q1', q2', q3', _, rfl, ?_⟩
        cases z1 with
        | l ts => exact iteT (iteT (no (fun e => by cases e)))
        | w c1 =>
          refine iteF ?_
          have ex := tx3.word
          have ey := ty3.word
          subst ex ey
          refine ⟨_, rfl, _, rfl, rfl, _, rfl, ?_⟩
          by_cases hc : c1 = c2
          · subst hc
            rw [show (!decide (V.str (tx c1) = V.str (tx c1))) = false by simp]
            refine iteF ⟨_, _, _, _, vs', ps', rfl, k2', e2, pr3, ?_, ?_⟩
            · rw [size_w] at sz1; omega
            · rw [iff, split]
              exact ⟨fun h => h.1, fun h => ⟨h, rfl⟩⟩
          · rw [show (!decide (V.str (tx c1) = V.str (tx c2))) = true by
              rw [decide_eq_false (fun e => hc (tx_str e))]; rfl]
            exact iteT (no (fun e => hc (Tree.w.inj e)))
      | l us =>
        refine iteF ?_
        obtain ⟨ty', uu', q1', q2', q3'⟩ := isi_tup tx3
        refine ⟨_, rfl, _, _, ty', uu', _, rfl, q1', q2', q3', _, rfl, ?_⟩
        cases z1 with
        | w c1 => exact iteT (iteT (no (fun e => by cases e)))
        | l ts =>
        refine iteF ?_
        obtain ⟨ax, wx, rfl, hX, trx⟩ := tx3.list
        obtain ⟨ay, wy, rfl, hY, try_⟩ := ty3.list
        have lx := trx.length
        have ly := try_.length
        refine ⟨_, rfl, ax, wx, rfl, .inr hX, _, rfl, ay, wy, rfl, .inr hY, rfl, _, rfl, ?_⟩
        by_cases hl : ts.length = us.length
        · rw [show (!decide (V.int ((wx.length : Nat) : Int) = V.int ((wy.length : Nat) : Int))) = false by
            rw [lx, ly, hl]; simp]
          refine iteF ?_
          refine ⟨_, rfl, ay, wy, rfl, .inr hY, _, rfl, by omega, ?_, ?_⟩
          · rw [size_l] at sz1
            have := len_sizes us
            omega
          rw [Int.toNat_natCast, ly]
          rw [size_l] at sz1
          have lsz := len_sizes us
          have zsz := psz_zip ts us
          have zl : (ts.zip us).length = us.length := by rw [List.length_zip, hl, Nat.min_self]
          refine for_range (lo := 0) (n := us.length) (fun j σ H' => ∃ (y6 : Option V) (vs2 : List V), σ = [some x, some y, some (.ref p), some (.int (0 + (i : Int))), some (.ref ax), some (.ref ay), y6] ∧ Keep [] H H' ∧ Keep [p] H2 H' ∧ H' p = some (.lst vs2) ∧ Prs K H' vs2 (ps' ++ (ts.zip us).take j))
            ⟨_, vs', rfl, k2', Keep.refl, e2, by rw [List.take_zero, List.append_nil]; exact pr3⟩ (fun j σ H4 hj pw => ?_) (fun σ H4 pw => ?_)
          · obtain ⟨y6, vs2, rfl, k4, k4b, e4, pr4⟩ := pw
            have jx : j < ts.length := by omega
            obtain ⟨vx, gx, tvx⟩ := trx.get (List.getElem?_eq_getElem jx)
            obtain ⟨vy, gy, tvy⟩ := try_.get (List.getElem?_eq_getElem hj)
            have e0 : (0 : Int) + (j : Int) = ((j : Nat) : Int) := by omega
            refine ⟨_, rfl, .inl ⟨rfl, _, SqL.of e4⟩, _, rfl, _, rfl, ax, wx, _, vx, rfl, rfl, k4b.sqT hX, by rw [e0]; exact atI_nat gx, _, rfl, _, rfl, ay, wy, _, vy, rfl, rfl, k4b.sqT hY, by rw [e0]; exact atI_nat gy, by show (2 : Nat) ≤ sizeLine; decide, fun tp ntp => ?_⟩
            have pt : p ≠ tp := ne_of_none e4 ntp
            have kt : Keep [] H4 (upd H4 tp (.tup [vx, vy])) := Keep.new ntp
            have e5 : (upd H4 tp (.tup [vx, vy])) p = some (.lst vs2) := kt.get e4 (by simp)
            have ku : Keep [p] (upd H4 tp (.tup [vx, vy])) (upd (upd H4 tp (.tup [vx, vy])) p (.lst (vs2 ++ [.ref tp]))) := Keep.set e5 (List.mem_cons_self ..)
            refine ⟨p, vs2, _, rfl, rfl, e5, ?_, ?_⟩
            · have := pr4.len
              rw [List.length_append, List.length_take] at this
              have h2 := psz_len ps'
              exact Nat.lt_of_le_of_lt (show _ ≤ 600000 by omega) (by decide)
            · refine ⟨_, _, rfl, ((k4.trans kt).cons.trans (ku.mono (by simp))).drop np0, (k4b.trans (kt.mono (by simp))).trans ku, upd_same, ?_⟩
              have ez : (ts.zip us).take (j + 1) = (ts.zip us).take j ++ [(ts[j], us[j])] := by
                rw [List.take_add_one, List.getElem?_zip_eq_some (z := (ts[j], us[j])).mpr ⟨List.getElem?_eq_getElem jx, List.getElem?_eq_getElem hj⟩]
                rfl
              rw [ez, ← List.append_assoc]
              have one : Prs K (upd (upd H4 tp (.tup [vx, vy])) p (.lst (vs2 ++ [.ref tp]))) [.ref tp] [(ts[j], us[j])] := ⟨tp, vx, vy, [], rfl, ku.tup upd_same, ((tvx.keep k4b).keep kt).keep ku, ((tvy.keep k4b).keep kt).keep ku, rfl⟩
              exact Prs.app one ((pr4.keep kt).keep ku)
          · obtain ⟨y6, vs2, rfl, k4, k4b, e4, pr4⟩ := pw
            rw [← zl, List.take_length] at pr4
            refine ⟨_, _, _, _, vs2, ps' ++ ts.zip us, rfl, k4, e4, pr4, by rw [psz_app]; omega, ?_⟩
            rw [iff, split]
            constructor
            · rintro ⟨h1, h2⟩ z m
              rcases List.mem_append.mp m with m | m
              · exact h1 z m
              · exact (zip_eq hl).mpr (Tree.l.inj h2) z m
            · intro h
              exact ⟨fun z m => h z (List.mem_append.mpr (.inl m)), congrArg Tree.l ((zip_eq hl).mp fun z m => h z (List.mem_append.mpr (.inr m)))⟩
        · rw [show (!decide (V.int ((wx.length : Nat) : Int) = V.int ((wy.length : Nat) : Int))) = true by
            rw [lx, ly, decide_eq_false (fun e => hl (by have := V.int.inj e; omega))]; rfl]
          exact iteT (no (fun e => hl (by rw [Tree.l.inj e])))
  · obtain ⟨y3, y4, y5, y6, vs, ps, rfl, k1, e1, pr, sz1, iff⟩ := pw
    exact absurd sz1 (by have : (400000 : Int).toNat = 400000 := rfl; omega)
end
end Og

namespace Og
open PySem PySem.Spec PyProof.Rows L2
mutual
theorem toks_len : ∀ t : Tree, (toks t).length ≤ 2 * t.size
  | .w x => by rw [toks_w, size_w]; show 1 ≤ 2 * 1; decide
  | .l ts => by
    have h := tokss_len ts
    rw [toks_l, size_l, List.length_cons, List.length_append, List.length_singleton]
    omega
theorem tokss_len : ∀ ts : List Tree, (tokss ts).length ≤ 2 * sizes ts
  | [] => by rw [tokss_nil]; exact Nat.zero_le _
  | t :: r => by
    have h1 := toks_len t
    have h2 := tokss_len r
    rw [tokss_cons, sizes_cons, List.length_append]
    omega
end
theorem tokss_snoc (ts : List Tree) (t : Tree) : tokss (ts ++ [t]) = tokss ts ++ toks t := by rw [tokss_app, tokss_cons, tokss_nil, List.append_nil]
theorem take_snoc {α : Type} {ts : List α} {i : Nat} {t : α} (h : ts[i]? = some t) : ts.take (i + 1) = ts.take i ++ [t] := by
  rw [List.take_add_one, h]
  rfl
/-- the texts of tokens, as values -/
def tvs (ys : List (List Nat)) : List V := (ys.map tx).map V.str
theorem tvs_app (a b : List (List Nat)) : tvs (a ++ b) = tvs a ++ tvs b := by unfold tvs; rw [List.map_append, List.map_append]
theorem tvs_len (a : List (List Nat)) : (tvs a).length = a.length := by unfold tvs; rw [List.length_map, List.length_map]
theorem tvs_get {a : List (List Nat)} {i : Nat} {x : List Nat} (h : a[i]? = some x) : (tvs a)[i]? = some (.str (tx x)) := by
  unfold tvs
  rw [List.getElem?_map, List.getElem?_map, h]
  rfl
end Og

namespace Og
open PySem PySem.Spec PyProof.Rows L2
theorem lit_a : ("a" : Str) = tx [97] := by decide +kernel
theorem lit_b2 : ("b2" : Str) = tx [98, 50] := by decide +kernel
theorem lit_quote : ("quote" : Str) = tx [113, 117, 111, 116, 101] := by decide +kernel
def isWordB : List Nat → Bool
  | [] => false
  | c :: cs => (decide (97 ≤ c) && decide (c ≤ 122)) && cs.all (fun y => (decide (97 ≤ y) && decide (y ≤ 122)) || (decide (48 ≤ y) && decide (y ≤ 57))) && decide (cs.length ≤ 11)
theorem isWord_of : ∀ {x : List Nat}, isWordB x = true → IsWord x
  | [], h => by cases h
  | c :: cs, h => by
    simp only [isWordB, Bool.and_eq_true, decide_eq_true_eq, List.all_eq_true, Bool.or_eq_true] at h
    exact ⟨c, cs, rfl, h.1.1, h.1.2, h.2⟩
theorem three {j : Int} (h0 : 0 ≤ j) (h : j < 3) : j = 0 ∨ j = 1 ∨ j = 2 := by omega
theorem flat_le : ∀ (ys : List (List Nat)), (∀ z ∈ ys, z.length ≤ 8) → ys.flatten.length ≤ 8 * ys.length
  | [], _ => Nat.zero_le _
  | y :: r, h => by
    have h1 := flat_le r fun z m => h z (List.mem_cons_of_mem _ m)
    have h2 := h y (List.mem_cons_self ..)
    rw [List.flatten_cons, List.length_append, List.length_cons]
    omega
section
variable {P : Program} {w : World} {K : PySem.W.Frag} {mg : Str → Option Value} {base : Heap}
def spDeep (K : PySem.W.Frag) : Sp := fun vs H Q _ => ∃ (h d : Addr) (x : V) (t : Tree), vs = [.ref h, x] ∧ Hd H h d ∧ Tr K H x t ∧ WT t ∧
  ∀ (p : Addr) (y : V) (l r : List Nat) (t' : Tree) (H' : Hp), H' p = some (.lst [y, .str (tx l), .str (tx r)]) → Tr K H' y t' → WT t' → txt t' = l ++ txt t ++ r → l.length ≤ 2000 → r.length ≤ 2000 → t'.size ≤ t.size + 400 → Keep [h] H H' → Hd H' h d → p ≠ h → Q (.ref p) H'
theorem has_deep {k : Nat} (D : DefAt K mg "_law_deep" s_law_deep p_law_deep) (B : Bn mg) (c1 : Has P w K mg base k "_law_take" p_law_take spTake) : Has P w K mg base (k + 1) "_law_deep" p_law_deep (spDeep K) := by
  obtain ⟨f, fd, F, hm, hb⟩ := D.ex
  obtain ⟨_, _, c_law_take⟩ := c1
  refine ⟨f, fd, F.ok sc_law_deep (fun vs H Q E h => ?_) (fun cdv A outer s H vs Q E hr h => ?_), hm, F.kp, hb⟩
  · obtain ⟨_, _, _, _, rfl, _⟩ := h
    rfl
  obtain ⟨a, d, x, t, rfl, hd, tx1, wt, q⟩ := h
  refine ⟨_, (pss_cons (ps_set (i := 2) sc_law_deep.nd rfl (.inl rfl) (pv 1))
    (pss_cons (ps_set (i := 3) sc_law_deep.nd rfl (.inl rfl) (pe_lst pa_nil))
    (pss_cons (ps_set (i := 4) sc_law_deep.nd rfl (.inl rfl) (pe_lst pa_nil))
    (pss_cons (ps_set (i := 5) sc_law_deep.nd rfl (.inl rfl) (cal c_law_take hr rfl (pa_cons (pv 0) (pa_cons pe_int pa_nil))))
    (pss_cons (ps_for PassesOwn.never rfl (pi_range1 (by rfl) B.range (pa_cons (pe_op op_add pe_int (cal c_law_take hr rfl (pa_cons (pv 0) (pa_cons pe_int pa_nil)))) pa_nil)) (pg_name (i := 6) sc_law_deep.nd rfl (.inl rfl))
      (pss_cons (ps_set (i := 7) sc_law_deep.nd rfl (.inl rfl) (pe_op op_mod (pe_callTy call_int1 (by rfl) B.int (by decide +kernel) (pa_cons (pe_op op_add (pe_op op_fdiv (pv 5) (pe_op op_add pe_int (pv 6))) (pe_op op_mul (pv 6) (pv 5))) pa_nil)) pe_int))
      (pss_cons (ps_set (i := 8) sc_law_deep.nd rfl (.inl rfl) (pe_ix ix_list (pe_lst (pa_cons pe_str (pa_cons pe_str (pa_cons pe_str pa_nil)))) (pe_op op_mod (pe_callTy call_int1 (by rfl) B.int (by decide +kernel) (pa_cons (pe_op op_add (pv 5) (pe_op op_mul (pv 6) (pv 6))) pa_nil)) pe_int) (fun _ _ => rfl)))
      (pss_cons (ps_set (i := 2) sc_law_deep.nd rfl (.inl rfl) (pe_ix ix_list (pe_lst (pa_cons (pe_tup (pa_cons (pv 2) pa_nil)) (pa_cons (pe_tup (pa_cons (pv 8) (pa_cons (pv 2) pa_nil))) (pa_cons (pe_tup (pa_cons (pv 2) (pa_cons (pv 8) pa_nil))) pa_nil)))) (pv 7) (fun _ _ => rfl)))
      (pss_cons (ps_expr (pe_bm PySem.F.plainAttrs_list PySem.F.slot_list_append PySem.F.type_list_append mt_append (pv 3) (pa_cons (pe_ix ix_list (pe_lst (pa_cons pe_str (pa_cons (pe_op op_add_str (pe_op op_add_str pe_str (pv 8)) pe_str) (pa_cons pe_str pa_nil)))) (pv 7) (fun _ _ => rfl)) pa_nil)))
      (pss_one (ps_expr (pe_bm PySem.F.plainAttrs_list PySem.F.slot_list_append PySem.F.type_list_append mt_append (pv 4) (pa_cons (pe_ix ix_list (pe_lst (pa_cons pe_str (pa_cons pe_str (pa_cons (pe_op op_add_str (pe_op op_add_str pe_str (pv 8)) pe_str) pa_nil)))) (pv 7) (fun _ _ => rfl)) pa_nil)))))))))
    (pss_one (ps_ret (pe_lst (pa_cons (pv 2) (pa_cons (pe_join pe_str (pe_revL (pv 3))) (pa_cons (pe_join pe_str (pv 4)) pa_nil))))))))))), ?_⟩
  -- value, left, right
  refine ⟨_, rfl, Nat.zero_le _, fun le nle => ?_⟩
  refine ⟨Nat.zero_le _, fun ri nri => ?_⟩
  have k0 : Keep [] H (upd (upd H le (.lst [])) ri (.lst [])) := (Keep.new nle).newT nri
  have hd0 := (hd.new (o := .lst []) nle).new (o := .lst []) nri
  have nri0 : H ri = none := (Keep.new (S := []) nle).free nri
  have lr : le ≠ ri := ne_of_none upd_same nri
  have lea : le ≠ a := (hd.neH nle).symm
  have ria : ri ≠ a := (hd.neH nri0).symm
  have led : le ≠ d := (hd.neD nle).symm
  have rid : ri ≠ d := (hd.neD nri0).symm
  have el0 : (upd (upd H le (.lst [])) ri (.lst [])) le = some (.lst []) := by rw [upd_ne lr, upd_same]
  have er0 : (upd (upd H le (.lst [])) ri (.lst [])) ri = some (.lst []) := upd_same
  -- seed
  refine ⟨_, rfl, a, d, 100003, rfl, hd0, by decide, fun seed H1 s0 s1 k1 hd1 => ?_⟩
  refine ⟨_, rfl, a, d, 137, rfl, hd1, by decide, fun m H2 m0 m1 k2 hd2 => ?_⟩
  have k12 : Keep [a] H H2 := ((k0.mono (by simp)).trans k1).trans k2
  have k12b : Keep [a] (upd (upd H le (.lst [])) ri (.lst [])) H2 := k1.trans k2
  refine ⟨_, _, rfl, rfl, 60 + m, rfl, by omega, by omega, ?_⟩
  refine for_range (lo := 0) (n := (60 + m).toNat) (fun i σ H' => ∃ (y6 y7 y8 : Option V) (v : V) (t' : Tree) (ls rs : List (List Nat)), σ = [some (.ref a), some x, some v, some (.ref le), some (.ref ri), some (.int seed), y6, y7, y8] ∧ Keep [a] H H' ∧ Hd H' a d ∧
      H' le = some (.lst (tvs ls)) ∧ H' ri = some (.lst (tvs rs)) ∧ ls.length = i ∧ rs.length = i ∧ (∀ z ∈ ls, z.length ≤ 8) ∧ (∀ z ∈ rs, z.length ≤ 8) ∧ Tr K H' v t' ∧ WT t' ∧ t'.size ≤ t.size + 2 * i ∧ txt t' = ls.reverse.flatten ++ txt t ++ rs.flatten)
    ⟨none, none, none, x, t, [], [], rfl, k12, hd2, k12b.get el0 (by simpa using lea), k12b.get er0 (by simpa using ria), rfl, rfl, by simp, by simp, tx1.keep k12, wt, by omega, by simp⟩ (fun i σ H3 hi pw => ?_) (fun σ H3 pw => ?_)
  · obtain ⟨y6, y7, y8, v, t', ls, rs, rfl, k3, hd3, el, er, ll, rl, lb, rb, tv, wt', sz, etx⟩ := pw
    -- kind
    have dv : (0 : Int) < 1 + (0 + (i : Int)) ∧ 1 + (0 + (i : Int)) < 1073741824 := ⟨by omega, by omega⟩
    refine ⟨_, rfl, _, rfl, _, _, rfl, rfl, _, _, rfl, rfl, dv, _, rfl, _, rfl, _, _, rfl, rfl, .inr ⟨by omega, by omega⟩, _, _, rfl, rfl, .inl ⟨_, rfl, _, _, rfl, rfl, by show (0 : Int) < 3; decide, ?_⟩⟩
    have kd0 : 0 ≤ (seed / (1 + (0 + (i : Int))) + (0 + (i : Int)) * seed) % 3 := Int.emod_nonneg _ (by decide)
    have kd1 : (seed / (1 + (0 + (i : Int))) + (0 + (i : Int)) * seed) % 3 < 3 := Int.emod_lt_of_pos _ (by decide)
    -- word
    refine ⟨by show (3 : Nat) ≤ sizeLine; decide, fun p1 np1 => ?_⟩
    refine ⟨_, rfl, _, rfl, _, rfl, _, _, rfl, rfl, .inr ⟨by omega, by omega⟩, _, _, rfl, rfl, .inl ⟨_, rfl, _, _, rfl, rfl, by show (0 : Int) < 3; decide, ?_⟩⟩
    have wd0 : 0 ≤ (seed + (0 + (i : Int)) * (0 + (i : Int))) % 3 := Int.emod_nonneg _ (by decide)
    have wd1 : (seed + (0 + (i : Int)) * (0 + (i : Int))) % 3 < 3 := Int.emod_lt_of_pos _ (by decide)
    have hw : ∃ wd : List Nat, atI [V.str "a", V.str "b2", V.str "quote"] ((seed + (0 + (i : Int)) * (0 + (i : Int))) % 3) = some (.str (tx wd)) ∧ IsWord wd ∧ wd.length ≤ 5 := by
      rw [lit_a, lit_b2, lit_quote]
      rcases three wd0 wd1 with h | h | h <;> rw [h]
      · exact ⟨_, rfl, isWord_of rfl, by decide⟩
      · exact ⟨_, rfl, isWord_of rfl, by decide⟩
      · exact ⟨_, rfl, isWord_of rfl, by decide⟩
    obtain ⟨wd, hw1, hw2, hw3⟩ := hw
    refine ⟨p1, _, _, _, rfl, rfl, SqL.of upd_same, hw1, ?_⟩
    have ka : Keep [] H3 (upd H3 p1 (.lst [.str "a", .str "b2", .str "quote"])) := Keep.new np1
    generalize upd H3 p1 (.lst [.str "a", .str "b2", .str "quote"]) = H4 at ka
    -- value
    refine ⟨_, rfl, by show (1 : Nat) ≤ sizeLine; decide, fun t1 nt1 => ?_⟩
    refine ⟨_, rfl, _, rfl, by show (2 : Nat) ≤ sizeLine; decide, fun t2 nt2 => ?_⟩
    refine ⟨_, rfl, _, rfl, by show (2 : Nat) ≤ sizeLine; decide, fun t3 nt3 => ?_⟩
    refine ⟨by show (3 : Nat) ≤ sizeLine; decide, fun p2 np2 => ?_⟩
    have kb1 : Keep [] H4 (upd H4 t1 (.tup [v])) := Keep.new nt1
    generalize hB1 : upd H4 t1 (.tup [v]) = B1 at kb1 nt2 nt3 np2
    have kb2 : Keep [] B1 (upd B1 t2 (.tup [.str (tx wd), v])) := Keep.new nt2
    generalize hB2 : upd B1 t2 (.tup [.str (tx wd), v]) = B2 at kb2 nt3 np2
    have kb3 : Keep [] B2 (upd B2 t3 (.tup [v, .str (tx wd)])) := Keep.new nt3
    generalize hB3 : upd B2 t3 (.tup [v, .str (tx wd)]) = B3 at kb3 np2
    have kb4 : Keep [] B3 (upd B3 p2 (.lst [.ref t1, .ref t2, .ref t3])) := Keep.new np2
    have g1 : B3 t1 = some (.tup [v]) := kb3.tup (kb2.tup (by rw [← hB1, upd_same]))
    have g2 : B3 t2 = some (.tup [.str (tx wd), v]) := kb3.tup (by rw [← hB2, upd_same])
    have g3 : B3 t3 = some (.tup [v, .str (tx wd)]) := by rw [← hB3, upd_same]
    have kab : Keep [] H3 (upd B3 p2 (.lst [.ref t1, .ref t2, .ref t3])) := (((ka.trans kb1).trans kb2).trans kb3).trans kb4
    have tv4 := tv.keep kab
    have hv : ∃ (z : V) (nt : Tree) (lp rp : List Nat), atI [V.ref t1, V.ref t2, V.ref t3] ((seed / (1 + (0 + (i : Int))) + (0 + (i : Int)) * seed) % 3) = some z ∧ Tr K (upd B3 p2 (.lst [.ref t1, .ref t2, .ref t3])) z nt ∧ WT nt ∧ nt.size ≤ t'.size + 2 ∧ txt nt = lp ++ txt t' ++ rp ∧ lp.length ≤ 8 ∧ rp.length ≤ 8 ∧
        atI [V.str "(", V.str ("(" ++ tx wd ++ " "), V.str "("] ((seed / (1 + (0 + (i : Int))) + (0 + (i : Int)) * seed) % 3) = some (.str (tx lp)) ∧ atI [V.str ")", V.str ")", V.str (" " ++ tx wd ++ ")")] ((seed / (1 + (0 + (i : Int))) + (0 + (i : Int)) * seed) % 3) = some (.str (tx rp)) := by
      rw [lit_open, lit_close, lit_blank, tx_app, tx_app, tx_app, tx_app]
      rcases three kd0 kd1 with h | h | h <;> simp only [h]
      · refine ⟨.ref t1, .l [t'], [40], [41], rfl, tr_tup (kb4.tup g1) (Trs.one tv4), wt_l (wts_cons wt' wts_nil), ?_, ?_, by decide, by decide, rfl, rfl⟩
        · rw [size_l, sizes_cons, sizes_nil]; omega
        · rw [txt, seps_nil]; simp
      · refine ⟨.ref t2, .l [.w wd, t'], [40] ++ wd ++ [32], [41], rfl, tr_tup (kb4.tup g2) (trs_cons tr_w (Trs.one tv4)), wt_l (wts_cons (wt_w hw2) (wts_cons wt' wts_nil)), ?_, ?_, ?_, by decide, rfl, rfl⟩
        · rw [size_l, sizes_cons, sizes_cons, sizes_nil, size_w]; omega
        · rw [txt, seps_cons, seps_nil, txt_w]; simp
        · simp; omega
      · refine ⟨.ref t3, .l [t', .w wd], [40], [32] ++ wd ++ [41], rfl, tr_tup (kb4.tup g3) (trs_cons tv4 (Trs.one tr_w)), wt_l (wts_cons wt' (wts_cons (wt_w hw2) wts_nil)), ?_, ?_, by decide, ?_, rfl, rfl⟩
        · rw [size_l, sizes_cons, sizes_cons, sizes_nil, size_w]; omega
        · rw [txt, seps_cons, seps_nil, txt_w]; simp
        · simp; omega
    obtain ⟨z, nt, lp, rp, hz, tz, wz, sz2, etz, llp, lrp, hlp, hrp⟩ := hv
    refine ⟨_, rfl, p2, _, _, _, rfl, rfl, SqL.of upd_same, hz, ?_⟩
    generalize upd B3 p2 (.lst [.ref t1, .ref t2, .ref t3]) = H5 at kab tz
    have hd5 := hd3.keep0 kab
    have el5 := kab.get el (by simp)
    have er5 := kab.get er (by simp)
    have small : ∀ (c : List Nat), (tx [40] ++ tx c).length ≤ sizeLine → True := fun _ _ => trivial
    -- left.append(..)
    refine ⟨_, rfl, .inl ⟨rfl, _, SqL.of el5⟩, _, rfl, _, _, rfl, rfl, ?_, _, _, rfl, rfl, ?_, by show (3 : Nat) ≤ sizeLine; decide, fun p3 np3 => ?_⟩
    · rw [lit_open, tx_len, tx_len]; exact Nat.le_trans (show _ ≤ 100 by show 1 + wd.length ≤ 100; omega) (by decide)
    · rw [lit_open, lit_blank, tx_app, tx_len, tx_len]; exact Nat.le_trans (show _ ≤ 100 by simp; omega) (by decide)
    have kc : Keep [] H5 (upd H5 p3 (.lst [.str "(", .str ("(" ++ tx wd ++ " "), .str "("])) := Keep.new np3
    refine ⟨_, rfl, p3, _, _, _, rfl, rfl, SqL.of upd_same, hlp, le, _, _, rfl, rfl, kc.get el5 (by simp), ?_, ?_⟩
    · rw [tvs_len]; exact Nat.lt_of_le_of_lt (show _ ≤ 1000 by omega) (by decide)
    generalize upd H5 p3 (.lst [.str "(", .str ("(" ++ tx wd ++ " "), .str "("]) = H6 at kc
    have el6 := kc.get el5 (by simp)
    have er6 := kc.get er5 (by simp)
    have kd : Keep [le] H6 (upd H6 le (.lst (tvs ls ++ [.str (tx lp)]))) := Keep.set el6 (List.mem_cons_self ..)
    have el7 : (upd H6 le (.lst (tvs ls ++ [.str (tx lp)]))) le = some (.lst (tvs (ls ++ [lp]))) := by rw [upd_same, tvs_app]; rfl
    have er7 : (upd H6 le (.lst (tvs ls ++ [.str (tx lp)]))) ri = some (.lst (tvs rs)) := by rw [upd_ne lr.symm]; exact er6
    generalize upd H6 le (.lst (tvs ls ++ [.str (tx lp)])) = H7 at kd el7 er7
    -- right.append(..)
    refine ⟨_, rfl, .inl ⟨rfl, _, SqL.of er7⟩, _, rfl, _, _, rfl, rfl, ?_, _, _, rfl, rfl, ?_, by show (3 : Nat) ≤ sizeLine; decide, fun p4 np4 => ?_⟩
    · rw [lit_blank, tx_len, tx_len]; exact Nat.le_trans (show _ ≤ 100 by show 1 + wd.length ≤ 100; omega) (by decide)
    · rw [lit_close, lit_blank, tx_app, tx_len, tx_len]; exact Nat.le_trans (show _ ≤ 100 by simp; omega) (by decide)
    have ke : Keep [] H7 (upd H7 p4 (.lst [.str ")", .str ")", .str (" " ++ tx wd ++ ")")])) := Keep.new np4
    refine ⟨_, rfl, p4, _, _, _, rfl, rfl, SqL.of upd_same, hrp, ri, _, _, rfl, rfl, ke.get er7 (by simp), ?_, ?_⟩
    · rw [tvs_len]; exact Nat.lt_of_le_of_lt (show _ ≤ 1000 by omega) (by decide)
    generalize upd H7 p4 (.lst [.str ")", .str ")", .str (" " ++ tx wd ++ ")")]) = H8 at ke
    have el8 := ke.get el7 (by simp)
    have er8 := ke.get er7 (by simp)
    have kf : Keep [ri] H8 (upd H8 ri (.lst (tvs rs ++ [.str (tx rp)]))) := Keep.set er8 (List.mem_cons_self ..)
    -- all that changed since the turn began
    have kall : Keep [le, ri] H3 (upd H8 ri (.lst (tvs rs ++ [.str (tx rp)]))) := ((((kab.trans kc).mono (by simp)).trans (kd.mono (by simp))).trans (ke.mono (by simp))).trans (kf.mono (by simp))
    have kH : Keep [a] H (upd H8 ri (.lst (tvs rs ++ [.str (tx rp)]))) := by
      have h1 : Keep (le :: ri :: [a]) H (upd H8 ri (.lst (tvs rs ++ [.str (tx rp)]))) := (k3.mono (by simp)).trans (kall.mono (by simp))
      exact (h1.drop nle).drop nri0
    refine ⟨_, _, _, z, nt, ls ++ [lp], rs ++ [rp], rfl, kH, hd3.keep kall (by simp [lea.symm, ria.symm]) (by simp [led.symm, rid.symm]), by rw [upd_ne lr]; exact el8, by rw [upd_same, tvs_app]; rfl, by rw [List.length_append, ll]; rfl, by rw [List.length_append, rl]; rfl, ?_, ?_, ((((tz.keep kc).keep kd).keep ke).keep kf), wz, by omega, ?_⟩
    · intro y m
      rcases List.mem_append.mp m with m | m
      · exact lb y m
      · rw [List.mem_singleton.mp m]; exact llp
    · intro y m
      rcases List.mem_append.mp m with m | m
      · exact rb y m
      · rw [List.mem_singleton.mp m]; exact lrp
    · rw [etz, etx, List.reverse_append, List.reverse_singleton, List.singleton_append, List.flatten_cons, List.flatten_append, List.flatten_cons, List.flatten_nil, List.append_nil]
      simp
  · obtain ⟨y6, y7, y8, v, t', ls, rs, rfl, k3, hd3, el, er, ll, rl, lb, rb, tv, wt', sz, etx⟩ := pw
    have b1 := flat_le ls lb
    have b2 := flat_le rs rb
    have sum_ : ∀ ys : List (List Nat), ((ys.map tx).map (·.length)).sum = ys.flatten.length := fun ys => by
      rw [List.map_map, List.length_flatten]
      congr 1
    refine ⟨_, rfl, ⟨_, rfl⟩, _, rfl, le, _, rfl, SqL.of el, fun p5 np5 => ?_⟩
    have kc : Keep [] H3 (upd H3 p5 (.lst (tvs ls).reverse)) := Keep.new np5
    have rv : (tvs ls).reverse = tvs ls.reverse := by unfold tvs; rw [List.map_reverse, List.map_reverse]
    refine ⟨_, p5, ls.reverse.map tx, rfl, rfl, .inl (SqL.of (by rw [upd_same, rv]; rfl)), ?_, ?_⟩
    · rw [sum_, lit_empty, tx_len, List.length_map, List.length_reverse]
      have : ls.reverse.flatten.length = ls.flatten.length := by
        rw [List.length_flatten, List.length_flatten, List.map_reverse, List.sum_reverse]
      rw [this]
      show _ + ls.length * 0 ≤ _
      exact Nat.le_trans (show _ ≤ 2000 by omega) (by decide)
    rw [TL.join_eq, lit_empty, join_nil]
    refine ⟨⟨_, rfl⟩, _, rfl, _, ri, rs.map tx, rfl, rfl, .inl (SqL.of (kc.get er (by simp))), ?_, ?_⟩
    · rw [sum_, tx_len, List.length_map]
      show _ + rs.length * 0 ≤ _
      exact Nat.le_trans (show _ ≤ 2000 by omega) (by decide)
    rw [TL.join_eq, join_nil]
    refine ⟨by show (3 : Nat) ≤ sizeLine; decide, fun p6 np6 => ?_⟩
    have kd : Keep [] (upd H3 p5 (.lst (tvs ls).reverse)) (upd (upd H3 p5 (.lst (tvs ls).reverse)) p6 (.lst [v, .str (tx ls.reverse.flatten), .str (tx rs.flatten)])) := Keep.new np6
    refine q p6 v ls.reverse.flatten rs.flatten t' _ upd_same ((tv.keep kc).keep kd) wt' etx ?_ (by omega) (by omega) ((k3.trans (kc.mono (by simp))).trans (kd.mono (by simp))) ((hd3.keep0 kc).keep0 kd) ?_
    · have : ls.reverse.flatten.length = ls.flatten.length := by
        rw [List.length_flatten, List.length_flatten, List.map_reverse, List.sum_reverse]
      omega
    · exact ((hd3.keep0 kc).neH np6).symm
end
end Og

namespace Og
open PySem PySem.Spec PyProof.Rows L2
/-! ### the reader, sign by sign: the place where a text is wrong, or its value -/
def isSign (c : Nat) : Bool := (decide (97 ≤ c) && decide (c ≤ 122)) || (decide (48 ≤ c) && decide (c ≤ 57))
theorem isSign_iff {c : Nat} : isSign c = true ↔ Sign c := by
  unfold isSign Sign
  simp
/-- the run of letters and digits at the head -/
def run (cs : List Nat) : List Nat := cs.takeWhile isSign
theorem run_app (cs : List Nat) : cs = run cs ++ cs.drop (run cs).length := by
  unfold run
  induction cs with
  | nil => rfl
  | cons c r ih =>
    rw [List.takeWhile_cons]
    split
    · rw [List.cons_append, List.length_cons, List.drop_succ_cons, ← ih]
    · rfl
theorem run_len (cs : List Nat) : (run cs).length ≤ cs.length := by
  have h := congrArg List.length (run_app cs)
  rw [List.length_append] at h
  omega
theorem run_signs (cs : List Nat) : ∀ c ∈ run cs, Sign c := by
  unfold run
  induction cs with
  | nil => intro c h; cases h
  | cons d r ih =>
    rw [List.takeWhile_cons]
    split
    · rename_i hd
      intro c h
      rcases List.mem_cons.mp h with e | h
      · rw [e]; exact isSign_iff.mp hd
      · exact ih c h
    · intro c h; cases h
theorem run_free (cs : List Nat) : Free (cs.drop (run cs).length) := by
  unfold run
  induction cs with
  | nil => intro c r e; cases e
  | cons c r ih =>
    rw [List.takeWhile_cons]
    split
    · rw [List.length_cons, List.drop_succ_cons]
      exact ih
    · rename_i h
      intro d q e
      cases e
      exact fun hs => h (isSign_iff.mpr hs)
def fin : Nat → List Nat → Tree → Sum Nat Tree
  | _, [], t => .inr t
  | n, c :: r, t => if c = 32 ∨ c = 10 then fin (n + 1) r t else .inl n
def rdk : Nat → List (List Tree) → Nat → List Nat → Sum Nat Tree
  | 0, _, n, _ => .inl n
  | _ + 1, _, n, [] => .inl n
  | k + 1, st, n, c :: r =>
    if c = 32 ∨ c = 10 then rdk k st (n + 1) r
    else if c = 40 then rdk k ([] :: st) (n + 1) r
    else if c = 41 then
      match st with
      | [] => .inl n
      | [l] => fin (n + 1) r (.l l)
      | l :: l2 :: st' => rdk k ((l2 ++ [.l l]) :: st') (n + 1) r
    else if 97 ≤ c ∧ c ≤ 122 then
      if 12 < (run (c :: r)).length then .inl (n + 12)
      else
        match st with
        | [] => fin (n + (run (c :: r)).length) ((c :: r).drop (run (c :: r)).length) (.w (run (c :: r)))
        | l :: st' => rdk k ((l ++ [.w (run (c :: r))]) :: st') (n + (run (c :: r)).length) ((c :: r).drop (run (c :: r)).length)
    else .inl n
section
variable {k n : Nat} {st : List (List Tree)} {c : Nat} {r : List Nat}
theorem rd_nil : rdk k st n [] = .inl n := by cases k <;> rfl
theorem rd_blank (h : c = 32 ∨ c = 10) : rdk (k + 1) st n (c :: r) = rdk k st (n + 1) r := by
  conv => lhs; unfold rdk
  rw [if_pos h]
theorem rd_open : rdk (k + 1) st n (40 :: r) = rdk k ([] :: st) (n + 1) r := by
  conv => lhs; unfold rdk
  rw [if_neg (by decide), if_pos rfl]
theorem rd_close0 : rdk (k + 1) [] n (41 :: r) = .inl n := by
  conv => lhs; unfold rdk
  rw [if_neg (by decide), if_neg (by decide), if_pos rfl]
theorem rd_close1 {l : List Tree} : rdk (k + 1) [l] n (41 :: r) = fin (n + 1) r (.l l) := by
  conv => lhs; unfold rdk
  rw [if_neg (by decide), if_neg (by decide), if_pos rfl]
theorem rd_close {l l2 : List Tree} : rdk (k + 1) (l :: l2 :: st) n (41 :: r) = rdk k ((l2 ++ [.l l]) :: st) (n + 1) r := by
  conv => lhs; unfold rdk
  rw [if_neg (by decide), if_neg (by decide), if_pos rfl]
theorem letter_no {c : Nat} (h : Letter c) : ¬ (c = 32 ∨ c = 10) ∧ c ≠ 40 ∧ c ≠ 41 := by
  obtain ⟨h1, h2⟩ := h
  exact ⟨by omega, by omega, by omega⟩
theorem rd_long (h : Letter c) (h2 : 12 < (run (c :: r)).length) : rdk (k + 1) st n (c :: r) = .inl (n + 12) := by
  have ⟨a, b, d⟩ := letter_no h
  conv => lhs; unfold rdk
  rw [if_neg a, if_neg b, if_neg d, if_pos (show 97 ≤ c ∧ c ≤ 122 from h), if_pos h2]
theorem rd_word0 (h : Letter c) (h2 : ¬ 12 < (run (c :: r)).length) : rdk (k + 1) [] n (c :: r) = fin (n + (run (c :: r)).length) ((c :: r).drop (run (c :: r)).length) (.w (run (c :: r))) := by
  have ⟨a, b, d⟩ := letter_no h
  conv => lhs; unfold rdk
  rw [if_neg a, if_neg b, if_neg d, if_pos (show 97 ≤ c ∧ c ≤ 122 from h), if_neg h2]
theorem rd_word {l : List Tree} (h : Letter c) (h2 : ¬ 12 < (run (c :: r)).length) : rdk (k + 1) (l :: st) n (c :: r) = rdk k ((l ++ [.w (run (c :: r))]) :: st) (n + (run (c :: r)).length) ((c :: r).drop (run (c :: r)).length) := by
  have ⟨a, b, d⟩ := letter_no h
  conv => lhs; unfold rdk
  rw [if_neg a, if_neg b, if_neg d, if_pos (show 97 ≤ c ∧ c ≤ 122 from h), if_neg h2]
theorem rd_odd (h1 : ¬ (c = 32 ∨ c = 10)) (h2 : c ≠ 40) (h3 : c ≠ 41) (h4 : ¬ Letter c) : rdk (k + 1) st n (c :: r) = .inl n := by
  conv => lhs; unfold rdk
  rw [if_neg h1, if_neg h2, if_neg h3, if_neg (show ¬ (97 ≤ c ∧ c ≤ 122) from h4)]
end
theorem run_pos {c : Nat} {r : List Nat} (h : Letter c) : 0 < (run (c :: r)).length := by
  unfold run
  rw [List.takeWhile_cons, if_pos (isSign_iff.mpr (.inl h)), List.length_cons]
  omega
theorem run_word {c : Nat} {r : List Nat} (h : Letter c) (h2 : ¬ 12 < (run (c :: r)).length) : IsWord (run (c :: r)) := by
  have hs := run_signs (c :: r)
  have e : run (c :: r) = c :: r.takeWhile isSign := by
    unfold run
    rw [List.takeWhile_cons, if_pos (isSign_iff.mpr (.inl h))]
  rw [e] at hs h2 ⊢
  exact ⟨c, _, rfl, h, fun y m => hs y (List.mem_cons_of_mem _ m), by rw [List.length_cons] at h2; omega⟩
/-- enough turns are enough -/
theorem rdk_more : ∀ (k j : Nat) (st : List (List Tree)) (n : Nat) (cs : List Nat), cs.length ≤ k → cs.length ≤ j → rdk k st n cs = rdk j st n cs
  | k, j, st, n, [], _, _ => by rw [rd_nil, rd_nil]
  | 0, _, _, _, _ :: _, h, _ => absurd h (by rw [List.length_cons]; omega)
  | _ + 1, 0, _, _, _ :: _, _, h => absurd h (by rw [List.length_cons]; omega)
  | k + 1, j + 1, st, n, c :: r, h1, h2 => by
    rw [List.length_cons] at h1 h2
    by_cases hb : c = 32 ∨ c = 10
    · rw [rd_blank hb, rd_blank hb]
      exact rdk_more k j _ _ _ (by omega) (by omega)
    · by_cases h40 : c = 40
      · subst h40
        rw [rd_open, rd_open]
        exact rdk_more k j _ _ _ (by omega) (by omega)
      · by_cases h41 : c = 41
        · subst h41
          match st with
          | [] => rw [rd_close0, rd_close0]
          | [l] => rw [rd_close1, rd_close1]
          | l :: l2 :: st' =>
            rw [rd_close, rd_close]
            exact rdk_more k j _ _ _ (by omega) (by omega)
        · by_cases hl : Letter c
          · by_cases hw : 12 < (run (c :: r)).length
            · rw [rd_long hl hw, rd_long hl hw]
            · have hp := run_pos (r := r) hl
              have hd : ((c :: r).drop (run (c :: r)).length).length ≤ r.length := by rw [List.length_drop, List.length_cons]; omega
              match st with
              | [] => rw [rd_word0 hl hw, rd_word0 hl hw]
              | l :: st' =>
                rw [rd_word hl hw, rd_word hl hw]
                exact rdk_more k j _ _ _ (by omega) (by omega)
          · rw [rd_odd hb h40 h41 hl, rd_odd hb h40 h41 hl]
def rd (st : List (List Tree)) (n : Nat) (cs : List Nat) : Sum Nat Tree := rdk cs.length st n cs
theorem rd_of {k n : Nat} {st : List (List Tree)} {cs : List Nat} (h : cs.length ≤ k) : rdk k st n cs = rd st n cs := rdk_more k cs.length st n cs h (Nat.le_refl _)
theorem rd_skip : ∀ {g : List Nat} {st : List (List Tree)} {n : Nat} {cs : List Nat}, Blanks g → rd st n (g ++ cs) = rd st (n + g.length) cs
  | [], st, n, cs, _ => rfl
  | c :: g, st, n, cs, h => by
    have ih := rd_skip (g := g) (st := st) (n := n + 1) (cs := cs) fun x m => h x (List.mem_cons_of_mem _ m)
    show rdk (g ++ cs).length.succ st n (c :: (g ++ cs)) = _
    rw [rd_blank (h c (List.mem_cons_self ..)), List.length_cons, show n + (g.length + 1) = n + 1 + g.length by omega]
    exact ih
theorem fin_skip : ∀ {g : List Nat} {n : Nat} {cs : List Nat} {t : Tree}, Blanks g → fin n (g ++ cs) t = fin (n + g.length) cs t
  | [], n, cs, t, _ => rfl
  | c :: g, n, cs, t, h => by
    have ih := fin_skip (g := g) (n := n + 1) (cs := cs) (t := t) fun x m => h x (List.mem_cons_of_mem _ m)
    rw [List.cons_append, fin, if_pos (h c (List.mem_cons_self ..)), ih, List.length_cons, show n + (g.length + 1) = n + 1 + g.length by omega]
/-- how many parts a read value has at most -/
def stsz (st : List (List Tree)) : Nat := (st.map fun l => sizes l + 1).sum
theorem fin_tree : ∀ {n : Nat} {cs : List Nat} {t u : Tree}, fin n cs t = .inr u → u = t
  | n, [], t, u, h => (Sum.inr.inj h).symm
  | n, c :: r, t, u, h => by
    rw [fin] at h
    split at h
    · exact fin_tree h
    · cases h
theorem stsz_cons (l : List Tree) (st : List (List Tree)) : stsz (l :: st) = sizes l + 1 + stsz st := by
  unfold stsz
  rw [List.map_cons, List.sum_cons]
theorem rdk_size : ∀ (k : Nat) (st : List (List Tree)) (n : Nat) (cs : List Nat) (t : Tree), rdk k st n cs = .inr t → t.size ≤ stsz st + cs.length
  | 0, _, _, _, _, h => by cases h
  | k + 1, st, n, [], t, h => by rw [rd_nil] at h; cases h
  | k + 1, st, n, c :: r, t, h => by
    rw [List.length_cons]
    by_cases hb : c = 32 ∨ c = 10
    · rw [rd_blank hb] at h
      have := rdk_size k _ _ _ _ h
      omega
    · by_cases h40 : c = 40
      · subst h40
        rw [rd_open] at h
        have := rdk_size k _ _ _ _ h
        rw [stsz_cons, sizes_nil] at this
        omega
      · by_cases h41 : c = 41
        · subst h41
          match st with
          | [] => rw [rd_close0] at h; cases h
          | [l] =>
            rw [rd_close1] at h
            rw [fin_tree h, size_l, stsz_cons]
            omega
          | l :: l2 :: st' =>
            rw [rd_close] at h
            have := rdk_size k _ _ _ _ h
            rw [stsz_cons, sizes_app, sizes_cons, sizes_nil, size_l] at this
            rw [stsz_cons, stsz_cons]
            omega
        · by_cases hl : Letter c
          · by_cases hw : 12 < (run (c :: r)).length
            · rw [rd_long hl hw] at h; cases h
            · have hp := run_pos (r := r) hl
              match st with
              | [] =>
                rw [rd_word0 hl hw] at h
                rw [fin_tree h, size_w]
                omega
              | l :: st' =>
                rw [rd_word hl hw] at h
                have := rdk_size k _ _ _ _ h
                rw [stsz_cons, sizes_app, sizes_cons, sizes_nil, size_w, List.length_drop, List.length_cons] at this
                rw [stsz_cons]
                omega
          · rw [rd_odd hb h40 h41 hl] at h; cases h
theorem rd_size {st : List (List Tree)} {n : Nat} {cs : List Nat} {t : Tree} (h : rd st n cs = .inr t) : t.size ≤ stsz st + cs.length := rdk_size _ _ _ _ _ h
end Og

namespace Og
open PySem PySem.Spec PyProof.Rows L2
theorem lit_RUN : ("abcdefghijklmnopqrstuvwxyz0123456789" : Str) = tx ((List.range 26).map (· + 97) ++ (List.range 10).map (· + 48)) := by decide +kernel
theorem mem_letters {c : Nat} : c ∈ (List.range 26).map (· + 97) ↔ Letter c := by
  constructor
  · intro h
    obtain ⟨y, hy, rfl⟩ := List.mem_map.mp h
    have := List.mem_range.mp hy
    exact ⟨by omega, by omega⟩
  · intro ⟨h1, h2⟩
    exact List.mem_map.mpr ⟨c - 97, List.mem_range.mpr (by omega), by omega⟩
theorem mem_signs {c : Nat} : c ∈ (List.range 26).map (· + 97) ++ (List.range 10).map (· + 48) ↔ Sign c := by
  rw [List.mem_append, mem_letters]
  constructor
  · rintro (h | h)
    · exact .inl h
    · obtain ⟨y, hy, rfl⟩ := List.mem_map.mp h
      have := List.mem_range.mp hy
      exact .inr ⟨by omega, by omega⟩
  · rintro (h | ⟨h1, h2⟩)
    · exact .inl h
    · exact .inr (List.mem_map.mpr ⟨c - 48, List.mem_range.mpr (by omega), by omega⟩)
theorem IsWord.signs {x : List Nat} (h : IsWord x) : ∀ y ∈ x, Sign y := by
  obtain ⟨c, cs, rfl, hc, hs, _⟩ := h
  intro y m
  rcases List.mem_cons.mp m with e | m
  · rw [e]; exact .inl hc
  · exact hs y m
theorem drop_get {cs x : List Nat} {i e : Nat} (h : cs.drop i = x) : cs[i + e]? = x[e]? := by
  rw [← h, List.getElem?_drop]
end Og

namespace Og
open PySem PySem.Spec PyProof.Rows L2
section
variable {P : Program} {w : World} {K : PySem.W.Frag} {mg : Str → Option Value} {base : Heap}
/-- what is wished where an error with the place n leaves -/
def Bad (f : Str) (C : Addr) (n : Nat) (H : Hp) (E : XK) : Prop := ∀ (d : Addr) (H' : Hp), H' d = some (.xd [(f, .int n)]) → Keep [] H H' → E (.ref C) (some d) H'
def spWordAtX (C : Addr) : Sp := fun vs H Q E => ∃ (cs r : List Nat) (c i : Nat), vs = [.str (tx cs), .int i] ∧ cs.drop i = c :: r ∧ cs.length ≤ 4000000 ∧ (¬ Letter c → Bad "place" C i H E) ∧
  (Letter c → 12 < (run (c :: r)).length → Bad "place" C (i + 12) H E) ∧ (Letter c → ¬ 12 < (run (c :: r)).length → Q (.str (tx (run (c :: r)))) H)
theorem has_wordatX {C G fI : Addr} {fdI : FuncData} {k : Nat} (T_BadText : ErrT K mg "BadText" "BadText.__init__" "place" s_BadText_init C G fI fdI) (D : DefAt K mg "_word_at" s_word_at p_word_at) (B : Bn mg) (M : Mc mg) : HasX P w K mg base (k + 3) "_word_at" p_word_at (spWordAtX C) := by
  obtain ⟨f, fd, F, hm, hb⟩ := D.ex
  obtain ⟨_, M_LETTERS⟩ := M.LETTERS
  obtain ⟨_, M_RUN_SIGNS⟩ := M.RUN_SIGNS
  obtain ⟨_, M_LONGEST_WORD⟩ := M.LONGEST_WORD
  have ok_BadText := ok_BadText' (P := P) (w := w) (base := base) T_BadText
  refine ⟨f, fd, F.okX sc_word_at (fun vs H Q E h => ?_) (fun cdv A outer s H vs Q E hr h => ?_), hm, F.kp, hb⟩
  · obtain ⟨a, d, _, _, rfl, _⟩ := h
    rfl
  obtain ⟨cs, r, c, i, rfl, hd, hl, bad1, bad2, q⟩ := h
  have hr_BadText := hr.mono (show 2 ≤ k + 2 by omega)
  refine ⟨_, (pss_cons (ps_if (pt_cmpR op_notIn_sign (pe_ix ix_str (pv 0) (pv 1) (fun _ _ => rfl)) (pe_glob (v := .str "abcdefghijklmnopqrstuvwxyz") rfl M_LETTERS ⟨_, rfl⟩) (by rfl)) (pss_one (ps_raise rfl (takes_of rfl rfl rfl rfl) (pmk_oex T_BadText.ox T_BadText.iC T_BadText.tI ok_BadText hr_BadText T_BadText.bi .nil pass0 rfl T_BadText.gC (pa_cons (pv 1) pa_nil)))) pss_nil)
    (pss_cons (ps_set (i := 2) sc_word_at.nd rfl (.inl rfl) (pe_op op_add (pv 1) pe_int))
    (pss_cons (ps_while (passes_of rfl) (PW.pt (pw_and (pt_cmpR op_lt (pv 2) (pe_callB call_len_str (by rfl) B.len PySem.boot_len (pa_cons (pv 0) pa_nil)) (nomark _)) (pw_and1 (pt_cmpR op_in_sign (pe_ix ix_str (pv 0) (pv 2) (fun _ _ => rfl)) (pe_glob (v := .str "abcdefghijklmnopqrstuvwxyz0123456789") rfl M_RUN_SIGNS ⟨_, rfl⟩) (by rfl))))) (pss_cons (ps_if (pt_cmpR op_eq (pe_op op_sub (pv 2) (pv 1)) (pe_glob (v := .int 12) rfl M_LONGEST_WORD ⟨_, rfl⟩) (nomark _)) (pss_one (ps_raise rfl (takes_of rfl rfl rfl rfl) (pmk_oex T_BadText.ox T_BadText.iC T_BadText.tI ok_BadText hr_BadText T_BadText.bi .nil pass0 rfl T_BadText.gC (pa_cons (pv 2) pa_nil)))) pss_nil)
      (pss_one (ps_aug (i := 2) sc_word_at.nd rfl (.inl rfl) pe_int ip_add))))
    (pss_one (ps_ret (pe_slice sl_str (pv 0) (po_some (pv 1)) (po_some (pv 2)))))))), ?_⟩
  have sz : (tx cs).length ≤ sizeLine := by rw [tx_len]; exact Nat.le_trans hl (by decide)
  have li : i + r.length + 1 = cs.length := by
    have := congrArg List.length hd
    rw [List.length_drop, List.length_cons] at this
    omega
  have hc0 : atI cs (i : Int) = some c := atI_nat (by
    have := drop_get (e := 0) hd
    rw [Nat.add_zero] at this
    rw [this]; rfl)
  have raise : ∀ (n : Nat) (H1 : Hp), n ≤ 4000012 → Bad "place" C n H1 E → ∀ a : Addr, H1 a = none → spErr K "place" [V.ref a, V.int n] (upd H1 a (exo a C none)) (fun v H2 => v = .non ∧ ∃ (d : Addr) (fs : List (Str × V)), H2 a = some (exo a C (some d)) ∧ H2 d = some (exd d fs) ∧ H1 d = none ∧ E (.ref C) (some d) (upd (del H2 a) d (.xd fs))) (fun _ _ _ => False) := by
    intro n H1 hn hbad a na
    refine ⟨a, C, n, rfl, T_BadText.ox, T_BadText.no, by omega, upd_same, fun dx hd ne => ⟨rfl, dx, _, upd_same, by rw [upd_ne ne, upd_same], by rw [upd_ne ne] at hd; exact hd, hbad dx _ upd_same (keep_raised na hd ne)⟩⟩
  refine ⟨_, rfl, _, rfl, _, _, c, rfl, rfl, sz, hc0, c, _, rfl, rfl, _, rfl, ?_⟩
  rw [lit_letters, tx_list]
  by_cases hL : Letter c
  · rw [decide_eq_true (mem_letters.mpr hL)]
    refine iteF ?_
    refine ⟨_, rfl, _, _, rfl, rfl, ?_⟩
    have hp := run_pos (r := r) hL
    have rl := run_len (c :: r)
    rw [List.length_cons] at rl
    have rap := run_app (c :: r)
    have rsg := run_signs (c :: r)
    have rfr := run_free (c :: r)
    generalize hw : run (c :: r) = x at *
    have hdx : cs.drop i = x ++ (c :: r).drop x.length := by rw [hd]; exact rap
    obtain ⟨W, hW⟩ : ∃ W : Nat → L2.St → Hp → Prop, W = fun m σ H' => H' = H ∧ ∃ (e : Nat), σ = [some (.str (tx cs)), some (.int i), some (.int ((i : Int) + (e : Int)))] ∧ m = x.length - e ∧ 1 ≤ e ∧ e ≤ x.length ∧ e ≤ 12 := ⟨_, rfl⟩
    refine ⟨W, ⟨x.length - 1, by rw [hW]; exact ⟨rfl, 1, rfl, rfl, Nat.le_refl _, hp, by decide⟩⟩, fun m σ H1 p => ?_⟩
    rw [hW] at p
    obtain ⟨rfl, e, rfl, rfl, h1, h2, h3⟩ := p
    have e0 : (i : Int) + (e : Int) = ((i + e : Nat) : Int) := by omega
    have fin : e = x.length → Q (.str (cutS (tx cs) (some (i : Int)) (some ((i : Int) + (e : Int))))) H1 := fun z => by
      rw [e0, cutS_nat cs (by omega) (by omega), hdx, show i + e - i = x.length by omega, List.take_left]
      exact q hL (by omega)
    refine ⟨_, rfl, _, rfl, _, rfl, sz, _, _, rfl, rfl, _, rfl, ?_⟩
    rw [tx_len]
    refine ite2 (fun c1 => ?_) (fun c1 => ?_)
    · have c' : (i : Int) + (e : Int) < (cs.length : Int) := of_decide_eq_true c1
      by_cases he : e < x.length
      · have hc1 : atI cs ((i + e : Nat) : Int) = some x[e] := atI_nat (by rw [drop_get hdx, List.getElem?_append_left he, List.getElem?_eq_getElem he])
        refine ⟨_, rfl, _, rfl, _, _, x[e], rfl, rfl, sz, by rw [e0]; exact hc1, x[e], _, rfl, rfl, _, rfl, ?_⟩
        rw [lit_RUN, tx_list, decide_eq_true (mem_signs.mpr (rsg _ (List.getElem_mem he)))]
        refine iteT ⟨fun σ' H' => ∃ m', m' < x.length - e ∧ W m' σ' H', fun _ _ h => h, ?_⟩
        refine ⟨_, rfl, _, rfl, _, _, rfl, rfl, rfl, _, rfl, ?_⟩
        by_cases h12 : e = 12
        · subst h12
          rw [decide_eq_true (show V.int ((i : Int) + ((12 : Nat) : Int) - (i : Int)) = V.int 12 by congr 1; omega)]
          refine iteT ⟨_, rfl, by show 1 ≤ 1000; decide, fun a na => ?_⟩
          rw [e0]
          exact raise (i + 12) H1 (by omega) (bad2 hL (by omega)) a na
        · rw [decide_eq_false (fun z => h12 (by have := V.int.inj z; omega))]
          refine iteF ?_
          refine ⟨_, rfl, _, _, rfl, rfl, x.length - (e + 1), by omega, ?_⟩
          rw [hW]
          refine ⟨rfl, e + 1, ?_, rfl, by omega, by omega, by omega⟩
          show [some (V.str (tx cs)), some (V.int i), some (V.int ((i : Int) + (e : Int) + 1))] = _
          rw [show (i : Int) + (e : Int) + 1 = (i : Int) + ((e + 1 : Nat) : Int) by omega]
      · have he' : e = x.length := by omega
        have hlen : ((c :: r).drop x.length).length = r.length + 1 - x.length := by rw [List.length_drop, List.length_cons]
        obtain ⟨c2, r2, er⟩ := List.exists_cons_of_ne_nil (l := (c :: r).drop x.length) (fun z => by rw [z] at hlen; have : ([] : List Nat).length = 0 := rfl; omega)
        have hc1 : atI cs ((i + e : Nat) : Int) = some c2 := atI_nat (by rw [drop_get hdx, he', List.getElem?_append_right (Nat.le_refl _), Nat.sub_self, er]; rfl)
        refine ⟨_, rfl, _, rfl, _, _, c2, rfl, rfl, sz, by rw [e0]; exact hc1, c2, _, rfl, rfl, _, rfl, ?_⟩
        rw [lit_RUN, tx_list, decide_eq_false (fun z => rfr c2 r2 er (mem_signs.mp z))]
        refine iteF ?_
        refine ⟨_, rfl, _, rfl, _, rfl, _, rfl, _, rfl, _, rfl, sz, ?_⟩
        exact fin he'
    · have c' : ¬ (i : Int) + (e : Int) < (cs.length : Int) := of_decide_eq_false (Bool.eq_false_iff.mpr c1)
      refine iteF ?_
      refine ⟨_, rfl, _, rfl, _, rfl, _, rfl, _, rfl, _, rfl, sz, ?_⟩
      exact fin (by omega)
  · rw [decide_eq_false (fun z => hL (mem_letters.mp z))]
    refine iteT ⟨_, rfl, by show 1 ≤ 1000; decide, fun a na => ?_⟩
    exact raise i H (by omega) (bad1 hL) a na
end
end Og

namespace Og
open PySem PySem.Spec PyProof.Rows L2
/-! ### read_value on a text that holds the tokens of a tree -/
/-- the open lists: at as, the innermost first; none has more than n items -/
def Stk (K : PySem.W.Frag) (H : Hp) (n : Nat) : List Addr → List (List Tree) → Prop
  | [], [] => True
  | a :: as, l :: st => (∃ vs, H a = some (.lst vs) ∧ Trs K H vs l ∧ vs.length ≤ n) ∧ Stk K H n as st
  | _, _ => False
theorem Stk.keep {K : PySem.W.Frag} {S : List Addr} {H H1 : Hp} {n m : Nat} (k : Keep S H H1) (hn : n ≤ m) : ∀ {as : List Addr} {st : List (List Tree)}, (∀ a ∈ as, a ∉ S) → Stk K H n as st → Stk K H1 m as st
  | [], [], _, _ => trivial
  | a :: as, l :: st, d, ⟨⟨vs, e, tr, hl⟩, h⟩ => ⟨⟨vs, k.get e (d a (List.mem_cons_self ..)), tr.keep k, Nat.le_trans hl hn⟩, Stk.keep k hn (fun x m => d x (List.mem_cons_of_mem _ m)) h⟩
  | [], _ :: _, _, h => h.elim
  | _ :: _, [], _, h => h.elim
theorem Stk.some {K : PySem.W.Frag} {H : Hp} {n : Nat} : ∀ {as : List Addr} {st : List (List Tree)}, Stk K H n as st → ∀ a ∈ as, ∃ o, H a = some o
  | [], _, _, a, m => absurd m (List.not_mem_nil)
  | b :: as, l :: st, ⟨⟨vs, e, _⟩, h⟩, a, m => by
    rcases List.mem_cons.mp m with q | q
    · rw [q]; exact ⟨_, e⟩
    · exact Stk.some h a q
  | _ :: _, [], h, _, _ => h.elim
theorem Stk.len {K : PySem.W.Frag} {H : Hp} {n : Nat} : ∀ {as : List Addr} {st : List (List Tree)}, Stk K H n as st → as.length = st.length
  | [], [], _ => rfl
  | _ :: _, _ :: _, ⟨_, h⟩ => by rw [List.length_cons, List.length_cons, Stk.len h]
  | [], _ :: _, h => h.elim
  | _ :: _, [], h => h.elim
theorem Blanks.free {g cs' : List Nat} (h : Blanks g) (ne : g ≠ []) : Free (g ++ cs') := by
  obtain ⟨c, r, rfl⟩ := List.exists_cons_of_ne_nil ne
  intro d r' e hs
  have e1 := (List.cons.inj e).1
  subst e1
  rcases h c (List.mem_cons_self ..) with q | q <;> rcases hs with ⟨h1, _⟩ | ⟨h1, h2⟩ <;> omega
end Og

namespace Og
open PySem PySem.Spec PyProof.Rows L2
theorem rd_one_open (st : List (List Tree)) (n : Nat) (r : List Nat) : rd st n (40 :: r) = rd ([] :: st) (n + 1) r := rd_open (k := r.length)
theorem rd_one_close (l l2 : List Tree) (st : List (List Tree)) (n : Nat) (r : List Nat) : rd (l :: l2 :: st) n (41 :: r) = rd ((l2 ++ [.l l]) :: st) (n + 1) r := rd_close (k := r.length)
theorem rd_one_close1 (l : List Tree) (n : Nat) (r : List Nat) : rd [l] n (41 :: r) = fin (n + 1) r (.l l) := rd_close1 (k := r.length)
theorem rd_one_close0 (n : Nat) (r : List Nat) : rd [] n (41 :: r) = .inl n := rd_close0 (k := r.length)
theorem rd_one_nil (st : List (List Tree)) (n : Nat) : rd st n [] = .inl n := rd_nil
theorem rd_one_long {c : Nat} (st : List (List Tree)) (n : Nat) (r : List Nat) (h : Letter c) (h2 : 12 < (run (c :: r)).length) : rd st n (c :: r) = .inl (n + 12) := rd_long (k := r.length) h h2
theorem rd_one_word0 {c : Nat} (n : Nat) (r : List Nat) (h : Letter c) (h2 : ¬ 12 < (run (c :: r)).length) : rd [] n (c :: r) = fin (n + (run (c :: r)).length) ((c :: r).drop (run (c :: r)).length) (.w (run (c :: r))) := rd_word0 (k := r.length) h h2
theorem rd_one_word {c : Nat} (l : List Tree) (st : List (List Tree)) (n : Nat) (r : List Nat) (h : Letter c) (h2 : ¬ 12 < (run (c :: r)).length) : rd (l :: st) n (c :: r) = rd ((l ++ [.w (run (c :: r))]) :: st) (n + (run (c :: r)).length) ((c :: r).drop (run (c :: r)).length) := by
  have hp := run_pos (r := r) h
  refine (rd_word (k := r.length) h h2).trans (rd_of ?_)
  rw [List.length_drop, List.length_cons]
  omega
theorem rd_one_odd {c : Nat} (st : List (List Tree)) (n : Nat) (r : List Nat) (h1 : ¬ (c = 32 ∨ c = 10)) (h2 : c ≠ 40) (h3 : c ≠ 41) (h4 : ¬ Letter c) : rd st n (c :: r) = .inl n := rd_odd (k := r.length) h1 h2 h3 h4
/-- the state of the reading, at the place n, with what is still to come cs -/
def GoX (K : PySem.W.Frag) (H0 H : Hp) (u b : Addr) (n : Nat) (cs : List Nat) (res : Sum Nat Tree) : Prop :=
  Keep [] H0 H ∧ ((∃ as st, H u = some (.lst ((b :: as.reverse).map V.ref)) ∧ H b = some (.lst []) ∧ Stk K H n as st ∧ (u :: b :: as).Nodup ∧ (∀ a ∈ as, H0 a = none) ∧ as.length ≤ n ∧ rd st n cs = res) ∨
    (∃ v t, H u = some (.lst [.ref b]) ∧ H b = some (.lst [v]) ∧ Tr K H v t ∧ fin n cs t = res))
theorem skip_blanks : ∀ cs : List Nat, ∃ g r, cs = g ++ r ∧ Blanks g ∧ NoBlank r
  | [] => ⟨[], [], rfl, blanks_nil, fun c r e => by cases e⟩
  | c :: cs => by
    by_cases h : c = 32 ∨ c = 10
    · obtain ⟨g, r, e, b, n⟩ := skip_blanks cs
      refine ⟨c :: g, r, by rw [e]; rfl, fun x m => ?_, n⟩
      rcases List.mem_cons.mp m with q | m
      · rw [q]; exact h
      · exact b x m
    · exact ⟨[], c :: cs, rfl, blanks_nil, fun d r e => by
        cases e
        exact ⟨fun z => h (.inl z), fun z => h (.inr z)⟩⟩
section
variable {P : Program} {w : World} {K : PySem.W.Frag} {mg : Str → Option Value} {base : Heap}
def spReadX (K : PySem.W.Frag) (C : Addr) : Sp := fun vs H Q E => ∃ (cs : List Nat), vs = [.str (tx cs)] ∧ cs.length ≤ 4000000 ∧ (∀ n, rd [] 0 cs = .inl n → Bad "place" C n H E) ∧
  (∀ (t : Tree) (v : V) (H' : Hp), rd [] 0 cs = .inr t → Tr K H' v t → Keep [] H H' → Q v H')
theorem has_readX {C G fI : Addr} {fdI : FuncData} {k : Nat} (T_BadText : ErrT K mg "BadText" "BadText.__init__" "place" s_BadText_init C G fI fdI) (D : DefAt K mg "read_value" s_read_value p_read_value) (B : Bn mg)
    (c1 : Has P w K mg base (k + 3) "_behind_blanks" p_behind_blanks spBlanks) (c2 : HasX P w K mg base (k + 3) "_word_at" p_word_at (spWordAtX C)) :
    HasX P w K mg base (k + 4) "read_value" p_read_value (spReadX K C) := by
  obtain ⟨f, fd, F, hm, hb⟩ := D.ex
  obtain ⟨_, _, c_behind_blanks⟩ := c1
  obtain ⟨_, _, c_word_at⟩ := c2
  have ok_BadText := ok_BadText' (P := P) (w := w) (base := base) T_BadText
  refine ⟨f, fd, F.okX sc_read_value (fun vs H Q E h => ?_) (fun cdv A outer s H vs Q E hr h => ?_), hm, F.kp, hb⟩
  · obtain ⟨_, rfl, _⟩ := h
    rfl
  obtain ⟨cs, rfl, sz0, bad, q⟩ := h
  have hr_BadText := hr.mono (show 2 ≤ k + 3 by omega)
  refine ⟨_, (pss_cons (ps_set (i := 1) sc_read_value.nd rfl (.inl rfl) (pe_lst (pa_cons (pe_lst pa_nil) pa_nil)))
    (pss_cons (ps_set (i := 2) sc_read_value.nd rfl (.inl rfl) (cal c_behind_blanks hr rfl (pa_cons (pv 0) (pa_cons pe_int pa_nil))))
    (pss_cons (ps_while (passes_of rfl) (pt_not (pt_truth (pe_ix ix_list (pv 1) pe_int (fun _ _ => rfl)) (by intro _; rfl))) (pss_cons (ps_if (pt_cmpR op_eq (pv 2) (pe_callB call_len_str (by rfl) B.len PySem.boot_len (pa_cons (pv 0) pa_nil)) (nomark _)) (pss_one (ps_raise rfl (takes_of rfl rfl rfl rfl) (pmk_oex T_BadText.ox T_BadText.iC T_BadText.tI ok_BadText hr_BadText T_BadText.bi .nil pass0 rfl T_BadText.gC (pa_cons (pv 2) pa_nil)))) pss_nil)
      (C8.pss_cut (ps_if (pt_cmpR op_eq (pe_ix ix_str (pv 0) (pv 2) (fun _ _ => rfl)) pe_str (nomark _)) (pss_cons (ps_expr (pe_bm PySem.F.plainAttrs_list PySem.F.slot_list_append PySem.F.type_list_append mt_append (pv 1) (pa_cons (pe_lst pa_nil) pa_nil)))
        (pss_one (ps_aug (i := 2) sc_read_value.nd rfl (.inl rfl) pe_int ip_add))) (pss_one (ps_if (PW.pt (pw_and (pt_cmpR op_eq (pe_ix ix_str (pv 0) (pv 2) (fun _ _ => rfl)) pe_str (nomark _)) (pw_and1 (pt_cmpR op_gt (pe_callB call_len_seq (by rfl) B.len PySem.boot_len (pa_cons (pv 1) pa_nil)) pe_int (nomark _))))) (pss_cons (ps_set (i := 3) sc_read_value.nd rfl (.inl rfl) (pe_bm0 PySem.F.plainAttrs_list PySem.F.slot_list_pop PySem.F.type_list_pop mt_pop (pv 1)))
          (pss_cons (ps_expr (pe_bm PySem.F.plainAttrs_list PySem.F.slot_list_append PySem.F.type_list_append mt_append (pe_ix ix_list (pv 1) (pe_un un_neg pe_int) (fun _ _ => rfl)) (pa_cons (pe_callTy call_tuple_of (by rfl) B.tuple (by decide +kernel) (pa_cons (pv 3) pa_nil)) pa_nil)))
          (pss_one (ps_aug (i := 2) sc_read_value.nd rfl (.inl rfl) pe_int ip_add)))) (pss_cons (ps_set (i := 4) sc_read_value.nd rfl (.inl rfl) (calX c_word_at hr rfl (passes_call (takes_of rfl rfl rfl rfl) (fun _ _ _ _ h => h)) (pa_cons (pv 0) (pa_cons (pv 2) pa_nil))))
          (pss_cons (ps_expr (pe_bm PySem.F.plainAttrs_list PySem.F.slot_list_append PySem.F.type_list_append mt_append (pe_ix ix_list (pv 1) (pe_un un_neg pe_int) (fun _ _ => rfl)) (pa_cons (pv 4) pa_nil)))
          (pss_one (ps_aug (i := 2) sc_read_value.nd rfl (.inl rfl) (pe_callB call_len_str (by rfl) B.len PySem.boot_len (pa_cons (pv 4) pa_nil)) ip_add)))))))
      (pss_one (ps_set (i := 2) sc_read_value.nd rfl (.inl rfl) (cal c_behind_blanks hr rfl (pa_cons (pv 0) (pa_cons (pv 2) pa_nil))))))))
    (pss_cons (ps_if (pt_cmpR op_lt (pv 2) (pe_callB call_len_str (by rfl) B.len PySem.boot_len (pa_cons (pv 0) pa_nil)) (nomark _)) (pss_one (ps_raise rfl (takes_of rfl rfl rfl rfl) (pmk_oex T_BadText.ox T_BadText.iC T_BadText.tI ok_BadText hr_BadText T_BadText.bi .nil pass0 rfl T_BadText.gC (pa_cons (pv 2) pa_nil)))) pss_nil)
    (pss_one (ps_ret (pe_ix ix_list (pe_ix ix_list (pv 1) pe_int (fun _ _ => rfl)) pe_int (fun _ _ => rfl)))))))), ?_⟩
  have sz : (tx cs).length ≤ sizeLine := by rw [tx_len]; exact Nat.le_trans sz0 (by decide)
  have raise : ∀ (n : Nat) (H1 : Hp), Keep [] H H1 → n ≤ 4000012 → rd [] 0 cs = .inl n → ∀ a : Addr, H1 a = none → spErr K "place" [V.ref a, V.int n] (upd H1 a (exo a C none)) (fun v H2 => v = .non ∧ ∃ (d : Addr) (fs : List (Str × V)), H2 a = some (exo a C (some d)) ∧ H2 d = some (exd d fs) ∧ H1 d = none ∧ E (.ref C) (some d) (upd (del H2 a) d (.xd fs))) (fun _ _ _ => False) := by
    intro n H1 kk hn hres a na
    refine ⟨a, C, n, rfl, T_BadText.ox, T_BadText.no, by omega, upd_same, fun dx hd ne => ⟨rfl, dx, _, upd_same, by rw [upd_ne ne, upd_same], by rw [upd_ne ne] at hd; exact hd, bad n hres dx _ upd_same (kk.trans (keep_raised na hd ne))⟩⟩
  -- unfinished = [[]]
  refine ⟨Nat.zero_le _, fun b nb => ?_⟩
  refine ⟨by show (1 : Nat) ≤ sizeLine; decide, fun u nu => ?_⟩
  have ub : u ≠ b := by intro e; rw [e, upd_same] at nu; cases nu
  have k0 : Keep [] H (upd (upd H b (.lst [])) u (.lst [.ref b])) := (Keep.new nb).newT nu
  have nu0 : H u = none := (Keep.new (S := []) nb).free nu
  generalize hHa : upd (upd H b (.lst [])) u (.lst [.ref b]) = Ha at k0
  have ea : Ha u = some (.lst [.ref b]) := by rw [← hHa, upd_same]
  have eb : Ha b = some (.lst []) := by rw [← hHa, upd_ne ub.symm, upd_same]
  -- at = _behind_blanks(text, 0)
  refine ⟨_, rfl, cs, 0, rfl, Nat.zero_le _, sz0, fun j g' h1 h2 h3 h4 h5 h6 => ?_⟩
  generalize hres : rd [] 0 cs = res at bad q raise
  rw [List.drop_zero] at h3
  rw [Nat.zero_add] at h6
  have hres0 : rd [] j (cs.drop j) = res := by
    rw [← hres]
    conv => rhs; rw [h3]
    rw [rd_skip h4, Nat.zero_add, ← h6]
  obtain ⟨W, hW⟩ : ∃ W : Nat → L2.St → Hp → Prop, W = fun m σ H' => ∃ (y3 y4 : Option V) (i : Nat), σ = [some (.str (tx cs)), some (.ref u), some (.int i), y3, y4] ∧ m = cs.length - i ∧ i ≤ cs.length ∧ NoBlank (cs.drop i) ∧ GoX K H H' u b i (cs.drop i) res := ⟨_, rfl⟩
  refine ⟨W, ⟨cs.length - j, ?_⟩, fun m σ H1 pw => ?_⟩
  · rw [hW]
    refine ⟨none, none, j, rfl, rfl, h2, h5, k0, .inl ⟨[], [], ea, eb, trivial, ?_, by simp, Nat.zero_le _, hres0⟩⟩
    simp [ub]
  clear h1 h2 h3 h4 h5 h6 ea eb hHa k0 hres0
  rw [hW] at pw
  obtain ⟨y3, y4, i, rfl, rfl, hi, nbl, k1, go⟩ := pw
  rcases go with ⟨as, st, eu, eb, stk, nd, fresh, asl, rdi⟩ | ⟨v, t, eu, eb, tv, fi⟩
  · -- the reading goes on
    refine ⟨_, rfl, u, _, _, _, rfl, rfl, SqL.of eu, atI_zero _ _, _, tru_list eb, ?_⟩
    refine iteT ⟨fun σ' H' => ∃ m', m' < cs.length - i ∧ W m' σ' H', fun _ _ h => h, ?_⟩
    refine ⟨_, rfl, _, rfl, _, rfl, sz, rfl, _, rfl, ?_⟩
    rw [tx_len]
    by_cases hend : i = cs.length
    · rw [decide_eq_true (show V.int (i : Int) = V.int (cs.length : Nat) by rw [hend])]
      refine iteT ⟨_, rfl, by show 1 ≤ 1000; decide, fun a na => ?_⟩
      refine raise i H1 k1 (by omega) ?_ a na
      rw [← rdi, hend, List.drop_length, rd_one_nil]
    rw [decide_eq_false (fun z => hend (by have := V.int.inj z; omega))]
    refine iteF ?_
    obtain ⟨c, hci, hd⟩ := drop_at (show i < cs.length by omega)
    generalize hr' : cs.drop (i + 1) = r at hd
    rw [hd] at nbl rdi
    have nb0 := nbl c r rfl
    have asu : ∀ a ∈ as, a ≠ u := fun a m e => (List.nodup_cons.mp nd).1 (List.mem_cons_of_mem _ (e ▸ m))
    have asb : ∀ a ∈ as, a ≠ b := fun a m e => (List.nodup_cons.mp (List.nodup_cons.mp nd).2).1 (e ▸ m)
    -- where the next item goes
    have put : ∀ (H2 : Hp) (as : List Addr) (st : List (List Tree)) (x : V) (tt : Tree) (n : Nat) (cs' : List Nat), i < n → Keep [] H H2 → H2 u = some (.lst ((b :: as.reverse).map V.ref)) → H2 b = some (.lst []) → Stk K H2 i as st → (u :: b :: as).Nodup → (∀ a ∈ as, H a = none) → as.length ≤ i → Tr K H2 x tt →
        (∀ l st', st = l :: st' → rd ((l ++ [tt]) :: st') n cs' = res) → (st = [] → fin n cs' tt = res) →
        ∃ (p : Addr) (vs : List V), atI ((b :: as.reverse).map V.ref) (-1) = some (.ref p) ∧ p ≠ u ∧ H2 p = some (.lst vs) ∧ vs.length < sizeLine ∧ GoX K H (upd H2 p (.lst (vs ++ [x]))) u b n cs' res := by
      intro H2 as st x tt n cs' hn kk eu eb stk nd fresh asl tx1 hgo hend
      cases as with
      | nil =>
        cases st with
        | cons l st' => exact stk.elim
        | nil =>
          refine ⟨b, [], rfl, ub.symm, eb, (by decide), ?_⟩
          have kb : Keep [b] H2 (upd H2 b (.lst ([] ++ [x]))) := Keep.set eb (List.mem_cons_self ..)
          exact ⟨(kk.cons.trans (kb.mono (by simp))).drop nb, .inr ⟨x, tt, by rw [upd_ne ub]; exact eu, upd_same, tx1.keep kb, hend rfl⟩⟩
      | cons a as' =>
        cases st with
        | nil => exact stk.elim
        | cons l st' =>
          obtain ⟨⟨vs, ea, ta, la⟩, stk'⟩ := stk
          have nau : a ≠ u := fun e => (List.nodup_cons.mp nd).1 (by rw [e]; simp)
          have nab : a ≠ b := fun e => (List.nodup_cons.mp (List.nodup_cons.mp nd).2).1 (by rw [e]; simp)
          have naas : a ∉ as' := (List.nodup_cons.mp (List.nodup_cons.mp (List.nodup_cons.mp nd).2).2).1
          refine ⟨a, vs, ?_, nau, ea, Nat.lt_of_le_of_lt (show _ ≤ 4000000 by omega) (by decide), ?_⟩
          · rw [List.reverse_cons, ← List.cons_append, List.map_append]
            exact atI_last _ _
          · have ka : Keep [a] H2 (upd H2 a (.lst (vs ++ [x]))) := Keep.set ea (List.mem_cons_self ..)
            refine ⟨(kk.cons.trans (ka.mono (by simp))).drop (fresh a (List.mem_cons_self ..)), .inl ⟨a :: as', (l ++ [tt]) :: st', by rw [upd_ne nau.symm]; exact eu, by rw [upd_ne nab.symm]; exact eb, ⟨⟨vs ++ [x], upd_same, (ta.append (Trs.one tx1)).keep ka, ?_⟩, stk'.keep ka (by omega) ?_⟩, nd, fresh, by omega, hgo l st' rfl⟩⟩
            · rw [List.length_append, List.length_singleton]; omega
            · intro z m
              rw [List.mem_singleton]
              intro e
              rw [e] at m
              exact naas m
    -- the ways, up to the blanks
    refine ⟨fun σ' H' => ∃ y3 y4 n, σ' = [some (.str (tx cs)), some (.ref u), some (.int ((n : Nat) : Int)), y3, y4] ∧ i < n ∧ n ≤ cs.length ∧ GoX K H H' u b n (cs.drop n) res, ?_, fun σ' H' hmid => ?_⟩
    · refine ⟨_, rfl, _, rfl, _, _, c, rfl, rfl, sz, hci, rfl, _, rfl, ?_⟩
      by_cases c40 : c = 40
      · subst c40
        rw [rd_one_open] at rdi
        rw [lit_open, decide_eq_true (show V.str ⟨#[40]⟩ = V.str (tx [40]) from rfl)]
        refine iteT ?_
        refine ⟨_, rfl, .inl ⟨rfl, _, SqL.of eu⟩, Nat.zero_le _, fun n nn => ?_⟩
        have un : u ≠ n := ne_of_none eu nn
        have bn : b ≠ n := ne_of_none eb nn
        have eu2 : (upd H1 n (.lst [])) u = some (.lst ((b :: as.reverse).map V.ref)) := by rw [upd_ne un]; exact eu
        refine ⟨u, _, _, rfl, rfl, eu2, ?_, ?_⟩
        · rw [List.length_map, List.length_cons, List.length_reverse]
          exact Nat.lt_of_le_of_lt (show _ ≤ 4000001 by omega) (by decide)
        refine ⟨_, rfl, _, _, rfl, rfl, _, _, i + 1, rfl, by omega, by omega, ?_⟩
        have kn : Keep [] H1 (upd H1 n (.lst [])) := Keep.new nn
        have ku : Keep [u] (upd H1 n (.lst [])) (upd (upd H1 n (.lst [])) u (.lst ((b :: as.reverse).map V.ref ++ [.ref n]))) := Keep.set eu2 (List.mem_cons_self ..)
        refine ⟨((k1.trans kn).cons.trans (ku.mono (by simp))).drop nu0, .inl ⟨n :: as, [] :: st, ?_, ?_, ⟨⟨[], ?_, trs_nil, Nat.zero_le _⟩, ?_⟩, ?_, ?_, ?_, ?_⟩⟩
        · rw [upd_same, List.reverse_cons]
          simp
        · rw [upd_ne ub.symm, upd_ne bn]; exact eb
        · rw [upd_ne un.symm, upd_same]
        · exact (stk.keep (m := i) kn (Nat.le_refl _) (by simp)).keep ku (by omega) (fun a m => by simpa using asu a m)
        · have na : n ∉ as := fun m => by
            obtain ⟨o, e⟩ := stk.some n m
            rw [nn] at e; cases e
          simp only [List.nodup_cons, List.mem_cons, not_or] at nd ⊢
          exact ⟨⟨ub, un, nd.1.2⟩, ⟨bn, nd.2.1⟩, na, nd.2.2⟩
        · intro a m
          rcases List.mem_cons.mp m with e | m
          · rw [e]; exact k1.free nn
          · exact fresh a m
        · rw [List.length_cons]
          omega
        · rw [hr']; exact rdi
      rw [lit_open, decide_eq_false (show ¬ V.str ⟨#[c]⟩ = V.str (tx [40]) from fun z => c40 (List.cons.inj (tx_str (a := [c]) z)).1)]
      refine iteF ?_
      refine ⟨_, rfl, _, rfl, _, _, c, rfl, rfl, sz, hci, rfl, _, rfl, ?_⟩
      have hlen : ((b :: as.reverse).map V.ref).length = as.length + 1 := by simp
      by_cases hcl : c = 41 ∧ as ≠ []
      · obtain ⟨rfl, hne⟩ := hcl
        rw [lit_close, decide_eq_true (show V.str ⟨#[41]⟩ = V.str (tx [41]) from rfl)]
        refine iteT ?_
        cases as with
        | nil => exact absurd rfl hne
        | cons a as' =>
        cases st with
        | nil => exact stk.elim
        | cons l st' =>
        obtain ⟨⟨vs, ea, ta, la⟩, stk'⟩ := stk
        have nau : a ≠ u := asu a (List.mem_cons_self ..)
        have nab : a ≠ b := asb a (List.mem_cons_self ..)
        refine ⟨_, rfl, u, _, rfl, .inl (SqL.of eu), _, _, rfl, rfl, _, rfl, ?_⟩
        rw [hlen, List.length_cons, decide_eq_true (by omega)]
        refine iteT ?_
        have eu' : H1 u = some (.lst (((b :: as'.reverse).map V.ref) ++ [.ref a])) := by rw [eu, List.reverse_cons, ← List.cons_append, List.map_append]; rfl
        refine ⟨_, rfl, .inl ⟨rfl, _, SqL.of eu'⟩, u, _, _, rfl, rfl, eu', last_get _ _, ?_⟩
        rw [List.dropLast_concat]
        generalize hH2 : upd H1 u (.lst ((b :: as'.reverse).map V.ref)) = H2
        have ku : Keep [u] H1 H2 := by rw [← hH2]; exact Keep.set eu' (List.mem_cons_self ..)
        have eu2 : H2 u = some (.lst ((b :: as'.reverse).map V.ref)) := by rw [← hH2, upd_same]
        have eb2 : H2 b = some (.lst []) := by rw [← hH2, upd_ne ub.symm]; exact eb
        have ea2 : H2 a = some (.lst vs) := by rw [← hH2, upd_ne nau]; exact ea
        have k2 : Keep [] H H2 := (k1.cons.trans (ku.mono (by simp))).drop nu0
        have stk2 := stk'.keep ku (Nat.le_refl _) (fun z m => by simpa using asu z (List.mem_cons_of_mem _ m))
        have nd2 : (u :: b :: as').Nodup := by
          simp only [List.nodup_cons, List.mem_cons, not_or] at nd ⊢
          exact ⟨⟨nd.1.1, nd.1.2.2⟩, ⟨nd.2.1.2, nd.2.2.2⟩⟩
        obtain ⟨p, ws, hp1, hp2, hp3, hp4⟩ : ∃ (p : Addr) (ws : List V), atI ((b :: as'.reverse).map V.ref) (-1) = some (.ref p) ∧ p ≠ u ∧ H2 p = some (.lst ws) ∧ ws.length < sizeLine := by
          cases as' with
          | nil => exact ⟨b, [], rfl, ub.symm, eb2, by decide⟩
          | cons a2 as2 =>
            cases st' with
            | nil => exact stk2.elim
            | cons l2 st2 =>
              obtain ⟨⟨ws, e, _, lw⟩, _⟩ := stk2
              refine ⟨a2, ws, ?_, asu a2 (by simp), e, Nat.lt_of_le_of_lt (show _ ≤ 4000000 by omega) (by decide)⟩
              rw [List.reverse_cons, ← List.cons_append, List.map_append]
              exact atI_last _ _
        refine ⟨_, rfl, _, rfl, _, _, _, _, rfl, rfl, SqL.of eu2, hp1, .inl ⟨rfl, _, SqL.of hp3⟩, _, rfl, a, vs, rfl, .inl ⟨SqL.of ea2, fun tp ntp => ?_⟩⟩
        have kt : Keep [] H2 (upd H2 tp (.tup vs)) := Keep.new ntp
        have tv : Tr K (upd H2 tp (.tup vs)) (.ref tp) (.l l) := tr_tup upd_same ((ta.keep ku).keep kt)
        obtain ⟨p', ws', g1, g2, g3, g4, g5⟩ := put (upd H2 tp (.tup vs)) as' st' (.ref tp) (.l l) (i + 1) r (by omega) (k2.trans kt) (kt.get eu2 (by simp)) (kt.get eb2 (by simp)) (stk2.keep kt (Nat.le_refl _) (by simp)) nd2 (fun z m => fresh z (List.mem_cons_of_mem _ m)) (by rw [List.length_cons] at asl; omega) tv
          (fun l2 st2 e => by rw [e, rd_one_close] at rdi; exact rdi) (fun e => by rw [e, rd_one_close1] at rdi; exact rdi)
        rw [hp1] at g1
        cases g1
        refine ⟨p, ws', _, rfl, rfl, g3, g4, ?_⟩
        refine ⟨_, rfl, _, _, rfl, rfl, _, _, i + 1, rfl, by omega, by omega, by rw [hr']; exact g5⟩
      · have dec : decide (V.str ⟨#[c]⟩ = V.str ")") = decide (c = 41) := by
          rw [lit_close]
          by_cases h : c = 41
          · subst h; rw [decide_eq_true rfl]; exact decide_eq_true rfl
          · rw [decide_eq_false h]; exact decide_eq_false fun z => h (List.cons.inj (tx_str (a := [c]) z)).1
        have st0 : c = 41 → st = [] := fun h => by
          have : as = [] := Classical.byContradiction fun z => hcl ⟨h, z⟩
          subst this
          cases st with
          | nil => rfl
          | cons l st' => exact stk.elim
        have b1 : ¬ Letter c → Bad "place" C i H1 E := fun hL d H' e kk => by
          have hres1 : res = .inl i := by
            rw [← rdi]
            by_cases h41 : c = 41
            · rw [st0 h41, h41, rd_one_close0]
            · rw [rd_one_odd st i r (fun z => by rcases z with z | z; exact nb0.1 z; exact nb0.2 z) c40 h41 hL]
          exact bad i hres1 d H' e (k1.trans kk)
        have b2 : Letter c → 12 < (run (c :: r)).length → Bad "place" C (i + 12) H1 E := fun hL h12 d H' e kk => by
          have hres1 : res = .inl (i + 12) := by rw [← rdi, rd_one_long st i r hL h12]
          exact bad (i + 12) hres1 d H' e (k1.trans kk)
        have rl := run_len (c :: r)
        rw [List.length_cons] at rl
        have hlr : i + r.length + 1 = cs.length := by
          have := congrArg List.length hd
          rw [List.length_drop, List.length_cons] at this
          omega
        rw [dec]
        have done : ∀ (x : List Nat), IsWord x → (Letter c ∧ ¬ 12 < (run (c :: r)).length ∧ x = run (c :: r)) → ∃ (p : Addr) (vs : List V), atI ((b :: as.reverse).map V.ref) (-1) = some (.ref p) ∧ H1 p = some (.lst vs) ∧ vs.length < sizeLine ∧ (tx x).length ≤ sizeLine ∧ i < i + x.length ∧ i + x.length ≤ cs.length ∧
            GoX K H (upd H1 p (.lst (vs ++ [.str (tx x)]))) u b (i + x.length) (cs.drop (i + x.length)) res := by
          intro x wx hx
          obtain ⟨hL, h12, ex⟩ := hx
          have hp := run_pos (r := r) hL
          rw [← ex] at rl hp
          have hdr : cs.drop (i + x.length) = (c :: r).drop x.length := by rw [← List.drop_drop, hd]
          obtain ⟨p', ws', g1, g2, g3, g4, g5⟩ := put H1 as st (.str (tx x)) (.w x) (i + x.length) ((c :: r).drop x.length) (by omega) k1 eu eb stk nd fresh asl tr_w
            (fun l2 st2 e => by rw [e, rd_one_word l2 st2 i r hL h12, ← ex] at rdi; exact rdi) (fun e => by rw [e, rd_one_word0 i r hL h12, ← ex] at rdi; exact rdi)
          exact ⟨p', ws', g1, g3, g4, by rw [tx_len]; exact Nat.le_trans (show _ ≤ 4000000 by omega) (by decide), by omega, by omega, by rw [hdr]; exact g5⟩
        by_cases h41 : c = 41
        · have as0 : as = [] := Classical.byContradiction fun z => hcl ⟨h41, z⟩
          rw [decide_eq_true h41]
          refine iteT ?_
          refine ⟨_, rfl, u, _, rfl, .inl (SqL.of eu), _, _, rfl, rfl, _, rfl, ?_⟩
          rw [hlen, as0, decide_eq_false (by simp)]
          refine iteF ?_
          refine ⟨_, rfl, _, rfl, cs, r, c, i, rfl, hd, sz0, b1, b2, fun hL h12 => ?_⟩
          exact absurd hL.1 (by rw [h41]; decide)
        · rw [decide_eq_false h41]
          refine iteF (iteF ?_)
          refine ⟨_, rfl, _, rfl, cs, r, c, i, rfl, hd, sz0, b1, b2, fun hL h12 => ?_⟩
          obtain ⟨p, ws, g1, g3, g4, gl, gn, gm, g5⟩ := done (run (c :: r)) (run_word hL h12) ⟨hL, h12, rfl⟩
          refine ⟨_, rfl, _, rfl, _, _, _, _, rfl, rfl, SqL.of eu, g1, .inl ⟨rfl, _, SqL.of g3⟩, _, rfl, p, ws, _, rfl, rfl, g3, g4, ?_⟩
          refine ⟨_, rfl, _, rfl, _, rfl, gl, _, _, rfl, rfl, y3, some (.str (tx (run (c :: r)))), i + (run (c :: r)).length, ?_, gn, gm, g5⟩
          rw [tx_len]; rfl
    · obtain ⟨y3, y4, n, rfl, hin, hn, kk, go⟩ := hmid
      refine ⟨_, rfl, _, rfl, cs, n, rfl, hn, sz0, fun j g' h1 h2 h3 h4 h5 h6 => ?_⟩
      refine ⟨cs.length - j, by omega, ?_⟩
      rw [hW]
      refine ⟨_, _, j, rfl, rfl, h2, h5, kk, ?_⟩
      rcases go with ⟨as, st, g1, g2, g3, g4, g5, g6, g7⟩ | ⟨v, t, g1, g2, g3, g4⟩
      · refine .inl ⟨as, st, g1, g2, g3.keep (S := []) Keep.refl h1 (by simp), g4, g5, by omega, ?_⟩
        rw [h3, rd_skip h4, ← h6] at g7
        exact g7
      · refine .inr ⟨v, t, g1, g2, g3, ?_⟩
        rw [h3, fin_skip h4, ← h6] at g4
        exact g4
  · -- the whole is read
    refine ⟨_, rfl, u, _, _, _, rfl, rfl, SqL.of eu, rfl, _, tru_list eb, ?_⟩
    refine iteF ?_
    refine ⟨_, rfl, _, rfl, _, rfl, sz, _, _, rfl, rfl, _, rfl, ?_⟩
    rw [tx_len]
    by_cases hlt : i < cs.length
    · rw [decide_eq_true (by omega)]
      refine iteT ⟨_, rfl, by show 1 ≤ 1000; decide, fun a na => ?_⟩
      obtain ⟨c, hci, hd⟩ := drop_at hlt
      rw [hd] at nbl fi
      have nb0 := nbl c _ rfl
      rw [fin, if_neg (fun z => by rcases z with z | z; exact nb0.1 z; exact nb0.2 z)] at fi
      exact raise i H1 k1 (by omega) fi.symm a na
    · rw [decide_eq_false (by omega)]
      rw [List.drop_eq_nil_of_le (by omega), fin] at fi
      refine iteF ⟨_, rfl, u, _, _, _, rfl, rfl, SqL.of eu, rfl, b, _, _, _, rfl, rfl, SqL.of eb, rfl, ?_⟩
      exact q t v _ fi.symm tv k1
end
end Og

namespace Og
open PySem PySem.Spec PyProof.Rows L2
theorem lit_bad : ("bad" : Str) = tx [98, 97, 100] := by decide +kernel
theorem lit_good : ("good" : Str) = tx [103, 111, 111, 100] := by decide +kernel
theorem Tr.not_none {K : PySem.W.Frag} {H : Hp} {v : V} {t : Tree} (h : Tr K H v t) : v ≠ .non := by
  cases t with
  | w x => rw [h.word]; intro e; cases e
  | l ts =>
    obtain ⟨a, vs, rfl, _⟩ := h.list
    intro e; cases e
/-- the two of the answer of the law's reader -/
def OutIs (K : PySem.W.Frag) (H : Hp) (vs : List V) (res : Sum Nat Tree) : Prop := (∃ n, res = .inl n ∧ vs = [.str "bad", .int (n : Nat)]) ∨ (∃ t v, res = .inr t ∧ vs = [.str "good", v] ∧ Tr K H v t)
section
variable {P : Program} {w : World} {K : PySem.W.Frag} {mg : Str → Option Value} {base : Heap}
def spRunEnd : Sp := fun vs H Q _ => ∃ (cs : List Nat) (i : Nat), vs = [.str (tx cs), .int i] ∧ i ≤ cs.length ∧ cs.length ≤ 4000000 ∧ Q (.int (i + (run (cs.drop i)).length : Nat)) H
theorem has_runend {k : Nat} (D : DefAt K mg "_law_run_end" s_law_run_end p_law_run_end) (B : Bn mg) : Has P w K mg base (k + 1) "_law_run_end" p_law_run_end spRunEnd := by
  obtain ⟨f, fd, F, hm, hb⟩ := D.ex
  refine ⟨f, fd, F.ok sc_law_run_end (fun vs H Q E h => ?_) (fun cdv A outer s H vs Q E hr h => ?_), hm, F.kp, hb⟩
  · obtain ⟨_, _, rfl, _⟩ := h
    rfl
  obtain ⟨cs, i, rfl, hi, hl, q⟩ := h
  refine ⟨_, (pss_cons (ps_for PassesOwn.never rfl (pi_range2 (by rfl) B.range (pa_cons (pv 1) (pa_cons (pe_callB call_len_str (by rfl) B.len PySem.boot_len (pa_cons (pv 0) pa_nil)) pa_nil))) (pg_name (i := 2) sc_law_run_end.nd rfl (.inl rfl))
      (pss_one (ps_if (pt_cmpR op_notIn_sign (pe_ix ix_str (pv 0) (pv 2) (fun _ _ => rfl)) pe_str (by rfl)) (pss_one (ps_ret (pv 2))) pss_nil)))
    (pss_one (ps_ret (pe_callB call_len_str (by rfl) B.len PySem.boot_len (pa_cons (pv 0) pa_nil))))), ?_⟩
  have sz : (tx cs).length ≤ sizeLine := by rw [tx_len]; exact Nat.le_trans hl (by decide)
  have rap := run_app (cs.drop i)
  have rsg := run_signs (cs.drop i)
  have rfr := run_free (cs.drop i)
  have rl := run_len (cs.drop i)
  rw [List.length_drop] at rl
  generalize run (cs.drop i) = x at *
  refine ⟨_, rfl, _, rfl, _, rfl, sz, i, (tx cs).length, rfl, ⟨by omega, by omega, by rw [tx_len]; omega, by rw [tx_len]; omega⟩, ?_⟩
  rw [tx_len]
  refine for_range (lo := (i : Int)) (n := ((cs.length : Int) - (i : Int)).toNat) (fun j σ H' => H' = H ∧ ∃ y2, σ = [some (.str (tx cs)), some (.int i), y2] ∧ j ≤ x.length) ⟨rfl, none, rfl, Nat.zero_le _⟩ (fun j σ H1 hj pw => ?_) (fun σ H1 pw => ?_)
  · obtain ⟨rfl, y2, rfl, hjx⟩ := pw
    have e0 : (i : Int) + (j : Int) = ((i + j : Nat) : Int) := by omega
    by_cases hlt : j < x.length
    · have hc1 : atI cs ((i + j : Nat) : Int) = some x[j] := atI_nat (by rw [drop_get rap, List.getElem?_append_left hlt, List.getElem?_eq_getElem hlt])
      refine ⟨_, rfl, _, rfl, _, _, x[j], rfl, rfl, sz, by rw [e0]; exact hc1, x[j], _, rfl, rfl, _, rfl, ?_⟩
      rw [lit_RUN, tx_list, decide_eq_true (mem_signs.mpr (rsg _ (List.getElem_mem hlt)))]
      exact iteF ⟨rfl, _, rfl, by omega⟩
    · have hjx' : j = x.length := by omega
      obtain ⟨c2, r2, er⟩ := List.exists_cons_of_ne_nil (l := (cs.drop i).drop x.length) (fun z => by
        have h1 := congrArg List.length z
        rw [List.length_drop, List.length_drop] at h1
        have : ([] : List Nat).length = 0 := rfl
        omega)
      have hc1 : atI cs ((i + j : Nat) : Int) = some c2 := atI_nat (by rw [drop_get rap, hjx', List.getElem?_append_right (Nat.le_refl _), Nat.sub_self, er]; rfl)
      refine ⟨_, rfl, _, rfl, _, _, c2, rfl, rfl, sz, by rw [e0]; exact hc1, c2, _, rfl, rfl, _, rfl, ?_⟩
      rw [lit_RUN, tx_list, decide_eq_false (fun z => rfr c2 r2 er (mem_signs.mp z))]
      refine iteT ⟨_, rfl, ?_⟩
      rw [e0, hjx']
      exact q
  · obtain ⟨rfl, y2, rfl, hjx⟩ := pw
    refine ⟨_, rfl, _, rfl, sz, ?_⟩
    rw [tx_len]
    rw [show i + x.length = cs.length by omega] at q
    exact q
def spLawRead (K : PySem.W.Frag) : Sp := fun vs H Q _ => ∃ (cs : List Nat), vs = [.str (tx cs)] ∧ cs.length ≤ 4000000 ∧ ∀ (p : Addr) (us : List V) (H' : Hp), Keep [] H H' → H' p = some (.lst us) → OutIs K H' us (rd [] 0 cs) → Q (.ref p) H'
theorem has_lawread {k : Nat} (D : DefAt K mg "_law_read" s_law_read p_law_read) (B : Bn mg) (c1 : Has P w K mg base k "_law_run_end" p_law_run_end spRunEnd) : Has P w K mg base (k + 1) "_law_read" p_law_read (spLawRead K) := by
  obtain ⟨f, fd, F, hm, hb⟩ := D.ex
  obtain ⟨_, _, c_law_run_end⟩ := c1
  refine ⟨f, fd, F.ok sc_law_read (fun vs H Q E h => ?_) (fun cdv A outer s H vs Q E hr h => ?_), hm, F.kp, hb⟩
  · obtain ⟨_, rfl, _⟩ := h
    rfl
  obtain ⟨cs, rfl, hl, q⟩ := h
  refine ⟨_, (pss_cons (ps_set (i := 1) sc_law_read.nd rfl (.inl rfl) (pe_lst pa_nil))
    (pss_cons (ps_set (i := 2) sc_law_read.nd rfl (.inl rfl) pe_non)
    (pss_cons (ps_set (i := 3) sc_law_read.nd rfl (.inl rfl) pe_int)
    (pss_cons (ps_for PassesOwn.never rfl (pi_range1 (by rfl) B.range (pa_cons (pe_callB call_len_str (by rfl) B.len PySem.boot_len (pa_cons (pv 0) pa_nil)) pa_nil)) (pg_name (i := 4) sc_law_read.nd rfl (.inl rfl))
      (pss_cons (ps_if (pt_cmpR op_ge (pv 3) (pe_callB call_len_str (by rfl) B.len PySem.boot_len (pa_cons (pv 0) pa_nil)) (nomark _)) (pss_one ps_break) pss_nil)
      (pss_cons (ps_set (i := 5) sc_law_read.nd rfl (.inl rfl) (pe_ix ix_str (pv 0) (pv 3) (fun _ _ => rfl)))
      (pss_cons (ps_if (PW.pt (pw_or (pt_cmpR op_eq (pv 5) pe_str (nomark _)) (pw_or1 (pt_cmpR op_eq (pv 5) pe_str (nomark _))))) (pss_cons (ps_set (i := 3) sc_law_read.nd rfl (.inl rfl) (pe_op op_add (pv 3) pe_int))
        (pss_one ps_continue)) pss_nil)
      (pss_cons (ps_if (pt_cmpR op_notN (pv 2) pe_non (nomark _)) (pss_one (ps_ret (pe_lst (pa_cons pe_str (pa_cons (pv 3) pa_nil))))) pss_nil)
      (pss_cons (ps_set (i := 6) sc_law_read.nd rfl (.inl rfl) pe_non)
      (C8.pss_cut (ps_if (pt_cmpR op_eq (pv 5) pe_str (nomark _)) (pss_one (ps_expr (pe_bm PySem.F.plainAttrs_list PySem.F.slot_list_append PySem.F.type_list_append mt_append (pv 1) (pa_cons (pe_lst pa_nil) pa_nil)))) (pss_one (ps_if (PW.pt (pw_and (pt_cmpR op_eq (pv 5) pe_str (nomark _)) (pw_and1 (pt_cmpR op_gt (pe_callB call_len_seq (by rfl) B.len PySem.boot_len (pa_cons (pv 1) pa_nil)) pe_int (nomark _))))) (pss_one (ps_set (i := 6) sc_law_read.nd rfl (.inl rfl) (pe_callTy call_tuple_of (by rfl) B.tuple (by decide +kernel) (pa_cons (pe_bm0 PySem.F.plainAttrs_list PySem.F.slot_list_pop PySem.F.type_list_pop mt_pop (pv 1)) pa_nil)))) (pss_one (ps_if (pt_cmpR op_in_sign (pv 5) pe_str (by rfl)) (pss_cons (ps_set (i := 7) sc_law_read.nd rfl (.inl rfl) (cal c_law_run_end hr rfl (pa_cons (pv 0) (pa_cons (pv 3) pa_nil))))
            (pss_cons (ps_if (pt_cmpR op_gt (pe_op op_sub (pv 7) (pv 3)) pe_int (nomark _)) (pss_one (ps_ret (pe_lst (pa_cons pe_str (pa_cons (pe_op op_add (pv 3) pe_int) pa_nil))))) pss_nil)
            (pss_cons (ps_set (i := 6) sc_law_read.nd rfl (.inl rfl) (pe_slice sl_str (pv 0) (po_some (pv 3)) (po_some (pv 7))))
            (pss_one (ps_set (i := 3) sc_law_read.nd rfl (.inl rfl) (pe_op op_sub (pv 7) pe_int)))))) (pss_one (ps_ret (pe_lst (pa_cons pe_str (pa_cons (pv 3) pa_nil))))))))))
      (pss_cons (ps_set (i := 3) sc_law_read.nd rfl (.inl rfl) (pe_op op_add (pv 3) pe_int))
      (pss_one (ps_if (PW.pt (pw_and (pt_cmpR op_notN (pv 6) pe_non (nomark _)) (pw_and1 (pt_cmpR op_eq (pe_callB call_len_seq (by rfl) B.len PySem.boot_len (pa_cons (pv 1) pa_nil)) pe_int (nomark _))))) (pss_one (ps_set (i := 2) sc_law_read.nd rfl (.inl rfl) (pv 6))) (pss_one (ps_if (pt_cmpR op_notN (pv 6) pe_non (nomark _)) (pss_one (ps_expr (pe_bm PySem.F.plainAttrs_list PySem.F.slot_list_append PySem.F.type_list_append mt_append (pe_ix ix_list (pv 1) (pe_un un_neg pe_int) (fun _ _ => rfl)) (pa_cons (pv 6) pa_nil)))) pss_nil))))))))))))
    (pss_cons (ps_if (pt_cmpR op_isN (pv 2) pe_non (nomark _)) (pss_one (ps_ret (pe_lst (pa_cons pe_str (pa_cons (pe_callB call_len_str (by rfl) B.len PySem.boot_len (pa_cons (pv 0) pa_nil)) pa_nil))))) pss_nil)
    (pss_one (ps_ret (pe_lst (pa_cons pe_str (pa_cons (pv 2) pa_nil)))))))))), ?_⟩
  have sz : (tx cs).length ≤ sizeLine := by rw [tx_len]; exact Nat.le_trans hl (by decide)
  generalize hres : rd [] 0 cs = res at q
  refine ⟨Nat.zero_le _, fun o no => ?_⟩
  have k0 : Keep [] H (upd H o (.lst [])) := Keep.new no
  -- the answer bad, n
  have bad : ∀ (n : Nat) (H1 : Hp), Keep [] H H1 → res = .inl n → ∀ p : Addr, H1 p = none → Q (.ref p) (upd H1 p (.lst [.str "bad", .int (n : Nat)])) := fun n H1 kk e p np =>
    q p _ _ (kk.newT np) upd_same (.inl ⟨n, e, rfl⟩)
  have two : ([V.str "bad", V.int 0] : List V).length ≤ sizeLine := by decide
  refine ⟨_, rfl, _, rfl, sz, (tx cs).length, rfl, by omega, by rw [tx_len]; omega, ?_⟩
  rw [tx_len, Int.toNat_natCast]
  -- the state at the place n
  obtain ⟨W, hW⟩ : ∃ W : Nat → V → Hp → Prop, W = fun n wv H' => Keep [] H H' ∧ n ≤ cs.length ∧ ((wv = .non ∧ ∃ as st, H' o = some (.lst (as.reverse.map V.ref)) ∧ Stk K H' n as st ∧ (o :: as).Nodup ∧ (∀ a ∈ as, H a = none) ∧ as.length ≤ n ∧ rd st n (cs.drop n) = res) ∨
      (∃ t, H' o = some (.lst []) ∧ Tr K H' wv t ∧ fin n (cs.drop n) t = res)) := ⟨_, rfl⟩
  -- behind the loop
  have after : ∀ (σ : L2.St) (H1 : Hp) (wv : V) (y4 y5 y6 y7 : Option V) , W cs.length wv H1 → σ = [some (.str (tx cs)), some (.ref o), some wv, some (.int (cs.length : Nat)), y4, y5, y6, y7] →
      (wv = .non → ∀ p : Addr, H1 p = none → Q (.ref p) (upd H1 p (.lst [.str "bad", .int (cs.length : Nat)]))) ∧ (wv ≠ .non → ∀ p : Addr, H1 p = none → Q (.ref p) (upd H1 p (.lst [.str "good", wv]))) := by
    intro σ H1 wv y4 y5 y6 y7 hw hs
    rw [hW] at hw
    obtain ⟨kk, _, hw⟩ := hw
    rw [List.drop_length] at hw
    rcases hw with ⟨rfl, as, st, _, _, _, _, _, e⟩ | ⟨t, _, tv, e⟩
    · rw [rd_one_nil] at e
      exact ⟨fun _ p np => bad _ _ kk e.symm p np, fun h => absurd rfl h⟩
    · rw [fin] at e
      exact ⟨fun h => absurd h tv.not_none, fun _ p np => q p _ _ (kk.newT np) upd_same (.inr ⟨t, wv, e.symm, rfl, tv.keep (Keep.new (S := []) np)⟩)⟩
  refine for_range (lo := 0) (n := cs.length) (fun i σ H' => ∃ (wv : V) (n : Nat) (y4 y5 y6 y7 : Option V), σ = [some (.str (tx cs)), some (.ref o), some wv, some (.int (n : Nat)), y4, y5, y6, y7] ∧ i ≤ n ∧ W n wv H')
    ⟨.non, 0, none, none, none, none, rfl, Nat.le_refl _, by rw [hW]; exact ⟨k0, Nat.zero_le _, .inl ⟨rfl, [], [], upd_same, trivial, by simp, by simp, Nat.zero_le _, hres⟩⟩⟩ (fun i σ H1 hi pw => ?_) (fun σ H1 pw => ?_)
  · obtain ⟨wv, n, y4, y5, y6, y7, rfl, hin, hw⟩ := pw
    have hw0 := hw
    rw [hW] at hw
    obtain ⟨k1, hn, hw⟩ := hw
    refine ⟨_, rfl, _, rfl, _, rfl, sz, _, _, rfl, rfl, _, rfl, ?_⟩
    rw [tx_len]
    by_cases hend : n = cs.length
    · subst hend
      rw [decide_eq_true (Int.le_refl _)]
      have af := after _ H1 wv (some (.int (0 + (i : Int)))) y5 y6 y7 hw0 rfl
      refine iteT ⟨_, rfl, rfl, _, rfl, ?_⟩
      refine ite2 (fun c => ?_) (fun c => ?_)
      · exact ⟨_, rfl, _, rfl, sz, by show (2 : Nat) ≤ sizeLine; decide, fun p np => by rw [tx_len]; exact af.1 (of_decide_eq_true c) p np⟩
      · exact ⟨_, rfl, by show (2 : Nat) ≤ sizeLine; decide, fun p np => af.2 (of_decide_eq_false (Bool.eq_false_iff.mpr c)) p np⟩
    rw [decide_eq_false (by omega)]
    refine iteF ?_
    obtain ⟨c, hci, hd⟩ := drop_at (show n < cs.length by omega)
    generalize hr' : cs.drop (n + 1) = r at hd
    rw [hd] at hw
    refine ⟨_, rfl, _, rfl, _, _, c, rfl, rfl, sz, hci, ?_⟩
    -- a blank
    have dec : ∀ d : Nat, decide (V.str ⟨#[c]⟩ = V.str (tx [d])) = decide (c = d) := fun d => by
      by_cases h : c = d
      · subst h; rw [decide_eq_true rfl]; exact decide_eq_true rfl
      · rw [decide_eq_false h]; exact decide_eq_false fun z => h (List.cons.inj (tx_str (a := [c]) z)).1
    have blank : (c = 32 ∨ c = 10) → W (n + 1) wv H1 := fun hb => by
      rw [hW]
      refine ⟨k1, Nat.lt_of_le_of_ne hn hend, ?_⟩
      rw [hr']
      rcases hw with ⟨e, as, st, h1, h2, h3, h4, h5, h6⟩ | ⟨t, h1, h2, h3⟩
      · refine .inl ⟨e, as, st, h1, h2.keep (S := []) Keep.refl (by omega) (by simp), h3, h4, by omega, ?_⟩
        rw [← h6]
        exact (rd_blank (k := r.length) hb).symm
      · refine .inr ⟨t, h1, h2, ?_⟩
        rw [← h3, fin, if_pos hb]
    refine ⟨_, rfl, rfl, _, rfl, ?_⟩
    rw [lit_blank, dec]
    by_cases h32 : c = 32
    · rw [decide_eq_true h32]
      exact iteT (iteT ⟨_, rfl, _, _, rfl, rfl, wv, n + 1, _, _, _, _, rfl, by omega, blank (.inl h32)⟩)
    rw [decide_eq_false h32]
    refine iteF ⟨_, rfl, rfl, _, rfl, ?_⟩
    rw [lit_nl, dec]
    by_cases h10 : c = 10
    · rw [decide_eq_true h10]
      exact iteT ⟨_, rfl, _, _, rfl, rfl, wv, n + 1, _, _, _, _, rfl, by omega, blank (.inr h10)⟩
    rw [decide_eq_false h10]
    refine iteF ?_
    have nb : ¬ (c = 32 ∨ c = 10) := fun z => by rcases z with z | z; exact h32 z; exact h10 z
    refine ⟨_, rfl, rfl, _, rfl, ?_⟩
    rcases hw with ⟨rfl, as, st, h1, h2, h3, h4, h5, h6⟩ | ⟨t, h1, h2, h3⟩
    rotate_left
    · -- a sign behind the whole value
      rw [decide_eq_false h2.not_none]
      refine iteT ⟨_, rfl, by show (2 : Nat) ≤ sizeLine; decide, fun p np => bad n H1 k1 ?_ p np⟩
      rw [← h3, fin, if_neg nb]
    rw [decide_eq_true rfl]
    refine iteF ?_
    have aso : ∀ a ∈ as, a ≠ o := fun a m e => (List.nodup_cons.mp h3).1 (e ▸ m)
    have hlen : ∀ as : List Addr, (as.reverse.map V.ref).length = as.length := fun as => by simp
    -- found = None, then the ways
    refine ⟨fun σ' H' => ∃ (fv : V) (m : Nat) (y7 : Option V) (as : List Addr) (st : List (List Tree)), σ' = [some (.str (tx cs)), some (.ref o), some .non, some (.int (m : Nat)), some (.int (0 + (i : Int))), some (.str ⟨#[c]⟩), some fv, y7] ∧ n ≤ m ∧ m + 1 ≤ cs.length ∧ Keep [] H H' ∧
      H' o = some (.lst (as.reverse.map V.ref)) ∧ Stk K H' n as st ∧ (o :: as).Nodup ∧ (∀ a ∈ as, H a = none) ∧ as.length ≤ m + 1 ∧
      ((fv = .non ∧ rd st (m + 1) (cs.drop (m + 1)) = res) ∨ ∃ tt, Tr K H' fv tt ∧ (st = [] → fin (m + 1) (cs.drop (m + 1)) tt = res) ∧ ∀ l st', st = l :: st' → rd ((l ++ [tt]) :: st') (m + 1) (cs.drop (m + 1)) = res), ?_, fun σ' H' hmid => ?_⟩
    · refine ⟨_, rfl, rfl, _, rfl, ?_⟩
      rw [lit_open, dec]
      by_cases c40 : c = 40
      · subst c40
        rw [decide_eq_true rfl]
        rw [rd_one_open] at h6
        refine iteT ⟨_, rfl, .inl ⟨rfl, _, SqL.of h1⟩, Nat.zero_le _, fun p np => ?_⟩
        have on : o ≠ p := ne_of_none h1 np
        have eo2 : (upd H1 p (.lst [])) o = some (.lst (as.reverse.map V.ref)) := by rw [upd_ne on]; exact h1
        have kn : Keep [] H1 (upd H1 p (.lst [])) := Keep.new np
        have ku : Keep [o] (upd H1 p (.lst [])) (upd (upd H1 p (.lst [])) o (.lst (as.reverse.map V.ref ++ [.ref p]))) := Keep.set eo2 (List.mem_cons_self ..)
        refine ⟨o, _, _, rfl, rfl, eo2, by rw [hlen]; exact Nat.lt_of_le_of_lt (show _ ≤ 4000000 by omega) (by decide), ?_⟩
        refine ⟨.non, n, _, p :: as, [] :: st, rfl, Nat.le_refl _, by omega, ((k1.trans kn).cons.trans (ku.mono (by simp))).drop no, ?_, ⟨⟨[], ?_, trs_nil, Nat.zero_le _⟩, ?_⟩, ?_, ?_, ?_, .inl ⟨rfl, by rw [hr']; exact h6⟩⟩
        · rw [upd_same, List.reverse_cons]
          simp
        · rw [upd_ne on.symm, upd_same]
        · exact (h2.keep kn (Nat.le_refl _) (by simp)).keep ku (Nat.le_refl _) (fun a m => by simpa using aso a m)
        · have na : p ∉ as := fun m => by
            obtain ⟨o', e⟩ := h2.some p m
            rw [np] at e; cases e
          simp only [List.nodup_cons, List.mem_cons, not_or] at h3 ⊢
          exact ⟨⟨on, h3.1⟩, na, h3.2⟩
        · intro a m
          rcases List.mem_cons.mp m with e | m
          · rw [e]; exact k1.free np
          · exact h4 a m
        · rw [List.length_cons]; omega
      rw [decide_eq_false c40]
      refine iteF ⟨_, rfl, rfl, _, rfl, ?_⟩
      rw [lit_close, dec]
      by_cases hcl : c = 41 ∧ as ≠ []
      · obtain ⟨rfl, hne⟩ := hcl
        rw [decide_eq_true rfl]
        refine iteT ⟨_, rfl, o, _, rfl, .inl (SqL.of h1), _, _, rfl, rfl, _, rfl, ?_⟩
        rw [hlen]
        have lp : 0 < as.length := List.length_pos_iff.mpr hne
        rw [decide_eq_true (by omega)]
        refine iteT ?_
        cases as with
        | nil => exact absurd rfl hne
        | cons a as' =>
        cases st with
        | nil => exact h2.elim
        | cons l st' =>
        obtain ⟨⟨vs, ea, ta, la⟩, stk'⟩ := h2
        have ao : a ≠ o := aso a (List.mem_cons_self ..)
        have h1' : H1 o = some (.lst (as'.reverse.map V.ref ++ [.ref a])) := by rw [h1, List.reverse_cons, List.map_append]; rfl
        refine ⟨_, rfl, .inl ⟨rfl, _, SqL.of h1'⟩, o, _, _, rfl, rfl, h1', last_get _ _, ?_⟩
        rw [List.dropLast_concat]
        generalize hH2 : upd H1 o (.lst (as'.reverse.map V.ref)) = H2
        have ku : Keep [o] H1 H2 := by rw [← hH2]; exact Keep.set h1' (List.mem_cons_self ..)
        have eo2 : H2 o = some (.lst (as'.reverse.map V.ref)) := by rw [← hH2, upd_same]
        have ea2 : H2 a = some (.lst vs) := by rw [← hH2, upd_ne ao]; exact ea
        refine ⟨a, vs, rfl, .inl ⟨SqL.of ea2, fun tp ntp => ?_⟩⟩
        have kt : Keep [] H2 (upd H2 tp (.tup vs)) := Keep.new ntp
        refine ⟨.ref tp, n, _, as', st', rfl, Nat.le_refl _, by omega, ((k1.cons.trans (ku.mono (by simp))).drop no).trans kt, kt.get eo2 (by simp), (stk'.keep ku (Nat.le_refl _) (fun z m => by simpa using aso z (List.mem_cons_of_mem _ m))).keep kt (Nat.le_refl _) (by simp), ?_, fun z m => h4 z (List.mem_cons_of_mem _ m), by rw [List.length_cons] at h5; omega, .inr ⟨.l l, tr_tup upd_same ((ta.keep ku).keep kt), fun e => ?_, fun l2 st2 e => ?_⟩⟩
        · simp only [List.nodup_cons, List.mem_cons, not_or] at h3 ⊢
          exact ⟨h3.1.2, h3.2.2⟩
        · rw [e, rd_one_close1] at h6; rw [hr']; exact h6
        · rw [e, rd_one_close] at h6; rw [hr']; exact h6
      · -- a word, or a sign that cannot stand here
        have st0 : c = 41 → st = [] := fun h => by
          have : as = [] := Classical.byContradiction fun z => hcl ⟨h, z⟩
          subst this
          cases st with
          | nil => rfl
          | cons l st' => exact h2.elim
        have skip : (c = 41 → as.length = 0) := fun h => by
          have : as = [] := Classical.byContradiction fun z => hcl ⟨h, z⟩
          rw [this]; rfl
        by_cases h41 : c = 41
        · rw [decide_eq_true h41]
          refine iteT ⟨_, rfl, o, _, rfl, .inl (SqL.of h1), _, _, rfl, rfl, _, rfl, ?_⟩
          rw [hlen, skip h41, decide_eq_false (by decide)]
          refine iteF ⟨_, rfl, c, _, rfl, rfl, _, rfl, ?_⟩
          have nl : ¬ Letter c := by rw [h41]; intro z; exact absurd z.1 (by decide)
          rw [lit_letters, tx_list, decide_eq_false (fun z => nl (mem_letters.mp z))]
          refine iteF ⟨_, rfl, by show (2 : Nat) ≤ sizeLine; decide, fun p np => bad n H1 k1 ?_ p np⟩
          rw [← h6, st0 h41, h41, rd_one_close0]
        · rw [decide_eq_false h41]
          refine iteF (iteF ⟨_, rfl, c, _, rfl, rfl, _, rfl, ?_⟩)
          rw [lit_letters, tx_list]
          by_cases hL : Letter c
          · rw [decide_eq_true (mem_letters.mpr hL)]
            have rl := run_len (c :: r)
            have rp := run_pos (r := r) hL
            have rw_ : cs.drop n = run (c :: r) ++ (c :: r).drop (run (c :: r)).length := by rw [hd]; exact run_app _
            have hlr : n + r.length + 1 = cs.length := by
              have := congrArg List.length hd
              rw [List.length_drop, List.length_cons] at this
              omega
            rw [List.length_cons] at rl
            refine iteT ⟨_, rfl, _, rfl, cs, n, rfl, hn, hl, ?_⟩
            rw [hd]
            refine ⟨_, rfl, _, rfl, _, _, rfl, rfl, _, _, rfl, rfl, _, rfl, ?_⟩
            by_cases h12 : 12 < (run (c :: r)).length
            · rw [decide_eq_true (by omega)]
              refine iteT ⟨_, rfl, _, _, rfl, rfl, by show (2 : Nat) ≤ sizeLine; decide, fun p np => ?_⟩
              exact bad (n + 12) H1 k1 (by rw [← h6, rd_one_long st n r hL h12]) p np
            · rw [decide_eq_false (by omega)]
              refine iteF ⟨_, rfl, _, rfl, _, rfl, _, rfl, _, rfl, _, rfl, sz, ?_⟩
              rw [cutS_nat cs (by omega) (by omega), rw_, show n + (run (c :: r)).length - n = (run (c :: r)).length by omega, List.take_left]
              refine ⟨_, rfl, _, _, rfl, rfl, ?_⟩
              have em : (((n + (run (c :: r)).length : Nat) : Int) - 1) = ((n + (run (c :: r)).length - 1 : Nat) : Int) := by omega
              have ed : cs.drop (n + (run (c :: r)).length - 1 + 1) = (c :: r).drop (run (c :: r)).length := by
                rw [show n + (run (c :: r)).length - 1 + 1 = n + (run (c :: r)).length by omega, ← List.drop_drop, hd]
              refine ⟨.str (tx (run (c :: r))), n + (run (c :: r)).length - 1, some (.int ((n + (run (c :: r)).length : Nat) : Int)), as, st, ?_, by omega, by omega, k1, h1, h2, h3, h4, by omega, .inr ⟨.w (run (c :: r)), tr_w, fun e => ?_, fun l st' e => ?_⟩⟩
              · rw [← em]; rfl
              · rw [ed, show n + (run (c :: r)).length - 1 + 1 = n + (run (c :: r)).length by omega, ← rd_one_word0 n r hL h12, ← e]
                exact h6
              · rw [ed, show n + (run (c :: r)).length - 1 + 1 = n + (run (c :: r)).length by omega, ← rd_one_word l st' n r hL h12, ← e]
                exact h6
          · rw [decide_eq_false (fun z => hL (mem_letters.mp z))]
            refine iteF ⟨_, rfl, by show (2 : Nat) ≤ sizeLine; decide, fun p np => bad n H1 k1 ?_ p np⟩
            rw [← h6, rd_one_odd st n r nb c40 h41 hL]
    · -- at = at + 1, then what is found goes to its place
      obtain ⟨fv, m, y7, as, st, rfl, hnm, hm1, kk, e1, e2, e3, e4, e5, e6⟩ := hmid
      refine ⟨_, rfl, _, _, rfl, rfl, ?_⟩
      refine ⟨_, rfl, rfl, _, rfl, ?_⟩
      rcases e6 with ⟨rfl, e6⟩ | ⟨tt, tfv, e6, e7⟩
      · rw [decide_eq_true rfl]
        refine iteF (iteF ⟨_, rfl, rfl, _, rfl, ?_⟩)
        rw [decide_eq_true rfl]
        refine iteF ⟨.non, m + 1, _, _, _, _, rfl, by omega, ?_⟩
        rw [hW]
        exact ⟨kk, hm1, .inl ⟨rfl, as, st, e1, e2.keep (S := []) Keep.refl (by omega) (by simp), e3, e4, e5, e6⟩⟩
      · rw [decide_eq_false tfv.not_none]
        refine iteT ⟨_, rfl, o, _, rfl, .inl (SqL.of e1), rfl, _, rfl, ?_⟩
        rw [hlen]
        cases as with
        | nil =>
          cases st with
          | cons l st' => exact e2.elim
          | nil =>
            rw [decide_eq_true (show V.int (([] : List Addr).length : Nat) = V.int 0 from rfl)]
            refine iteT ⟨_, rfl, fv, m + 1, _, _, _, _, rfl, by omega, ?_⟩
            rw [hW]
            exact ⟨kk, hm1, .inr ⟨tt, e1, tfv, e6 rfl⟩⟩
        | cons a as' =>
          cases st with
          | nil => exact e2.elim
          | cons l st' =>
            rw [decide_eq_false (fun z => by have := V.int.inj z; rw [List.length_cons] at this; omega)]
            refine iteF ⟨_, rfl, rfl, _, rfl, ?_⟩
            rw [decide_eq_false tfv.not_none]
            obtain ⟨⟨vs, ea, ta, la⟩, stk'⟩ := e2
            have ao : a ≠ o := fun e => (List.nodup_cons.mp e3).1 (by rw [e]; simp)
            have naas : a ∉ as' := (List.nodup_cons.mp (List.nodup_cons.mp e3).2).1
            have hat : atI ((a :: as').reverse.map V.ref) (-1) = some (.ref a) := by
              rw [List.reverse_cons, List.map_append]
              exact atI_last _ _
            have ka : Keep [a] H' (upd H' a (.lst (vs ++ [fv]))) := Keep.set ea (List.mem_cons_self ..)
            refine iteT ⟨_, rfl, _, rfl, _, _, _, _, rfl, rfl, SqL.of e1, hat, .inl ⟨rfl, _, SqL.of ea⟩, _, rfl, a, vs, _, rfl, rfl, ea, Nat.lt_of_le_of_lt (show _ ≤ 4000000 by omega) (by decide), ?_⟩
            refine ⟨.non, m + 1, _, _, _, _, rfl, by omega, ?_⟩
            rw [hW]
            refine ⟨(kk.cons.trans (ka.mono (by simp))).drop (e4 a (List.mem_cons_self ..)), hm1, .inl ⟨rfl, a :: as', (l ++ [tt]) :: st', by rw [upd_ne ao.symm]; exact e1, ⟨⟨vs ++ [fv], upd_same, (ta.append (Trs.one tfv)).keep ka, ?_⟩, stk'.keep ka (by omega) ?_⟩, e3, e4, e5, e7 l st' rfl⟩⟩
            · rw [List.length_append, List.length_singleton]; omega
            · intro z mz
              rw [List.mem_singleton]
              intro e
              rw [e] at mz
              exact naas mz
  · obtain ⟨wv, n, y4, y5, y6, y7, rfl, hin, hw⟩ := pw
    have hn : n = cs.length := by
      have := hw
      rw [hW] at this
      omega
    subst hn
    have af := after _ H1 wv y4 y5 y6 y7 hw rfl
    refine ⟨_, rfl, rfl, _, rfl, ?_⟩
    refine ite2 (fun c => ?_) (fun c => ?_)
    · exact ⟨_, rfl, _, rfl, sz, by show (2 : Nat) ≤ sizeLine; decide, fun p np => by rw [tx_len]; exact af.1 (of_decide_eq_true c) p np⟩
    · exact ⟨_, rfl, by show (2 : Nat) ≤ sizeLine; decide, fun p np => af.2 (of_decide_eq_false (Bool.eq_false_iff.mpr c)) p np⟩
end
end Og

namespace Og
open PySem PySem.Spec PyProof.Rows L2
theorem cutS_len (z : Str) (lo hi : Option Int) : (cutS z lo hi).length ≤ z.length := by
  unfold cutS
  show (List.toArray _).size ≤ z.cps.size
  rw [List.size_toArray, List.length_take, List.length_drop, Array.length_toList]
  omega
theorem str_codes (s : Str) : s.cps.toList.length = s.length := by
  show s.cps.toList.length = s.cps.size
  rw [Array.length_toList]
theorem one_tx (c : Nat) : (⟨#[c]⟩ : Str) = tx [c] := rfl
section
variable {P : Program} {w : World} {K : PySem.W.Frag} {mg : Str → Option Value} {base : Heap}
def spPiece : Sp := fun vs H Q _ => ∃ (h d : Addr), vs = [.ref h] ∧ Hd H h d ∧ ∀ (x : List Nat) (H' : Hp), x.length ≤ 30 → Keep [h] H H' → Hd H' h d → Q (.str (tx x)) H'
theorem lit_len (s : Str) {n : Nat} (h : s.length ≤ n) (hn : n ≤ 1000) : s.length ≤ sizeLine := Nat.le_trans h (Nat.le_trans hn (by decide))
theorem has_piece {k : Nat} (D : DefAt K mg "_law_piece" s_law_piece p_law_piece) (B : Bn mg) (c1 : Has P w K mg base k "_law_take" p_law_take spTake) (c2 : Has P w K mg base k "_law_word" p_law_word spWord) : Has P w K mg base (k + 1) "_law_piece" p_law_piece spPiece := by
  obtain ⟨f, fd, F, hm, hb⟩ := D.ex
  obtain ⟨_, _, c_law_take⟩ := c1
  obtain ⟨_, _, c_law_word⟩ := c2
  refine ⟨f, fd, F.ok sc_law_piece (fun vs H Q E h => ?_) (fun cdv A outer s H vs Q E hr h => ?_), hm, F.kp, hb⟩
  · obtain ⟨_, _, rfl, _⟩ := h
    rfl
  obtain ⟨a, d, rfl, hd, q⟩ := h
  refine ⟨_, (pss_cons (ps_set (i := 1) sc_law_piece.nd rfl (.inl rfl) pe_str)
    (pss_cons (ps_set (i := 2) sc_law_piece.nd rfl (.inl rfl) (cal c_law_take hr rfl (pa_cons (pv 0) (pa_cons pe_int pa_nil))))
    (pss_cons (ps_if (pt_cmpR op_lt (pv 2) pe_int (nomark _)) (pss_one (ps_ret (pe_ix ix_list (pe_lst (pa_cons pe_str (pa_cons pe_str (pa_cons pe_str (pa_cons pe_str pa_nil))))) (cal c_law_take hr rfl (pa_cons (pv 0) (pa_cons pe_int pa_nil))) (fun _ _ => rfl)))) pss_nil)
    (pss_cons (ps_if (pt_cmpR op_lt (pv 2) pe_int (nomark _)) (pss_one (ps_ret pe_str)) pss_nil)
    (pss_cons (ps_if (pt_cmpR op_lt (pv 2) pe_int (nomark _)) (pss_one (ps_ret pe_str)) pss_nil)
    (pss_cons (ps_if (pt_cmpR op_eq (pv 2) pe_int (nomark _)) (pss_one (ps_ret (pe_op op_add_str (cal c_law_word hr rfl (pa_cons (pv 0) pa_nil)) (pe_slice sl_str pe_str po_none (po_some (pe_op op_add pe_int (cal c_law_take hr rfl (pa_cons (pv 0) (pa_cons pe_int pa_nil))))))))) pss_nil)
    (pss_cons (ps_if (pt_cmpR op_eq (pv 2) pe_int (nomark _)) (pss_one (ps_ret (pe_op op_add_str (pe_ix ix_str pe_str (cal c_law_take hr rfl (pa_cons (pv 0) (pa_cons pe_int pa_nil))) (fun _ _ => rfl)) (pe_ix ix_list (pe_lst (pa_cons pe_str (pa_cons pe_str (pa_cons pe_str pa_nil)))) (cal c_law_take hr rfl (pa_cons (pv 0) (pa_cons pe_int pa_nil))) (fun _ _ => rfl))))) pss_nil)
    (pss_cons (ps_if (PW.pt (pw_and (pt_cmpR op_eq (pv 2) pe_int (nomark _)) (pw_and1 (pt_cmpR op_eq (cal c_law_take hr rfl (pa_cons (pv 0) (pa_cons pe_int pa_nil))) pe_int (nomark _))))) (pss_one (ps_ret (pe_ix ix_str (pv 1) (cal c_law_take hr rfl (pa_cons (pv 0) (pa_cons (pe_callB call_len_str (by rfl) B.len PySem.boot_len (pa_cons (pv 1) pa_nil)) pa_nil))) (fun _ _ => rfl)))) pss_nil)
    (pss_one (ps_ret (cal c_law_word hr rfl (pa_cons (pv 0) pa_nil)))))))))))), ?_⟩
  refine ⟨_, rfl, a, d, 12, rfl, hd, by decide, fun kd H1 k0 k1 kk hd1 => ?_⟩
  refine ⟨_, rfl, _, _, rfl, rfl, _, rfl, ite2 (fun _ => ?_) (fun _ => ?_)⟩
  · refine ⟨by show (4 : Nat) ≤ sizeLine; decide, fun p np => ?_⟩
    refine ⟨_, rfl, a, d, 4, rfl, hd1.new np, by decide, fun j H2 j0 j1 k2 hd2 => ?_⟩
    have pa : p ≠ a := (hd1.neH np).symm
    have hx : ∃ x : List Nat, atI [V.str " ", V.str "\n", V.str "  ", V.str "\n "] j = some (.str (tx x)) ∧ x.length ≤ 30 := by
      rcases four j0 j1 with rfl | rfl | rfl | rfl
      · exact ⟨_, (by rw [tx_of (Str.ofString " ")]; rfl), by decide +kernel⟩
      · exact ⟨_, (by rw [tx_of (Str.ofString "\n")]; rfl), by decide +kernel⟩
      · exact ⟨_, (by rw [tx_of (Str.ofString "  ")]; rfl), by decide +kernel⟩
      · exact ⟨_, (by rw [tx_of (Str.ofString "\n ")]; rfl), by decide +kernel⟩
    obtain ⟨x, hx1, hx2⟩ := hx
    refine ⟨p, _, j, _, rfl, rfl, SqL.of (k2.get upd_same (by simpa using pa)), hx1, ?_⟩
    exact q x H2 hx2 ((kk.trans (Keep.new np)).trans k2) hd2
  refine ⟨_, rfl, _, _, rfl, rfl, _, rfl, ite2 (fun _ => ?_) (fun _ => ?_)⟩
  · rw [lit_open]
    exact q [40] H1 (by decide) kk hd1
  refine ⟨_, rfl, _, _, rfl, rfl, _, rfl, ite2 (fun _ => ?_) (fun _ => ?_)⟩
  · rw [lit_close]
    exact q [41] H1 (by decide) kk hd1
  refine ⟨_, rfl, rfl, _, rfl, ite2 (fun _ => ?_) (fun _ => ?_)⟩
  · refine ⟨_, rfl, a, d, rfl, hd1, fun x H2 wx k2 hd2 => ?_⟩
    refine ⟨_, rfl, a, d, 12, rfl, hd2, by decide, fun j H3 j0 j1 k3 hd3 => ?_⟩
    have wl := wx.len
    refine ⟨1, j, rfl, rfl, _, rfl, _, rfl, by decide +kernel, _, _, rfl, rfl, ?_, ?_⟩
    · have l1 := cutS_len (Str.ofString "abcdefghijkl") none (some (1 + j))
      have l2 : (Str.ofString "abcdefghijkl").length = 12 := by decide +kernel
      rw [tx_len]
      exact Nat.le_trans (show _ ≤ 100 by omega) (by decide)
    · have l1 := cutS_len (Str.ofString "abcdefghijkl") none (some (1 + j))
      have l2 : (Str.ofString "abcdefghijkl").length = 12 := by decide +kernel
      show Q (.str (tx x ++ cutS (Str.ofString "abcdefghijkl") none (some (1 + j)))) H3
      rw [tx_of (cutS (Str.ofString "abcdefghijkl") none (some (1 + j))), tx_app]
      refine q _ H3 ?_ ((kk.trans k2).trans k3) hd3
      rw [List.length_append, str_codes]
      omega
  refine ⟨_, rfl, rfl, _, rfl, ite2 (fun _ => ?_) (fun _ => ?_)⟩
  · refine ⟨_, rfl, a, d, 10, rfl, hd1, by decide, fun j H2 j0 j1 k2 hd2 => ?_⟩
    have hj : ∃ c, atI (Str.ofString "0123456789").cps.toList j = some c := by
      rw [lit_digits, tx_list]
      obtain ⟨c, h, _⟩ := atI_of (xs := (List.range 10).map (· + 48)) j0 (by simpa using j1)
      exact ⟨c, h⟩
    obtain ⟨c, hc⟩ := hj
    refine ⟨_, j, c, rfl, rfl, by decide +kernel, hc, ?_⟩
    refine ⟨by show (3 : Nat) ≤ sizeLine; decide, fun p np => ?_⟩
    refine ⟨_, rfl, a, d, 3, rfl, hd2.new np, by decide, fun i H3 i0 i1 k3 hd3 => ?_⟩
    have pa : p ≠ a := (hd2.neH np).symm
    have hx : ∃ x : List Nat, atI [V.str "", V.str "a", V.str "1"] i = some (.str (tx x)) ∧ x.length ≤ 1 := by
      rcases three i0 i1 with rfl | rfl | rfl
      · exact ⟨_, (by rw [tx_of (Str.ofString "")]; rfl), by decide +kernel⟩
      · exact ⟨_, (by rw [tx_of (Str.ofString "a")]; rfl), by decide +kernel⟩
      · exact ⟨_, (by rw [tx_of (Str.ofString "1")]; rfl), by decide +kernel⟩
    obtain ⟨x, hx1, hx2⟩ := hx
    refine ⟨p, _, i, _, rfl, rfl, SqL.of (k3.get upd_same (by simpa using pa)), hx1, _, _, rfl, rfl, ?_, ?_⟩
    · rw [one_tx, tx_len, tx_len]; exact Nat.le_trans (show _ ≤ 10 by show 1 + x.length ≤ 10; omega) (by decide)
    · rw [one_tx, tx_app]
      exact q ([c] ++ x) H3 (by rw [List.length_append]; show 1 + x.length ≤ 30; omega) (((kk.trans k2).trans (Keep.new np)).trans k3) hd3
  have tail : ∀ H2, Keep [a] H H2 → Hd H2 a d → spWord [.ref a] H2 Q E0 := fun H2 k2 hd2 => ⟨a, d, rfl, hd2, fun x H3 wx k3 hd3 => q x H3 (by have := wx.len; omega) (k2.trans k3) hd3⟩
  refine ⟨_, rfl, rfl, _, rfl, ite2 (fun _ => ?_) (fun _ => ?_)⟩
  · refine ⟨_, rfl, a, d, 3, rfl, hd1, by decide, fun i H2 i0 i1 k2 hd2 => ?_⟩
    refine ⟨rfl, _, rfl, ite2 (fun _ => ?_) (fun _ => ⟨_, rfl, tail H2 (kk.trans k2) hd2⟩)⟩
    have ls : (Str.ofString "ABZ-_.,;:!?'\"[]{}<>=+*/|&#@^~`$\\\t").length = 33 := by decide +kernel
    refine ⟨_, rfl, _, rfl, _, rfl, _, rfl, by rw [ls]; decide, a, d, _, rfl, hd2, by rw [ls]; decide, fun j H3 j0 j1 k3 hd3 => ?_⟩
    obtain ⟨c, hc, _⟩ := atI_of (xs := (Str.ofString "ABZ-_.,;:!?'\"[]{}<>=+*/|&#@^~`$\\\t").cps.toList) j0 (by rw [str_codes]; exact j1)
    refine ⟨_, j, c, rfl, rfl, by rw [ls]; decide, hc, ?_⟩
    rw [one_tx]
    exact q [c] H3 (by show 1 ≤ 30; decide) ((kk.trans k2).trans k3) hd3
  · exact iteF ⟨_, rfl, tail H1 kk hd1⟩
end
end Og

namespace Og
open PySem PySem.Spec PyProof.Rows L2
section
variable {P : Program} {w : World} {K : PySem.W.Frag} {mg : Str → Option Value} {base : Heap}
def spSpoilt : Sp := fun vs H Q _ => ∃ (h d : Addr) (cs : List Nat), vs = [.ref h, .str (tx cs)] ∧ Hd H h d ∧ cs.length ≤ 3000000 ∧ ∀ (x : List Nat) (H' : Hp), x.length ≤ 2 * cs.length + 30 → Keep [h] H H' → Hd H' h d → Q (.str (tx x)) H'
theorem has_spoilt {k : Nat} (D : DefAt K mg "_law_spoilt" s_law_spoilt p_law_spoilt) (B : Bn mg) (c1 : Has P w K mg base k "_law_take" p_law_take spTake) (c2 : Has P w K mg base k "_law_piece" p_law_piece spPiece) : Has P w K mg base (k + 1) "_law_spoilt" p_law_spoilt spSpoilt := by
  obtain ⟨f, fd, F, hm, hb⟩ := D.ex
  obtain ⟨_, _, c_law_take⟩ := c1
  obtain ⟨_, _, c_law_piece⟩ := c2
  refine ⟨f, fd, F.ok sc_law_spoilt (fun vs H Q E h => ?_) (fun cdv A outer s H vs Q E hr h => ?_), hm, F.kp, hb⟩
  · obtain ⟨_, _, _, rfl, _⟩ := h
    rfl
  obtain ⟨a, d, cs, rfl, hd, hl, q⟩ := h
  refine ⟨_, (pss_cons (ps_set (i := 2) sc_law_spoilt.nd rfl (.inl rfl) (cal c_law_take hr rfl (pa_cons (pv 0) (pa_cons (pe_op op_add (pe_callB call_len_str (by rfl) B.len PySem.boot_len (pa_cons (pv 1) pa_nil)) pe_int) pa_nil))))
    (pss_cons (ps_set (i := 3) sc_law_spoilt.nd rfl (.inl rfl) (cal c_law_take hr rfl (pa_cons (pv 0) (pa_cons pe_int pa_nil))))
    (pss_cons (ps_if (pt_cmpR op_eq (pv 3) pe_int (nomark _)) (pss_one (ps_ret (pe_op op_add_str (pe_slice sl_str (pv 1) po_none (po_some (pv 2))) (pe_slice sl_str (pv 1) (po_some (pe_op op_add (pv 2) pe_int)) po_none)))) pss_nil)
    (pss_cons (ps_if (pt_cmpR op_eq (pv 3) pe_int (nomark _)) (pss_one (ps_ret (pe_op op_add_str (pe_op op_add_str (pe_slice sl_str (pv 1) po_none (po_some (pv 2))) (cal c_law_piece hr rfl (pa_cons (pv 0) pa_nil))) (pe_slice sl_str (pv 1) (po_some (pv 2)) po_none)))) pss_nil)
    (pss_cons (ps_if (pt_cmpR op_eq (pv 3) pe_int (nomark _)) (pss_one (ps_ret (pe_op op_add_str (pe_op op_add_str (pe_slice sl_str (pv 1) po_none (po_some (pv 2))) (cal c_law_piece hr rfl (pa_cons (pv 0) pa_nil))) (pe_slice sl_str (pv 1) (po_some (pe_op op_add (pv 2) pe_int)) po_none)))) pss_nil)
    (pss_one (ps_ret (pe_slice sl_str (pv 1) po_none (po_some (pv 2)))))))))), ?_⟩
  have sz : (tx cs).length ≤ sizeLine := by rw [tx_len]; exact Nat.le_trans hl (by decide)
  have cl : ∀ lo hi, (cutS (tx cs) lo hi).cps.toList.length ≤ cs.length := fun lo hi => by rw [str_codes]; have := cutS_len (tx cs) lo hi; rw [tx_len] at this; exact this
  have two : ∀ (lo1 hi1 lo2 hi2 : Option Int), (cutS (tx cs) lo1 hi1).length + (cutS (tx cs) lo2 hi2).length ≤ sizeLine := fun lo1 hi1 lo2 hi2 => by
    have h1 := cl lo1 hi1
    have h2 := cl lo2 hi2
    rw [str_codes] at h1 h2
    exact Nat.le_trans (show _ ≤ 6000000 by omega) (by decide)
  refine ⟨_, rfl, _, rfl, _, rfl, sz, _, _, rfl, rfl, a, d, _, rfl, hd, by rw [tx_len]; omega, fun i H1 i0 i1 k1 hd1 => ?_⟩
  refine ⟨_, rfl, a, d, 4, rfl, hd1, by decide, fun kd H2 kd0 kd1 k2 hd2 => ?_⟩
  refine ⟨_, rfl, rfl, _, rfl, ite2 (fun _ => ?_) (fun _ => ?_)⟩
  · refine ⟨_, rfl, _, rfl, _, rfl, _, rfl, sz, _, rfl, _, rfl, _, _, rfl, rfl, _, rfl, _, rfl, sz, _, _, rfl, rfl, two _ _ _ _, ?_⟩
    rw [tx_of (cutS (tx cs) none (some i)), tx_of (cutS (tx cs) (some (i + 1)) none), tx_app]
    refine q _ H2 ?_ (k1.trans k2) hd2
    rw [List.length_append]
    have h1 := cl none (some i)
    have h2 := cl (some (i + 1)) none
    omega
  refine ⟨_, rfl, rfl, _, rfl, ite2 (fun _ => ?_) (fun _ => ?_)⟩
  · refine ⟨_, rfl, _, rfl, _, rfl, _, rfl, sz, _, rfl, a, d, rfl, hd2, fun x H3 lx k3 hd3 => ?_⟩
    have h1 := cl none (some i)
    have h2 := cl (some i) none
    have h1' := h1
    have h2' := h2
    rw [str_codes] at h1' h2'
    refine ⟨_, _, rfl, rfl, by rw [tx_len]; exact Nat.le_trans (show _ ≤ 6000000 by omega) (by decide), _, rfl, _, rfl, _, rfl, _, rfl, sz, _, _, rfl, rfl, ?_, ?_⟩
    · rw [show (cutS (tx cs) none (some i) ++ tx x).length = (cutS (tx cs) none (some i)).length + x.length by rw [tx_of (cutS (tx cs) none (some i)), tx_app, tx_len, tx_len, List.length_append]]
      exact Nat.le_trans (show _ ≤ 6000100 by omega) (by decide)
    · rw [tx_of (cutS (tx cs) none (some i)), tx_of (cutS (tx cs) (some i) none), tx_app, tx_app]
      refine q _ H3 ?_ ((k1.trans k2).trans k3) hd3
      rw [List.length_append, List.length_append]
      omega
  refine ⟨_, rfl, rfl, _, rfl, ite2 (fun _ => ?_) (fun _ => ?_)⟩
  · refine ⟨_, rfl, _, rfl, _, rfl, _, rfl, sz, _, rfl, a, d, rfl, hd2, fun x H3 lx k3 hd3 => ?_⟩
    have h1 := cl none (some i)
    have h2 := cl (some (i + 1)) none
    have h1' := h1
    have h2' := h2
    rw [str_codes] at h1' h2'
    refine ⟨_, _, rfl, rfl, by rw [tx_len]; exact Nat.le_trans (show _ ≤ 6000000 by omega) (by decide), _, rfl, _, rfl, _, _, rfl, rfl, _, rfl, _, rfl, sz, _, _, rfl, rfl, ?_, ?_⟩
    · rw [show (cutS (tx cs) none (some i) ++ tx x).length = (cutS (tx cs) none (some i)).length + x.length by rw [tx_of (cutS (tx cs) none (some i)), tx_app, tx_len, tx_len, List.length_append]]
      exact Nat.le_trans (show _ ≤ 6000100 by omega) (by decide)
    · rw [tx_of (cutS (tx cs) none (some i)), tx_of (cutS (tx cs) (some (i + 1)) none), tx_app, tx_app]
      refine q _ H3 ?_ ((k1.trans k2).trans k3) hd3
      rw [List.length_append, List.length_append]
      omega
  refine ⟨_, rfl, _, rfl, _, rfl, _, rfl, sz, ?_⟩
  rw [tx_of (cutS (tx cs) none (some i))]
  refine q _ H2 ?_ (k1.trans k2) hd2
  have h1 := cl none (some i)
  omega
end
end Og

namespace Og
open PySem PySem.Spec PyProof.Rows L2
section
variable {P : Program} {w : World} {K : PySem.W.Frag} {mg : Str → Option Value} {base : Heap}
/-- the except suite of the law -/
def suiteR (K : PySem.W.Frag) (C G CP a dd : Addr) (d : Option Addr) : TS :=
  tSeq (tIfS (tOr (tNot (tB (tCB (rIsD K C a dd) (tCons (tVar 3) (tCons (tC (.ref G)) tNil))))) (tOr (tNot (tB (tCB (rIsD K C a dd) (tCons (tVar 3) (tCons (tC (.ty "ValueError")) tNil))))) (tB (tCB (rIsD K C a dd) (tCons (tVar 3) (tCons (tC (.ref CP)) tNil)))))) (tRet (tC (.bl false))) tNext)
    (tRet (tAndV (tOp rEq (tOp (rIxL K) (tVar 1) (tC (.int 0))) (tC (.str "bad"))) (tAndV (tCB (rIsi K) (tCons (tXf a (.ref C) d C "place" (tVar 3)) (tCons (tC (.ty "int")) tNil)))
      (tAndV (tNotV (tCB (rIsi K) (tCons (tXf a (.ref C) d C "place" (tVar 3)) (tCons (tC (.ty "bool")) tNil)))) (tOp rEq (tXf a (.ref C) d C "place" (tVar 3)) (tOp (rIxL K) (tVar 1) (tC (.int 1))))))))
def spRight : Sp := fun vs H Q _ => ∃ (cs : List Nat), vs = [.str (tx cs)] ∧ cs.length ≤ 280000 ∧ ∀ H', Keep [] H H' → Q (.bl true) H'
theorem isi_int {K : PySem.W.Frag} {H : Hp} {i : Int} : ∃ ty u, ClsV (.ty "int") u ∧ TyX K H (.int i) ty ∧ PySem.W.kitOne K ty u = some true := ⟨_, _, .ty _, .base (.int _), kit_ty (by decide +kernel)⟩
theorem isi_intbool {K : PySem.W.Frag} {H : Hp} {i : Int} : ∃ ty u, ClsV (.ty "bool") u ∧ TyX K H (.int i) ty ∧ PySem.W.kitOne K ty u = some false := ⟨_, _, .ty _, .base (.int _), kit_ty (by decide +kernel)⟩
theorem has_isright {C G fI CP : Addr} {fdI : FuncData} {k : Nat} (T_BadText : ErrT K mg "BadText" "BadText.__init__" "place" s_BadText_init C G fI fdI) (Hh : ErrH K C G) (gP : mg "BadProgram" = some (.ref CP)) (nP : PySem.W.kitOne K (.ref C) (.ref CP) = some false)
    (D : DefAt K mg "_law_is_right" s_law_is_right p_law_is_right) (B : Bn mg) (c1 : Has P w K mg base k "_law_read" p_law_read (spLawRead K)) (c2 : HasX P w K mg base k "read_value" p_read_value (spReadX K C)) (c3 : Has P w K mg base k "_law_like" p_law_like (spLike K)) :
    Has P w K mg base (k + 1) "_law_is_right" p_law_is_right spRight := by
  obtain ⟨f, fd, F, hm, hb⟩ := D.ex
  obtain ⟨_, _, c_law_read⟩ := c1
  obtain ⟨_, _, c_read_value⟩ := c2
  obtain ⟨_, _, c_law_like⟩ := c3
  have ec : ExcC K C := ⟨Hh.ga, Hh.gg, T_BadText.ox.exC, Hh.hd, Hh.ck, Hh.cg, Hh.ct, Hh.cm⟩
  have xf : XfC K C := xfB_ok (by unfold xfB; rw [decide_eq_true Hh.ga, decide_eq_true Hh.gg, decide_eq_true T_BadText.ox.exC, Hh.hd]; rfl)
  have exm : PySem.W.exmOne K (.ref C) (.ref C) = some true := PySem.W.exm_ref T_BadText.ox.exC Hh.hd T_BadText.ox.tyC Hh.se
  refine ⟨f, fd, F.ok sc_law_is_right (fun vs H Q E h => ?_) (fun cdv A outer s H vs Q E hr h => ?_), hm, F.kp, hb⟩
  · obtain ⟨_, rfl, _⟩ := h
    rfl
  obtain ⟨cs, rfl, hl, q⟩ := h
  refine ⟨_, pss_cons (ps_set (i := 1) sc_law_is_right.nd rfl (.inl rfl) (cal c_law_read hr rfl (pa_cons (pv 0) pa_nil)))
    (pss_cons (ps_try_as (i := 3) (tb := fun W => tAsg (tCallS (spReadX K C) (WE W) (tCons (tVar 0) tNil)) (gName 2)) (ts := fun a cls d D σ H => ∃ dd : Addr, (cls = .ref C ∧ d = some dd) ∧ suiteR K C G CP a dd d D σ H) (Wout := fun _ _ _ _ => False) rfl rfl sc_law_is_right.nd rfl rfl ⟨rfl, by decide, Or.inl T_BadText.gC⟩ takes0
      (fun W pn xe tk _ => pss_one (ps_set (i := 2) sc_law_is_right.nd rfl (.inl rfl) (by exact (pe_callS c_read_value.ok hr rfl c_read_value.mg c_read_value.kp c_read_value.bi (fun σ => passAt tk σ) (pa_cons (pv 0) pa_nil)))))
      (fun a oe cls d pn hz hf => pss_ex fun dd => pss_when fun hcd => by
        obtain ⟨rfl, rfl⟩ := hcd
        exact (pss_cons (ps_if (PW.pt (pw_or (pt_not (pt_val (pe_callB (call_isD ec hz hf) (by rfl) B.isinstance (by decide +kernel) (pa_cons (pv 3) (pa_cons (pe_glob rfl T_BadText.gG rfl) pa_nil))))) (pw_or (pt_not (pt_val (pe_callB (call_isD ec hz hf) (by rfl) B.isinstance (by decide +kernel) (pa_cons (pv 3) (pa_cons (pe_bltn (v := .ty "ValueError") rfl B.ValueError (by decide +kernel) rfl) pa_nil))))) (pw_or1 (pt_val (pe_callB (call_isD ec hz hf) (by rfl) B.isinstance (by decide +kernel) (pa_cons (pv 3) (pa_cons (pe_glob rfl gP rfl) pa_nil)))))))) (pss_one (ps_ret pe_bl)) pss_nil)
          (pss_one (ps_ret (pe_and (pe_cmpR op_eq (pe_ix ix_list (pv 1) pe_int (fun _ _ => rfl)) pe_str (nomark _)) (pe_and (pe_callB call_isi (by rfl) B.isinstance (by decide +kernel) (pa_cons (pe_xf xf T_BadText.no hz hf (pv 3)) (pa_cons (pe_bltn (v := .ty "int") rfl B.int (by decide +kernel) rfl) pa_nil)))
            (pe_and (pe_not (pe_callB call_isi (by rfl) B.isinstance (by decide +kernel) (pa_cons (pe_xf xf T_BadText.no hz hf (pv 3)) (pa_cons (pe_bltn (v := .ty "bool") rfl B.bool (by decide +kernel) rfl) pa_nil)))) (pe_one (pe_cmpR op_eq (pe_xf xf T_BadText.no hz hf (pv 3)) (pe_ix ix_list (pv 1) pe_int (fun _ _ => rfl)) (nomark _)))))))))))
    (pss_one (ps_ret (pe_and (pe_cmpR op_eq (pe_ix ix_list (pv 1) pe_int (fun _ _ => rfl)) pe_str (nomark _)) (pe_one (cal c_law_like hr rfl (pa_cons (pv 2) (pa_cons (pe_ix ix_list (pv 1) pe_int (fun _ _ => rfl)) pa_nil)))))))), ?_⟩
  refine ⟨_, rfl, cs, rfl, by omega, fun p us H1 k1 ep out => ?_⟩
  refine ⟨_, rfl, cs, rfl, by omega, fun n hn => ?_, fun t v H2 ht tv k2 => ?_⟩
  · -- an error with the place n
    rcases out with ⟨n', hn', rfl⟩ | ⟨t', v', ht', _⟩
    rotate_left
    · rw [hn] at ht'; cases ht'
    rw [hn] at hn'
    cases hn'
    intro d H2 ed k2
    refine ⟨true, exm, fun _ a ha => ⟨d, ⟨rfl, rfl⟩, ?_⟩, fun q => nomatch q⟩
    have ep2 := k2.get ep (by simp)
    refine ⟨_, rfl, _, _, true, _, rfl, .own G, ed, Hh.kG, _, rfl, iteF ?_⟩
    refine ⟨_, rfl, _, _, true, _, rfl, .ty _, ed, Hh.kV, _, rfl, iteF ?_⟩
    refine ⟨_, rfl, _, _, false, _, rfl, .own CP, ed, nP, _, rfl, iteF ?_⟩
    refine ⟨_, rfl, p, _, _, _, rfl, rfl, SqL.of ep2, rfl, rfl, _, rfl, ?_⟩
    rw [decide_eq_true rfl]
    obtain ⟨ty, u, q1, q2, q3⟩ := isi_int (K := K) (H := H2) (i := (n : Int))
    obtain ⟨ty', u', q1', q2', q3'⟩ := isi_intbool (K := K) (H := H2) (i := (n : Int))
    refine iteT ⟨_, rfl, rfl, rfl, d, _, _, rfl, ed, rfl, _, _, ty, u, _, rfl, q1, q2, q3, _, rfl, iteT ?_⟩
    refine ⟨_, rfl, rfl, rfl, d, _, _, rfl, ed, rfl, _, _, ty', u', _, rfl, q1', q2', q3', _, rfl, _, rfl, iteT ?_⟩
    refine ⟨_, rfl, rfl, rfl, d, _, _, rfl, ed, rfl, _, rfl, p, _, _, _, rfl, rfl, SqL.of ep2, rfl, rfl, ?_⟩
    rw [decide_eq_true rfl]
    exact q H2 (k1.trans k2)
  · rcases out with ⟨n', hn', _⟩ | ⟨t', v', ht', rfl, tv'⟩
    · rw [ht] at hn'; cases hn'
    rw [ht] at ht'
    cases ht'
    have ep2 := k2.get ep (by simp)
    have ts := rd_size ht
    refine ⟨_, rfl, p, _, _, _, rfl, rfl, SqL.of ep2, rfl, rfl, _, rfl, ?_⟩
    rw [decide_eq_true rfl]
    refine iteT ⟨_, rfl, _, rfl, p, _, _, _, rfl, rfl, SqL.of ep2, rfl, v, v', t, t, rfl, tv, tv'.keep k2, ?_, fun b H3 hb k3 => ?_⟩
    · rw [show stsz [] = 0 from rfl] at ts
      omega
    · have eb : b = true := hb.mpr rfl
      subst eb
      exact q H3 ((k1.trans k2).trans k3)
end
end Og

namespace Og
open PySem PySem.Spec PyProof.Rows L2
theorem most3 : Most 3 = 1464 := by decide
def Good (v : V) : Prop := ∃ cs : List Nat, v = .str (tx cs) ∧ cs.length ≤ 280000
theorem good_s {s : Str} (h : s.length ≤ 280000) : Good (.str s) := ⟨s.cps.toList, by rw [← tx_of s], by rw [str_codes]; exact h⟩
theorem good_t {cs : List Nat} (h : cs.length ≤ 280000) : Good (.str (tx cs)) := ⟨cs, rfl, h⟩
theorem alls {x : V} {xs : List V} (h : Good x) (r : ∀ y ∈ xs, Good y) : ∀ y ∈ x :: xs, Good y := List.forall_mem_cons.mpr ⟨h, r⟩
theorem alls_nil : ∀ y ∈ ([] : List V), Good y := fun _ m => nomatch m
theorem small {i : Int} (h0 : 0 ≤ i) (h : i < 4) : ∃ n : Nat, n ≤ 3 ∧ i = (n : Int) := ⟨i.toNat, by omega, by omega⟩
theorem sums_le : ∀ (ps : List (List Nat)), (∀ z ∈ ps, z.length ≤ 30) → ((ps.map tx).map (·.length)).sum ≤ 30 * ps.length ∧ ps.flatten.length ≤ 30 * ps.length
  | [], _ => ⟨Nat.zero_le _, Nat.zero_le _⟩
  | p :: r, h => by
    obtain ⟨h1, h2⟩ := sums_le r fun z m => h z (List.mem_cons_of_mem _ m)
    have h3 := h p (List.mem_cons_self ..)
    rw [List.map_cons, List.map_cons, List.sum_cons, List.flatten_cons, List.length_append, List.length_cons, tx_len]
    omega
theorem ok_law {P : Program} {w : World} {K : PySem.W.Frag} {mg : Str → Option Value} {base : Heap} {e : Addr} {ed : FuncData} (F : Fun K "law" "law" s_law e ed) (B : Bn mg) (M : Mc mg)
    (E1 : ErrAll K mg "BadText" "BadText.__init__" "place" s_BadText_init) (E2 : ErrAll K mg "BadProgram" "BadProgram.__init__" "function" s_BadProgram_init) (W1 : ErrNot K mg "BadText" "BadProgram") (W2 : ErrNot K mg "BadProgram" "BadText")
    (D_read_value : DefAt K mg "read_value" s_read_value p_read_value) (D_behind_blanks : DefAt K mg "_behind_blanks" s_behind_blanks p_behind_blanks) (D_word_at : DefAt K mg "_word_at" s_word_at p_word_at)
    (D_law_draws : DefAt K mg "_law_draws" s_law_draws p_law_draws) (D_law_take : DefAt K mg "_law_take" s_law_take p_law_take) (D_law_word : DefAt K mg "_law_word" s_law_word p_law_word) (D_law_value : DefAt K mg "_law_value" s_law_value p_law_value) (D_law_text : DefAt K mg "_law_text" s_law_text p_law_text)
    (D_law_deep : DefAt K mg "_law_deep" s_law_deep p_law_deep) (D_law_like : DefAt K mg "_law_like" s_law_like p_law_like) (D_law_run_end : DefAt K mg "_law_run_end" s_law_run_end p_law_run_end) (D_law_read : DefAt K mg "_law_read" s_law_read p_law_read)
    (D_law_piece : DefAt K mg "_law_piece" s_law_piece p_law_piece) (D_law_spoilt : DefAt K mg "_law_spoilt" s_law_spoilt p_law_spoilt) (D_law_is_right : DefAt K mg "_law_is_right" s_law_is_right p_law_is_right) :
    FnOk P w K mg base CX0 30 e ed ["script"] (spLaw K) := by
  obtain ⟨C, G, fI, fdI, T_BadText, Hh⟩ := E1.ex
  obtain ⟨CP, GP, fP, fdP, T_BadProgram, _⟩ := E2.ex
  have ok_BadText := ok_BadText' (P := P) (w := w) (base := base) T_BadText
  have h_draws := has_draws (P := P) (w := w) (base := base) (k := 0) D_law_draws B
  have h_take := has_take (P := P) (w := w) (base := base) (k := 0) D_law_take B
  have h_word := has_word (P := P) (w := w) (base := base) (k := 1) D_law_word B h_take
  obtain ⟨fv, fdv, h_value⟩ := has_value (P := P) (w := w) (base := base) (k := 2) D_law_value B (h_take.mono (by decide)) h_word
  have h_value := has_upto h_value 3
  have h_text := has_text (P := P) (w := w) (base := base) (k := 0) D_law_text B 3
  have h_blanks := has_blanks (P := P) (w := w) (base := base) (k := 0) D_behind_blanks B M
  have h_wordat := has_wordatX (P := P) (w := w) (base := base) (k := 0) T_BadText D_word_at B M
  have h_readX := has_readX (P := P) (w := w) (base := base) (k := 0) T_BadText D_read_value B (h_blanks.mono (by decide)) h_wordat
  have h_like := has_like (P := P) (w := w) (base := base) (k := 0) D_law_like B
  have h_deep := has_deep (P := P) (w := w) (base := base) (k := 1) D_law_deep B h_take
  have h_runend := has_runend (P := P) (w := w) (base := base) (k := 0) D_law_run_end B
  have h_lawread := has_lawread (P := P) (w := w) (base := base) (k := 1) D_law_read B h_runend
  have h_piece := has_piece (P := P) (w := w) (base := base) (k := 2) D_law_piece B (h_take.mono (by decide)) h_word
  have h_spoilt := has_spoilt (P := P) (w := w) (base := base) (k := 3) D_law_spoilt B (h_take.mono (by decide)) h_piece
  have h_isright := has_isright (P := P) (w := w) (base := base) (k := 5) T_BadText Hh T_BadProgram.gC (W1.no _ _ T_BadText.gC T_BadProgram.gC) D_law_is_right B (h_lawread.mono (by decide)) (h_readX.mono (by decide)) (h_like.mono (by decide))
  obtain ⟨_, _, c_law_draws⟩ := h_draws.mono (show 1 ≤ 29 by decide)
  obtain ⟨_, _, c_law_take⟩ := h_take.mono (show 1 ≤ 29 by decide)
  obtain ⟨_, _, c_law_value⟩ := h_value.mono (show 6 ≤ 29 by decide)
  obtain ⟨_, _, c_law_text⟩ := h_text.mono (show 4 ≤ 29 by decide)
  obtain ⟨_, _, c_law_piece⟩ := h_piece.mono (show 3 ≤ 29 by decide)
  obtain ⟨_, _, c_law_spoilt⟩ := h_spoilt.mono (show 4 ≤ 29 by decide)
  obtain ⟨_, _, c_law_is_right⟩ := h_isright.mono (show 6 ≤ 29 by decide)
  obtain ⟨_, _, c_law_deep⟩ := h_deep.mono (show 2 ≤ 29 by decide)
  have ec : ExcC K C := ⟨Hh.ga, Hh.gg, T_BadText.ox.exC, Hh.hd, Hh.ck, Hh.cg, Hh.ct, Hh.cm⟩
  have xf : XfC K C := xfB_ok (by unfold xfB; rw [decide_eq_true Hh.ga, decide_eq_true Hh.gg, decide_eq_true T_BadText.ox.exC, Hh.hd]; rfl)
  refine F.ok sc_law (fun vs H Q E h => ?_) (fun cdv A outer s H vs Q E hr h => ?_)
  · obtain ⟨a, ns, rfl, _⟩ := h
    rfl
  obtain ⟨a, ns, rfl, hS, h63, q⟩ := h
  have hr_BadText := hr.mono (show 2 ≤ 29 by decide)
  refine ⟨_, (pss_cons (ps_set (i := 1) sc_law.nd rfl (.inr rfl) (pe_lst (pa_cons (cal c_law_draws hr rfl (pa_cons (pv 0) (pa_cons pe_int pa_nil))) (pa_cons pe_int pa_nil))))
    (pss_cons (ps_setLc (i := 2) (own := [("k", 3)]) (g := gName 3) (tt := tYes) rfl sc_law.nd rfl rfl (sw_true rfl rfl rfl (by decide +kernel)) (pi_range1 (by rfl) B.range (pa_cons (cal c_law_take hr rfl (pa_cons (pv 1) (pa_cons pe_int pa_nil))) pa_nil)) (blkOk_by (N := n_law) (sc := defScope s_law) (by decide +kernel)) (fun _ _ _ _ _ => pg_name (i := 3) sc_law.nd rfl (Or.inl rfl)) (fun _ _ _ _ _ => pts_nil) (fun _ _ _ _ _ => (cal c_law_piece hr rfl (pa_cons (pv 1) pa_nil))))
    (pss_cons (ps_set (i := 4) sc_law.nd rfl (.inl rfl) (cal c_law_text hr rfl (pa_cons (cal c_law_value hr rfl (pa_cons (pv 1) (pa_cons (cal c_law_take hr rfl (pa_cons (pv 1) (pa_cons pe_int pa_nil))) pa_nil))) pa_nil)))
    (pss_cons (ps_for PassesOwn.never rfl (pi_list (pe_lst (pa_cons (pe_join pe_str (pv 2)) (pa_cons (pv 4) (pa_cons (cal c_law_spoilt hr rfl (pa_cons (pv 1) (pa_cons (pv 4) pa_nil))) (pa_cons (cal c_law_spoilt hr rfl (pa_cons (pv 1) (pa_cons (pe_op op_add_str (pe_op op_add_str pe_str (pv 4)) pe_str) pa_nil))) (pa_cons pe_str (pa_cons pe_str pa_nil)))))))) (pg_name (i := 5) sc_law.nd rfl (.inl rfl))
      (pss_one (ps_if (pt_not (pt_val (cal c_law_is_right hr rfl (pa_cons (pv 5) pa_nil)))) (pss_one (ps_ret pe_bl)) pss_nil)))
    (pss_cons (ps_set (i := 6) sc_law.nd rfl (.inl rfl) (cal c_law_take hr rfl (pa_cons (pv 1) (pa_cons pe_int pa_nil))))
    (pss_cons (ps_set (i := 7) sc_law.nd rfl (.inl rfl) (pe_made (pmk_oex T_BadText.ox T_BadText.iC T_BadText.tI ok_BadText hr_BadText T_BadText.bi .nil pass0 rfl T_BadText.gC (pa_cons (pv 6) pa_nil))))
    (pss_cons (ps_if (PW.pt (pw_or (pt_not (pt_val (pe_callB call_isV (by rfl) B.isinstance (by decide +kernel) (pa_cons (pv 7) (pa_cons (pe_glob (v := .ref G) rfl T_BadText.gG rfl) pa_nil))))) (pw_or1 (pt_cmpR op_ne (pe_xv (pv 7)) (pv 6) (nomark _))))) (pss_one (ps_ret pe_bl)) pss_nil)
    (pss_cons (ps_if (pt_cmpR op_gt (cal c_law_take hr rfl (pa_cons (pv 1) (pa_cons pe_int pa_nil))) pe_int (nomark _)) (pss_one (ps_ret pe_bl)) pss_nil)
    (pss_cons (ps_asg (cal c_law_deep hr rfl (pa_cons (pv 1) (pa_cons pe_str pa_nil))) (pg_lst rfl (pgs_cons (pg_name (i := 8) sc_law.nd rfl (.inl rfl)) (pgs_cons (pg_name (i := 9) sc_law.nd rfl (.inl rfl)) (pgs_cons (pg_name (i := 10) sc_law.nd rfl (.inl rfl)) pgs_nil)))))
    (pss_cons (ps_set (i := 11) sc_law.nd rfl (.inl rfl) (pe_op op_add_str (pe_op op_add_str (pv 9) pe_str) (pv 10)))
    (pss_cons (ps_set (i := 12) sc_law.nd rfl (.inl rfl) (cal c_law_take hr rfl (pa_cons (pv 1) (pa_cons (pe_callB call_len_str (by rfl) B.len PySem.boot_len (pa_cons (pv 11) pa_nil)) pa_nil))))
    (pss_cons (ps_for PassesOwn.never rfl (pi_list (pe_lst (pa_cons (pe_slice sl_str (pv 11) po_none (po_some (pv 12))) (pa_cons (pe_op op_add_str (pe_op op_add_str (pe_slice sl_str (pv 11) po_none (po_some (pv 12))) pe_str) (pe_slice sl_str (pv 11) (po_some (pv 12)) po_none)) (pa_cons (pe_op op_add_str (pv 11) pe_str) (pa_cons (pe_op op_add_str (pv 11) pe_str) (pa_cons (pv 9) (pa_cons (pe_op op_add_str (pv 9) (pv 10)) pa_nil)))))))) (pg_name (i := 5) sc_law.nd rfl (.inl rfl))
      (pss_one (ps_if (pt_not (pt_val (cal c_law_is_right hr rfl (pa_cons (pv 5) pa_nil)))) (pss_one (ps_ret pe_bl)) pss_nil)))
    (pss_one (ps_ret pe_bl)))))))))))))), ?_⟩
  -- hand
  refine ⟨_, rfl, a, ns, 500, rfl, hS, h63, by decide, fun d ds H1 k1 nd ed1 dl => ?_⟩
  refine ⟨by show (2 : Nat) ≤ sizeLine; decide, fun h nh => ?_⟩
  have hd0 : Hd (upd H1 h (.lst [.ref d, .int 0])) h d := ⟨0, ds, upd_same, by rw [upd_ne (ne_of_none ed1 nh)]; exact ed1, by omega⟩
  generalize upd H1 h (.lst [.ref d, .int 0]) = H2 at hd0
  -- pieces
  refine ⟨_, rfl, h, d, 12, rfl, hd0, by decide, fun m H3 m0 m1 k3 hd3 => ?_⟩
  refine ⟨m, rfl, by omega, by omega, fun L nL => ?_⟩
  have Lh : L ≠ h := (hd3.neH nL).symm
  have Ld : L ≠ d := (hd3.neD nL).symm
  refine lc_range (lo := 0) (n := m.toNat) (fun i H' => ∃ ps : List (List Nat), H' L = some (.lst (tvs ps)) ∧ ps.length = i ∧ (∀ z ∈ ps, z.length ≤ 30) ∧ Hd H' h d)
    ⟨[], upd_same, rfl, by simp, hd3.new nL⟩ (fun i H4 hi p => ?_) (fun H4 p => ?_)
  · obtain ⟨ps, e1, e2, e3, hd4⟩ := p
    refine ⟨rfl, yes ?_⟩
    refine ⟨_, rfl, h, d, rfl, hd4, fun x H5 xl k5 hd5 => ?_⟩
    refine ⟨tvs ps, k5.get e1 (by simpa using Lh), sizeLt (by rw [tvs_len, e2]; omega), ps ++ [x], by rw [upd_same, tvs_app]; rfl, by rw [List.length_append, e2]; rfl, ?_, hd5.upd Lh.symm Ld.symm⟩
    intro z hz
    rcases List.mem_append.mp hz with mm | mm
    · exact e3 z mm
    · rw [List.mem_singleton.mp mm]; exact xl
  obtain ⟨ps, e1, e2, e3, hd4⟩ := p
  obtain ⟨s1, s2⟩ := sums_le ps e3
  -- text
  refine ⟨_, rfl, _, rfl, h, d, 4, rfl, hd4, by decide, fun i H5 i0 i1 k5 hd5 => ?_⟩
  obtain ⟨n, n3, en⟩ := small i0 i1
  refine ⟨n, n3, h, d, by subst en; rfl, hd5, fun v t H6 tv dt k6 hd6 => ?_⟩
  obtain ⟨wt, sz, dp⟩ := dt
  have sz3 : t.size ≤ 1464 := Nat.le_trans sz (by rw [← most3]; exact Most.mono n3)
  have tl := txt_len wt
  refine ⟨v, t, rfl, tv, wt, dp.mono n3, by omega, fun H7 k7 => ?_⟩
  have hd7 := hd6.keep0 k7
  have e7 := ((k5.trans k6).trans (k7.mono (by simp))).get e1 (by simpa using Lh)
  -- the first list
  refine ⟨⟨_, rfl⟩, _, rfl, _, L, ps.map tx, rfl, rfl, .inl (SqL.of e7), ?_, ?_⟩
  · rw [List.length_map, lit_empty, tx_len]
    show _ + _ * 0 ≤ _
    omega
  rw [TL.join_eq, lit_empty, join_nil]
  refine ⟨_, rfl, _, rfl, _, rfl, h, d, txt t, rfl, hd7, by omega, fun x1 H8 l1 k8 hd8 => ?_⟩
  refine ⟨_, rfl, _, rfl, _, _, rfl, rfl, ?_, _, _, rfl, rfl, ?_, ?_⟩
  · rw [lit_blank, tx_len, tx_len]; exact Nat.le_trans (show _ ≤ 100000 by show 1 + _ ≤ _; omega) (by decide)
  · rw [lit_blank, lit_nl, tx_app, tx_len, tx_len, List.length_append]; exact Nat.le_trans (show _ ≤ 100000 by show 1 + _ + 1 ≤ _; omega) (by decide)
  rw [lit_blank, lit_nl, tx_app, tx_app]
  have l2 : ([32] ++ txt t ++ [10]).length = (txt t).length + 2 := by rw [List.length_append, List.length_append]; show 1 + _ + 1 = _; omega
  refine ⟨h, d, _, rfl, hd8, by rw [l2]; omega, fun x2 H9 lx2 k9 hd9 => ?_⟩
  rw [l2] at lx2
  refine ⟨by show (6 : Nat) ≤ sizeLine; decide, fun p np => ?_⟩
  generalize exs : [V.str (tx ps.flatten), V.str (tx (txt t)), V.str (tx x1), V.str (tx x2), V.str (tx []), V.str (Str.ofString " \n")] = xs
  have gx : ∀ x ∈ xs, Good x := by
    rw [← exs]
    exact alls (good_t (by omega)) (alls (good_t (by omega)) (alls (good_t (by omega)) (alls (good_t (by omega)) (alls (good_t (by decide)) (alls (good_s (by decide +kernel)) alls_nil)))))
  refine ⟨p, rfl, ⟨_, SqL.of upd_same⟩, ?_⟩
  have hd10 := hd9.new (o := .lst xs) np
  refine for_list (K := K) (a := p) (xs := xs) (fun i σ H' => ∃ y5 : Option V, σ = [some (.ref a), some (.ref h), some (.ref L), none, some (.str (tx (txt t))), y5, none, none, none, none, none, none, none] ∧ Hd H' h d ∧ H' p = some (.lst xs))
    ⟨none, rfl, hd10, upd_same⟩ (fun i σ H' _ pw => ?_) (fun i x σ H' hx pw => ?_) (fun σ H' pw => ?_)
  · obtain ⟨_, _, _, ep⟩ := pw
    exact SqL.of ep
  · obtain ⟨y5, rfl, hd', ep⟩ := pw
    obtain ⟨cs, rfl, cl⟩ := gx x (List.mem_of_getElem? hx)
    refine ⟨_, rfl, cs, rfl, cl, fun H'' k'' => ?_⟩
    exact ⟨_, rfl, iteF ⟨_, rfl, hd'.keep0 k'', k''.get ep (by simp)⟩⟩
  obtain ⟨y5, rfl, hd', ep⟩ := pw
  -- made
  refine ⟨_, rfl, h, d, 99, rfl, hd', by decide, fun i2 H11 i20 i21 k11 hd11 => ?_⟩
  refine ⟨_, rfl, by show (1 : Nat) ≤ 1000; decide, fun a9 na => ?_⟩
  refine ⟨a9, C, i2, rfl, T_BadText.ox, T_BadText.no, by omega, upd_same, fun dx hdx ne => ⟨rfl, dx, _, upd_same, by rw [upd_ne ne, upd_same], by rw [upd_ne ne] at hdx; exact hdx, fun a0 na0 => ?_⟩⟩
  have hd12 := (hd11.keep0 (keep_raised (C := C) (f := "place") (i := i2) na hdx ne)).new (o := ErV (.ref C) (some dx) a0) na0
  have ed0 : (upd (del (upd (upd (upd H11 a9 (exo a9 C none)) dx (exd dx [("place", .int i2)])) a9 (exo a9 C (some dx))) a9) dx (.xd [("place", .int i2)])) dx = some (.xd [("place", .int i2)]) := upd_same
  generalize upd (del (upd (upd (upd H11 a9 (exo a9 C none)) dx (exd dx [("place", .int i2)])) a9 (exo a9 C (some dx))) a9) dx (.xd [("place", .int i2)]) = H12a at hd12 na0 ed0
  have ea : (upd H12a a0 (ErV (.ref C) (some dx) a0)) a0 = some (ErV (.ref C) (some dx) a0) := upd_same
  have ed : (upd H12a a0 (ErV (.ref C) (some dx) a0)) dx = some (.xd [("place", .int i2)]) := by rw [upd_ne (ne_of_none ed0 na0)]; exact ed0
  generalize upd H12a a0 (ErV (.ref C) (some dx) a0) = H12 at hd12 ea ed
  refine ⟨_, rfl, a0, C, dx, _, _, true, _, rfl, .own G, ec, ea, ed, Hh.kG, _, rfl, iteF ?_⟩
  refine ⟨_, rfl, a0, C, dx, _, _, rfl, xf, T_BadText.no, ea, ed, rfl, _, rfl, rfl, _, rfl, ?_⟩
  rw [show (!decide (V.int i2 = V.int i2)) = false by simp]
  refine iteF ?_
  -- is the deep text asked as well?
  refine ⟨_, rfl, h, d, 2, rfl, hd12, by decide, fun j H13 j0 j1 k13 hd13 => ?_⟩
  refine ⟨_, _, rfl, rfl, _, rfl, ite2 (fun _ => q _) (fun _ => ?_)⟩
  have ta : Tr K H13 (.str "a") (.w [97]) := by rw [lit_a]; exact tr_w
  have wa : WT (.w [97]) := wt_w (isWord_of (by decide))
  refine ⟨_, rfl, h, d, .str "a", .w [97], rfl, hd13, ta, wa, fun p2 y l r t' H14 ep14 ty14 wt' et' ll rl sz' k14 hd14 ph => ?_⟩
  refine ⟨p2, _, rfl, SqL.of ep14, rfl, y, _, rfl, _, _, rfl, _, _, rfl, rfl, ?_⟩
  -- whole
  refine ⟨_, rfl, _, _, rfl, rfl, ?_, _, rfl, _, _, rfl, rfl, ?_, ?_⟩
  · rw [lit_a, tx_len, tx_len]; exact Nat.le_trans (show _ ≤ 1000000 by show _ + 1 ≤ _; omega) (by decide)
  · rw [lit_a, tx_app, tx_len, tx_len, List.length_append]; exact Nat.le_trans (show _ ≤ 1000000 by show _ + 1 + _ ≤ _; omega) (by decide)
  rw [lit_a, tx_app, tx_app]
  have wl : (l ++ [97] ++ r).length = l.length + 1 + r.length := by rw [List.length_append, List.length_append]; rfl
  generalize l ++ [97] ++ r = wh at wl
  have szw : (tx wh).length ≤ sizeLine := by rw [tx_len]; exact Nat.le_trans (show _ ≤ 5000 by omega) (by decide)
  have cl : ∀ lo hi, (cutS (tx wh) lo hi).length ≤ 4001 := fun lo hi => by
    have := cutS_len (tx wh) lo hi
    rw [tx_len] at this
    omega
  refine ⟨_, rfl, _, rfl, _, rfl, szw, h, d, _, rfl, hd14, by rw [tx_len]; omega, fun at_ H15 at0 at1 k15 hd15 => ?_⟩
  -- the second list
  have dash : (Str.ofString "-").length = 1 := by decide +kernel
  have clo : (Str.ofString ")").length = 1 := by decide +kernel
  have spx : (Str.ofString " x").length = 2 := by decide +kernel
  have n5 : (5000 : Nat) ≤ sizeLine := by decide
  refine ⟨_, rfl, _, rfl, _, rfl, _, rfl, szw, ?_⟩
  refine ⟨_, rfl, _, rfl, _, rfl, _, rfl, szw, _, _, rfl, rfl, ?_, _, rfl, _, rfl, _, rfl, _, rfl, szw, _, _, rfl, rfl, ?_, ?_⟩
  · have := cl none (some at_)
    exact Nat.le_trans (show _ ≤ 5000 by rw [dash]; omega) n5
  · have h1 := cl none (some at_)
    have h2 := cl (some at_) none
    exact Nat.le_trans (show _ ≤ 9000 by rw [str_len_app, dash]; omega) (by decide)
  refine ⟨_, rfl, _, _, rfl, rfl, ?_, ?_⟩
  · rw [tx_len]; exact Nat.le_trans (show _ ≤ 5000 by rw [clo]; omega) n5
  refine ⟨_, rfl, _, _, rfl, rfl, ?_, ?_⟩
  · rw [tx_len]; exact Nat.le_trans (show _ ≤ 5000 by rw [spx]; omega) n5
  refine ⟨_, rfl, _, rfl, _, rfl, _, _, rfl, rfl, ?_, ?_⟩
  · rw [tx_len, tx_len]; exact Nat.le_trans (show _ ≤ 5000 by omega) n5
  refine ⟨by show (6 : Nat) ≤ sizeLine; decide, fun p3 np3 => ?_⟩
  generalize exs2 : [V.str (cutS (tx wh) none (some at_)), V.str (cutS (tx wh) none (some at_) ++ Str.ofString "-" ++ cutS (tx wh) (some at_) none), V.str (tx wh ++ Str.ofString ")"), V.str (tx wh ++ Str.ofString " x"), V.str (tx l), V.str (tx l ++ tx r)] = ys
  have gy : ∀ x ∈ ys, Good x := by
    rw [← exs2]
    have h1 := cl none (some at_)
    have h2 := cl (some at_) none
    exact alls (good_s (by omega)) (alls (good_s (by rw [str_len_app, str_len_app, dash]; omega)) (alls (good_s (by rw [str_len_app, clo, tx_len]; omega)) (alls (good_s (by rw [str_len_app, spx, tx_len]; omega)) (alls (good_t (by omega)) (alls (good_s (by rw [str_len_app, tx_len, tx_len]; omega)) alls_nil)))))
  refine ⟨p3, rfl, ⟨_, SqL.of upd_same⟩, ?_⟩
  refine for_list (K := K) (a := p3) (xs := ys) (fun i σ H' => ∃ y5 : Option V, σ = [some (.ref a), some (.ref h), some (.ref L), none, some (.str (tx (txt t))), y5, some (.int i2), some (.ref a0), some y, some (.str (tx l)), some (.str (tx r)), some (.str (tx wh)), some (.int at_)] ∧ H' p3 = some (.lst ys))
    ⟨_, rfl, upd_same⟩ (fun i σ H' _ pw => ?_) (fun i x σ H' hx pw => ?_) (fun σ H' pw => ?_)
  · obtain ⟨_, _, ep⟩ := pw
    exact SqL.of ep
  · obtain ⟨y5, rfl, ep⟩ := pw
    obtain ⟨cs, rfl, cl⟩ := gy x (List.mem_of_getElem? hx)
    refine ⟨_, rfl, cs, rfl, cl, fun H'' k'' => ?_⟩
    exact ⟨_, rfl, iteF ⟨_, rfl, k''.get ep (by simp)⟩⟩
  · exact q _
theorem all_mk {l : PySem.W.OpenLaw} {w : World} {K : PySem.W.Frag} {h : Heap} {mg : Str → Option Value} {fa f0 f1 f2 f3 f4 f5 f6 f7 f8 f9 f10 f11 f12 f13 f14 f15 : Addr} (X : K.In h) (G : h.Ns mainGlobals mg) (hfa : mg "law" = some (.ref fa))
    {CG : Addr} {C0 I0 N0 C1 I1 N1 : Addr} {nm0 q0 nm1 q1 : Str} {bs0 bm0 sub0 bs1 bm1 sub1 : List Value} {sn0 sn1 : List Str} {ab0 ab1 : Bool} {col0 col1 : Option Bool} {dd0 eod0 ean0 dd1 eod1 ean1 : Option Addr} {u0 v0 w0 x0 y0 u1 v1 w1 x1 y1 : Option Value} {esl0 esl1 : Array (Option Value)} {eoc0 ekV0 edc0 epm0 ecd0 ect0 eoc1 ekV1 edc1 epm1 ecd1 ect1 : Value}
    {od0 an0 od1 an1 od2 an2 od3 an3 od4 an4 od5 an5 od6 an6 od7 an7 od8 an8 od9 an9 od10 an10 od11 an11 od12 an12 od13 an13 od14 an14 od15 an15 : Option Addr} {sl0 sl1 sl2 sl3 sl4 sl5 sl6 sl7 sl8 sl9 sl10 sl11 sl12 sl13 sl14 sl15 : Array (Option Value)} {oc0 kV0 dc0 pm0 cd0 ct0 oc1 kV1 dc1 pm1 cd1 ct1 oc2 kV2 dc2 pm2 cd2 ct2 oc3 kV3 dc3 pm3 cd3 ct3 oc4 kV4 dc4 pm4 cd4 ct4 oc5 kV5 dc5 pm5 cd5 ct5 oc6 kV6 dc6 pm6 cd6 ct6 oc7 kV7 dc7 pm7 cd7 ct7 oc8 kV8 dc8 pm8 cd8 ct8 oc9 kV9 dc9 pm9 cd9 ct9 oc10 kV10 dc10 pm10 cd10 ct10 oc11 kV11 dc11 pm11 cd11 ct11 oc12 kV12 dc12 pm12 cd12 ct12 oc13 kV13 dc13 pm13 cd13 ct13 oc14 kV14 dc14 pm14 cd14 ct14 oc15 kV15 dc15 pm15 cd15 ct15 : Value} {t0 t1 t2 t3 : Tok}
    (a0 : PySem.W.nsIn K mainGlobals "read_value" = some (some (.ref f0))) (l0 : K.lookup f0 = some ⟨oc0, od0, .func (PySem.W.fnOf "read_value" "read_value" (defArgs s_read_value) (defBody s_read_value) (defScope s_read_value) .none kV0 dc0 pm0 an0 cd0 ct0), sl0⟩) (c0 : PySem.W.codeIn K cd0 "read_value" = true) (k0 : PySem.W.keepIn K (.ref f0) = true)
    (a1 : PySem.W.nsIn K mainGlobals "_behind_blanks" = some (some (.ref f1))) (l1 : K.lookup f1 = some ⟨oc1, od1, .func (PySem.W.fnOf "_behind_blanks" "_behind_blanks" (defArgs s_behind_blanks) (defBody s_behind_blanks) (defScope s_behind_blanks) .none kV1 dc1 pm1 an1 cd1 ct1), sl1⟩) (c1 : PySem.W.codeIn K cd1 "_behind_blanks" = true) (k1 : PySem.W.keepIn K (.ref f1) = true)
    (a2 : PySem.W.nsIn K mainGlobals "_word_at" = some (some (.ref f2))) (l2 : K.lookup f2 = some ⟨oc2, od2, .func (PySem.W.fnOf "_word_at" "_word_at" (defArgs s_word_at) (defBody s_word_at) (defScope s_word_at) .none kV2 dc2 pm2 an2 cd2 ct2), sl2⟩) (c2 : PySem.W.codeIn K cd2 "_word_at" = true) (k2 : PySem.W.keepIn K (.ref f2) = true)
    (a3 : PySem.W.nsIn K mainGlobals "_law_draws" = some (some (.ref f3))) (l3 : K.lookup f3 = some ⟨oc3, od3, .func (PySem.W.fnOf "_law_draws" "_law_draws" (defArgs s_law_draws) (defBody s_law_draws) (defScope s_law_draws) .none kV3 dc3 pm3 an3 cd3 ct3), sl3⟩) (c3 : PySem.W.codeIn K cd3 "_law_draws" = true) (k3 : PySem.W.keepIn K (.ref f3) = true)
    (a4 : PySem.W.nsIn K mainGlobals "_law_take" = some (some (.ref f4))) (l4 : K.lookup f4 = some ⟨oc4, od4, .func (PySem.W.fnOf "_law_take" "_law_take" (defArgs s_law_take) (defBody s_law_take) (defScope s_law_take) .none kV4 dc4 pm4 an4 cd4 ct4), sl4⟩) (c4 : PySem.W.codeIn K cd4 "_law_take" = true) (k4 : PySem.W.keepIn K (.ref f4) = true)
    (a5 : PySem.W.nsIn K mainGlobals "_law_word" = some (some (.ref f5))) (l5 : K.lookup f5 = some ⟨oc5, od5, .func (PySem.W.fnOf "_law_word" "_law_word" (defArgs s_law_word) (defBody s_law_word) (defScope s_law_word) .none kV5 dc5 pm5 an5 cd5 ct5), sl5⟩) (c5 : PySem.W.codeIn K cd5 "_law_word" = true) (k5 : PySem.W.keepIn K (.ref f5) = true)
    (a6 : PySem.W.nsIn K mainGlobals "_law_value" = some (some (.ref f6))) (l6 : K.lookup f6 = some ⟨oc6, od6, .func (PySem.W.fnOf "_law_value" "_law_value" (defArgs s_law_value) (defBody s_law_value) (defScope s_law_value) .none kV6 dc6 pm6 an6 cd6 ct6), sl6⟩) (c6 : PySem.W.codeIn K cd6 "_law_value" = true) (k6 : PySem.W.keepIn K (.ref f6) = true)
    (a7 : PySem.W.nsIn K mainGlobals "_law_text" = some (some (.ref f7))) (l7 : K.lookup f7 = some ⟨oc7, od7, .func (PySem.W.fnOf "_law_text" "_law_text" (defArgs s_law_text) (defBody s_law_text) (defScope s_law_text) .none kV7 dc7 pm7 an7 cd7 ct7), sl7⟩) (c7 : PySem.W.codeIn K cd7 "_law_text" = true) (k7 : PySem.W.keepIn K (.ref f7) = true)
    (a8 : PySem.W.nsIn K mainGlobals "_law_deep" = some (some (.ref f8))) (l8 : K.lookup f8 = some ⟨oc8, od8, .func (PySem.W.fnOf "_law_deep" "_law_deep" (defArgs s_law_deep) (defBody s_law_deep) (defScope s_law_deep) .none kV8 dc8 pm8 an8 cd8 ct8), sl8⟩) (c8 : PySem.W.codeIn K cd8 "_law_deep" = true) (k8 : PySem.W.keepIn K (.ref f8) = true)
    (a9 : PySem.W.nsIn K mainGlobals "_law_like" = some (some (.ref f9))) (l9 : K.lookup f9 = some ⟨oc9, od9, .func (PySem.W.fnOf "_law_like" "_law_like" (defArgs s_law_like) (defBody s_law_like) (defScope s_law_like) .none kV9 dc9 pm9 an9 cd9 ct9), sl9⟩) (c9 : PySem.W.codeIn K cd9 "_law_like" = true) (k9 : PySem.W.keepIn K (.ref f9) = true)
    (a10 : PySem.W.nsIn K mainGlobals "_law_run_end" = some (some (.ref f10))) (l10 : K.lookup f10 = some ⟨oc10, od10, .func (PySem.W.fnOf "_law_run_end" "_law_run_end" (defArgs s_law_run_end) (defBody s_law_run_end) (defScope s_law_run_end) .none kV10 dc10 pm10 an10 cd10 ct10), sl10⟩) (c10 : PySem.W.codeIn K cd10 "_law_run_end" = true) (k10 : PySem.W.keepIn K (.ref f10) = true)
    (a11 : PySem.W.nsIn K mainGlobals "_law_read" = some (some (.ref f11))) (l11 : K.lookup f11 = some ⟨oc11, od11, .func (PySem.W.fnOf "_law_read" "_law_read" (defArgs s_law_read) (defBody s_law_read) (defScope s_law_read) .none kV11 dc11 pm11 an11 cd11 ct11), sl11⟩) (c11 : PySem.W.codeIn K cd11 "_law_read" = true) (k11 : PySem.W.keepIn K (.ref f11) = true)
    (a12 : PySem.W.nsIn K mainGlobals "_law_piece" = some (some (.ref f12))) (l12 : K.lookup f12 = some ⟨oc12, od12, .func (PySem.W.fnOf "_law_piece" "_law_piece" (defArgs s_law_piece) (defBody s_law_piece) (defScope s_law_piece) .none kV12 dc12 pm12 an12 cd12 ct12), sl12⟩) (c12 : PySem.W.codeIn K cd12 "_law_piece" = true) (k12 : PySem.W.keepIn K (.ref f12) = true)
    (a13 : PySem.W.nsIn K mainGlobals "_law_spoilt" = some (some (.ref f13))) (l13 : K.lookup f13 = some ⟨oc13, od13, .func (PySem.W.fnOf "_law_spoilt" "_law_spoilt" (defArgs s_law_spoilt) (defBody s_law_spoilt) (defScope s_law_spoilt) .none kV13 dc13 pm13 an13 cd13 ct13), sl13⟩) (c13 : PySem.W.codeIn K cd13 "_law_spoilt" = true) (k13 : PySem.W.keepIn K (.ref f13) = true)
    (a14 : PySem.W.nsIn K mainGlobals "_law_is_right" = some (some (.ref f14))) (l14 : K.lookup f14 = some ⟨oc14, od14, .func (PySem.W.fnOf "_law_is_right" "_law_is_right" (defArgs s_law_is_right) (defBody s_law_is_right) (defScope s_law_is_right) .none kV14 dc14 pm14 an14 cd14 ct14), sl14⟩) (c14 : PySem.W.codeIn K cd14 "_law_is_right" = true) (k14 : PySem.W.keepIn K (.ref f14) = true)
    (a15 : PySem.W.nsIn K mainGlobals "law" = some (some (.ref f15))) (l15 : K.lookup f15 = some ⟨oc15, od15, .func (PySem.W.fnOf "law" "law" (defArgs s_law) (defBody s_law) (defScope s_law) .none kV15 dc15 pm15 an15 cd15 ct15), sl15⟩) (c15 : PySem.W.codeIn K cd15 "law" = true) (k15 : PySem.W.keepIn K (.ref f15) = true)
    (zlen : PySem.W.nsIn K mainGlobals "len" = some none)
    (zrange : PySem.W.nsIn K mainGlobals "range" = some none)
    (zint : PySem.W.nsIn K mainGlobals "int" = some none)
    (zabs : PySem.W.nsIn K mainGlobals "abs" = some none)
    (zstr : PySem.W.nsIn K mainGlobals "str" = some none)
    (ztuple : PySem.W.nsIn K mainGlobals "tuple" = some none)
    (zlist : PySem.W.nsIn K mainGlobals "list" = some none)
    (zbool : PySem.W.nsIn K mainGlobals "bool" = some none)
    (zisinstance : PySem.W.nsIn K mainGlobals "isinstance" = some none)
    (zValueError : PySem.W.nsIn K mainGlobals "ValueError" = some none)
    (eG : PySem.W.nsIn K mainGlobals "GlassError" = some (some (.ref CG))) (eRd : PySem.W.readsIn K CG (.type "type") = true) (eSg : PySem.W.specialIn K (.ref CG) "__getattribute__" = some (some (.builtin "type.__getattribute__"))) (eVv : PySem.W.findCls K (.ref CG) (.type "type") "__init__" = some (.val (.builtin "ValueError.__init__"))) (eGt : PySem.W.specialIn K (.builtin "object.__class__") "__get__" = some (some (.builtin "getset_descriptor.__get__"))) (eTk : PySem.W.takesIn K (.builtin "object.__class__") = some true)
    (eC0 : PySem.W.nsIn K mainGlobals "BadText" = some (some (.ref C0))) (eL0 : K.lookup C0 = some (excClassObj nm0 q0 C0 N0 bs0 bm0 true sn0 sub0 ab0 col0 dd0 u0 v0 w0 x0 y0 "ValueError.__new__")) (eR0 : PySem.HandSPX.refsVE bm0 = true)
    (eS0 : PySem.W.findIn K (.ref C0) "__setattr__" = some (some (.builtin "object.__setattr__"))) (eX0 : PySem.W.subIn K (.ref C0) (.type "BaseException") = some true) (eT0 : PySem.W.typeIn K (.ref C0) = some (.type "type")) (eK0 : PySem.W.keepIn K (.ref C0) = true)
    (eI0 : PySem.W.findIn K (.ref C0) "__init__" = some (some (.ref I0))) (eY0 : PySem.W.typeIn K (.ref I0) = some (.type "function")) (eN0 : PySem.W.findIn K (.ref C0) "place" = some none)
    (eF0 : K.lookup I0 = some ⟨eoc0, eod0, .func (PySem.W.fnOf "__init__" "BadText.__init__" (defArgs s_BadText_init) (defBody s_BadText_init) (defScope s_BadText_init) .none ekV0 edc0 epm0 ean0 ecd0 ect0), esl0⟩) (eD0 : PySem.W.codeIn K ecd0 "BadText.__init__" = true) (eP0 : PySem.W.keepIn K (.ref I0) = true)
    (eA0 : PySem.W.findIn K (.ref C0) "__getattribute__" = some (some (.builtin "BaseException.__getattribute__"))) (eB0 : PySem.W.findIn K (.ref C0) "__getattr__" = some none) (eH0 : PySem.W.hasDictIn K C0 = true) (eQ0 : PySem.W.isClsIn K C0 = true) (eZ0 : PySem.W.subIn K (.ref C0) (.ref C0) = some true)
    (eE0 : PySem.W.findIn K (.ref C0) "__class__" = some (some (.builtin "object.__class__"))) (eU0 : PySem.W.kitOne K (.ref C0) (.ref CG) = some true) (eV0 : PySem.W.kitOne K (.ref C0) (.type "ValueError") = some true) (eM0 : PySem.W.mroIn K C0 (.type "object") = some true)
    (eC1 : PySem.W.nsIn K mainGlobals "BadProgram" = some (some (.ref C1))) (eL1 : K.lookup C1 = some (excClassObj nm1 q1 C1 N1 bs1 bm1 true sn1 sub1 ab1 col1 dd1 u1 v1 w1 x1 y1 "ValueError.__new__")) (eR1 : PySem.HandSPX.refsVE bm1 = true)
    (eS1 : PySem.W.findIn K (.ref C1) "__setattr__" = some (some (.builtin "object.__setattr__"))) (eX1 : PySem.W.subIn K (.ref C1) (.type "BaseException") = some true) (eT1 : PySem.W.typeIn K (.ref C1) = some (.type "type")) (eK1 : PySem.W.keepIn K (.ref C1) = true)
    (eI1 : PySem.W.findIn K (.ref C1) "__init__" = some (some (.ref I1))) (eY1 : PySem.W.typeIn K (.ref I1) = some (.type "function")) (eN1 : PySem.W.findIn K (.ref C1) "function" = some none)
    (eF1 : K.lookup I1 = some ⟨eoc1, eod1, .func (PySem.W.fnOf "__init__" "BadProgram.__init__" (defArgs s_BadProgram_init) (defBody s_BadProgram_init) (defScope s_BadProgram_init) .none ekV1 edc1 epm1 ean1 ecd1 ect1), esl1⟩) (eD1 : PySem.W.codeIn K ecd1 "BadProgram.__init__" = true) (eP1 : PySem.W.keepIn K (.ref I1) = true)
    (eA1 : PySem.W.findIn K (.ref C1) "__getattribute__" = some (some (.builtin "BaseException.__getattribute__"))) (eB1 : PySem.W.findIn K (.ref C1) "__getattr__" = some none) (eH1 : PySem.W.hasDictIn K C1 = true) (eQ1 : PySem.W.isClsIn K C1 = true) (eZ1 : PySem.W.subIn K (.ref C1) (.ref C1) = some true)
    (eE1 : PySem.W.findIn K (.ref C1) "__class__" = some (some (.builtin "object.__class__"))) (eU1 : PySem.W.kitOne K (.ref C1) (.ref CG) = some true) (eV1 : PySem.W.kitOne K (.ref C1) (.type "ValueError") = some true) (eM1 : PySem.W.mroIn K C1 (.type "object") = some true)
    (eW0x1 : PySem.W.kitOne K (.ref C0) (.ref C1) = some false)
    (eW1x0 : PySem.W.kitOne K (.ref C1) (.ref C0) = some false)
    (gc0 : PySem.W.nsIn K mainGlobals "LETTERS" = some (some (.str "abcdefghijklmnopqrstuvwxyz" t0)))
    (gc1 : PySem.W.nsIn K mainGlobals "RUN_SIGNS" = some (some (.str "abcdefghijklmnopqrstuvwxyz0123456789" t1)))
    (gc2 : PySem.W.nsIn K mainGlobals "BLANKS" = some (some (.str " \n" t2)))
    (gc3 : PySem.W.nsIn K mainGlobals "LONGEST_WORD" = some (some (.int 12 t3)))
    : ∃ fd : FuncData, (∀ (s : Shared) (v : Value), BindsTo s fd ⟨[v], []⟩ [("script", v)]) ∧ ∀ base : Heap, K.In base → base.Ns mainGlobals mg → FnOk l.prog w K mg base CX0 30 fa fd ["script"] (spLaw K) := by
  have e := hfa.symm.trans (PySem.W.mg_of X G a15)
  cases e
  have B : Bn mg := ⟨PySem.W.mg_none_of X G zlen, PySem.W.mg_none_of X G zrange, PySem.W.mg_none_of X G zint, PySem.W.mg_none_of X G zabs, PySem.W.mg_none_of X G zstr, PySem.W.mg_none_of X G ztuple, PySem.W.mg_none_of X G zlist, PySem.W.mg_none_of X G zbool, PySem.W.mg_none_of X G zisinstance, PySem.W.mg_none_of X G zValueError⟩
  have M : Mc mg := ⟨⟨_, PySem.W.mg_of X G gc0⟩, ⟨_, PySem.W.mg_of X G gc1⟩, ⟨_, PySem.W.mg_of X G gc2⟩, ⟨_, PySem.W.mg_of X G gc3⟩⟩
  have EF0 := fun_mk (st := s_BadText_init) eF0 eD0 eP0
  have Eb0 := EF0.binds (ps := ["self", "place"]) fun _ _ _ _ _ _ us hl => match us, hl with | [_, _], _ => rfl
  have E_BadText : ErrAll K mg "BadText" "BadText.__init__" "place" s_BadText_init := ⟨⟨C0, CG, I0, _, ⟨PySem.W.mg_of X G eC0, PySem.W.mg_of X G eG, ⟨⟨nm0, q0, N0, bs0, bm0, sn0, sub0, ab0, col0, dd0, u0, v0, w0, x0, y0, eL0, eR0⟩, eS0, eX0, eT0, eK0⟩, eI0, eY0, eN0, eRd, eSg, eVv, EF0, Eb0⟩, ⟨eA0, eB0, eH0, eQ0, eZ0, eE0, eU0, eV0, eGt, eTk, eM0⟩⟩⟩
  have EF1 := fun_mk (st := s_BadProgram_init) eF1 eD1 eP1
  have Eb1 := EF1.binds (ps := ["self", "function"]) fun _ _ _ _ _ _ us hl => match us, hl with | [_, _], _ => rfl
  have E_BadProgram : ErrAll K mg "BadProgram" "BadProgram.__init__" "function" s_BadProgram_init := ⟨⟨C1, CG, I1, _, ⟨PySem.W.mg_of X G eC1, PySem.W.mg_of X G eG, ⟨⟨nm1, q1, N1, bs1, bm1, sn1, sub1, ab1, col1, dd1, u1, v1, w1, x1, y1, eL1, eR1⟩, eS1, eX1, eT1, eK1⟩, eI1, eY1, eN1, eRd, eSg, eVv, EF1, Eb1⟩, ⟨eA1, eB1, eH1, eQ1, eZ1, eE1, eU1, eV1, eGt, eTk, eM1⟩⟩⟩
  have W_BadText_BadProgram : ErrNot K mg "BadText" "BadProgram" := ⟨fun a b ha hb => by rw [PySem.W.mg_of X G eC0] at ha; rw [PySem.W.mg_of X G eC1] at hb; cases ha; cases hb; exact eW0x1⟩
  have W_BadProgram_BadText : ErrNot K mg "BadProgram" "BadText" := ⟨fun a b ha hb => by rw [PySem.W.mg_of X G eC1] at ha; rw [PySem.W.mg_of X G eC0] at hb; cases ha; cases hb; exact eW1x0⟩
  have F0 := fun_mk (st := s_read_value) l0 c0 k0
  have b0 := F0.binds (ps := p_read_value) fun _ _ _ _ _ _ us hl => match us, hl with | [_], _ => rfl
  have D_read_value : DefAt K mg "read_value" s_read_value p_read_value := ⟨⟨f0, _, F0, PySem.W.mg_of X G a0, b0⟩⟩
  have F1 := fun_mk (st := s_behind_blanks) l1 c1 k1
  have b1 := F1.binds (ps := p_behind_blanks) fun _ _ _ _ _ _ us hl => match us, hl with | [_, _], _ => rfl
  have D_behind_blanks : DefAt K mg "_behind_blanks" s_behind_blanks p_behind_blanks := ⟨⟨f1, _, F1, PySem.W.mg_of X G a1, b1⟩⟩
  have F2 := fun_mk (st := s_word_at) l2 c2 k2
  have b2 := F2.binds (ps := p_word_at) fun _ _ _ _ _ _ us hl => match us, hl with | [_, _], _ => rfl
  have D_word_at : DefAt K mg "_word_at" s_word_at p_word_at := ⟨⟨f2, _, F2, PySem.W.mg_of X G a2, b2⟩⟩
  have F3 := fun_mk (st := s_law_draws) l3 c3 k3
  have b3 := F3.binds (ps := p_law_draws) fun _ _ _ _ _ _ us hl => match us, hl with | [_, _], _ => rfl
  have D_law_draws : DefAt K mg "_law_draws" s_law_draws p_law_draws := ⟨⟨f3, _, F3, PySem.W.mg_of X G a3, b3⟩⟩
  have F4 := fun_mk (st := s_law_take) l4 c4 k4
  have b4 := F4.binds (ps := p_law_take) fun _ _ _ _ _ _ us hl => match us, hl with | [_, _], _ => rfl
  have D_law_take : DefAt K mg "_law_take" s_law_take p_law_take := ⟨⟨f4, _, F4, PySem.W.mg_of X G a4, b4⟩⟩
  have F5 := fun_mk (st := s_law_word) l5 c5 k5
  have b5 := F5.binds (ps := p_law_word) fun _ _ _ _ _ _ us hl => match us, hl with | [_], _ => rfl
  have D_law_word : DefAt K mg "_law_word" s_law_word p_law_word := ⟨⟨f5, _, F5, PySem.W.mg_of X G a5, b5⟩⟩
  have F6 := fun_mk (st := s_law_value) l6 c6 k6
  have b6 := F6.binds (ps := p_law_value) fun _ _ _ _ _ _ us hl => match us, hl with | [_, _], _ => rfl
  have D_law_value : DefAt K mg "_law_value" s_law_value p_law_value := ⟨⟨f6, _, F6, PySem.W.mg_of X G a6, b6⟩⟩
  have F7 := fun_mk (st := s_law_text) l7 c7 k7
  have b7 := F7.binds (ps := p_law_text) fun _ _ _ _ _ _ us hl => match us, hl with | [_], _ => rfl
  have D_law_text : DefAt K mg "_law_text" s_law_text p_law_text := ⟨⟨f7, _, F7, PySem.W.mg_of X G a7, b7⟩⟩
  have F8 := fun_mk (st := s_law_deep) l8 c8 k8
  have b8 := F8.binds (ps := p_law_deep) fun _ _ _ _ _ _ us hl => match us, hl with | [_, _], _ => rfl
  have D_law_deep : DefAt K mg "_law_deep" s_law_deep p_law_deep := ⟨⟨f8, _, F8, PySem.W.mg_of X G a8, b8⟩⟩
  have F9 := fun_mk (st := s_law_like) l9 c9 k9
  have b9 := F9.binds (ps := p_law_like) fun _ _ _ _ _ _ us hl => match us, hl with | [_, _], _ => rfl
  have D_law_like : DefAt K mg "_law_like" s_law_like p_law_like := ⟨⟨f9, _, F9, PySem.W.mg_of X G a9, b9⟩⟩
  have F10 := fun_mk (st := s_law_run_end) l10 c10 k10
  have b10 := F10.binds (ps := p_law_run_end) fun _ _ _ _ _ _ us hl => match us, hl with | [_, _], _ => rfl
  have D_law_run_end : DefAt K mg "_law_run_end" s_law_run_end p_law_run_end := ⟨⟨f10, _, F10, PySem.W.mg_of X G a10, b10⟩⟩
  have F11 := fun_mk (st := s_law_read) l11 c11 k11
  have b11 := F11.binds (ps := p_law_read) fun _ _ _ _ _ _ us hl => match us, hl with | [_], _ => rfl
  have D_law_read : DefAt K mg "_law_read" s_law_read p_law_read := ⟨⟨f11, _, F11, PySem.W.mg_of X G a11, b11⟩⟩
  have F12 := fun_mk (st := s_law_piece) l12 c12 k12
  have b12 := F12.binds (ps := p_law_piece) fun _ _ _ _ _ _ us hl => match us, hl with | [_], _ => rfl
  have D_law_piece : DefAt K mg "_law_piece" s_law_piece p_law_piece := ⟨⟨f12, _, F12, PySem.W.mg_of X G a12, b12⟩⟩
  have F13 := fun_mk (st := s_law_spoilt) l13 c13 k13
  have b13 := F13.binds (ps := p_law_spoilt) fun _ _ _ _ _ _ us hl => match us, hl with | [_, _], _ => rfl
  have D_law_spoilt : DefAt K mg "_law_spoilt" s_law_spoilt p_law_spoilt := ⟨⟨f13, _, F13, PySem.W.mg_of X G a13, b13⟩⟩
  have F14 := fun_mk (st := s_law_is_right) l14 c14 k14
  have b14 := F14.binds (ps := p_law_is_right) fun _ _ _ _ _ _ us hl => match us, hl with | [_], _ => rfl
  have D_law_is_right : DefAt K mg "_law_is_right" s_law_is_right p_law_is_right := ⟨⟨f14, _, F14, PySem.W.mg_of X G a14, b14⟩⟩
  have F15 := fun_mk (st := s_law) l15 c15 k15
  have b15 := F15.binds (ps := p_law) fun _ _ _ _ _ _ us hl => match us, hl with | [_], _ => rfl
  refine ⟨PySem.W.fnOf "law" "law" (defArgs s_law) (defBody s_law) (defScope s_law) .none kV15 dc15 pm15 an15 cd15 ct15, fun s v => .of_eq rfl, fun base _ _ => ?_⟩
  exact ok_law F15 B M E_BadText E_BadProgram W_BadText_BadProgram W_BadProgram_BadText D_read_value D_behind_blanks D_word_at D_law_draws D_law_take D_law_word D_law_value D_law_text D_law_deep D_law_like D_law_run_end D_law_read D_law_piece D_law_spoilt D_law_is_right
theorem walk {l : PySem.W.OpenLaw} {q : Program} {loose : List Str} {XP : (Str → Option Value) → Heap → Prop} {YP : World → Heap → Prop} {d : DefRec} {K : Params → PySem.W.Frag} (hn : l.most = some 63) (hdf : d.params.defaults = [])
    (hY : ∀ (w : World) (h : Heap), YP w h → (K w.params).In h)
    (F : ∀ (w : World) (mg : Str → Option Value) (fa : Addr) (h : Heap), (K w.params).In h → h.Ns mainGlobals mg → mg d.name = some (.ref fa) →
      ∃ fd : FuncData, (∀ (s : Shared) (u : Value), BindsTo s fd ⟨[u], []⟩ [("script", u)]) ∧ ∀ base : Heap, (K w.params).In base → base.Ns mainGlobals mg → FnOk l.prog w (K w.params) mg base CX0 30 fa fd ["script"] (spLaw (K w.params))) :
    PySem.W.WalkO q loose XP YP l.row.toRowW d [] (fun f vs => PySem.call f vs) :=
  L2.walk_of (n := 63) (k := 30) (x := "script") (CX := fun _ => CX0) (sp := fun w => spLaw (K w.params)) hn (by decide) hdf ⟨rfl, by decide, by decide⟩ hY F (fun _ _ a ns hl _ hS => ⟨a, ns, rfl, hS, hl, fun _ => rfl⟩) fun _ _ _ _ _ z => z
end Og
open PySem PySem.W PyProof.Rows
set_option maxRecDepth 100000 in
set_option maxHeartbeats 0 in
theorem PySem.Challenge.cw_ownglass_k02_the_place_where_a_text_is_w_holds : PySem.Challenge.rw_ownglass_k02_the_place_where_a_text_is_w.Holds := by
  w_on; o_law; k_head; (case hw => w_witness2)
  k_fill
  refine Og.walk (l := PySem.Challenge.rw_ownglass_k02_the_place_where_a_text_is_w) rfl rfl (fun w h Y => PySem.W.kIn_of Y) ?F
  case F =>
    intro w mg fa h KX G hmg
    refine' Og.all_mk KX G hmg ?a0 ?l0 ?c0 ?k0 ?a1 ?l1 ?c1 ?k1 ?a2 ?l2 ?c2 ?k2 ?a3 ?l3 ?c3 ?k3 ?a4 ?l4 ?c4 ?k4 ?a5 ?l5 ?c5 ?k5 ?a6 ?l6 ?c6 ?k6 ?a7 ?l7 ?c7 ?k7 ?a8 ?l8 ?c8 ?k8 ?a9 ?l9 ?c9 ?k9 ?a10 ?l10 ?c10 ?k10 ?a11 ?l11 ?c11 ?k11 ?a12 ?l12 ?c12 ?k12 ?a13 ?l13 ?c13 ?k13 ?a14 ?l14 ?c14 ?k14 ?a15 ?l15 ?c15 ?k15 ?zlen ?zrange ?zint ?zabs ?zstr ?ztuple ?zlist ?zbool ?zisinstance ?zValueError ?eG ?eRd ?eSg ?eVv ?eGt ?eTk ?eC0 ?eL0 ?eR0 ?eS0 ?eX0 ?eT0 ?eK0 ?eI0 ?eY0 ?eN0 ?eF0 ?eD0 ?eP0 ?eA0 ?eB0 ?eH0 ?eQ0 ?eZ0 ?eE0 ?eU0 ?eV0 ?eM0 ?eC1 ?eL1 ?eR1 ?eS1 ?eX1 ?eT1 ?eK1 ?eI1 ?eY1 ?eN1 ?eF1 ?eD1 ?eP1 ?eA1 ?eB1 ?eH1 ?eQ1 ?eZ1 ?eE1 ?eU1 ?eV1 ?eM1 ?eW0x1 ?eW1x0 ?gc0 ?gc1 ?gc2 ?gc3
    (case a0 => first | k_is | rfl | decide +kernel)
    (case l0 => first | k_is | rfl | decide +kernel)
    (case c0 => first | k_is | rfl | decide +kernel)
    (case k0 => first | k_is | rfl | decide +kernel)
    (case a1 => first | k_is | rfl | decide +kernel)
    (case l1 => first | k_is | rfl | decide +kernel)
    (case c1 => first | k_is | rfl | decide +kernel)
    (case k1 => first | k_is | rfl | decide +kernel)
    (case a2 => first | k_is | rfl | decide +kernel)
    (case l2 => first | k_is | rfl | decide +kernel)
    (case c2 => first | k_is | rfl | decide +kernel)
    (case k2 => first | k_is | rfl | decide +kernel)
    (case a3 => first | k_is | rfl | decide +kernel)
    (case l3 => first | k_is | rfl | decide +kernel)
    (case c3 => first | k_is | rfl | decide +kernel)
    (case k3 => first | k_is | rfl | decide +kernel)
    (case a4 => first | k_is | rfl | decide +kernel)
    (case l4 => first | k_is | rfl | decide +kernel)
    (case c4 => first | k_is | rfl | decide +kernel)
    (case k4 => first | k_is | rfl | decide +kernel)
    (case a5 => first | k_is | rfl | decide +kernel)
    (case l5 => first | k_is | rfl | decide +kernel)
    (case c5 => first | k_is | rfl | decide +kernel)
    (case k5 => first | k_is | rfl | decide +kernel)
    (case a6 => first | k_is | rfl | decide +kernel)
    (case l6 => first | k_is | rfl | decide +kernel)
    (case c6 => first | k_is | rfl | decide +kernel)
    (case k6 => first | k_is | rfl | decide +kernel)
    (case a7 => first | k_is | rfl | decide +kernel)
    (case l7 => first | k_is | rfl | decide +kernel)
    (case c7 => first | k_is | rfl | decide +kernel)
    (case k7 => first | k_is | rfl | decide +kernel)
    (case a8 => first | k_is | rfl | decide +kernel)
    (case l8 => first | k_is | rfl | decide +kernel)
    (case c8 => first | k_is | rfl | decide +kernel)
    (case k8 => first | k_is | rfl | decide +kernel)
    (case a9 => first | k_is | rfl | decide +kernel)
    (case l9 => first | k_is | rfl | decide +kernel)
    (case c9 => first | k_is | rfl | decide +kernel)
    (case k9 => first | k_is | rfl | decide +kernel)
    (case a10 => first | k_is | rfl | decide +kernel)
    (case l10 => first | k_is | rfl | decide +kernel)
    (case c10 => first | k_is | rfl | decide +kernel)
    (case k10 => first | k_is | rfl | decide +kernel)
    (case a11 => first | k_is | rfl | decide +kernel)
    (case l11 => first | k_is | rfl | decide +kernel)
    (case c11 => first | k_is | rfl | decide +kernel)
    (case k11 => first | k_is | rfl | decide +kernel)
    (case a12 => first | k_is | rfl | decide +kernel)
    (case l12 => first | k_is | rfl | decide +kernel)
    (case c12 => first | k_is | rfl | decide +kernel)
    (case k12 => first | k_is | rfl | decide +kernel)
    (case a13 => first | k_is | rfl | decide +kernel)
    (case l13 => first | k_is | rfl | decide +kernel)
    (case c13 => first | k_is | rfl | decide +kernel)
    (case k13 => first | k_is | rfl | decide +kernel)
    (case a14 => first | k_is | rfl | decide +kernel)
    (case l14 => first | k_is | rfl | decide +kernel)
    (case c14 => first | k_is | rfl | decide +kernel)
    (case k14 => first | k_is | rfl | decide +kernel)
    (case a15 => first | k_is | rfl | decide +kernel)
    (case l15 => first | k_is | rfl | decide +kernel)
    (case c15 => first | k_is | rfl | decide +kernel)
    (case k15 => first | k_is | rfl | decide +kernel)
    (case zlen => first | k_is | rfl | decide +kernel)
    (case zrange => first | k_is | rfl | decide +kernel)
    (case zint => first | k_is | rfl | decide +kernel)
    (case zabs => first | k_is | rfl | decide +kernel)
    (case zstr => first | k_is | rfl | decide +kernel)
    (case ztuple => first | k_is | rfl | decide +kernel)
    (case zlist => first | k_is | rfl | decide +kernel)
    (case zbool => first | k_is | rfl | decide +kernel)
    (case zisinstance => first | k_is | rfl | decide +kernel)
    (case zValueError => first | k_is | rfl | decide +kernel)
    (case eG => first | k_is | rfl | decide +kernel)
    (case eRd => first | k_is | rfl | decide +kernel)
    (case eSg => first | k_is | rfl | decide +kernel)
    (case eVv => first | k_is | rfl | decide +kernel)
    (case eGt => first | k_is | rfl | decide +kernel)
    (case eTk => first | k_is | rfl | decide +kernel)
    (case eC0 => first | k_is | rfl | decide +kernel)
    (case eL0 => first | k_is | rfl | decide +kernel)
    (case eR0 => decide +kernel)
    (case eS0 => first | k_is | rfl | decide +kernel)
    (case eX0 => first | k_is | rfl | decide +kernel)
    (case eT0 => first | k_is | rfl | decide +kernel)
    (case eK0 => first | k_is | rfl | decide +kernel)
    (case eI0 => first | k_is | rfl | decide +kernel)
    (case eY0 => first | k_is | rfl | decide +kernel)
    (case eN0 => first | k_is | rfl | decide +kernel)
    (case eF0 => first | k_is | rfl | decide +kernel)
    (case eD0 => first | k_is | rfl | decide +kernel)
    (case eP0 => first | k_is | rfl | decide +kernel)
    (case eA0 => first | k_is | rfl | decide +kernel)
    (case eB0 => first | k_is | rfl | decide +kernel)
    (case eH0 => first | k_is | rfl | decide +kernel)
    (case eQ0 => first | k_is | rfl | decide +kernel)
    (case eZ0 => first | k_is | rfl | decide +kernel)
    (case eE0 => first | k_is | rfl | decide +kernel)
    (case eU0 => first | k_is | rfl | decide +kernel)
    (case eV0 => first | k_is | rfl | decide +kernel)
    (case eM0 => first | k_is | rfl | decide +kernel)
    (case eC1 => first | k_is | rfl | decide +kernel)
    (case eL1 => first | k_is | rfl | decide +kernel)
    (case eR1 => decide +kernel)
    (case eS1 => first | k_is | rfl | decide +kernel)
    (case eX1 => first | k_is | rfl | decide +kernel)
    (case eT1 => first | k_is | rfl | decide +kernel)
    (case eK1 => first | k_is | rfl | decide +kernel)
    (case eI1 => first | k_is | rfl | decide +kernel)
    (case eY1 => first | k_is | rfl | decide +kernel)
    (case eN1 => first | k_is | rfl | decide +kernel)
    (case eF1 => first | k_is | rfl | decide +kernel)
    (case eD1 => first | k_is | rfl | decide +kernel)
    (case eP1 => first | k_is | rfl | decide +kernel)
    (case eA1 => first | k_is | rfl | decide +kernel)
    (case eB1 => first | k_is | rfl | decide +kernel)
    (case eH1 => first | k_is | rfl | decide +kernel)
    (case eQ1 => first | k_is | rfl | decide +kernel)
    (case eZ1 => first | k_is | rfl | decide +kernel)
    (case eE1 => first | k_is | rfl | decide +kernel)
    (case eU1 => first | k_is | rfl | decide +kernel)
    (case eV1 => first | k_is | rfl | decide +kernel)
    (case eM1 => first | k_is | rfl | decide +kernel)
    (case eW0x1 => first | k_is | rfl | decide +kernel)
    (case eW1x0 => first | k_is | rfl | decide +kernel)
    (case gc0 => first | k_is | rfl | decide +kernel)
    (case gc1 => first | k_is | rfl | decide +kernel)
    (case gc2 => first | k_is | rfl | decide +kernel)
    (case gc3 => first | k_is | rfl | decide +kernel)
