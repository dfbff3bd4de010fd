import PyProof.Rows.All
import Wide.All
import OpenK.AllK
import Wide.FinOn
import HandS.ForMost
import HandS.IsInst
import HandS.TupAny
import HandS.Style
import HandS.Codes
import HandS.TryOnly
import PySem.Challenge.RW_ownglass_k01_values_read_back
set_option Elab.async false
set_option linter.all false
set_option maxRecDepth 100000
set_option maxHeartbeats 4000000
set_option Elab.async false
set_option linter.all false
set_option maxRecDepth 100000
/-! L0: what the proofs of all laws share: heaps that keep all but some lists, trees (words and lists of trees), the law's hand, callees. -/
namespace Og
open PySem PySem.Spec PyProof.Rows L2

/-! ### heaps: each tracked thing stays, but for lists at the places S -/
def Keep (S : List Addr) (H H' : Hp) : Prop := ∀ b o, H b = some o → H' b = some o ∨ (b ∈ S ∧ ∃ xs ys, o = .lst xs ∧ H' b = some (.lst ys))
theorem Keep.refl {S : List Addr} {H : Hp} : Keep S H H := fun _ _ e => .inl e
theorem Keep.trans {S : List Addr} {H H1 H2 : Hp} (a : Keep S H H1) (b : Keep S H1 H2) : Keep S H H2 := fun p o e => by
  rcases a p o e with h | ⟨h, xs, ys, e1, e2⟩
  · exact b p o h
  · rcases b p _ e2 with h' | ⟨_, xs', ys', e3, e4⟩
    · exact .inr ⟨h, xs, ys, e1, h'⟩
    · exact .inr ⟨h, xs, ys', e1, e4⟩
theorem Keep.mono {S S' : List Addr} {H H1 : Hp} (a : Keep S H H1) (h : ∀ x ∈ S, x ∈ S') : Keep S' H H1 := fun p o e => by
  rcases a p o e with q | ⟨q, r⟩
  · exact .inl q
  · exact .inr ⟨h _ q, r⟩
theorem Keep.new {S : List Addr} {H : Hp} {p : Addr} {o : HO} (h : H p = none) : Keep S H (upd H p o) := fun b u e => .inl (by rw [upd_ne (ne_of_none e h)]; exact e)
theorem Keep.newT {S : List Addr} {H H1 : Hp} {p : Addr} {o : HO} (a : Keep S H H1) (h : H1 p = none) : Keep S H (upd H1 p o) := a.trans (Keep.new h)
theorem Keep.set {S : List Addr} {H : Hp} {p : Addr} {xs ys : List V} (h : H p = some (.lst xs)) (m : p ∈ S) : Keep S H (upd H p (.lst ys)) := fun b u e => by
  by_cases hb : b = p
  · subst hb
    rw [h] at e
    cases e
    exact .inr ⟨m, xs, ys, rfl, upd_same⟩
  · exact .inl (by rw [upd_ne hb]; exact e)
theorem Keep.setT {S : List Addr} {H H1 : Hp} {p : Addr} {xs ys : List V} (a : Keep S H H1) (h : H1 p = some (.lst xs)) (m : p ∈ S) : Keep S H (upd H1 p (.lst ys)) := a.trans (Keep.set h m)
/-- a list that is new may change -/
theorem Keep.drop {S : List Addr} {H H1 : Hp} {p : Addr} (a : Keep (p :: S) H H1) (h : H p = none) : Keep S H H1 := fun b o e => by
  rcases a b o e with q | ⟨q, r⟩
  · exact .inl q
  · rcases List.mem_cons.mp q with q | q
    · subst q
      rw [h] at e
      cases e
    · exact .inr ⟨q, r⟩
theorem Keep.cons {S : List Addr} {H H1 : Hp} {p : Addr} (a : Keep S H H1) : Keep (p :: S) H H1 := a.mono fun _ h => List.mem_cons_of_mem _ h
theorem Keep.get {S : List Addr} {H H1 : Hp} {b : Addr} {o : HO} (a : Keep S H H1) (e : H b = some o) (h : b ∉ S) : H1 b = some o := by
  rcases a b o e with q | ⟨q, _⟩
  · exact q
  · exact absurd q h
theorem Keep.free {S : List Addr} {H H1 : Hp} {b : Addr} (a : Keep S H H1) (e : H1 b = none) : H b = none := by
  cases q : H b with
  | none => rfl
  | some o =>
    rcases a b o q with r | ⟨_, _, _, _, r⟩ <;> rw [r] at e <;> cases e
theorem Keep.rdT {S : List Addr} {H H1 : Hp} {b : Addr} {xs : List V} (a : Keep S H H1) (e : Rd H b (.tup xs)) : Rd H1 b (.tup xs) := by
  rcases e with e | ⟨o, e⟩
  · rcases a b _ e with q | ⟨_, _, _, q, _⟩
    · exact .inl q
    · cases q
  · rcases a b _ e with q | ⟨_, _, _, q, _⟩
    · exact .inr ⟨o, q⟩
    · cases q
theorem Keep.sqT {K : PySem.W.Frag} {S : List Addr} {H H1 : Hp} {b : Addr} {xs : List V} (a : Keep S H H1) (e : SqT K H b xs) : SqT K H1 b xs := by
  rcases e with e | e
  · exact .inl (a.rdT e)
  · exact .inr e
theorem Keep.sqL {K : PySem.W.Frag} {S : List Addr} {H H1 : Hp} {b : Addr} {xs : List V} (a : Keep S H H1) (h : b ∉ S) (e : SqL K H b xs) : SqL K H1 b xs := by
  rcases e with (e | ⟨o, e⟩) | e
  · exact .inl (.inl (a.get e h))
  · exact .inl (.inr ⟨o, a.get e h⟩)
  · exact .inr e
theorem Keep.tup {S : List Addr} {H H1 : Hp} {b : Addr} {xs : List V} (a : Keep S H H1) (e : H b = some (.tup xs)) : H1 b = some (.tup xs) := by
  rcases a b _ e with q | ⟨_, _, _, q, _⟩
  · exact q
  · cases q
theorem Keep.of_same {S : List Addr} {H H1 : Hp} (a : Same H H1) : Keep S H H1 := fun b o e => .inl (a b o e)
theorem Keep.same {H H1 : Hp} (a : Keep [] H H1) : Same H H1 := fun b o e => a.get e (by simp)

/-! ### texts by their codes -/
def tx (cs : List Nat) : Str := ⟨cs.toArray⟩
theorem tx_list (cs : List Nat) : (tx cs).cps.toList = cs := rfl
theorem tx_len (cs : List Nat) : (tx cs).length = cs.length := by
  show cs.toArray.size = cs.length
  simp
theorem tx_app (a b : List Nat) : tx a ++ tx b = tx (a ++ b) := by
  show Str.mk (a.toArray ++ b.toArray) = Str.mk (a ++ b).toArray
  simp
theorem tx_of (s : Str) : s = tx s.cps.toList := by
  cases s
  rfl
theorem tx_inj {a b : List Nat} (h : tx a = tx b) : a = b := by
  have q := congrArg (fun s : Str => s.cps.toList) h
  exact q
theorem tx_str {a b : List Nat} (h : V.str (tx a) = V.str (tx b)) : a = b := tx_inj (V.str.inj h)
theorem atI_tx {cs : List Nat} {z : Int} {c : Nat} (h : atI (tx cs).cps.toList z = some c) : atI cs z = some c := h
/-! ### trees -/
inductive Tree where
  | w (x : List Nat)
  | l (ts : List Tree)
mutual
def Tr (K : PySem.W.Frag) (H : Hp) : V → Tree → Prop
  | v, .w x => v = .str (tx x)
  | v, .l ts => ∃ a vs, v = .ref a ∧ SqT K H a vs ∧ Trs K H vs ts
def Trs (K : PySem.W.Frag) (H : Hp) : List V → List Tree → Prop
  | vs, [] => vs = []
  | vs, t :: ts => ∃ v r, vs = v :: r ∧ Tr K H v t ∧ Trs K H r ts
end
mutual
theorem Tr.keep {K : PySem.W.Frag} {S : List Addr} {H H1 : Hp} (a : Keep S H H1) : ∀ {v : V} {t : Tree}, Tr K H v t → Tr K H1 v t
  | v, .w x, h => by rw [Tr] at h ⊢; exact h
  | v, .l ts, h => by
    rw [Tr] at h ⊢
    obtain ⟨p, vs, e, h1, h2⟩ := h
    exact ⟨p, vs, e, a.sqT h1, Trs.keep a h2⟩
theorem Trs.keep {K : PySem.W.Frag} {S : List Addr} {H H1 : Hp} (a : Keep S H H1) : ∀ {vs : List V} {ts : List Tree}, Trs K H vs ts → Trs K H1 vs ts
  | vs, [], h => by rw [Trs] at h ⊢; exact h
  | vs, t :: ts, h => by
    rw [Trs] at h ⊢
    obtain ⟨v, r, e, h1, h2⟩ := h
    exact ⟨v, r, e, Tr.keep a h1, Trs.keep a h2⟩
end
section
variable {K : PySem.W.Frag} {H : Hp}
theorem tr_w {x : List Nat} : Tr K H (.str (tx x)) (.w x) := by rw [Tr]
theorem tr_l {a : Addr} {vs : List V} {ts : List Tree} (h : SqT K H a vs) (r : Trs K H vs ts) : Tr K H (.ref a) (.l ts) := by rw [Tr]; exact ⟨a, vs, rfl, h, r⟩
theorem trs_nil : Trs K H [] [] := by rw [Trs]
theorem trs_cons {v : V} {vs : List V} {t : Tree} {ts : List Tree} (h : Tr K H v t) (r : Trs K H vs ts) : Trs K H (v :: vs) (t :: ts) := by rw [Trs]; exact ⟨v, vs, rfl, h, r⟩
theorem Tr.word {v : V} {x : List Nat} (h : Tr K H v (.w x)) : v = .str (tx x) := by rw [Tr] at h; exact h
theorem Tr.list {v : V} {ts : List Tree} (h : Tr K H v (.l ts)) : ∃ a vs, v = .ref a ∧ SqT K H a vs ∧ Trs K H vs ts := by rw [Tr] at h; exact h
theorem Trs.nil {vs : List V} (h : Trs K H vs []) : vs = [] := by rw [Trs] at h; exact h
theorem Trs.cons {vs : List V} {t : Tree} {ts : List Tree} (h : Trs K H vs (t :: ts)) : ∃ v r, vs = v :: r ∧ Tr K H v t ∧ Trs K H r ts := by rw [Trs] at h; exact h
theorem Trs.length : ∀ {vs : List V} {ts : List Tree}, Trs K H vs ts → vs.length = ts.length
  | vs, [], h => by rw [h.nil]; rfl
  | vs, t :: ts, h => by
    obtain ⟨v, r, rfl, _, h2⟩ := h.cons
    rw [List.length_cons, List.length_cons, Trs.length h2]
theorem Trs.get : ∀ {vs : List V} {ts : List Tree} {i : Nat} {t : Tree}, Trs K H vs ts → ts[i]? = some t → ∃ v, vs[i]? = some v ∧ Tr K H v t
  | vs, [], i, t, h, e => by simp at e
  | vs, t' :: ts, 0, t, h, e => by
    obtain ⟨v, r, rfl, h1, h2⟩ := h.cons
    have e' : t' = t := Option.some.inj e
    subst e'
    exact ⟨v, rfl, h1⟩
  | vs, t' :: ts, i + 1, t, h, e => by
    obtain ⟨v, r, rfl, h1, h2⟩ := h.cons
    exact Trs.get (i := i) h2 e
theorem Trs.append : ∀ {vs ws : List V} {ts us : List Tree}, Trs K H vs ts → Trs K H ws us → Trs K H (vs ++ ws) (ts ++ us)
  | vs, ws, [], us, h, g => by rw [h.nil]; exact g
  | vs, ws, t :: ts, us, h, g => by
    obtain ⟨v, r, rfl, h1, h2⟩ := h.cons
    exact trs_cons h1 (Trs.append h2 g)
theorem Trs.take : ∀ {vs : List V} {ts : List Tree} (n : Nat), Trs K H vs ts → Trs K H (vs.take n) (ts.take n)
  | vs, ts, 0, h => trs_nil
  | vs, [], n + 1, h => by rw [h.nil]; exact trs_nil
  | vs, t :: ts, n + 1, h => by
    obtain ⟨v, r, rfl, h1, h2⟩ := h.cons
    exact trs_cons h1 (Trs.take n h2)
theorem Trs.drop : ∀ {vs : List V} {ts : List Tree} (n : Nat), Trs K H vs ts → Trs K H (vs.drop n) (ts.drop n)
  | vs, ts, 0, h => h
  | vs, [], n + 1, h => by rw [h.nil]; exact trs_nil
  | vs, t :: ts, n + 1, h => by
    obtain ⟨v, r, rfl, h1, h2⟩ := h.cons
    exact Trs.drop n h2
theorem tr_tup {a : Addr} {vs : List V} {ts : List Tree} (h : H a = some (.tup vs)) (r : Trs K H vs ts) : Tr K H (.ref a) (.l ts) := tr_l (.inl (.inl h)) r
end
theorem Trs.snoc {K : PySem.W.Frag} {H : Hp} {vs : List V} {its : List Tree} {x : Tree} (h : Trs K H vs (its ++ [x])) : ∃ vs' v, vs = vs' ++ [v] ∧ Trs K H vs' its ∧ Tr K H v x := by
  induction its generalizing vs with
  | nil =>
    obtain ⟨v, r, rfl, h1, h2⟩ := h.cons
    rw [h2.nil]
    exact ⟨[], v, rfl, trs_nil, h1⟩
  | cons t ts ih =>
    obtain ⟨v, r, rfl, h1, h2⟩ := h.cons
    obtain ⟨vs', v', rfl, h3, h4⟩ := ih h2
    exact ⟨v :: vs', v', rfl, trs_cons h1 h3, h4⟩
theorem Trs.one {K : PySem.W.Frag} {H : Hp} {v : V} {t : Tree} (h : Tr K H v t) : Trs K H [v] [t] := trs_cons h trs_nil
theorem last_get {α : Type} (xs : List α) (x : α) : (xs ++ [x])[(xs ++ [x]).length - 1]? = some x := by
  rw [List.length_append, List.length_singleton, Nat.add_sub_cancel, List.getElem?_append_right (Nat.le_refl _), Nat.sub_self]
  rfl
theorem snoc_of {α : Type} {xs : List α} (h : xs ≠ []) : ∃ ys y, xs = ys ++ [y] := ⟨xs.dropLast, xs.getLast h, (List.dropLast_concat_getLast h).symm⟩
theorem emp_iff {vs : List V} {its : List Tree} {K : PySem.W.Frag} {H : Hp} (h : Trs K H vs its) : vs.isEmpty = its.isEmpty := by
  cases its with
  | nil => rw [h.nil]; rfl
  | cons t r => obtain ⟨v, r', rfl, _⟩ := h.cons; rfl
theorem SqT.of_tup {K : PySem.W.Frag} {H : Hp} {a : Addr} {vs : List V} (h : H a = some (.tup vs)) : SqT K H a vs := .inl (.inl h)

/-- a comprehension without a test -/
theorem yes {σ : L2.St} {H : Hp} {A B : Hp → Prop} (h : A H) : tYes σ H fun b H3 => if b = true then A H3 else B H3 := by
  show (if true = true then A H else B H)
  rw [if_pos rfl]
  exact h
/-! ### lists of ints -/
theorem map_int_get {ns : List Int} {i : Nat} {x : V} (h : (ns.map V.int)[i]? = some x) : ∃ n, x = .int n ∧ ns[i]? = some n := by
  rw [List.getElem?_map] at h
  cases e : ns[i]? with
  | none => rw [e] at h; cases h
  | some n => rw [e] at h; exact ⟨n, (Option.some.inj h).symm, rfl⟩
theorem atI_of {α : Type} {xs : List α} {z : Int} (h0 : 0 ≤ z) (h : z < (xs.length : Int)) : ∃ x, atI xs z = some x ∧ xs[z.toNat]? = some x := by
  have l : z.toNat < xs.length := by omega
  refine ⟨xs[z.toNat], ?_, List.getElem?_eq_getElem l⟩
  have q := atI_nat (List.getElem?_eq_getElem l)
  rw [show ((z.toNat : Nat) : Int) = z by omega] at q
  exact q
theorem atI_zero {α : Type} (x : α) (xs : List α) : atI (x :: xs) 0 = some x := atI_nat (j := 0) rfl
theorem atI_int {ns : List Int} {z : Int} (h0 : 0 ≤ z) (h : z < (ns.length : Int)) : ∃ n, atI (ns.map V.int) z = some (.int n) := by
  obtain ⟨x, h1, h2⟩ := atI_of (xs := ns.map V.int) h0 (by rw [List.length_map]; exact h)
  obtain ⟨n, rfl, _⟩ := map_int_get h2
  exact ⟨n, h1⟩
theorem ixN_int {n : Nat} {z : Int} (h0 : 0 ≤ z) (h : z < (n : Int)) : ixN n z = some z.toNat := by
  unfold ixN
  rw [if_pos h0, if_pos h]
theorem map_int_set (ns : List Int) (j : Nat) (y : Int) : (ns.map V.int).set j (.int y) = (ns.set j y).map V.int := by
  rw [List.map_set]
theorem map_int_app (ns : List Int) (y : Int) : ns.map V.int ++ [V.int y] = (ns ++ [y]).map V.int := by
  rw [List.map_append]; rfl

/-! ### isinstance, truth -/
def Tree.isW : Tree → Bool
  | .w _ => true
  | .l _ => false
section
variable {K : PySem.W.Frag} {H : Hp}
theorem tyX_tup {a : Addr} {xs : List V} (h : SqT K H a xs) : TyX K H (.ref a) (.type "tuple") := by
  rcases h with (h | ⟨o, h⟩) | ⟨o, its, n, h, c, _⟩
  · exact .base (.tup h)
  · exact .fTuple h
  · exact .kTuple h c
theorem kit_ss : PySem.W.kitOne K (.type "str") (.type "str") = some true := kit_ty (by decide +kernel)
theorem kit_ts : PySem.W.kitOne K (.type "tuple") (.type "str") = some false := kit_ty (by decide +kernel)
theorem kit_st : PySem.W.kitOne K (.type "str") (.type "tuple") = some false := kit_ty (by decide +kernel)
theorem kit_tt : PySem.W.kitOne K (.type "tuple") (.type "tuple") = some true := kit_ty (by decide +kernel)
/-- the witnesses of isinstance(v, str), isinstance(v, tuple) for a tree v -/
theorem isi_str {v : V} {t : Tree} (h : Tr K H v t) : ∃ ty u, ClsV (.ty "str") u ∧ TyX K H v ty ∧ PySem.W.kitOne K ty u = some t.isW := by
  cases t with
  | w x => rw [h.word]; exact ⟨_, _, .ty _, .base (.str _), kit_ss⟩
  | l ts =>
    obtain ⟨a, vs, rfl, h1, _⟩ := h.list
    exact ⟨_, _, .ty _, tyX_tup h1, kit_ts⟩
theorem isi_tup {v : V} {t : Tree} (h : Tr K H v t) : ∃ ty u, ClsV (.ty "tuple") u ∧ TyX K H v ty ∧ PySem.W.kitOne K ty u = some (!t.isW) := by
  cases t with
  | w x => rw [h.word]; exact ⟨_, _, .ty _, .base (.str _), kit_st⟩
  | l ts =>
    obtain ⟨a, vs, rfl, h1, _⟩ := h.list
    exact ⟨_, _, .ty _, tyX_tup h1, kit_tt⟩
theorem isi_strS {x : Str} : ∃ ty u, ClsV (.ty "str") u ∧ TyX K H (.str x) ty ∧ PySem.W.kitOne K ty u = some true := ⟨_, _, .ty _, .base (.str _), kit_ty (by decide +kernel)⟩
theorem isi_boolB {x : Bool} : ∃ ty u, ClsV (.ty "bool") u ∧ TyX K H (.bl x) ty ∧ PySem.W.kitOne K ty u = some true := ⟨_, _, .ty _, .base (.bl _), kit_ty (by decide +kernel)⟩
/-- a test that is a value of True or False -/
theorem tru_list {p : Addr} {xs : List V} (h : H p = some (.lst xs)) : TruV K (.ref p) H (!xs.isEmpty) := .inl ⟨xs, SqL.of h, rfl⟩
end
theorem sIx0 (n : Nat) : HT.sIx n 0 none = 0 := rfl
/-- a text cut: from i to j -/
theorem cutS_nat (cs : List Nat) {i j : Nat} (h : i ≤ j) (hj : j ≤ cs.length) : cutS (tx cs) (some (i : Int)) (some (j : Int)) = tx ((cs.drop i).take (j - i)) := by
  unfold cutS
  rw [HT.sIx_nat, HT.sIx_nat, tx_len, tx_list]
  rw [Nat.min_eq_left hj, Nat.min_eq_left (Nat.le_trans h hj)]
  rfl
theorem cutS_to (cs : List Nat) {j : Nat} (hj : j ≤ cs.length) : cutS (tx cs) none (some (j : Int)) = tx (cs.take j) := by
  unfold cutS
  rw [HT.sIx_nat, tx_len, tx_list, Nat.min_eq_left hj, sIx0, Nat.sub_zero, List.drop_zero]
  rfl
theorem cutS_from (cs : List Nat) {i : Nat} (hj : i ≤ cs.length) : cutS (tx cs) (some (i : Int)) none = tx (cs.drop i) := by
  unfold cutS
  rw [HT.sIx_nat, tx_len, tx_list, Nat.min_eq_left hj, HT.sIx_none]
  show Str.mk (List.take (cs.length - i) (cs.drop i)).toArray = _
  rw [List.take_of_length_le (by rw [List.length_drop]; omega)]
  rfl

/-! ### callees -/
structure Callee (P : Program) (w : World) (K : PySem.W.Frag) (mg : Str → Option Value) (base : Heap) (CX : CXT) (k : Nat) (x : Str) (f : Addr) (fd : FuncData) (ps : List Str) (sp : Sp) : Prop where
  ok : FnOk P w K mg base CX k f fd ps sp
  mg : mg x = some (.ref f)
  kp : PySem.W.keepIn K (.ref f) = true
  bi : Binds K fd ps []
def Has (P : Program) (w : World) (K : PySem.W.Frag) (mg : Str → Option Value) (base : Heap) (k : Nat) (x : Str) (ps : List Str) (sp : Sp) : Prop := ∃ f fd, Callee P w K mg base CX0 k x f fd ps sp
theorem Has.mono {P : Program} {w : World} {K : PySem.W.Frag} {mg : Str → Option Value} {base : Heap} {j k : Nat} {x : Str} {ps : List Str} {sp : Sp} (h : Has P w K mg base j x ps sp) (l : j ≤ k) : Has P w K mg base k x ps sp := by
  obtain ⟨f, fd, c⟩ := h
  exact ⟨f, fd, c.ok.mono l, c.mg, c.kp, c.bi⟩
/-- a def with a promise for each n: one promise for all up to N -/
theorem has_upto {P : Program} {w : World} {K : PySem.W.Frag} {mg : Str → Option Value} {base : Heap} {k : Nat} {x : Str} {f : Addr} {fd : FuncData} {ps : List Str} {sp : Nat → Sp} (h : ∀ n, Callee P w K mg base CX0 (k + n + 1) x f fd ps (sp n)) (N : Nat) :
    Has P w K mg base (k + N + 1) x ps (fun vs H Q E => ∃ n, n ≤ N ∧ sp n vs H Q E) := by
  refine ⟨f, fd, ⟨fun vs H Q E q => ?_, fun A outer s H args us vs Q E hr e b v q => ?_⟩, (h 0).mg, (h 0).kp, (h 0).bi⟩
  · obtain ⟨n, _, q⟩ := q
    exact (h n).ok.len vs H Q E q
  · obtain ⟨n, hn, q⟩ := q
    exact ((h n).ok.mono (show k + n + 1 ≤ k + N + 1 by omega)).run A outer s H args us vs Q E hr e b v q
/-- a def as it stands behind the top -/
structure DefAt (K : PySem.W.Frag) (mg : Str → Option Value) (x : Str) (st : Stmt) (ps : List Str) : Prop where
  ex : ∃ f fd, Fun K x x st f fd ∧ mg x = some (.ref f) ∧ Binds K fd ps []
section
variable {X : Cx} {k : Nat} {x : Str} {f : Addr} {fd : FuncData} {ps : List Str} {sp : Sp} {p pos : Pos} {e : Expr} {es : List Expr} {t : TA}
theorem cal (C : Callee X.prog X.w X.K X.mg X.base CX0 k x f fd ps sp) (hr : Room k X.A) (hg : Gl X x) (ha : PA X (e :: es) t) (hdb : (x == ("__debug__" : Str)) = false := by decide)
    (he : starEach (e :: es) X.env = (false, eval e X.env) :: starEach es X.env := by rfl) (hpl : (backTo pos (starEach es X.env)).any (·.1) = false := by rfl) : PE X (.Call (.Name x p) (e :: es) [] pos) (tCall sp [] E0 t) :=
  pe_call C.ok hr hg C.mg C.kp C.bi .nil pass0 ha hdb he hpl
end
/-- the names of built-ins that no row of the program gives another meaning -/
structure Bn (mg : Str → Option Value) : Prop where
  len : mg "len" = none
  range : mg "range" = none
  int : mg "int" = none
  abs : mg "abs" = none
  str : mg "str" = none
  tuple : mg "tuple" = none
  list : mg "list" = none
  bool : mg "bool" = none
  isinstance : mg "isinstance" = none

/-! ### the law's hand: a list of the draws (at d) and a number; all that is asked of it is that it is one -/
def Hd (H : Hp) (h d : Addr) : Prop := ∃ (n : Nat) (ds : List Int), H h = some (.lst [.ref d, .int n]) ∧ H d = some (.lst (ds.map V.int)) ∧ ds.length ≤ 100000
theorem Hd.ne {H : Hp} {h d : Addr} (a : Hd H h d) : d ≠ h := by
  intro q
  obtain ⟨n, ds, e, e2, _⟩ := a
  subst q
  rw [e] at e2
  have q := HO.lst.inj (Option.some.inj e2)
  cases ds with
  | nil => cases q
  | cons x r =>
    have := (List.cons.inj q).1
    cases this
theorem Hd.lst {H : Hp} {h d : Addr} (a : Hd H h d) : ∃ xs, H h = some (.lst xs) := by
  obtain ⟨n, ds, e, _⟩ := a
  exact ⟨_, e⟩
theorem Hd.neH {H : Hp} {h d p : Addr} (a : Hd H h d) (q : H p = none) : h ≠ p := by
  obtain ⟨n, ds, e, _⟩ := a
  exact ne_of_none e q
theorem Hd.neD {H : Hp} {h d p : Addr} (a : Hd H h d) (q : H p = none) : d ≠ p := by
  obtain ⟨n, ds, _, e, _⟩ := a
  exact ne_of_none e q
theorem Hd.keep {S : List Addr} {H H1 : Hp} {h d : Addr} (a : Hd H h d) (k : Keep S H H1) (hh : h ∉ S) (hd : d ∉ S) : Hd H1 h d := by
  obtain ⟨n, ds, e1, e2, l⟩ := a
  exact ⟨n, ds, k.get e1 hh, k.get e2 hd, l⟩
theorem Hd.keep0 {H H1 : Hp} {h d : Addr} (a : Hd H h d) (k : Keep [] H H1) : Hd H1 h d := a.keep k (by simp) (by simp)
theorem Hd.upd {H : Hp} {h d p : Addr} {o : HO} (a : Hd H h d) (q1 : h ≠ p) (q2 : d ≠ p) : Hd (upd H p o) h d := by
  obtain ⟨n, ds, e1, e2, l⟩ := a
  exact ⟨n, ds, by rw [upd_ne q1]; exact e1, by rw [upd_ne q2]; exact e2, l⟩
theorem Hd.new {H : Hp} {h d p : Addr} {o : HO} (a : Hd H h d) (q : H p = none) : Hd (L2.upd H p o) h d := a.upd (a.neH q) (a.neD q)
theorem sizeL {n : Nat} (h : n ≤ 100000) : n ≤ sizeLine := Nat.le_trans h (by decide)
theorem sizeLt {n : Nat} (h : n ≤ 100000) : n < sizeLine := Nat.lt_of_le_of_lt h (by decide)
end Og

namespace Og
open PySem PySem.Spec PyProof.Rows L2
def topS (i : Nat) : Stmt := PySem.Challenge.pw_ownglass_k01_values_read_back.main.body.getD i (.Pass ⟨0, 0, 0, 0⟩)
abbrev s_read_value : Stmt := topS 8
abbrev n_read_value : List Str := ["text", "unfinished", "at", "items", "word"]
abbrev p_read_value : List Str := ["text"]
theorem sc_read_value : FnScope n_read_value p_read_value (defScope s_read_value) := ⟨rfl, rfl, rfl, by decide +kernel, rfl, by decide +kernel, by decide +kernel⟩
abbrev s_behind_blanks : Stmt := topS 9
abbrev n_behind_blanks : List Str := ["text", "start", "at"]
abbrev p_behind_blanks : List Str := ["text", "start"]
theorem sc_behind_blanks : FnScope n_behind_blanks p_behind_blanks (defScope s_behind_blanks) := ⟨rfl, rfl, rfl, by decide +kernel, rfl, by decide +kernel, by decide +kernel⟩
abbrev s_word_at : Stmt := topS 10
abbrev n_word_at : List Str := ["text", "start", "end"]
abbrev p_word_at : List Str := ["text", "start"]
theorem sc_word_at : FnScope n_word_at p_word_at (defScope s_word_at) := ⟨rfl, rfl, rfl, by decide +kernel, rfl, by decide +kernel, by decide +kernel⟩
abbrev s_write_value : Stmt := topS 11
abbrev n_write_value : List Str := ["value", "pieces", "waiting", "part", "at"]
abbrev p_write_value : List Str := ["value"]
theorem sc_write_value : FnScope n_write_value p_write_value (defScope s_write_value) := ⟨rfl, rfl, rfl, by decide +kernel, rfl, by decide +kernel, by decide +kernel⟩
abbrev s_law_draws : Stmt := topS 13
abbrev n_law_draws : List Str := ["script", "many", "rests", "cell", "draws", "k", "at", "mixed"]
abbrev p_law_draws : List Str := ["script", "many"]
theorem sc_law_draws : FnScope n_law_draws p_law_draws (defScope s_law_draws) := ⟨rfl, rfl, rfl, by decide +kernel, rfl, by decide +kernel, by decide +kernel⟩
abbrev s_law_take : Stmt := topS 14
abbrev n_law_take : List Str := ["hand", "many", "at", "draws"]
abbrev p_law_take : List Str := ["hand", "many"]
theorem sc_law_take : FnScope n_law_take p_law_take (defScope s_law_take) := ⟨rfl, rfl, rfl, by decide +kernel, rfl, by decide +kernel, by decide +kernel⟩
abbrev s_law_word : Stmt := topS 15
abbrev n_law_word : List Str := ["hand", "letters", "size", "word", "k"]
abbrev p_law_word : List Str := ["hand"]
theorem sc_law_word : FnScope n_law_word p_law_word (defScope s_law_word) := ⟨rfl, rfl, rfl, by decide +kernel, rfl, by decide +kernel, by decide +kernel⟩
abbrev s_law_value : Stmt := topS 16
abbrev n_law_value : List Str := ["hand", "depth", "many", "k"]
abbrev p_law_value : List Str := ["hand", "depth"]
theorem sc_law_value : FnScope n_law_value p_law_value (defScope s_law_value) := ⟨rfl, rfl, rfl, by decide +kernel, rfl, by decide +kernel, by decide +kernel⟩
abbrev s_law_text : Stmt := topS 17
abbrev n_law_text : List Str := ["value", "one"]
abbrev p_law_text : List Str := ["value"]
theorem sc_law_text : FnScope n_law_text p_law_text (defScope s_law_text) := ⟨rfl, rfl, rfl, by decide +kernel, rfl, by decide +kernel, by decide +kernel⟩
abbrev s_law_deep : Stmt := topS 18
abbrev n_law_deep : List Str := ["hand", "inner", "value", "left", "right", "seed", "k", "kind", "word"]
abbrev p_law_deep : List Str := ["hand", "inner"]
theorem sc_law_deep : FnScope n_law_deep p_law_deep (defScope s_law_deep) := ⟨rfl, rfl, rfl, by decide +kernel, rfl, by decide +kernel, by decide +kernel⟩
abbrev s_law_like : Stmt := topS 19
abbrev n_law_like : List Str := ["found", "expected", "pairs", "step", "first", "second", "at"]
abbrev p_law_like : List Str := ["found", "expected"]
theorem sc_law_like : FnScope n_law_like p_law_like (defScope s_law_like) := ⟨rfl, rfl, rfl, by decide +kernel, rfl, by decide +kernel, by decide +kernel⟩
abbrev s_law_words : Stmt := topS 20
abbrev n_law_words : List Str := ["value", "words", "one"]
abbrev p_law_words : List Str := ["value"]
theorem sc_law_words : FnScope n_law_words p_law_words (defScope s_law_words) := ⟨rfl, rfl, rfl, by decide +kernel, rfl, by decide +kernel, by decide +kernel⟩
abbrev s_law_gap : Stmt := topS 21
abbrev n_law_gap : List Str := ["hand"]
abbrev p_law_gap : List Str := ["hand"]
theorem sc_law_gap : FnScope n_law_gap p_law_gap (defScope s_law_gap) := ⟨rfl, rfl, rfl, by decide +kernel, rfl, by decide +kernel, by decide +kernel⟩
abbrev s_law_spaced : Stmt := topS 22
abbrev n_law_spaced : List Str := ["hand", "words", "text", "at", "gap"]
abbrev p_law_spaced : List Str := ["hand", "words"]
theorem sc_law_spaced : FnScope n_law_spaced p_law_spaced (defScope s_law_spaced) := ⟨rfl, rfl, rfl, by decide +kernel, rfl, by decide +kernel, by decide +kernel⟩
abbrev s_law : Stmt := topS 23
abbrev n_law : List Str := ["script", "hand", "value", "text", "written", "step", "deep", "left", "right", "whole"]
abbrev p_law : List Str := ["script"]
theorem sc_law : FnScope n_law p_law (defScope s_law) := ⟨rfl, rfl, rfl, by decide +kernel, rfl, by decide +kernel, by decide +kernel⟩
/-- the constants of the module -/
structure Mc (mg : Str → Option Value) : Prop where
  LETTERS : ∃ t, mg "LETTERS" = some (.str "abcdefghijklmnopqrstuvwxyz" t)
  RUN_SIGNS : ∃ t, mg "RUN_SIGNS" = some (.str "abcdefghijklmnopqrstuvwxyz0123456789" t)
  BLANKS : ∃ t, mg "BLANKS" = some (.str " \n" t)
  LONGEST_WORD : ∃ t, mg "LONGEST_WORD" = some (.int 12 t)
/-- what law(script) promises: for a list of at most 63 ints the answer is True -/
def spLaw (K : PySem.W.Frag) : Sp := fun vs H Q _ => ∃ (a : Addr) (ns : List Int), vs = [.ref a] ∧ SqL K H a (ns.map V.int) ∧ ns.length ≤ 63 ∧ ∀ H', Q (.bl true) H'
end Og

namespace Og
open PySem PySem.Spec PyProof.Rows L2
section
variable {P : Program} {w : World} {K : PySem.W.Frag} {mg : Str → Option Value} {base : Heap}
def spDraws (K : PySem.W.Frag) : Sp := fun vs H Q _ => ∃ (a : Addr) (ns : List Int) (m : Nat), vs = [.ref a, .int m] ∧ SqL K H a (ns.map V.int) ∧ ns.length ≤ 63 ∧ m ≤ 100000 ∧
  ∀ (p : Addr) (ds : List Int) (H' : Hp), Keep [] H H' → H p = none → H' p = some (.lst (ds.map V.int)) → ds.length = m → Q (.ref p) H'
theorem has_draws {k : Nat} (D : DefAt K mg "_law_draws" s_law_draws p_law_draws) (B : Bn mg) : Has P w K mg base (k + 1) "_law_draws" p_law_draws (spDraws K) := by
  obtain ⟨f, fd, F, hm, hb⟩ := D.ex
  refine ⟨f, fd, F.ok sc_law_draws (fun vs H Q E h => ?_) (fun cdv A outer s H vs Q E hr h => ?_), hm, F.kp, hb⟩
  · obtain ⟨a, ns, m, rfl, _⟩ := h
    rfl
  obtain ⟨a, ns, m, rfl, hS, h63, hm1, q⟩ := h
  refine ⟨_, (pss_cons (ps_setLc (i := 2) (own := [("cell", 3)]) (g := gName 3) (tt := tYes) rfl sc_law_draws.nd rfl rfl (sw_true rfl rfl rfl (by decide +kernel)) (pi_list (pv 0)) (blkOk_by (N := n_law_draws) (sc := defScope s_law_draws) (by decide +kernel)) (fun _ _ _ _ _ => pg_name (i := 3) sc_law_draws.nd rfl (Or.inl rfl)) (fun _ _ _ _ _ => pts_nil) (fun _ _ _ _ _ => (pe_callB call_abs (by rfl) B.abs (by decide +kernel) (pa_cons (pe_callTy call_int1 (by rfl) B.int (by decide +kernel) (pa_cons (pv 3) pa_nil)) pa_nil))))
    (pss_cons (ps_set (i := 4) sc_law_draws.nd rfl (.inl rfl) (pe_lst pa_nil))
    (pss_cons (ps_for PassesOwn.never rfl (pi_range1 (by rfl) B.range (pa_cons (pv 1) pa_nil)) (pg_name (i := 5) sc_law_draws.nd rfl (.inl rfl))
      (pss_cons (ps_set (i := 3) sc_law_draws.nd rfl (.inl rfl) (pv 5))
      (C8.pss_cut (ps_if (pt_cmpR op_gt (pe_callB call_len_seq (by rfl) B.len PySem.boot_len (pa_cons (pv 0) pa_nil)) pe_int (nomark _)) (pss_cons (ps_set (i := 6) sc_law_draws.nd rfl (.inl rfl) (pe_op op_mod (pv 5) (pe_callB call_len_seq (by rfl) B.len PySem.boot_len (pa_cons (pv 0) pa_nil))))
        (pss_cons (ps_set (i := 3) sc_law_draws.nd rfl (.inl rfl) (pe_callTy call_int1 (by rfl) B.int (by decide +kernel) (pa_cons (pe_ix ix_list (pv 0) (pv 6) (fun _ _ => rfl)) pa_nil)))
        (pss_one (ps_if (PW.pt (pw_and (pt_cmpR op_ge (pv 3) (pe_op op_pow pe_int pe_int) (nomark _)) (pw_and1 (pt_cmpR op_gt (pe_ix ix_list (pv 2) (pv 6) (fun _ _ => rfl)) pe_int (nomark _))))) (pss_cons (ps_expr (pe_bm PySem.F.plainAttrs_list PySem.F.slot_list_append PySem.F.type_list_append mt_append (pv 4) (pa_cons (pe_op op_mod (pe_callTy call_int1 (by rfl) B.int (by decide +kernel) (pa_cons (pe_ix ix_list (pv 2) (pv 6) (fun _ _ => rfl)) pa_nil)) pe_int) pa_nil)))
          (pss_cons (ps_asg (pe_op op_fdiv (pe_callTy call_int1 (by rfl) B.int (by decide +kernel) (pa_cons (pe_ix ix_list (pv 2) (pv 6) (fun _ _ => rfl)) pa_nil)) pe_int) (pg_sub (pv 2) (pv 6) set_list))
          (pss_one ps_continue))) pss_nil)))) pss_nil)
      (pss_cons (ps_set (i := 7) sc_law_draws.nd rfl (.inl rfl) (pe_op op_mod (pe_callTy call_int1 (by rfl) B.int (by decide +kernel) (pa_cons (pe_op op_add (pe_op op_add (pe_op op_mul (pv 3) pe_int) (pe_op op_mul (pv 5) pe_int)) pe_int) pa_nil)) pe_int))
      (pss_cons (ps_set (i := 7) sc_law_draws.nd rfl (.inl rfl) (pe_op op_mod (pe_callTy call_int1 (by rfl) B.int (by decide +kernel) (pa_cons (pe_op op_add (pe_op op_fdiv (pe_op op_mul (pv 7) (pv 7)) pe_int) (pv 7)) pa_nil)) pe_int))
      (pss_one (ps_expr (pe_bm PySem.F.plainAttrs_list PySem.F.slot_list_append PySem.F.type_list_append mt_append (pv 4) (pa_cons (pe_op op_mod (pe_callTy call_int1 (by rfl) B.int (by decide +kernel) (pa_cons (pe_op op_add (pe_op op_fdiv (pe_op op_mul (pv 7) (pv 7)) pe_int) (pe_op op_mul (pv 5) pe_int)) pa_nil)) pe_int) pa_nil)))))))))
    (pss_one (ps_ret (pv 4)))))), ?_⟩
  -- rests
  refine ⟨_, rfl, a, rfl, ⟨_, hS⟩, fun r nr => ?_⟩
  refine lc_list (K := K) (a := a) (xs := ns.map V.int) (fun i H' => Keep [] H H' ∧ ∃ rs : List Int, rs.length = i ∧ H' r = some (.lst (rs.map V.int))) ⟨Keep.new nr, [], rfl, upd_same⟩ (fun i H' _ p => p.1.sqL (by simp) hS) (fun i x H1 hx p => ?_) (fun H1 p => ?_)
  · obtain ⟨n, rfl, hn⟩ := map_int_get hx
    obtain ⟨k1, rs, e1, e2⟩ := p
    have hi : i < ns.length := (List.getElem?_eq_some_iff.mp hn).1
    refine ⟨rfl, yes ?_⟩
    refine ⟨_, rfl, .inl ⟨_, rfl, _, rfl, _, e2, ?_, ?_⟩⟩
    · rw [List.length_map]
      exact sizeLt (by omega)
    · refine ⟨(k1.cons.setT e2 (List.mem_cons_self ..)).drop nr, rs ++ [if n < 0 then -n else n], (by rw [List.length_append, e1]; rfl), ?_⟩
      rw [upd_same, map_int_app]
  -- draws
  obtain ⟨k1, rs, e1, e2⟩ := p
  rw [List.length_map] at e1
  refine ⟨Nat.zero_le _, fun d nd => ?_⟩
  have k2 : Keep [] H (upd H1 d (.lst [])) := k1.newT nd
  have drn : d ≠ r := (ne_of_none e2 nd).symm
  have nd0 : H d = none := k1.free nd
  have nr0 : H r = none := nr
  refine ⟨_, rfl, (m : Int), rfl, by omega, by omega, ?_⟩
  refine for_range (lo := 0) (n := (m : Int).toNat) (fun i σ H' => ∃ y3 y5 y6 y7, σ = [some (.ref a), some (.int m), some (.ref r), y3, some (.ref d), y5, y6, y7] ∧ Keep [] H H' ∧ (∃ rs : List Int, rs.length = ns.length ∧ H' r = some (.lst (rs.map V.int))) ∧ ∃ ds : List Int, ds.length = i ∧ H' d = some (.lst (ds.map V.int)))
    ⟨_, _, _, _, rfl, k2, ⟨rs, e1, by rw [upd_ne drn.symm]; exact e2⟩, [], rfl, upd_same⟩ (fun i σ H2 hi p => ?_) (fun σ H2 p => ?_)
  · obtain ⟨y3, y5, y6, y7, rfl, k3, ⟨rs, e3, e4⟩, ds, e5, e6⟩ := p
    have sL : SqL K H2 a (ns.map V.int) := k3.sqL (by simp) hS
    have dsz : (ds.map V.int).length < sizeLine := by rw [List.length_map]; exact sizeLt (by omega)
    -- cell = k
    refine ⟨_, rfl, ?_⟩
    refine ⟨fun σ' H' => H' = H2 ∧ ∃ (cell : Int) (y6 y7 : Option V), σ' = [some (.ref a), some (.int m), some (.ref r), some (.int cell), some (.ref d), some (.int (0 + i)), y6, y7], ?_, fun σ' H' hmid => ?_⟩
    refine ⟨_, rfl, _, _, rfl, .inl sL, _, _, rfl, rfl, _, rfl, ?_⟩
    refine ite2 (fun c => ?_) (fun c => ?_)
    · have c0 : (0 : Int) < ((ns.map V.int).length : Nat) := of_decide_eq_true c
      rw [List.length_map] at c0
      have at0 : 0 ≤ (0 + (i : Int)) % (ns.length : Int) := Int.emod_nonneg _ (by omega)
      have at1 : (0 + (i : Int)) % (ns.length : Int) < (ns.length : Int) := Int.emod_lt_of_pos _ c0
      obtain ⟨x, hx⟩ := atI_int (ns := ns) at0 at1
      obtain ⟨y, hy⟩ := atI_int (ns := rs) at0 (by rw [e3]; exact at1)
      refine ⟨_, rfl, _, rfl, _, _, rfl, .inl sL, _, _, rfl, rfl, (by show (0 : Int) < _; rw [List.length_map]; exact c0), ?_⟩
      rw [List.length_map]
      refine ⟨_, rfl, _, rfl, _, _, _, _, rfl, rfl, sL, hx, .inl ⟨_, rfl, ?_⟩⟩
      refine ⟨_, rfl, _, _, rfl, rfl, ⟨by decide, by decide, by decide⟩, _, _, rfl, rfl, _, rfl, ?_⟩
      refine ite2 (fun c1 => ?_) (fun c1 => ?_)
      · refine ⟨_, rfl, _, rfl, _, _, _, _, rfl, rfl, SqL.of e4, hy, _, _, rfl, rfl, _, rfl, ?_⟩
        refine ite2 (fun c2 => ?_) (fun c2 => ?_)
        · -- draws.append(..), rests[at] = .., continue
          refine ⟨_, rfl, .inl ⟨rfl, _, SqL.of e6⟩, _, rfl, _, rfl, _, _, _, _, rfl, rfl, SqL.of e4, hy, .inl ⟨_, rfl, _, _, rfl, rfl, by show (0 : Int) < 1000003; decide, _, _, _, rfl, rfl, e6, dsz, ?_⟩⟩
          have e4' : (upd H2 d (.lst (ds.map V.int ++ [.int (y % 1000003)]))) r = some (.lst (rs.map V.int)) := by rw [upd_ne drn.symm]; exact e4
          refine ⟨_, rfl, _, rfl, _, _, _, _, rfl, rfl, SqL.of e4', hy, .inl ⟨_, rfl, _, _, rfl, rfl, ⟨by decide, by decide⟩, _, rfl, _, rfl, _, _, _, _, rfl, rfl, e4', ixN_int at0 (by rw [List.length_map, e3]; exact at1), ?_⟩⟩
          refine ⟨_, _, _, _, rfl, ?_, ⟨rs.set ((0 + (i : Int)) % (ns.length : Int)).toNat (y / 1000003), by rw [List.length_set]; exact e3, by rw [upd_same, map_int_set]⟩, ds ++ [y % 1000003], by rw [List.length_append, e5]; rfl, by rw [upd_ne drn, upd_same, map_int_app]⟩
          exact (((k3.cons (p := d)).setT e6 (List.mem_cons_self ..)).cons (p := r)).setT e4' (List.mem_cons_self ..) |>.drop nr0 |>.drop nd0
        · exact ⟨rfl, _, _, _, rfl⟩
      · exact ⟨rfl, _, _, _, rfl⟩
    · exact ⟨rfl, _, _, _, rfl⟩
    · obtain ⟨rfl, cell, y6, y7, rfl⟩ := hmid
      have big : ∀ z : Int, 0 ≤ z % 2147483647 ∧ z % 2147483647 < 2147483647 := fun z => ⟨Int.emod_nonneg _ (by decide), Int.emod_lt_of_pos _ (by decide)⟩
      have big2 : ∀ z : Int, 0 ≤ z % 2147483629 ∧ z % 2147483629 < 2147483629 := fun z => ⟨Int.emod_nonneg _ (by decide), Int.emod_lt_of_pos _ (by decide)⟩
      refine ⟨_, rfl, _, _, rfl, rfl, .inr ⟨by decide, by decide⟩, _, rfl, _, _, rfl, rfl, .inr ⟨by decide, by decide⟩, _, _, rfl, rfl, _, _, rfl, rfl, .inl ⟨_, rfl, _, _, rfl, rfl, by show (0 : Int) < 2147483647; decide, ?_⟩⟩
      generalize e1 : (cell * 48271 + (0 + (i : Int)) * 69621 + 11) % 2147483647 = m1
      have b1 := big (cell * 48271 + (0 + (i : Int)) * 69621 + 11)
      rw [e1] at b1
      refine ⟨_, rfl, _, rfl, _, _, rfl, rfl, .inl ⟨by omega, by omega⟩, _, _, rfl, rfl, ⟨by decide, by decide⟩, _, rfl, _, _, rfl, rfl, .inl ⟨_, rfl, _, _, rfl, rfl, by show (0 : Int) < 2147483629; decide, ?_⟩⟩
      generalize e2 : (m1 * m1 / 4096 + m1) % 2147483629 = m2
      have b2 := big2 (m1 * m1 / 4096 + m1)
      rw [e2] at b2
      refine ⟨_, rfl, .inl ⟨rfl, _, SqL.of e6⟩, _, rfl, _, rfl, _, _, rfl, rfl, .inl ⟨by omega, by omega⟩, _, _, rfl, rfl, ⟨by decide, by decide⟩, _, rfl, _, _, rfl, rfl, .inr ⟨by decide, by decide⟩, _, _, rfl, rfl, .inl ⟨_, rfl, _, _, rfl, rfl, by show (0 : Int) < 2147483629; decide, _, _, _, rfl, rfl, e6, dsz, ?_⟩⟩
      exact ⟨_, _, _, _, rfl, (k3.cons.setT e6 (List.mem_cons_self ..)).drop nd0, ⟨rs, e3, by rw [upd_ne drn.symm]; exact e4⟩, ds ++ [_], by rw [List.length_append, e5]; rfl, by rw [upd_same, map_int_app]⟩
  · obtain ⟨y3, y5, y6, y7, rfl, k3, _, ds, e5, e6⟩ := p
    refine ⟨_, rfl, ?_⟩
    exact q d ds H2 k3 nd0 e6 (by omega)
end
end Og

namespace Og
open PySem PySem.Spec PyProof.Rows L2
section
variable {P : Program} {w : World} {K : PySem.W.Frag} {mg : Str → Option Value} {base : Heap}
def spTake : Sp := fun vs H Q _ => ∃ (h d : Addr) (m : Int), vs = [.ref h, .int m] ∧ Hd H h d ∧ 0 < m ∧
  ∀ (i : Int) (H' : Hp), 0 ≤ i → i < m → Keep [h] H H' → Hd H' h d → Q (.int i) H'
theorem has_take {k : Nat} (D : DefAt K mg "_law_take" s_law_take p_law_take) (B : Bn mg) : Has P w K mg base (k + 1) "_law_take" p_law_take spTake := by
  obtain ⟨f, fd, F, hm, hb⟩ := D.ex
  refine ⟨f, fd, F.ok sc_law_take (fun vs H Q E h => ?_) (fun cdv A outer s H vs Q E hr h => ?_), hm, F.kp, hb⟩
  · obtain ⟨a, d, m, rfl, _⟩ := h
    rfl
  obtain ⟨a, d, m, rfl, hd, hm1, q⟩ := h
  refine ⟨_, (pss_cons (ps_set (i := 2) sc_law_take.nd rfl (.inl rfl) (pe_ix ix_list (pv 0) pe_int (fun _ _ => rfl)))
    (pss_cons (ps_asg (pe_op op_add (pv 2) pe_int) (pg_sub (pv 0) pe_int set_list))
    (pss_cons (ps_set (i := 3) sc_law_take.nd rfl (.inl rfl) (pe_ix ix_list (pv 0) pe_int (fun _ _ => rfl)))
    (pss_cons (ps_if (pt_cmpR op_ge (pv 2) (pe_callB call_len_seq (by rfl) B.len PySem.boot_len (pa_cons (pv 3) pa_nil)) (nomark _)) (pss_one (ps_ret pe_int)) pss_nil)
    (pss_one (ps_ret (pe_op op_mod (pe_op op_fdiv (pe_callTy call_int1 (by rfl) B.int (by decide +kernel) (pa_cons (pe_ix ix_list (pv 3) (pv 2) (fun _ _ => rfl)) pa_nil)) pe_int) (pv 1)))))))), ?_⟩
  obtain ⟨n, ds, e1, e2, l⟩ := id hd
  refine ⟨_, rfl, _, _, _, _, rfl, rfl, SqL.of e1, rfl, ?_⟩
  refine ⟨_, rfl, _, _, rfl, rfl, _, rfl, _, _, _, _, rfl, rfl, e1, rfl, ?_⟩
  have e3 : (upd H a (.lst [.ref d, .int ((n : Int) + 1)])) a = some (.lst [.ref d, .int ((n : Int) + 1)]) := upd_same
  have e4 : (upd H a (.lst [.ref d, .int ((n : Int) + 1)])) d = some (.lst (ds.map V.int)) := by rw [upd_ne hd.ne]; exact e2
  have k1 : Keep [a] H (upd H a (.lst [.ref d, .int ((n : Int) + 1)])) := Keep.set e1 (List.mem_cons_self ..)
  have hd2 : Hd (upd H a (.lst [.ref d, .int ((n : Int) + 1)])) a d := ⟨n + 1, ds, upd_same, e4, l⟩
  refine ⟨_, rfl, _, _, _, _, rfl, rfl, SqL.of e3, rfl, ?_⟩
  refine ⟨_, rfl, _, rfl, _, _, rfl, .inl (SqL.of e4), _, _, rfl, rfl, _, rfl, ?_⟩
  refine ite2 (fun c => ?_) (fun c => ?_)
  · exact q 0 _ (by omega) hm1 k1 hd2
  · have c' : ¬ (((ds.map V.int).length : Nat) : Int) ≤ (n : Int) := of_decide_eq_false (Bool.eq_false_iff.mpr c)
    rw [List.length_map] at c'
    obtain ⟨x, hx⟩ := atI_int (ns := ds) (z := (n : Int)) (by omega) (by omega)
    refine ⟨_, rfl, _, rfl, _, _, _, _, rfl, rfl, SqL.of e4, hx, .inl ⟨_, rfl, _, _, rfl, rfl, ⟨by decide, by decide⟩, _, rfl, _, _, rfl, rfl, hm1, ?_⟩⟩
    exact q _ _ (Int.emod_nonneg _ (by omega)) (Int.emod_lt_of_pos _ hm1) k1 hd2
end
end Og

namespace Og
open PySem PySem.Spec PyProof.Rows L2
/-- a small letter; a letter or a digit -/
def Letter (c : Nat) : Prop := 97 ≤ c ∧ c ≤ 122
def Sign (c : Nat) : Prop := (97 ≤ c ∧ c ≤ 122) ∨ (48 ≤ c ∧ c ≤ 57)
/-- a word of the document -/
def IsWord (x : List Nat) : Prop := ∃ c cs, x = c :: cs ∧ Letter c ∧ (∀ y ∈ cs, Sign y) ∧ cs.length ≤ 11
theorem lit_letters : ("abcdefghijklmnopqrstuvwxyz" : Str) = tx ((List.range 26).map (· + 97)) := by decide +kernel
theorem lit_digits : ("0123456789" : Str) = tx ((List.range 10).map (· + 48)) := by decide +kernel
theorem letters_at {z : Int} (h0 : 0 ≤ z) (h : z < 26) : ∃ c, atI ((List.range 26).map (· + 97)) z = some c ∧ Letter c := by
  obtain ⟨x, h1, h2⟩ := atI_of (xs := (List.range 26).map (· + 97)) h0 (by simpa using h)
  refine ⟨x, h1, ?_⟩
  have m := List.mem_of_getElem? h2
  obtain ⟨y, hy, rfl⟩ := List.mem_map.mp m
  have := List.mem_range.mp hy
  exact ⟨by omega, by omega⟩
theorem signs_at {z : Int} (h0 : 0 ≤ z) (h : z < 36) : ∃ c, atI ((List.range 26).map (· + 97) ++ (List.range 10).map (· + 48)) z = some c ∧ Sign c := by
  obtain ⟨x, h1, h2⟩ := atI_of (xs := (List.range 26).map (· + 97) ++ (List.range 10).map (· + 48)) h0 (by simpa using h)
  refine ⟨x, h1, ?_⟩
  have m := List.mem_of_getElem? h2
  rcases List.mem_append.mp m with m | m
  · obtain ⟨y, hy, rfl⟩ := List.mem_map.mp m
    have := List.mem_range.mp hy
    exact .inl ⟨by omega, by omega⟩
  · obtain ⟨y, hy, rfl⟩ := List.mem_map.mp m
    have := List.mem_range.mp hy
    exact .inr ⟨by omega, by omega⟩
theorem four {j : Int} (h0 : 0 ≤ j) (h : j < 4) : j = 0 ∨ j = 1 ∨ j = 2 ∨ j = 3 := by omega
section
variable {P : Program} {w : World} {K : PySem.W.Frag} {mg : Str → Option Value} {base : Heap}
def spWord : Sp := fun vs H Q _ => ∃ (h d : Addr), vs = [.ref h] ∧ Hd H h d ∧
  ∀ (x : List Nat) (H' : Hp), IsWord x → Keep [h] H H' → Hd H' h d → Q (.str (tx x)) H'
theorem has_word {k : Nat} (D : DefAt K mg "_law_word" s_law_word p_law_word) (B : Bn mg) (c1 : Has P w K mg base k "_law_take" p_law_take spTake) : Has P w K mg base (k + 1) "_law_word" p_law_word spWord := by
  obtain ⟨f, fd, F, hm, hb⟩ := D.ex
  obtain ⟨_, _, c_law_take⟩ := c1
  refine ⟨f, fd, F.ok sc_law_word (fun vs H Q E h => ?_) (fun cdv A outer s H vs Q E hr h => ?_), hm, F.kp, hb⟩
  · obtain ⟨a, d, rfl, _⟩ := h
    rfl
  obtain ⟨a, d, rfl, hd, q⟩ := h
  refine ⟨_, (pss_cons (ps_set (i := 1) sc_law_word.nd rfl (.inl rfl) pe_str)
    (pss_cons (ps_set (i := 2) sc_law_word.nd rfl (.inl rfl) (pe_ix ix_list (pe_lst (pa_cons pe_int (pa_cons pe_int (pa_cons (pe_op op_add pe_int (cal c_law_take hr rfl (pa_cons (pv 0) (pa_cons pe_int pa_nil)))) (pa_cons pe_int pa_nil))))) (cal c_law_take hr rfl (pa_cons (pv 0) (pa_cons pe_int pa_nil))) (fun _ _ => rfl)))
    (pss_cons (ps_set (i := 3) sc_law_word.nd rfl (.inl rfl) (pe_ix ix_str (pv 1) (cal c_law_take hr rfl (pa_cons (pv 0) (pa_cons pe_int pa_nil))) (fun _ _ => rfl)))
    (pss_cons (ps_for PassesOwn.never rfl (pi_range1 (by rfl) B.range (pa_cons (pe_op op_sub (pv 2) pe_int) pa_nil)) (pg_name (i := 4) sc_law_word.nd rfl (.inl rfl))
      (pss_one (ps_set (i := 3) sc_law_word.nd rfl (.inl rfl) (pe_op op_add_str (pv 3) (pe_ix ix_str (pe_op op_add_str (pv 1) pe_str) (cal c_law_take hr rfl (pa_cons (pv 0) (pa_cons pe_int pa_nil))) (fun _ _ => rfl))))))
    (pss_one (ps_ret (pv 3))))))), ?_⟩
  -- size
  refine ⟨_, rfl, a, d, 12, rfl, hd, by decide, fun i H1 i0 i1 k1 hd1 => ?_⟩
  refine ⟨1, i, rfl, rfl, by show (4 : Nat) ≤ sizeLine; decide, fun p np => ?_⟩
  refine ⟨_, rfl, a, d, 4, rfl, hd1.new np, by decide, fun j H2 j0 j1 k2 hd2 => ?_⟩
  have np0 : H p = none := k1.free np
  have pa : p ≠ a := (hd.neH np0).symm
  have pd : p ≠ d := (hd.neD np0).symm
  have hsz : ∃ z : Int, atI [V.int 1, V.int 2, V.int (1 + i), V.int 12] j = some (.int z) ∧ 1 ≤ z ∧ z ≤ 12 := by
    rcases four j0 j1 with rfl | rfl | rfl | rfl
    · exact ⟨1, rfl, by omega, by omega⟩
    · exact ⟨2, rfl, by omega, by omega⟩
    · exact ⟨1 + i, rfl, by omega, by omega⟩
    · exact ⟨12, rfl, by omega, by omega⟩
  obtain ⟨z, hz, z1, z2⟩ := hsz
  have k3 : Keep [a] H H2 := (k1.trans (Keep.new np)).trans k2
  refine ⟨p, _, j, _, rfl, rfl, SqL.of (k2.get upd_same (by simpa using pa)), hz, ?_⟩
  -- word = letters[..]
  refine ⟨_, rfl, _, rfl, a, d, 26, rfl, hd2, by decide, fun i2 H3 i20 i21 k4 hd3 => ?_⟩
  obtain ⟨c, hc, lc⟩ := letters_at i20 i21
  refine ⟨_, _, c, rfl, rfl, by decide +kernel, by rw [lit_letters]; exact hc, ?_⟩
  -- the loop
  refine ⟨_, rfl, _, _, rfl, rfl, _, rfl, by omega, by omega, ?_⟩
  refine for_range (lo := 0) (n := (z - 1).toNat) (fun i σ H' => ∃ y4 cs, σ = [some (.ref a), some (.str "abcdefghijklmnopqrstuvwxyz"), some (.int z), some (.str (tx (c :: cs))), y4] ∧ cs.length = i ∧ (∀ y ∈ cs, Sign y) ∧ Keep [a] H H' ∧ Hd H' a d)
    ⟨none, [], rfl, rfl, by simp, k3.trans k4, hd3⟩ (fun i σ H4 hi p => ?_) (fun σ H4 p => ?_)
  · obtain ⟨y4, cs, rfl, e1, e2, k5, hd4⟩ := p
    refine ⟨_, rfl, _, rfl, _, _, rfl, rfl, by decide +kernel, _, rfl, a, d, 36, rfl, hd4, by decide, fun i3 H5 i30 i31 k6 hd5 => ?_⟩
    obtain ⟨b, hb2, lb⟩ := signs_at i30 i31
    refine ⟨_, _, b, rfl, rfl, by decide +kernel, by rw [lit_letters, lit_digits, tx_app]; exact hb2, ?_⟩
    refine ⟨_, _, rfl, rfl, ?_, ?_⟩
    · rw [tx_len]
      show (c :: cs).length + 1 ≤ sizeLine
      rw [List.length_cons]
      exact sizeL (by omega)
    · have e : tx (c :: cs) ++ (⟨#[b]⟩ : Str) = tx (c :: (cs ++ [b])) := tx_app (c :: cs) [b]
      rw [e]
      refine ⟨_, cs ++ [b], rfl, by rw [List.length_append, e1]; rfl, ?_, k5.trans k6, hd5⟩
      · intro y hy
        rcases List.mem_append.mp hy with h | h
        · exact e2 y h
        · rw [List.mem_singleton] at h
          rw [h]
          exact lb
  · obtain ⟨y4, cs, rfl, e1, e2, k5, hd4⟩ := p
    refine ⟨_, rfl, ?_⟩
    exact q (c :: cs) H4 ⟨c, cs, rfl, lc, e2, by omega⟩ k5 hd4
end
end Og

namespace Og
open PySem PySem.Spec PyProof.Rows L2
/-! ### drawn trees -/
mutual
def WT : Tree → Prop
  | .w x => IsWord x
  | .l ts => WTs ts
def WTs : List Tree → Prop
  | [] => True
  | t :: ts => WT t ∧ WTs ts
end
mutual
def Tree.size : Tree → Nat
  | .w _ => 1
  | .l ts => sizes ts + 1
def sizes : List Tree → Nat
  | [] => 0
  | t :: ts => t.size + sizes ts
end
theorem wt_w {x : List Nat} (h : IsWord x) : WT (.w x) := by rw [WT]; exact h
theorem wt_l {ts : List Tree} (h : WTs ts) : WT (.l ts) := by rw [WT]; exact h
theorem WT.word {x : List Nat} (h : WT (.w x)) : IsWord x := by rw [WT] at h; exact h
theorem WT.list {ts : List Tree} (h : WT (.l ts)) : WTs ts := by rw [WT] at h; exact h
theorem wts_nil : WTs [] := by rw [WTs]; trivial
theorem wts_cons {t : Tree} {ts : List Tree} (h : WT t) (r : WTs ts) : WTs (t :: ts) := by rw [WTs]; exact ⟨h, r⟩
theorem WTs.head {t : Tree} {ts : List Tree} (h : WTs (t :: ts)) : WT t := by rw [WTs] at h; exact h.1
theorem WTs.tail {t : Tree} {ts : List Tree} (h : WTs (t :: ts)) : WTs ts := by rw [WTs] at h; exact h.2
theorem WTs.app : ∀ {ts us : List Tree}, WTs ts → WTs us → WTs (ts ++ us)
  | [], us, _, g => g
  | t :: ts, us, h, g => wts_cons h.head (WTs.app h.tail g)
theorem WTs.all : ∀ {ts : List Tree}, WTs ts → ∀ t ∈ ts, WT t
  | [], _, t, m => absurd m (List.not_mem_nil)
  | u :: ts, h, t, m => by
    rcases List.mem_cons.mp m with e | m
    · rw [e]; exact h.head
    · exact WTs.all h.tail t m
theorem WTs.of : ∀ {ts : List Tree}, (∀ t ∈ ts, WT t) → WTs ts
  | [], _ => wts_nil
  | u :: ts, h => wts_cons (h u (List.mem_cons_self ..)) (WTs.of fun t m => h t (List.mem_cons_of_mem _ m))
theorem size_w (x : List Nat) : (Tree.w x).size = 1 := by rw [Tree.size]
theorem size_l (ts : List Tree) : (Tree.l ts).size = sizes ts + 1 := by rw [Tree.size]
theorem sizes_nil : sizes [] = 0 := by rw [sizes]
theorem sizes_cons (t : Tree) (ts : List Tree) : sizes (t :: ts) = t.size + sizes ts := by rw [sizes]
theorem sizes_app : ∀ (ts us : List Tree), sizes (ts ++ us) = sizes ts + sizes us
  | [], us => by rw [List.nil_append, sizes_nil, Nat.zero_add]
  | t :: ts, us => by rw [List.cons_append, sizes_cons, sizes_cons, sizes_app ts us, Nat.add_assoc]
theorem size_pos : ∀ t : Tree, 0 < t.size
  | .w x => by rw [size_w]; omega
  | .l ts => by rw [size_l]; omega
theorem len_sizes : ∀ ts : List Tree, ts.length ≤ sizes ts
  | [] => by rw [sizes_nil]; exact Nat.le_refl _
  | t :: ts => by
    have h := len_sizes ts
    have h2 := size_pos t
    rw [sizes_cons, List.length_cons]
    omega
theorem sizes_take : ∀ (ts : List Tree) (n : Nat), sizes (ts.take n) ≤ sizes ts
  | ts, 0 => by rw [List.take_zero, sizes_nil]; omega
  | [], n + 1 => by rw [List.take_nil]; omega
  | t :: ts, n + 1 => by
    rw [List.take_succ_cons, sizes_cons, sizes_cons]
    have := sizes_take ts n
    omega
theorem sizes_drop : ∀ (ts : List Tree) (n : Nat), sizes (ts.drop n) ≤ sizes ts
  | ts, 0 => by rw [List.drop_zero]; omega
  | [], n + 1 => by rw [List.drop_nil]; omega
  | t :: ts, n + 1 => by
    rw [List.drop_succ_cons, sizes_cons]
    have := sizes_drop ts n
    omega
theorem size_of_get {ts : List Tree} {i : Nat} {t : Tree} (h : ts[i]? = some t) : t.size ≤ sizes ts := by
  induction ts generalizing i with
  | nil => simp at h
  | cons u r ih =>
    rw [sizes_cons]
    cases i with
    | zero =>
      have e : u = t := Option.some.inj h
      rw [e]
      omega
    | succ j =>
      have := ih (i := j) h
      omega
/-- how many parts a drawn value has at most -/
def Most : Nat → Nat
  | 0 => 1
  | n + 1 => 1 + 11 * Most n
/-- nested at most n deep -/
def Deep : Nat → Tree → Prop
  | _, .w _ => True
  | 0, .l _ => False
  | n + 1, .l ts => ∀ t ∈ ts, Deep n t
theorem deep_w (n : Nat) (x : List Nat) : Deep n (.w x) := by cases n <;> trivial
theorem Deep.mono : ∀ {m n : Nat} {t : Tree}, m ≤ n → Deep m t → Deep n t
  | _, n, .w x, _, _ => deep_w n x
  | 0, _, .l _, _, h => h.elim
  | m + 1, 0, .l _, l, _ => absurd l (by omega)
  | m + 1, n + 1, .l ts, l, h => fun t q => Deep.mono (Nat.le_of_succ_le_succ l) (h t q)
def Drawn (n : Nat) (t : Tree) : Prop := WT t ∧ t.size ≤ Most n ∧ Deep n t
theorem Most.le (n : Nat) : Most n ≤ Most (n + 1) := by rw [show Most (n + 1) = 1 + 11 * Most n from rfl]; omega
theorem Most.mono {m n : Nat} (h : m ≤ n) : Most m ≤ Most n := by
  induction h with
  | refl => exact Nat.le_refl _
  | step _ ih => exact Nat.le_trans ih (Most.le _)
theorem most_pos (n : Nat) : 1 ≤ Most n := by
  have := Most.mono (Nat.zero_le n)
  exact this
theorem sizes_le {ts : List Tree} {b : Nat} (h : ∀ t ∈ ts, t.size ≤ b) : sizes ts ≤ ts.length * b := by
  induction ts with
  | nil => rw [sizes_nil]; omega
  | cons t r ih =>
    have h1 := h t (List.mem_cons_self ..)
    have h2 := ih fun u m => h u (List.mem_cons_of_mem _ m)
    rw [sizes_cons, List.length_cons, Nat.add_mul]
    omega
section
variable {P : Program} {w : World} {K : PySem.W.Frag} {mg : Str → Option Value} {base : Heap}
def spValue (K : PySem.W.Frag) (n : Nat) : Sp := fun vs H Q _ => ∃ (h d : Addr), vs = [.ref h, .int n] ∧ Hd H h d ∧
  ∀ (v : V) (t : Tree) (H' : Hp), Tr K H' v t → Drawn n t → Keep [h] H H' → Hd H' h d → Q v H'
theorem has_value {k : Nat} (D : DefAt K mg "_law_value" s_law_value p_law_value) (B : Bn mg) (c1 : Has P w K mg base k "_law_take" p_law_take spTake) (c2 : Has P w K mg base k "_law_word" p_law_word spWord) :
    ∃ f fd, ∀ n, Callee P w K mg base CX0 (k + n + 1) "_law_value" f fd p_law_value (spValue K n) := by
  obtain ⟨f, fd, F, hm, hb⟩ := D.ex
  have all : ∀ n, FnOk P w K mg base CX0 (k + n + 1) f fd p_law_value (spValue K n) := fun n => by
    induction n with
    | zero =>
      obtain ⟨_, _, c_law_take⟩ := c1
      obtain ⟨_, _, c_law_word⟩ := c2
      have c_law_value : Callee P w K mg base CX0 k "_law_value" f fd p_law_value (fun _ _ _ _ => False) := ⟨⟨fun _ _ _ _ h => h.elim, fun _ _ _ _ _ _ _ _ _ _ _ _ _ h => h.elim⟩, hm, F.kp, hb⟩
      refine F.ok sc_law_value (fun vs H Q E h => ?_) (fun cdv A outer s H vs Q E hr h => ?_)
      · obtain ⟨a, d, rfl, _⟩ := h
        rfl
      obtain ⟨a, d, rfl, hd, q⟩ := h
      refine ⟨_, (pss_cons (ps_if (PW.pt (pw_or (pt_cmpR op_eq (pv 1) pe_int (nomark _)) (pw_or1 (pt_cmpR op_eq (cal c_law_take hr rfl (pa_cons (pv 0) (pa_cons pe_int pa_nil))) pe_int (nomark _))))) (pss_one (ps_ret (cal c_law_word hr rfl (pa_cons (pv 0) pa_nil)))) pss_nil)
    (pss_cons (ps_set (i := 2) sc_law_value.nd rfl (.inl rfl) (pe_ix ix_list (pe_lst (pa_cons (cal c_law_take hr rfl (pa_cons (pv 0) (pa_cons pe_int pa_nil))) (pa_cons (cal c_law_take hr rfl (pa_cons (pv 0) (pa_cons pe_int pa_nil))) pa_nil))) (pe_op op_fdiv (cal c_law_take hr rfl (pa_cons (pv 0) (pa_cons pe_int pa_nil))) pe_int) (fun _ _ => rfl)))
    (pss_one (ps_ret (pe_callTy call_tuple_of (by rfl) B.tuple (by decide +kernel) (pa_cons (pe_lc (own := [("k", 3)]) (g := gName 3) (tt := tYes) rfl sc_law_value.nd (pi_range1 (by rfl) B.range (pa_cons (pv 2) pa_nil)) (blkOk_by (N := n_law_value) (sc := defScope s_law_value) (by decide +kernel)) (fun _ _ _ _ _ => pg_name (i := 3) sc_law_value.nd rfl (Or.inl rfl)) (fun _ _ _ _ _ => pts_nil) (fun _ _ _ _ _ => (cal c_law_value hr rfl (pa_cons (pv 0) (pa_cons (pe_op op_sub (pv 1) pe_int) pa_nil))))) pa_nil)))))), ?_⟩
      refine ⟨_, rfl, rfl, _, rfl, iteT (iteT ?_)⟩
      exact ⟨_, rfl, a, d, rfl, hd, fun x H1 wx k1 hd1 => q _ _ _ tr_w ⟨wt_w wx, by rw [size_w]; exact most_pos 0, deep_w _ _⟩ k1 hd1⟩
    | succ n ih =>
      obtain ⟨_, _, c_law_take⟩ := c1.mono (show k ≤ k + n + 1 by omega)
      obtain ⟨_, _, c_law_word⟩ := c2.mono (show k ≤ k + n + 1 by omega)
      have c_law_value : Callee P w K mg base CX0 (k + n + 1) "_law_value" f fd p_law_value (spValue K n) := ⟨ih, hm, F.kp, hb⟩
      refine F.ok sc_law_value (fun vs H Q E h => ?_) (fun cdv A outer s H vs Q E hr h => ?_)
      · obtain ⟨a, d, rfl, _⟩ := h
        rfl
      obtain ⟨a, d, rfl, hd, q⟩ := h
      refine ⟨_, (pss_cons (ps_if (PW.pt (pw_or (pt_cmpR op_eq (pv 1) pe_int (nomark _)) (pw_or1 (pt_cmpR op_eq (cal c_law_take hr rfl (pa_cons (pv 0) (pa_cons pe_int pa_nil))) pe_int (nomark _))))) (pss_one (ps_ret (cal c_law_word hr rfl (pa_cons (pv 0) pa_nil)))) pss_nil)
    (pss_cons (ps_set (i := 2) sc_law_value.nd rfl (.inl rfl) (pe_ix ix_list (pe_lst (pa_cons (cal c_law_take hr rfl (pa_cons (pv 0) (pa_cons pe_int pa_nil))) (pa_cons (cal c_law_take hr rfl (pa_cons (pv 0) (pa_cons pe_int pa_nil))) pa_nil))) (pe_op op_fdiv (cal c_law_take hr rfl (pa_cons (pv 0) (pa_cons pe_int pa_nil))) pe_int) (fun _ _ => rfl)))
    (pss_one (ps_ret (pe_callTy call_tuple_of (by rfl) B.tuple (by decide +kernel) (pa_cons (pe_lc (own := [("k", 3)]) (g := gName 3) (tt := tYes) rfl sc_law_value.nd (pi_range1 (by rfl) B.range (pa_cons (pv 2) pa_nil)) (blkOk_by (N := n_law_value) (sc := defScope s_law_value) (by decide +kernel)) (fun _ _ _ _ _ => pg_name (i := 3) sc_law_value.nd rfl (Or.inl rfl)) (fun _ _ _ _ _ => pts_nil) (fun _ _ _ _ _ => (cal c_law_value hr rfl (pa_cons (pv 0) (pa_cons (pe_op op_sub (pv 1) pe_int) pa_nil))))) pa_nil)))))), ?_⟩
      have word : ∀ H1, Keep [a] H H1 → Hd H1 a d → spWord [.ref a] H1 Q E0 := fun H1 k1 hd1 => ⟨a, d, rfl, hd1, fun x H2 wx k2 hd2 => q _ _ _ tr_w ⟨wt_w wx, by rw [size_w]; exact most_pos _, deep_w _ _⟩ (k1.trans k2) hd2⟩
      refine ⟨_, rfl, rfl, _, rfl, ite2 (fun c => iteT ⟨_, rfl, word _ Keep.refl hd⟩) (fun c => ?_)⟩
      refine ⟨_, rfl, a, d, 3, rfl, hd, by decide, fun i H1 i0 i1 k1 hd1 => ?_⟩
      refine ⟨rfl, _, rfl, ite2 (fun c => ⟨_, rfl, word _ k1 hd1⟩) (fun c => ?_)⟩
      refine ⟨_, rfl, a, d, 5, rfl, hd1, by decide, fun i5 H2 i50 i51 k2 hd2 => ?_⟩
      refine ⟨_, rfl, a, d, 12, rfl, hd2, by decide, fun i12 H3 i120 i121 k3 hd3 => ?_⟩
      refine ⟨by show (2 : Nat) ≤ sizeLine; decide, fun p np => ?_⟩
      refine ⟨_, rfl, a, d, 4, rfl, hd3.new np, by decide, fun j H4 j0 j1 k4 hd4 => ?_⟩
      have kk : Keep [a] H H3 := (k1.trans k2).trans k3
      have pa : p ≠ a := (hd3.neH np).symm
      have k5 : Keep [a] H H4 := (kk.trans (Keep.new np)).trans k4
      have hz : ∃ z : Int, atI [V.int i5, V.int i12] (j / 3) = some (.int z) ∧ 0 ≤ z ∧ z ≤ 11 := by
        rcases four j0 j1 with rfl | rfl | rfl | rfl
        · exact ⟨i5, rfl, by omega, by omega⟩
        · exact ⟨i5, rfl, by omega, by omega⟩
        · exact ⟨i5, rfl, by omega, by omega⟩
        · exact ⟨i12, rfl, by omega, by omega⟩
      obtain ⟨z, hz, z0, z1⟩ := hz
      refine ⟨_, _, rfl, rfl, ⟨by decide, by decide⟩, p, _, _, _, rfl, rfl, SqL.of (k4.get upd_same (by simpa using pa)), hz, ?_⟩
      refine ⟨_, rfl, z, rfl, by omega, by omega, fun L nL => ?_⟩
      have La : L ≠ a := (hd4.neH nL).symm
      have Ld : L ≠ d := (hd4.neD nL).symm
      have nL0 : H L = none := k5.free nL
      refine lc_range (lo := 0) (n := z.toNat) (fun i H' => ∃ vs ts, H' L = some (.lst vs) ∧ Trs K H' vs ts ∧ ts.length = i ∧ (∀ t ∈ ts, Drawn n t) ∧ Keep [a] H H' ∧ Hd H' a d)
        ⟨[], [], upd_same, trs_nil, rfl, by simp, k5.newT nL, hd4.new nL⟩ (fun i H5 hi p => ?_) (fun H5 p => ?_)
      · obtain ⟨vs, ts, e1, e2, e3, e4, k6, hd5⟩ := p
        refine ⟨rfl, yes ?_⟩
        refine ⟨_, rfl, _, rfl, _, _, rfl, rfl, a, d, ?_, hd5, fun v t H6 tv dt k7 hd6 => ?_⟩
        · show [V.ref a, V.int ((((n + 1 : Nat)) : Int) - 1)] = [V.ref a, V.int (n : Int)]
          rw [show (((n + 1 : Nat)) : Int) - 1 = (n : Int) by omega]
        have e1' : H6 L = some (.lst vs) := k7.get e1 (by simpa using La)
        have k8 : Keep [L] H6 (upd H6 L (.lst (vs ++ [v]))) := Keep.set e1' (List.mem_cons_self ..)
        refine ⟨vs, e1', ?_, vs ++ [v], ts ++ [t], upd_same, (e2.keep k7 |>.append (trs_cons tv trs_nil)).keep k8, by rw [List.length_append, e3]; rfl, ?_, ((k6.trans k7).cons.trans (k8.mono (by simp))).drop nL0, hd6.upd La.symm Ld.symm⟩
        · rw [e2.length]
          exact sizeLt (by omega)
        · intro u hu
          rcases List.mem_append.mp hu with m | m
          · exact e4 u m
          · rw [List.mem_singleton.mp m]
            exact dt
      · obtain ⟨vs, ts, e1, e2, e3, e4, k6, hd5⟩ := p
        refine ⟨L, vs, rfl, .inl ⟨SqL.of e1, fun T nT => ?_⟩⟩
        refine q _ (.l ts) _ (tr_tup upd_same (e2.keep (Keep.new (S := []) nT))) ⟨wt_l (WTs.of fun t m => (e4 t m).1), ?_, fun t m => (e4 t m).2.2⟩ (k6.newT nT) (hd5.new nT)
        rw [size_l]
        have := sizes_le fun t m => (e4 t m).2.1
        have l : ts.length ≤ 11 := by omega
        have := Nat.mul_le_mul_right (Most n) l
        rw [show Most (n + 1) = 1 + 11 * Most n from rfl]
        omega
  exact ⟨f, fd, fun n => ⟨all n, hm, F.kp, hb⟩⟩
end
end Og

namespace Og
open PySem PySem.Spec PyProof.Rows L2
/-! ### the text of a tree -/
mutual
def txt : Tree → List Nat
  | .w x => x
  | .l [] => [40, 41]
  | .l (t :: r) => 40 :: (txt t ++ seps r ++ [41])
def seps : List Tree → List Nat
  | [] => []
  | t :: r => 32 :: (txt t ++ seps r)
end
def txts : List Tree → List Nat
  | [] => []
  | t :: r => txt t ++ seps r
theorem txt_w (x : List Nat) : txt (.w x) = x := by rw [txt]
theorem txt_l (ts : List Tree) : txt (.l ts) = 40 :: (txts ts ++ [41]) := by
  cases ts with
  | nil => rw [txt]; rfl
  | cons t r => rw [txt]; rfl
theorem seps_nil : seps [] = [] := by rw [seps]
theorem seps_cons (t : Tree) (r : List Tree) : seps (t :: r) = 32 :: (txt t ++ seps r) := by rw [seps]
theorem seps_app : ∀ a b : List Tree, seps (a ++ b) = seps a ++ seps b
  | [], b => by rw [seps_nil]; rfl
  | t :: a, b => by rw [List.cons_append, seps_cons, seps_cons, seps_app a b, List.cons_append, List.append_assoc]
theorem join_sp : ∀ (t : Tree) (r : List Tree), Str.join (tx [32]) ((t :: r).map fun u => tx (txt u)) = tx (txt t ++ seps r)
  | t, [] => by rw [seps_nil, List.append_nil]; rfl
  | t, u :: r => by
    have h := join_sp u r
    rw [List.map_cons] at h
    rw [List.map_cons, List.map_cons]
    show tx (txt t) ++ tx [32] ++ Str.join (tx [32]) (tx (txt u) :: r.map fun u => tx (txt u)) = _
    rw [h, tx_app, tx_app, seps_cons, List.append_assoc]
    rfl
theorem join_txts (ts : List Tree) : Str.join (tx [32]) (ts.map fun u => tx (txt u)) = tx (txts ts) := by
  cases ts with
  | nil => rfl
  | cons t r => exact join_sp t r
theorem join_nil : ∀ ys : List (List Nat), Str.join (tx []) (ys.map tx) = tx ys.flatten
  | [] => rfl
  | [y] => by
    rw [List.flatten_cons, List.flatten_nil, List.append_nil]; rfl
  | y :: z :: r => by
    have h := join_nil (z :: r)
    rw [List.map_cons] at h
    rw [List.map_cons, List.map_cons]
    show tx y ++ tx [] ++ Str.join (tx []) (tx z :: r.map tx) = _
    rw [h, tx_app, tx_app, List.append_nil, List.flatten_cons (l := y)]
theorem IsWord.ne {x : List Nat} (h : IsWord x) : x ≠ [] := by
  obtain ⟨c, cs, rfl, _⟩ := h
  simp
theorem IsWord.len {x : List Nat} (h : IsWord x) : x.length ≤ 12 := by
  obtain ⟨c, cs, rfl, _, _, l⟩ := h
  rw [List.length_cons]
  omega
theorem txt_pos : ∀ {t : Tree}, WT t → 0 < (txt t).length
  | .w x, h => by rw [txt_w]; exact List.length_pos_iff.mpr h.word.ne
  | .l ts, _ => by rw [txt_l, List.length_cons]; omega
mutual
theorem txt_len : ∀ {t : Tree}, WT t → (txt t).length + 1 ≤ 14 * t.size
  | .w x, h => by
    rw [txt_w, size_w]
    have := h.word.len
    omega
  | .l [], _ => by
    rw [txt, size_l, sizes_nil]
    show 2 + 1 ≤ _
    omega
  | .l (t :: r), h => by
    have h1 := txt_len h.list.head
    have h2 := seps_len h.list.tail
    rw [txt, size_l, sizes_cons, List.length_cons, List.length_append, List.length_append, List.length_singleton]
    omega
theorem seps_len : ∀ {ts : List Tree}, WTs ts → (seps ts).length ≤ 14 * sizes ts
  | [], _ => by rw [seps_nil]; exact Nat.zero_le _
  | t :: r, h => by
    have h1 := txt_len h.head
    have h2 := seps_len h.tail
    rw [seps_cons, sizes_cons, List.length_cons, List.length_append]
    omega
end
/-! ### tokens, and texts that hold them with blanks between -/
mutual
def toks : Tree → List (List Nat)
  | .w x => [x]
  | .l ts => [40] :: (tokss ts ++ [[41]])
def tokss : List Tree → List (List Nat)
  | [] => []
  | t :: r => toks t ++ tokss r
end
theorem toks_w (x : List Nat) : toks (.w x) = [x] := by rw [toks]
theorem toks_l (ts : List Tree) : toks (.l ts) = [40] :: (tokss ts ++ [[41]]) := by rw [toks]
theorem tokss_nil : tokss [] = [] := by rw [tokss]
theorem tokss_cons (t : Tree) (r : List Tree) : tokss (t :: r) = toks t ++ tokss r := by rw [tokss]
theorem tokss_app : ∀ a b : List Tree, tokss (a ++ b) = tokss a ++ tokss b
  | [], b => by rw [tokss_nil]; rfl
  | t :: a, b => by rw [List.cons_append, tokss_cons, tokss_cons, tokss_app a b, List.append_assoc]
def Blanks (g : List Nat) : Prop := ∀ b ∈ g, b = 32 ∨ b = 10
/-- what stands behind a word without a blank begins with no sign -/
def Free (cs : List Nat) : Prop := ∀ c r, cs = c :: r → ¬ Sign c
/-- cs, which begins with no blank, holds the tokens -/
def Rest : List Nat → List (List Nat) → Prop
  | cs, [] => cs = []
  | cs, t :: r => ∃ g cs', cs = t ++ (g ++ cs') ∧ Blanks g ∧ (IsWord t → g = [] → Free cs') ∧ Rest cs' r
/-- s follows a token (a word or not) and holds the tokens r -/
def After (word : Bool) (s : List Nat) (r : List (List Nat)) : Prop := ∃ g cs', s = g ++ cs' ∧ Blanks g ∧ (word = true → g = [] → Free cs') ∧ Rest cs' r
theorem blanks_nil : Blanks [] := fun b h => absurd h (List.not_mem_nil)
theorem not_word40 : ¬ IsWord [40] := fun ⟨c, cs, e, h, _⟩ => by
  have e1 := (List.cons.inj e).1
  have := h.1
  omega
theorem not_word41 : ¬ IsWord [41] := fun ⟨c, cs, e, h, _⟩ => by
  have e1 := (List.cons.inj e).1
  have := h.1
  omega
theorem After.word {x s : List Nat} {r : List (List Nat)} (h : After true s r) : Rest (x ++ s) (x :: r) := by
  obtain ⟨g, cs', rfl, b, f, q⟩ := h
  exact ⟨g, cs', rfl, b, fun _ => f rfl, q⟩
theorem After.paren {x s : List Nat} {r : List (List Nat)} (n : ¬ IsWord x) (h : After false s r) : Rest (x ++ s) (x :: r) := by
  obtain ⟨g, cs', rfl, b, f, q⟩ := h
  exact ⟨g, cs', rfl, b, fun z => absurd z n, q⟩
theorem Rest.after {cs : List Nat} {r : List (List Nat)} (h : Rest cs r) : After false cs r := ⟨[], cs, rfl, blanks_nil, fun z => Bool.noConfusion z, h⟩
theorem After.weak {s : List Nat} {r : List (List Nat)} (h : After true s r) : After false s r := by
  obtain ⟨g, cs', e, b, f, q⟩ := h
  exact ⟨g, cs', e, b, fun z => Bool.noConfusion z, q⟩
theorem free41 (s : List Nat) : Free (41 :: s) := fun c r e h => by
  cases e
  rcases h with ⟨h, _⟩ | ⟨h, _⟩ <;> omega
mutual
theorem rest_txt : ∀ {t : Tree} {s : List Nat} {r : List (List Nat)}, WT t → After true s r → Rest (txt t ++ s) (toks t ++ r)
  | .w x, s, r, h, a => by
    rw [txt_w, toks_w]
    exact a.word
  | .l [], s, r, h, a => by
    rw [txt, toks_l, tokss_nil]
    exact After.paren (x := [40]) (s := 41 :: s) not_word40 (Rest.after (After.paren (x := [41]) not_word41 a.weak))
  | .l (t :: l), s, r, h, a => by
    rw [txt, toks_l, tokss_cons]
    have h1 := rest_seps (ts := l) (s := s) h.list.tail a
    have h2 := rest_txt (t := t) h.list.head h1
    have e1 : 40 :: (txt t ++ seps l ++ [41]) ++ s = [40] ++ (txt t ++ (seps l ++ (41 :: s))) := by simp
    have e2 : [40] :: (toks t ++ tokss l ++ [[41]]) ++ r = [40] :: (toks t ++ (tokss l ++ ([41] :: r))) := by simp
    rw [e1, e2]
    exact After.paren not_word40 h2.after
theorem rest_seps : ∀ {ts : List Tree} {s : List Nat} {r : List (List Nat)}, WTs ts → After true s r → After true (seps ts ++ (41 :: s)) (tokss ts ++ ([41] :: r))
  | [], s, r, h, a => by
    rw [seps_nil, tokss_nil]
    exact ⟨[], 41 :: s, rfl, blanks_nil, fun _ _ => free41 s, After.paren (x := [41]) not_word41 a.weak⟩
  | t :: l, s, r, h, a => by
    have h1 := rest_seps (ts := l) (s := s) h.tail a
    have h2 := rest_txt (t := t) h.head h1
    rw [seps_cons, tokss_cons]
    refine ⟨[32], txt t ++ (seps l ++ (41 :: s)), by simp, fun b hb => .inl (List.mem_singleton.mp hb), fun _ z => absurd z (by simp), ?_⟩
    rw [List.append_assoc]
    exact h2
end
theorem rest_of_txt {t : Tree} (h : WT t) : Rest (txt t) (toks t) := by
  have q := rest_txt (t := t) (s := []) (r := []) h ⟨[], [], rfl, blanks_nil, fun _ _ c r e => (by cases e), rfl⟩
  rw [List.append_nil, List.append_nil] at q
  exact q
/-! ### the reader over tokens: the lists that are open, the innermost first (without the one that takes the whole) -/
def reads : List (List Nat) → List (List Tree) → Option Tree
  | [], _ => none
  | t :: r, st =>
    if t = [40] then reads r ([] :: st)
    else if t = [41] then
      match st with
      | [] => none
      | [l] => if r = [] then some (.l l) else none
      | l :: l2 :: st => reads r ((l2 ++ [.l l]) :: st)
    else
      match st with
      | [] => if r = [] then some (.w t) else none
      | l :: st => reads r ((l ++ [.w t]) :: st)
theorem reads_open (r : List (List Nat)) (st : List (List Tree)) : reads ([40] :: r) st = reads r ([] :: st) := by
  conv => lhs; unfold reads
  rw [if_pos rfl]
theorem reads_close (r : List (List Nat)) (l l2 : List Tree) (st : List (List Tree)) : reads ([41] :: r) (l :: l2 :: st) = reads r ((l2 ++ [.l l]) :: st) := by
  conv => lhs; unfold reads
  rw [if_neg (by decide), if_pos rfl]
theorem reads_close1 (r : List (List Nat)) (l : List Tree) : reads ([41] :: r) [l] = if r = [] then some (.l l) else none := by
  conv => lhs; unfold reads
  rw [if_neg (by decide), if_pos rfl]
theorem reads_close0 (r : List (List Nat)) : reads ([41] :: r) [] = none := by
  conv => lhs; unfold reads
  rw [if_neg (by decide), if_pos rfl]
theorem reads_word {x : List Nat} (h1 : x ≠ [40]) (h2 : x ≠ [41]) (r : List (List Nat)) (l : List Tree) (st : List (List Tree)) : reads (x :: r) (l :: st) = reads r ((l ++ [.w x]) :: st) := by
  conv => lhs; unfold reads
  rw [if_neg h1, if_neg h2]
theorem reads_word0 {x : List Nat} (h1 : x ≠ [40]) (h2 : x ≠ [41]) (r : List (List Nat)) : reads (x :: r) [] = if r = [] then some (.w x) else none := by
  conv => lhs; unfold reads
  rw [if_neg h1, if_neg h2]
theorem word_ne {x : List Nat} (h : IsWord x) : x ≠ [40] ∧ x ≠ [41] := ⟨fun e => not_word40 (e ▸ h), fun e => not_word41 (e ▸ h)⟩
mutual
theorem reads_in : ∀ {t : Tree} {r : List (List Nat)} {l : List Tree} {st : List (List Tree)}, WT t → reads (toks t ++ r) (l :: st) = reads r ((l ++ [t]) :: st)
  | .w x, r, l, st, h => by
    have n := word_ne h.word
    rw [toks_w, List.singleton_append, reads_word n.1 n.2]
  | .l ts, r, l, st, h => by
    rw [toks_l, List.cons_append, reads_open, List.append_assoc, reads_ins h.list, List.nil_append, List.singleton_append, reads_close]
theorem reads_ins : ∀ {ts : List Tree} {r : List (List Nat)} {l : List Tree} {st : List (List Tree)}, WTs ts → reads (tokss ts ++ r) (l :: st) = reads r ((l ++ ts) :: st)
  | [], r, l, st, h => by rw [tokss_nil, List.append_nil, List.nil_append]
  | t :: ts, r, l, st, h => by
    rw [tokss_cons, List.append_assoc, reads_in h.head, reads_ins h.tail, List.append_assoc]
    rfl
end
theorem reads_whole : ∀ {t : Tree}, WT t → reads (toks t) [] = some t
  | .w x, h => by
    have n := word_ne h.word
    rw [toks_w, reads_word0 n.1 n.2]
    rfl
  | .l ts, h => by
    rw [toks_l, reads_open, reads_ins h.list, List.nil_append, reads_close1]
    rfl
/-- a token of a tree -/
def IsTok (x : List Nat) : Prop := x = [40] ∨ x = [41] ∨ IsWord x
mutual
theorem toks_all : ∀ {t : Tree}, WT t → ∀ x ∈ toks t, IsTok x
  | .w x, h, y, m => by
    rw [toks_w] at m
    rw [List.mem_singleton.mp m]
    exact .inr (.inr h.word)
  | .l ts, h, y, m => by
    rw [toks_l] at m
    rcases List.mem_cons.mp m with e | m
    · exact .inl e
    · rcases List.mem_append.mp m with m | m
      · exact tokss_all h.list y m
      · exact .inr (.inl (List.mem_singleton.mp m))
theorem tokss_all : ∀ {ts : List Tree}, WTs ts → ∀ x ∈ tokss ts, IsTok x
  | [], h, y, m => by rw [tokss_nil] at m; cases m
  | t :: ts, h, y, m => by
    rw [tokss_cons] at m
    rcases List.mem_append.mp m with m | m
    · exact toks_all h.head y m
    · exact tokss_all h.tail y m
end
theorem IsTok.ne {x : List Nat} (h : IsTok x) : x ≠ [] := by
  rcases h with rfl | rfl | h
  · simp
  · simp
  · exact h.ne
theorem IsTok.first {x : List Nat} (h : IsTok x) : ∃ c r, x = c :: r ∧ c ≠ 32 ∧ c ≠ 10 := by
  rcases h with rfl | rfl | ⟨c, r, rfl, hc, _⟩
  · exact ⟨40, [], rfl, by decide, by decide⟩
  · exact ⟨41, [], rfl, by decide, by decide⟩
  · have := hc.1
    exact ⟨c, r, rfl, by omega, by omega⟩
theorem IsTok.word {x : List Nat} (h : IsTok x) (h1 : x ≠ [40]) (h2 : x ≠ [41]) : IsWord x := by
  rcases h with e | e | h
  · exact absurd e h1
  · exact absurd e h2
  · exact h
/-- a text that holds tokens begins with no blank -/
def NoBlank (cs : List Nat) : Prop := ∀ c r, cs = c :: r → c ≠ 32 ∧ c ≠ 10
theorem Rest.noBlank {cs : List Nat} {r : List (List Nat)} (h : Rest cs r) (ht : ∀ x ∈ r, IsTok x) : NoBlank cs := by
  intro c r' e
  cases r with
  | nil =>
    rw [show cs = [] from h] at e
    cases e
  | cons t r =>
    obtain ⟨g, cs', rfl, _⟩ := h
    obtain ⟨d, q, rfl, h1, h2⟩ := (ht t (List.mem_cons_self ..)).first
    rw [List.cons_append] at e
    have := (List.cons.inj e).1
    rw [← this]
    exact ⟨h1, h2⟩
end Og

namespace Og
open PySem PySem.Spec PyProof.Rows L2
theorem lit_open : ("(" : Str) = tx [40] := by decide +kernel
theorem lit_close : (")" : Str) = tx [41] := by decide +kernel
theorem lit_blank : (" " : Str) = tx [32] := by decide +kernel
theorem lit_nl : ("\n" : Str) = tx [10] := by decide +kernel
theorem lit_empty : ("" : Str) = tx [] := by decide +kernel
theorem seps_ge : ∀ ts : List Tree, ((ts.map fun u => (tx (txt u)).length).sum + ts.length) = (seps ts).length
  | [] => by rw [seps_nil]; rfl
  | t :: r => by
    have h := seps_ge r
    rw [List.map_cons, List.sum_cons, List.length_cons, seps_cons, List.length_cons, List.length_append, tx_len]
    omega
theorem txts_seps (ts : List Tree) : (seps ts).length ≤ (txts ts).length + 1 := by
  cases ts with
  | nil => rw [seps_nil]; exact Nat.zero_le _
  | cons t r => rw [seps_cons, List.length_cons]; exact Nat.le_refl _
theorem le_sum_of {x : Nat} : ∀ {xs : List Nat}, x ∈ xs → x ≤ xs.sum
  | [], h => absurd h (List.not_mem_nil)
  | y :: r, h => by
    rw [List.sum_cons]
    rcases List.mem_cons.mp h with e | h
    · omega
    · have := le_sum_of h
      omega
section
variable {P : Program} {w : World} {K : PySem.W.Frag} {mg : Str → Option Value} {base : Heap}
def spText (K : PySem.W.Frag) (n : Nat) : Sp := fun vs H Q _ => ∃ (v : V) (t : Tree), vs = [v] ∧ Tr K H v t ∧ WT t ∧ Deep n t ∧ (txt t).length ≤ 1000000 ∧
  ∀ (H' : Hp), Keep [] H H' → Q (.str (tx (txt t))) H'
theorem has_text {k : Nat} (D : DefAt K mg "_law_text" s_law_text p_law_text) (B : Bn mg) : ∀ n, Has P w K mg base (k + n + 1) "_law_text" p_law_text (spText K n) := by
  obtain ⟨f, fd, F, hm, hb⟩ := D.ex
  have all : ∀ n, FnOk P w K mg base CX0 (k + n + 1) f fd p_law_text (spText K n) := fun n => by
    induction n with
    | zero =>
      have c_law_text : Callee P w K mg base CX0 k "_law_text" f fd p_law_text (fun _ _ _ _ => False) := ⟨⟨fun _ _ _ _ h => h.elim, fun _ _ _ _ _ _ _ _ _ _ _ _ _ h => h.elim⟩, hm, F.kp, hb⟩
      refine F.ok sc_law_text (fun vs H Q E h => ?_) (fun cdv A outer s H vs Q E hr h => ?_)
      · obtain ⟨a, d, rfl, _⟩ := h
        rfl
      obtain ⟨v, t, rfl, tv, wt, dp, sz, q⟩ := h
      refine ⟨_, (pss_cons (ps_if (pt_val (pe_callB call_isi (by rfl) B.isinstance (by decide +kernel) (pa_cons (pv 0) (pa_cons (pe_bltn (v := .ty "str") rfl B.str (by decide +kernel) rfl) pa_nil)))) (pss_one (ps_ret (pv 0))) pss_nil)
    (pss_one (ps_ret (pe_op op_add_str (pe_op op_add_str pe_str (pe_join pe_str (pe_lc (own := [("one", 1)]) (g := gName 1) (tt := tYes) rfl sc_law_text.nd (pi_tup (pv 0)) (blkOk_by (N := n_law_text) (sc := defScope s_law_text) (by decide +kernel)) (fun _ _ _ _ _ => pg_name (i := 1) sc_law_text.nd rfl (Or.inl rfl)) (fun _ _ _ _ _ => pts_nil) (fun _ _ _ _ _ => (cal c_law_text hr rfl (pa_cons (pv 1) pa_nil)))))) pe_str)))), ?_⟩
      cases t with
      | l ts => exact dp.elim
      | w x =>
        obtain ⟨ty, u, q1, q2, q3⟩ := isi_str tv
        refine ⟨_, rfl, _, _, ty, u, _, rfl, q1, q2, q3, _, rfl, iteT ⟨_, rfl, ?_⟩⟩
        rw [tv.word]
        rw [txt_w] at q
        exact q _ Keep.refl
    | succ n ih =>
      have c_law_text : Callee P w K mg base CX0 (k + n + 1) "_law_text" f fd p_law_text (spText K n) := ⟨ih, hm, F.kp, hb⟩
      refine F.ok sc_law_text (fun vs H Q E h => ?_) (fun cdv A outer s H vs Q E hr h => ?_)
      · obtain ⟨a, d, rfl, _⟩ := h
        rfl
      obtain ⟨v, t, rfl, tv, wt, dp, sz, q⟩ := h
      refine ⟨_, (pss_cons (ps_if (pt_val (pe_callB call_isi (by rfl) B.isinstance (by decide +kernel) (pa_cons (pv 0) (pa_cons (pe_bltn (v := .ty "str") rfl B.str (by decide +kernel) rfl) pa_nil)))) (pss_one (ps_ret (pv 0))) pss_nil)
    (pss_one (ps_ret (pe_op op_add_str (pe_op op_add_str pe_str (pe_join pe_str (pe_lc (own := [("one", 1)]) (g := gName 1) (tt := tYes) rfl sc_law_text.nd (pi_tup (pv 0)) (blkOk_by (N := n_law_text) (sc := defScope s_law_text) (by decide +kernel)) (fun _ _ _ _ _ => pg_name (i := 1) sc_law_text.nd rfl (Or.inl rfl)) (fun _ _ _ _ _ => pts_nil) (fun _ _ _ _ _ => (cal c_law_text hr rfl (pa_cons (pv 1) pa_nil)))))) pe_str)))), ?_⟩
      cases t with
      | w x =>
        obtain ⟨ty, u, q1, q2, q3⟩ := isi_str tv
        refine ⟨_, rfl, _, _, ty, u, _, rfl, q1, q2, q3, _, rfl, iteT ⟨_, rfl, ?_⟩⟩
        rw [tv.word]
        rw [txt_w] at q
        exact q _ Keep.refl
      | l ts =>
        obtain ⟨a, vs, rfl, hS, tvs⟩ := tv.list
        have sz2 := sz
        rw [txt_l, List.length_cons, List.length_append, List.length_singleton] at sz2
        have sz3 := txts_seps ts
        have sz4 := seps_ge ts
        obtain ⟨ty, u, q1, q2, q3⟩ := isi_str tv
        refine ⟨_, rfl, _, _, ty, u, _, rfl, q1, q2, q3, _, rfl, iteF ?_⟩
        refine ⟨⟨_, rfl⟩, _, rfl, a, rfl, ⟨_, hS⟩, fun L nL => ?_⟩
        refine lc_tup (K := K) (a := a) (xs := vs) (fun i H' => Keep [] H H' ∧ H' L = some (.lst ((ts.take i).map fun u => V.str (tx (txt u))))) ⟨Keep.new nL, upd_same⟩ (fun i H' _ p => p.1.sqT hS) (fun i x H1 hx p => ?_) (fun H1 p => ?_)
        · obtain ⟨k1, e1⟩ := p
          have il : i < vs.length := (List.getElem?_eq_some_iff.mp hx).1
          have il2 : i < ts.length := by rw [← tvs.length]; exact il
          have hg : ts[i]? = some ts[i] := List.getElem?_eq_getElem il2
          obtain ⟨y, hy, ty⟩ := tvs.get hg
          rw [hx] at hy
          cases hy
          have m := List.getElem_mem il2
          refine ⟨rfl, yes ?_⟩
          refine ⟨_, rfl, x, ts[i], rfl, ty.keep k1, wt.list.all _ m, dp _ m, ?_, fun H2 k2 => ?_⟩
          · have h1 : (txt ts[i]).length ≤ ((ts.map fun u => (tx (txt u)).length)).sum := by
              have mm : (tx (txt ts[i])).length ∈ ts.map fun u => (tx (txt u)).length := List.mem_map.mpr ⟨_, m, rfl⟩
              have := le_sum_of mm
              rw [tx_len] at this
              exact this
            omega
          · have e2 := k2.get e1 (by simp)
            refine ⟨_, e2, ?_, ((k1.trans k2).cons.setT e2 (List.mem_cons_self ..)).drop nL, ?_⟩
            · rw [List.length_map, List.length_take]
              exact Nat.lt_of_le_of_lt (Nat.min_le_right _ _) (Nat.lt_of_le_of_lt (show ts.length ≤ 2000000 by omega) (by decide))
            · rw [upd_same, List.take_add_one, hg, List.map_append]
              rfl
        · obtain ⟨k1, e1⟩ := p
          rw [tvs.length, List.take_length] at e1
          refine ⟨_, L, ts.map (fun u => tx (txt u)), rfl, rfl, .inl (SqL.of (by rw [e1, List.map_map]; rfl)), ?_, ?_⟩
          · rw [List.map_map, List.length_map]
            show (ts.map fun u => (tx (txt u)).length).sum + ts.length * (" " : Str).length ≤ _
            rw [lit_blank, tx_len]
            show _ + ts.length * 1 ≤ _
            omega
          · rw [TL.join_eq, lit_blank, join_txts]
            have l1 : (tx (txts ts)).length ≤ 1000000 := by rw [tx_len]; omega
            refine ⟨_, _, rfl, rfl, ?_, _, _, rfl, rfl, ?_, ?_⟩
            · rw [lit_open, tx_len]
              exact Nat.le_trans (Nat.add_le_add_left l1 _) (by decide)
            · rw [lit_open, lit_close, tx_app, tx_len, tx_len, List.length_append]
              rw [tx_len] at l1
              show 1 + (txts ts).length + 1 ≤ _
              exact Nat.le_trans (show _ ≤ 1000002 by omega) (by decide)
            · rw [lit_open, lit_close, tx_app, tx_app]
              have e : [40] ++ txts ts ++ [41] = txt (.l ts) := by rw [txt_l]; rfl
              rw [e]
              exact q _ k1
  exact fun n => ⟨f, fd, all n, hm, F.kp, hb⟩
end
end Og

namespace Og
open PySem PySem.Spec PyProof.Rows L2
theorem lit_BLANKS : (" \n" : Str) = tx [32, 10] := by decide +kernel
theorem blank_mem {c : Nat} : c ∈ [32, 10] ↔ c = 32 ∨ c = 10 := by simp
theorem drop_at {cs : List Nat} {j : Nat} (h : j < cs.length) : ∃ c, atI cs (j : Int) = some c ∧ cs.drop j = c :: cs.drop (j + 1) :=
  ⟨cs[j], atI_nat (List.getElem?_eq_getElem h), List.drop_eq_getElem_cons h⟩
/-- blanks ahead of what begins with none: one way only -/
theorem blanks_one : ∀ {g g' a b : List Nat}, Blanks g → Blanks g' → NoBlank a → NoBlank b → g ++ a = g' ++ b → g = g' ∧ a = b
  | [], [], a, b, _, _, _, _, e => ⟨rfl, e⟩
  | [], c :: g', a, b, _, h, n, _, e => by
    have q := n c (g' ++ b) e
    rcases h c (List.mem_cons_self ..) with z | z
    · exact absurd z q.1
    · exact absurd z q.2
  | c :: g, [], a, b, h, _, _, n, e => by
    have q := n c (g ++ a) e.symm
    rcases h c (List.mem_cons_self ..) with z | z
    · exact absurd z q.1
    · exact absurd z q.2
  | c :: g, c' :: g', a, b, h, h', n, n', e => by
    have e1 := (List.cons.inj e).1
    have q := blanks_one (fun x m => h x (List.mem_cons_of_mem _ m)) (fun x m => h' x (List.mem_cons_of_mem _ m)) n n' (List.cons.inj e).2
    exact ⟨by rw [e1, q.1], q.2⟩
section
variable {P : Program} {w : World} {K : PySem.W.Frag} {mg : Str → Option Value} {base : Heap}
def spBlanks : Sp := fun vs H Q _ => ∃ (cs : List Nat) (i : Nat), vs = [.str (tx cs), .int i] ∧ i ≤ cs.length ∧ cs.length ≤ 4000000 ∧
  ∀ (j : Nat) (g : List Nat), i ≤ j → j ≤ cs.length → cs.drop i = g ++ cs.drop j → Blanks g → NoBlank (cs.drop j) → j = i + g.length → Q (.int j) H
theorem has_blanks {k : Nat} (D : DefAt K mg "_behind_blanks" s_behind_blanks p_behind_blanks) (B : Bn mg) (M : Mc mg) : Has P w K mg base (k + 1) "_behind_blanks" p_behind_blanks spBlanks := by
  obtain ⟨f, fd, F, hm, hb⟩ := D.ex
  obtain ⟨_, M_BLANKS⟩ := M.BLANKS
  refine ⟨f, fd, F.ok sc_behind_blanks (fun vs H Q E h => ?_) (fun cdv A outer s H vs Q E hr h => ?_), hm, F.kp, hb⟩
  · obtain ⟨a, d, rfl, _⟩ := h
    rfl
  obtain ⟨cs, i, rfl, hi, hl, q⟩ := h
  refine ⟨_, (pss_cons (ps_set (i := 2) sc_behind_blanks.nd rfl (.inl rfl) (pv 1))
    (pss_cons (ps_while PassesOwn.never (PW.pt (pw_and (pt_cmpR op_lt (pv 2) (pe_callB call_len_str (by rfl) B.len PySem.boot_len (pa_cons (pv 0) pa_nil)) (nomark _)) (pw_and1 (pt_cmpR op_in_sign (pe_ix ix_str (pv 0) (pv 2) (fun _ _ => rfl)) (pe_glob (v := .str " \n") rfl M_BLANKS ⟨_, rfl⟩) (by rfl))))) (pss_one (ps_aug (i := 2) sc_behind_blanks.nd rfl (.inl rfl) pe_int ip_add)))
    (pss_one (ps_ret (pv 2))))), ?_⟩
  refine ⟨_, rfl, ?_⟩
  have sz : (tx cs).length ≤ sizeLine := by rw [tx_len]; exact Nat.le_trans hl (by decide)
  obtain ⟨W, hW⟩ : ∃ W : Nat → L2.St → Hp → Prop, W = fun m σ H' => H' = H ∧ ∃ (j : Nat) (g : List Nat), σ = [some (.str (tx cs)), some (.int i), some (.int j)] ∧ m = cs.length - j ∧ i ≤ j ∧ j ≤ cs.length ∧ cs.drop i = g ++ cs.drop j ∧ Blanks g ∧ j = i + g.length := ⟨_, rfl⟩
  refine ⟨W, ⟨cs.length - i, by rw [hW]; exact ⟨rfl, i, [], rfl, rfl, Nat.le_refl _, hi, rfl, blanks_nil, rfl⟩⟩, fun m σ H1 p => ?_⟩
  rw [hW] at p
  obtain ⟨rfl, j, g, rfl, rfl, h1, h2, h3, h4, h5⟩ := p
  have fin : NoBlank (cs.drop j) → Q (.int j) H1 := fun n => q j g h1 h2 h3 h4 n h5
  refine ⟨_, rfl, _, rfl, _, rfl, sz, _, _, rfl, rfl, _, rfl, ?_⟩
  rw [tx_len]
  refine ite2 (fun c => ?_) (fun c => ?_)
  · have c' : (j : Int) < (cs.length : Int) := of_decide_eq_true c
    have c2 : j < cs.length := by omega
    obtain ⟨x, hx, hd⟩ := drop_at c2
    refine ⟨_, rfl, _, rfl, _, _, x, rfl, rfl, sz, hx, x, _, rfl, rfl, _, rfl, ?_⟩
    refine ite2 (fun b => ?_) (fun b => ?_)
    · have b' := of_decide_eq_true b
      rw [lit_BLANKS, tx_list, blank_mem] at b'
      refine ⟨fun σ' H' => ∃ m', m' < cs.length - j ∧ W m' σ' H', fun _ _ h => h, ?_⟩
      refine ⟨_, rfl, _, _, rfl, rfl, ?_⟩
      refine ⟨cs.length - (j + 1), by omega, ?_⟩
      rw [hW]
      refine ⟨rfl, j + 1, g ++ [x], rfl, rfl, by omega, by omega, ?_, ?_, by rw [List.length_append, List.length_singleton]; omega⟩
      · rw [h3, hd, List.append_assoc]; rfl
      · intro y hy
        rcases List.mem_append.mp hy with m | m
        · exact h4 y m
        · rw [List.mem_singleton.mp m]; exact b'
    · have b' := of_decide_eq_false (Bool.eq_false_iff.mpr b)
      rw [lit_BLANKS, tx_list, blank_mem] at b'
      refine ⟨_, rfl, fin fun c r e => ?_⟩
      rw [hd] at e
      have e1 := (List.cons.inj e).1
      subst e1
      exact ⟨fun z => b' (.inl z), fun z => b' (.inr z)⟩
  · have c' : ¬ (j : Int) < (cs.length : Int) := of_decide_eq_false (Bool.eq_false_iff.mpr c)
    refine iteF ⟨_, rfl, fin fun c r e => ?_⟩
    rw [List.drop_eq_nil_of_le (by omega)] at e
    cases e
end
end Og

namespace Og
open PySem PySem.Spec PyProof.Rows L2
theorem lit_RUN : ("abcdefghijklmnopqrstuvwxyz0123456789" : Str) = tx ((List.range 26).map (· + 97) ++ (List.range 10).map (· + 48)) := by decide +kernel
theorem mem_letters {c : Nat} : c ∈ (List.range 26).map (· + 97) ↔ Letter c := by
  constructor
  · intro h
    obtain ⟨y, hy, rfl⟩ := List.mem_map.mp h
    have := List.mem_range.mp hy
    exact ⟨by omega, by omega⟩
  · intro ⟨h1, h2⟩
    exact List.mem_map.mpr ⟨c - 97, List.mem_range.mpr (by omega), by omega⟩
theorem mem_signs {c : Nat} : c ∈ (List.range 26).map (· + 97) ++ (List.range 10).map (· + 48) ↔ Sign c := by
  rw [List.mem_append, mem_letters]
  constructor
  · rintro (h | h)
    · exact .inl h
    · obtain ⟨y, hy, rfl⟩ := List.mem_map.mp h
      have := List.mem_range.mp hy
      exact .inr ⟨by omega, by omega⟩
  · rintro (h | ⟨h1, h2⟩)
    · exact .inl h
    · exact .inr (List.mem_map.mpr ⟨c - 48, List.mem_range.mpr (by omega), by omega⟩)
theorem IsWord.signs {x : List Nat} (h : IsWord x) : ∀ y ∈ x, Sign y := by
  obtain ⟨c, cs, rfl, hc, hs, _⟩ := h
  intro y m
  rcases List.mem_cons.mp m with e | m
  · rw [e]; exact .inl hc
  · exact hs y m
theorem drop_get {cs x : List Nat} {i e : Nat} (h : cs.drop i = x) : cs[i + e]? = x[e]? := by
  rw [← h, List.getElem?_drop]
section
variable {P : Program} {w : World} {K : PySem.W.Frag} {mg : Str → Option Value} {base : Heap}
def spWordAt : Sp := fun vs H Q _ => ∃ (cs x rest : List Nat) (i : Nat), vs = [.str (tx cs), .int i] ∧ cs.drop i = x ++ rest ∧ IsWord x ∧ Free rest ∧ cs.length ≤ 4000000 ∧ Q (.str (tx x)) H
theorem has_wordat {k : Nat} (D : DefAt K mg "_word_at" s_word_at p_word_at) (B : Bn mg) (M : Mc mg) : Has P w K mg base (k + 1) "_word_at" p_word_at spWordAt := by
  obtain ⟨f, fd, F, hm, hb⟩ := D.ex
  obtain ⟨_, M_LETTERS⟩ := M.LETTERS
  obtain ⟨_, M_RUN_SIGNS⟩ := M.RUN_SIGNS
  obtain ⟨_, M_LONGEST_WORD⟩ := M.LONGEST_WORD
  refine ⟨f, fd, F.ok sc_word_at (fun vs H Q E h => ?_) (fun cdv A outer s H vs Q E hr h => ?_), hm, F.kp, hb⟩
  · obtain ⟨a, d, _, _, rfl, _⟩ := h
    rfl
  obtain ⟨cs, x, rest, i, rfl, hd, wx, fr, hl, q⟩ := h
  refine ⟨_, (pss_cons (ps_if (pt_cmpR op_notIn_sign (pe_ix ix_str (pv 0) (pv 1) (fun _ _ => rfl)) (pe_glob (v := .str "abcdefghijklmnopqrstuvwxyz") rfl M_LETTERS ⟨_, rfl⟩) (by rfl)) (pss_one ps_never) pss_nil)
    (pss_cons (ps_set (i := 2) sc_word_at.nd rfl (.inl rfl) (pe_op op_add (pv 1) pe_int))
    (pss_cons (ps_while PassesOwn.never (PW.pt (pw_and (pt_cmpR op_lt (pv 2) (pe_callB call_len_str (by rfl) B.len PySem.boot_len (pa_cons (pv 0) pa_nil)) (nomark _)) (pw_and1 (pt_cmpR op_in_sign (pe_ix ix_str (pv 0) (pv 2) (fun _ _ => rfl)) (pe_glob (v := .str "abcdefghijklmnopqrstuvwxyz0123456789") rfl M_RUN_SIGNS ⟨_, rfl⟩) (by rfl))))) (pss_cons (ps_if (pt_cmpR op_eq (pe_op op_sub (pv 2) (pv 1)) (pe_glob (v := .int 12) rfl M_LONGEST_WORD ⟨_, rfl⟩) (nomark _)) (pss_one ps_never) pss_nil)
      (pss_one (ps_aug (i := 2) sc_word_at.nd rfl (.inl rfl) pe_int ip_add))))
    (pss_one (ps_ret (pe_slice sl_str (pv 0) (po_some (pv 1)) (po_some (pv 2)))))))), ?_⟩
  have sz : (tx cs).length ≤ sizeLine := by rw [tx_len]; exact Nat.le_trans hl (by decide)
  have l12 := wx.len
  have lx : 0 < x.length := List.length_pos_iff.mpr wx.ne
  have li : i + x.length + rest.length = cs.length := by
    have := congrArg List.length hd
    rw [List.length_drop, List.length_append] at this
    omega
  have at_ : ∀ e, e < x.length → ∃ c, atI cs ((i + e : Nat) : Int) = some c ∧ c ∈ x := fun e he => by
    have h1 : cs[i + e]? = some x[e] := by rw [drop_get hd, List.getElem?_append_left he, List.getElem?_eq_getElem he]
    exact ⟨_, atI_nat h1, List.getElem_mem he⟩
  -- the first sign is a letter
  obtain ⟨c0, hc0, _⟩ := at_ 0 lx
  have first : Letter c0 := by
    obtain ⟨c, r, rfl, hc, _⟩ := wx
    have h1 : cs[i + 0]? = some c := by rw [drop_get hd]; rfl
    have h2 : atI cs ((i + 0 : Nat) : Int) = some c := atI_nat h1
    rw [h2] at hc0
    cases hc0
    exact hc
  refine ⟨_, rfl, _, rfl, _, _, c0, rfl, rfl, sz, hc0, c0, _, rfl, rfl, _, rfl, ?_⟩
  rw [lit_letters, tx_list, decide_eq_true (mem_letters.mpr first)]
  refine iteF ?_
  refine ⟨_, rfl, _, _, rfl, rfl, ?_⟩
  obtain ⟨W, hW⟩ : ∃ W : Nat → L2.St → Hp → Prop, W = fun m σ H' => H' = H ∧ ∃ (e : Nat), σ = [some (.str (tx cs)), some (.int i), some (.int ((i : Int) + (e : Int)))] ∧ m = x.length - e ∧ 1 ≤ e ∧ e ≤ x.length := ⟨_, rfl⟩
  refine ⟨W, ⟨x.length - 1, by rw [hW]; exact ⟨rfl, 1, rfl, rfl, Nat.le_refl _, lx⟩⟩, fun m σ H1 p => ?_⟩
  rw [hW] at p
  obtain ⟨rfl, e, rfl, rfl, h1, h2⟩ := p
  have cut : e = x.length → cutS (tx cs) (some (i : Int)) (some ((i : Int) + (e : Int))) = tx x := fun z => by
    rw [show (i : Int) + (e : Int) = ((i + e : Nat) : Int) by omega, cutS_nat cs (by omega) (by omega), hd]
    rw [show i + e - i = x.length by omega, List.take_left]
  have e0 : (i : Int) + (e : Int) = ((i + e : Nat) : Int) := by omega
  refine ⟨_, rfl, _, rfl, _, rfl, sz, _, _, rfl, rfl, _, rfl, ?_⟩
  rw [tx_len]
  refine ite2 (fun c => ?_) (fun c => ?_)
  · have c' : (i : Int) + (e : Int) < (cs.length : Int) := of_decide_eq_true c
    by_cases he : e < x.length
    · obtain ⟨c1, hc1, m1⟩ := at_ e he
      refine ⟨_, rfl, _, rfl, _, _, c1, rfl, rfl, sz, by rw [e0]; exact hc1, c1, _, rfl, rfl, _, rfl, ?_⟩
      rw [lit_RUN, tx_list, decide_eq_true (mem_signs.mpr (wx.signs _ m1))]
      refine iteT ⟨fun σ' H' => ∃ m', m' < x.length - e ∧ W m' σ' H', fun _ _ h => h, ?_⟩
      refine ⟨_, rfl, _, rfl, _, _, rfl, rfl, rfl, _, rfl, ?_⟩
      rw [decide_eq_false (fun z => by have := V.int.inj z; omega)]
      refine iteF ?_
      refine ⟨_, rfl, _, _, rfl, rfl, x.length - (e + 1), by omega, ?_⟩
      rw [hW]
      refine ⟨rfl, e + 1, ?_, rfl, by omega, by omega⟩
      show [some (V.str (tx cs)), some (V.int i), some (V.int ((i : Int) + (e : Int) + 1))] = _
      rw [show (i : Int) + (e : Int) + 1 = (i : Int) + ((e + 1 : Nat) : Int) by omega]
    · have he' : e = x.length := by omega
      have hr : rest ≠ [] := by
        intro z
        rw [z] at li
        have : ([] : List Nat).length = 0 := rfl
        omega
      obtain ⟨c1, r1, rfl⟩ := List.exists_cons_of_ne_nil hr
      have hc1 : atI cs ((i + e : Nat) : Int) = some c1 := atI_nat (by rw [drop_get hd, he', List.getElem?_append_right (Nat.le_refl _), Nat.sub_self]; rfl)
      refine ⟨_, rfl, _, rfl, _, _, c1, rfl, rfl, sz, by rw [e0]; exact hc1, c1, _, rfl, rfl, _, rfl, ?_⟩
      rw [lit_RUN, tx_list, decide_eq_false (fun z => fr c1 r1 rfl (mem_signs.mp z))]
      refine iteF ?_
      refine ⟨_, rfl, _, rfl, _, rfl, _, rfl, _, rfl, _, rfl, sz, ?_⟩
      rw [cut he']
      exact q
  · have c' : ¬ (i : Int) + (e : Int) < (cs.length : Int) := of_decide_eq_false (Bool.eq_false_iff.mpr c)
    have he' : e = x.length := by omega
    refine iteF ?_
    refine ⟨_, rfl, _, rfl, _, rfl, _, rfl, _, rfl, _, rfl, sz, ?_⟩
    rw [cut he']
    exact q
end
end Og

namespace Og
open PySem PySem.Spec PyProof.Rows L2
/-! ### write_value: the stack of what is still to be written -/
def OkI (x : Tree) : Prop := WT x ∨ ∃ c, x = .w [c]
def stx (its : List Tree) : List Nat := (its.reverse.map txt).flatten
theorem stx_nil : stx [] = [] := rfl
theorem stx_app (its : List Tree) (x : Tree) : stx (its ++ [x]) = txt x ++ stx its := by
  unfold stx
  rw [List.reverse_append, List.reverse_singleton, List.singleton_append, List.map_cons, List.flatten_cons]
theorem OkI.pos {x : Tree} (h : OkI x) : 0 < (txt x).length := by
  rcases h with h | ⟨c, rfl⟩
  · exact txt_pos h
  · rw [txt_w]; exact Nat.one_pos
theorem flat_len : ∀ {ys : List (List Nat)}, (∀ y ∈ ys, y ≠ []) → ys.length ≤ ys.flatten.length
  | [], _ => Nat.le_refl _
  | y :: r, h => by
    have h1 := flat_len fun z m => h z (List.mem_cons_of_mem _ m)
    have h2 := List.length_pos_iff.mpr (h y (List.mem_cons_self ..))
    rw [List.length_cons, List.flatten_cons, List.length_append]
    omega
theorem stx_len {its : List Tree} (h : ∀ x ∈ its, OkI x) : its.length ≤ (stx its).length := by
  have := flat_len (ys := its.reverse.map txt) fun y m => by
    obtain ⟨x, hx, rfl⟩ := List.mem_map.mp m
    exact List.length_pos_iff.mp (h x (List.mem_reverse.mp hx)).pos
  rw [List.length_map, List.length_reverse] at this
  exact this
/-- what stands on the stack above the close, after i of the n items of a list -/
def part (ts : List Tree) (i : Nat) : List Nat := if i = ts.length then txts ts else seps (ts.drop (ts.length - i))
theorem part_zero {ts : List Tree} : part ts 0 = [] := by
  unfold part
  split
  · rename_i h
    rw [List.eq_nil_of_length_eq_zero h.symm]
    rfl
  · rw [Nat.sub_zero, List.drop_length, seps_nil]
theorem part_all (ts : List Tree) : part ts ts.length = txts ts := by
  unfold part
  rw [if_pos rfl]
theorem part_last {ts : List Tree} {i : Nat} (h : i + 1 = ts.length) (t : Tree) (ht : ts[0]? = some t) : part ts (i + 1) = txt t ++ part ts i := by
  cases ts with
  | nil => cases ht
  | cons u r =>
    have e : u = t := Option.some.inj ht
    subst e
    rw [h, part_all]
    unfold part
    rw [List.length_cons] at h
    rw [if_neg (by rw [List.length_cons]; omega), show (u :: r).length - i = 1 by rw [List.length_cons]; omega]
    rfl
theorem part_more {ts : List Tree} {i : Nat} (h : i + 1 < ts.length) (t : Tree) (ht : ts[ts.length - 1 - i]? = some t) : part ts (i + 1) = 32 :: (txt t ++ part ts i) := by
  unfold part
  rw [if_neg (by omega), if_neg (by omega)]
  have hl : ts.length - 1 - i < ts.length := by omega
  have e : ts[ts.length - 1 - i] = t := by
    rw [List.getElem?_eq_getElem hl] at ht
    exact Option.some.inj ht
  rw [show ts.length - (i + 1) = ts.length - 1 - i by omega, List.drop_eq_getElem_cons hl, seps_cons, e, show ts.length - 1 - i + 1 = ts.length - i by omega]
section
variable {P : Program} {w : World} {K : PySem.W.Frag} {mg : Str → Option Value} {base : Heap}
def spWrite (K : PySem.W.Frag) : Sp := fun vs H Q _ => ∃ (v : V) (t : Tree), vs = [v] ∧ Tr K H v t ∧ WT t ∧ (txt t).length ≤ 1000000 ∧
  ∀ (H' : Hp), Keep [] H H' → Q (.str (tx (txt t))) H'
theorem has_write {k : Nat} (D : DefAt K mg "write_value" s_write_value p_write_value) (B : Bn mg) : Has P w K mg base (k + 1) "write_value" p_write_value (spWrite K) := by
  obtain ⟨f, fd, F, hm, hb⟩ := D.ex
  refine ⟨f, fd, F.ok sc_write_value (fun vs H Q E h => ?_) (fun cdv A outer s H vs Q E hr h => ?_), hm, F.kp, hb⟩
  · obtain ⟨a, d, rfl, _⟩ := h
    rfl
  obtain ⟨v, t, rfl, tv, wt, sz, q⟩ := h
  refine ⟨_, (pss_cons (ps_set (i := 1) sc_write_value.nd rfl (.inl rfl) (pe_lst pa_nil))
    (pss_cons (ps_set (i := 2) sc_write_value.nd rfl (.inl rfl) (pe_lst (pa_cons (pv 0) pa_nil)))
    (pss_cons (ps_while PassesOwn.never (pt_truth (pv 2) (by intro _; rfl)) (pss_cons (ps_set (i := 3) sc_write_value.nd rfl (.inl rfl) (pe_bm0 PySem.F.plainAttrs_list PySem.F.slot_list_pop PySem.F.type_list_pop mt_pop (pv 2)))
      (pss_one (ps_if (pt_val (pe_callB call_isi (by rfl) B.isinstance (by decide +kernel) (pa_cons (pv 3) (pa_cons (pe_bltn (v := .ty "str") rfl B.str (by decide +kernel) rfl) pa_nil)))) (pss_one (ps_expr (pe_bm PySem.F.plainAttrs_list PySem.F.slot_list_append PySem.F.type_list_append mt_append (pv 1) (pa_cons (pv 3) pa_nil)))) (pss_cons (ps_expr (pe_bm PySem.F.plainAttrs_list PySem.F.slot_list_append PySem.F.type_list_append mt_append (pv 1) (pa_cons pe_str pa_nil)))
        (pss_cons (ps_expr (pe_bm PySem.F.plainAttrs_list PySem.F.slot_list_append PySem.F.type_list_append mt_append (pv 2) (pa_cons pe_str pa_nil)))
        (pss_one (ps_for PassesOwn.never rfl (pi_range3 rfl B.range (pa_cons (pe_op op_sub (pe_callB call_len_seq (by rfl) B.len PySem.boot_len (pa_cons (pv 3) pa_nil)) pe_int) (pa_cons (pe_un un_neg pe_int) (pa_cons (pe_un un_neg pe_int) pa_nil)))) (pg_name (i := 4) sc_write_value.nd rfl (.inl rfl))
          (pss_cons (ps_expr (pe_bm PySem.F.plainAttrs_list PySem.F.slot_list_append PySem.F.type_list_append mt_append (pv 2) (pa_cons (pe_ix ix_tup (pv 3) (pv 4) (fun _ _ => rfl)) pa_nil)))
          (pss_one (ps_if (pt_cmpR op_gt (pv 4) pe_int (nomark _)) (pss_one (ps_expr (pe_bm PySem.F.plainAttrs_list PySem.F.slot_list_append PySem.F.type_list_append mt_append (pv 2) (pa_cons pe_str pa_nil)))) pss_nil)))))))))))
    (pss_one (ps_ret (pe_join pe_str (pv 1))))))), ?_⟩
  refine ⟨Nat.zero_le _, fun p np => ?_⟩
  refine ⟨_, rfl, by show (1 : Nat) ≤ sizeLine; decide, fun s0 ns => ?_⟩
  have k0 : Keep [] H (upd (upd H p (.lst [])) s0 (.lst [v])) := (Keep.new np).newT ns
  have sp : s0 ≠ p := by
    intro e
    rw [e, upd_same] at ns
    cases ns
  have ns0 : H s0 = none := (Keep.new (S := []) np).free ns
  obtain ⟨W, hW⟩ : ∃ W : Nat → L2.St → Hp → Prop, W = fun m σ H' => ∃ (y3 y4 : Option V) (ps : List (List Nat)) (its : List Tree) (vs : List V), σ = [some v, some (.ref p), some (.ref s0), y3, y4] ∧ m = (stx its).length ∧
      Keep [] H H' ∧ H' p = some (.lst ((ps.map tx).map V.str)) ∧ H' s0 = some (.lst vs) ∧ Trs K H' vs its ∧ (∀ x ∈ its, OkI x) ∧ (∀ y ∈ ps, y ≠ []) ∧ ps.flatten ++ stx its = txt t := ⟨_, rfl⟩
  refine ⟨W, ⟨(txt t).length, ?_⟩, fun m σ H1 pw => ?_⟩
  · rw [hW]
    refine ⟨none, none, [], [t], [v], rfl, ?_, k0, ?_, upd_same, Trs.one (tv.keep k0), ?_, by simp, ?_⟩
    · rw [show [t] = [] ++ [t] from rfl, stx_app, stx_nil, List.append_nil]
    · rw [upd_ne sp.symm, upd_same]; rfl
    · intro x m; rw [List.mem_singleton.mp m]; exact .inl wt
    · rw [show [t] = [] ++ [t] from rfl, stx_app, stx_nil, List.append_nil]; rfl
  rw [hW] at pw
  obtain ⟨y3, y4, ps, its, vs, rfl, rfl, k1, e1, e2, tr, ok, ne, tot⟩ := pw
  have totl := congrArg List.length tot
  rw [List.length_append] at totl
  have psl := flat_len ne
  have itl := stx_len ok
  have vsl := tr.length
  refine ⟨_, rfl, _, tru_list e2, ?_⟩
  rw [emp_iff tr]
  by_cases hne : its = []
  · -- the end
    subst hne
    refine iteF ?_
    refine ⟨⟨_, rfl⟩, _, rfl, _, p, ps.map tx, rfl, rfl, .inl (SqL.of e1), ?_, ?_⟩
    · rw [List.map_map, List.length_map]
      show (ps.map fun y => (tx y).length).sum + ps.length * ("" : Str).length ≤ _
      rw [lit_empty, tx_len]
      have : (ps.map fun y => (tx y).length).sum = ps.flatten.length := by
        rw [List.length_flatten]
        congr 1
      rw [this]
      show ps.flatten.length + ps.length * 0 ≤ _
      rw [Nat.mul_zero]
      exact Nat.le_trans (show _ ≤ 1000000 by omega) (by decide)
    · rw [TL.join_eq, lit_empty, join_nil]
      rw [stx_nil, List.append_nil] at tot
      rw [tot]
      exact q _ k1
  · obtain ⟨its', x, rfl⟩ := snoc_of hne
    have b0 : (!(its' ++ [x]).isEmpty) = true := by cases its' <;> rfl
    rw [b0]
    refine iteT ⟨fun σ' H' => ∃ m', m' < (stx (its' ++ [x])).length ∧ W m' σ' H', fun _ _ h => h, ?_⟩
    obtain ⟨vs', v', rfl, trs', trx⟩ := tr.snoc
    rw [stx_app, List.length_append] at totl itl
    rw [stx_app] at tot
    have okx : OkI x := ok x (by simp)
    have ok' : ∀ y ∈ its', OkI y := fun y m => ok y (List.mem_append.mpr (.inl m))
    have xpos := okx.pos
    refine ⟨_, rfl, .inl ⟨rfl, _, SqL.of e2⟩, s0, _, v', rfl, rfl, e2, last_get _ _, ?_⟩
    rw [List.dropLast_concat]
    have e2' : (upd H1 s0 (.lst vs')) s0 = some (.lst vs') := upd_same
    have e1' : (upd H1 s0 (.lst vs')) p = some (.lst ((ps.map tx).map V.str)) := by rw [upd_ne sp.symm]; exact e1
    have k2 : Keep [s0] H1 (upd H1 s0 (.lst vs')) := Keep.set e2 (List.mem_cons_self ..)
    have k2' : Keep [] H (upd H1 s0 (.lst vs')) := (k1.cons.trans k2).drop ns0
    obtain ⟨ty, u, q1, q2, q3⟩ := isi_str (trx.keep k2)
    refine ⟨_, rfl, _, _, ty, u, _, rfl, q1, q2, q3, _, rfl, ?_⟩
    have lenp : ((ps.map tx).map V.str).length < sizeLine := by rw [List.length_map, List.length_map]; exact Nat.lt_of_le_of_lt (show _ ≤ 1000000 by omega) (by decide)
    cases x with
    | w z =>
      refine iteT ?_
      refine ⟨_, rfl, .inl ⟨rfl, _, SqL.of e1'⟩, _, rfl, p, _, _, rfl, rfl, e1', lenp, ?_⟩
      have tz : v' = .str (tx z) := trx.word
      subst tz
      rw [txt_w] at tot xpos
      refine ⟨(stx its').length, by rw [stx_app, txt_w, List.length_append]; omega, ?_⟩
      rw [hW]
      refine ⟨_, _, ps ++ [z], its', vs', rfl, rfl, (k2'.cons.setT e1' (List.mem_cons_self ..)).drop np, ?_, ?_, (trs'.keep k2).keep (Keep.set (S := [p]) e1' (List.mem_cons_self ..)), ok', ?_, ?_⟩
      · rw [upd_same, List.map_append, List.map_append]; rfl
      · rw [upd_ne sp]; exact e2'
      · intro y m
        rcases List.mem_append.mp m with m | m
        · exact ne y m
        · rw [List.mem_singleton.mp m]; exact List.length_pos_iff.mp xpos
      · rw [List.flatten_append, List.flatten_cons, List.flatten_nil, List.append_nil, List.append_assoc]
        exact tot
    | l ts =>
      refine iteF ?_
      obtain ⟨a, ws, rfl, hS, tws⟩ := (trx.keep k2).list
      have wts : WTs ts := by
        rcases okx with h | ⟨c, h⟩
        · exact h.list
        · cases h
      rw [txt_l, List.length_cons, List.length_append, List.length_singleton] at totl
      rw [txt_l] at tot
      have tsl : ts.length ≤ (txts ts).length := by
        have h1 := txts_seps ts
        have h2 := seps_ge ts
        have h3 : ts.length ≤ (ts.map fun u => (tx (txt u)).length).sum := by
          have h4 := flat_len (ys := ts.map txt) fun y m => by
            obtain ⟨x, hx, rfl⟩ := List.mem_map.mp m
            exact List.length_pos_iff.mp (txt_pos (wts.all x hx))
          rw [List.length_map, List.length_flatten, List.map_map] at h4
          have h5 : (ts.map (List.length ∘ txt)) = ts.map fun u => (tx (txt u)).length := List.map_congr_left fun u _ => (tx_len (txt u)).symm
          rw [h5] at h4
          exact h4
        omega
      -- pieces.append("(")
      refine ⟨_, rfl, .inl ⟨rfl, _, SqL.of e1'⟩, p, _, _, rfl, rfl, e1', lenp, ?_⟩
      generalize hH2 : upd (upd H1 s0 (.lst vs')) p (.lst ((ps.map tx).map V.str ++ [.str "("])) = H2
      have k3 : Keep [p] (upd H1 s0 (.lst vs')) H2 := by rw [← hH2]; exact Keep.set e1' (List.mem_cons_self ..)
      have e1b : H2 p = some (.lst (((ps ++ [[40]]).map tx).map V.str)) := by
        rw [← hH2, upd_same, List.map_append, List.map_append]
        show _ = some (HO.lst (List.map V.str (List.map tx ps) ++ [V.str (tx [40])]))
        rw [lit_open]
      have e2b : H2 s0 = some (.lst vs') := by rw [← hH2, upd_ne sp]; exact e2'
      have k3' : Keep [] H H2 := (k2'.cons.trans (k3.mono (by simp))).drop np
      -- waiting.append(")")
      refine ⟨_, rfl, .inl ⟨rfl, _, SqL.of e2b⟩, s0, _, _, rfl, rfl, e2b, ?_, ?_⟩
      · have := trs'.length
        have := stx_len ok'
        exact Nat.lt_of_le_of_lt (show _ ≤ 1000000 by omega) (by decide)
      generalize hH3 : upd H2 s0 (.lst (vs' ++ [.str ")"])) = H3
      have k4 : Keep [s0] H2 H3 := by rw [← hH3]; exact Keep.set e2b (List.mem_cons_self ..)
      have e1c : H3 p = some (.lst (((ps ++ [[40]]).map tx).map V.str)) := by rw [← hH3, upd_ne sp.symm]; exact e1b
      have e2c : H3 s0 = some (.lst (vs' ++ [.str ")"])) := by rw [← hH3, upd_same]
      have k4' : Keep [] H H3 := (k3'.cons.trans (k4.mono (by simp))).drop ns0
      have hS3 : SqT K H3 a ws := (k4.sqT (k3.sqT hS))
      have tws3 : Trs K H3 ws ts := (tws.keep k3).keep k4
      have trs3 : Trs K H3 (vs' ++ [.str ")"]) (its' ++ [.w [41]]) := by
        refine (((trs'.keep k2).keep k3).keep k4).append (Trs.one ?_)
        rw [lit_close]
        exact tr_w
      have wl := tws.length
      -- the loop
      refine ⟨_, rfl, a, ws, rfl, .inr hS3, _, _, rfl, rfl, _, rfl, _, rfl, _, _, _, _, rfl, RgC.neg (by omega) (by have := tsl; omega) (by decide) (by decide), ?_⟩
      rw [wl, show ((ts.length : Int) - 1 - -1).toNat = ts.length by omega]
      refine for_rangeC (lo := (ts.length : Int) - 1) (c := -1) (n := ts.length) (fun i σ H' => ∃ (y4 : Option V) (us : List Tree) (zs : List V), σ = [some v, some (.ref p), some (.ref s0), some (.ref a), y4] ∧
        Keep [] H H' ∧ SqT K H' a ws ∧ Trs K H' ws ts ∧ H' p = some (.lst (((ps ++ [[40]]).map tx).map V.str)) ∧ H' s0 = some (.lst zs) ∧ Trs K H' zs us ∧ (∀ x ∈ us, OkI x) ∧ us.length ≤ its'.length + 1 + 2 * i ∧ stx us = part ts i ++ (41 :: stx its'))
        ⟨_, its' ++ [.w [41]], _, rfl, k4', hS3, tws3, e1c, e2c, trs3, ?_, ?_, ?_⟩ (fun i σ H4 hi pw => ?_) (fun σ H4 pw => ?_)
      · intro y m
        rcases List.mem_append.mp m with m | m
        · exact ok' y m
        · rw [List.mem_singleton.mp m]; exact .inr ⟨41, rfl⟩
      · rw [List.length_append, List.length_singleton]; omega
      · rw [stx_app, txt_w, part_zero]; rfl
      · -- one turn
        obtain ⟨y4, us, zs, rfl, k5, hS5, tws5, e15, e25, tr5, ok5, len5, tx5⟩ := pw
        have hat : (ts.length : Int) - 1 + (i : Int) * -1 = ((ts.length - 1 - i : Nat) : Int) := by omega
        have hlt : ts.length - 1 - i < ts.length := by omega
        obtain ⟨y, hy, ty5⟩ := tws5.get (List.getElem?_eq_getElem hlt)
        have zsl := tr5.length
        have i'l := stx_len ok'
        refine ⟨_, rfl, .inl ⟨rfl, _, SqL.of e25⟩, _, rfl, _, rfl, a, ws, _, y, rfl, rfl, hS5, by rw [hat]; exact atI_nat hy, s0, _, _, rfl, rfl, e25, ?_, ?_⟩
        · exact Nat.lt_of_le_of_lt (show _ ≤ 4000000 by omega) (by decide)
        generalize hH5 : upd H4 s0 (.lst (zs ++ [y])) = H5
        have k6 : Keep [s0] H4 H5 := by rw [← hH5]; exact Keep.set e25 (List.mem_cons_self ..)
        have k6' : Keep [] H H5 := (k5.cons.trans (k6.mono (by simp))).drop ns0
        have e26 : H5 s0 = some (.lst (zs ++ [y])) := by rw [← hH5, upd_same]
        have e16 : H5 p = some (.lst (((ps ++ [[40]]).map tx).map V.str)) := by rw [← hH5, upd_ne sp.symm]; exact e15
        have tr6 : Trs K H5 (zs ++ [y]) (us ++ [ts[ts.length - 1 - i]]) := (tr5.keep k6).append (Trs.one (ty5.keep k6))
        have ok6 : ∀ x ∈ us ++ [ts[ts.length - 1 - i]], OkI x := by
          intro z m
          rcases List.mem_append.mp m with m | m
          · exact ok5 z m
          · rw [List.mem_singleton.mp m]; exact .inl (wts.all _ (List.getElem_mem hlt))
        refine ⟨_, rfl, _, _, rfl, rfl, _, rfl, ?_⟩
        rw [hat]
        by_cases hz : ts.length - 1 - i = 0
        · rw [decide_eq_false (by omega)]
          refine iteF ⟨_, _, _, rfl, k6', k6.sqT hS5, tws5.keep k6, e16, e26, tr6, ok6, by rw [List.length_append, List.length_singleton]; omega, ?_⟩
          rw [stx_app, tx5, part_last (by omega) ts[ts.length - 1 - i] (by rw [← List.getElem?_eq_getElem hlt, hz]), List.append_assoc]
        · rw [decide_eq_true (by omega)]
          refine iteT ⟨_, rfl, .inl ⟨rfl, _, SqL.of e26⟩, s0, _, _, rfl, rfl, e26, ?_, ?_⟩
          · rw [List.length_append, List.length_singleton]
            exact Nat.lt_of_le_of_lt (show _ ≤ 4000000 by omega) (by decide)
          have k7 : Keep [s0] H5 (upd H5 s0 (.lst (zs ++ [y] ++ [.str " "]))) := Keep.set e26 (List.mem_cons_self ..)
          refine ⟨_, us ++ [ts[ts.length - 1 - i]] ++ [.w [32]], _, rfl, (k6'.cons.trans (k7.mono (by simp))).drop ns0, k7.sqT (k6.sqT hS5), (tws5.keep k6).keep k7, by rw [upd_ne sp.symm]; exact e16, upd_same, (tr6.keep k7).append (Trs.one (by rw [lit_blank]; exact tr_w)), ?_, ?_, ?_⟩
          · intro z m
            rcases List.mem_append.mp m with m | m
            · exact ok6 z m
            · rw [List.mem_singleton.mp m]; exact .inr ⟨32, rfl⟩
          · rw [List.length_append, List.length_append, List.length_singleton, List.length_singleton]; omega
          · rw [stx_app, stx_app, tx5, txt_w, part_more (by omega) ts[ts.length - 1 - i] (List.getElem?_eq_getElem hlt)]
            simp
      · -- behind the loop
        obtain ⟨y4, us, zs, rfl, k5, hS5, tws5, e15, e25, tr5, ok5, len5, tx5⟩ := pw
        rw [part_all] at tx5
        refine ⟨(stx us).length, ?_, ?_⟩
        · rw [tx5, stx_app, txt_l, List.length_append, List.length_append, List.length_cons, List.length_cons, List.length_append, List.length_singleton]
          omega
        · rw [hW]
          refine ⟨_, _, ps ++ [[40]], us, zs, rfl, rfl, k5, e15, e25, tr5, ok5, ?_, ?_⟩
          · intro y m
            rcases List.mem_append.mp m with m | m
            · exact ne y m
            · rw [List.mem_singleton.mp m]; simp
          · rw [tx5, List.flatten_append, ← tot]
            simp
end
end Og

namespace Og
open PySem PySem.Spec PyProof.Rows L2
/-! ### read_value on a text that holds the tokens of a tree -/
/-- the open lists: at as, the innermost first; none has more than n items -/
def Stk (K : PySem.W.Frag) (H : Hp) (n : Nat) : List Addr → List (List Tree) → Prop
  | [], [] => True
  | a :: as, l :: st => (∃ vs, H a = some (.lst vs) ∧ Trs K H vs l ∧ vs.length ≤ n) ∧ Stk K H n as st
  | _, _ => False
theorem Stk.keep {K : PySem.W.Frag} {S : List Addr} {H H1 : Hp} {n m : Nat} (k : Keep S H H1) (hn : n ≤ m) : ∀ {as : List Addr} {st : List (List Tree)}, (∀ a ∈ as, a ∉ S) → Stk K H n as st → Stk K H1 m as st
  | [], [], _, _ => trivial
  | a :: as, l :: st, d, ⟨⟨vs, e, tr, hl⟩, h⟩ => ⟨⟨vs, k.get e (d a (List.mem_cons_self ..)), tr.keep k, Nat.le_trans hl hn⟩, Stk.keep k hn (fun x m => d x (List.mem_cons_of_mem _ m)) h⟩
  | [], _ :: _, _, h => h.elim
  | _ :: _, [], _, h => h.elim
theorem Stk.some {K : PySem.W.Frag} {H : Hp} {n : Nat} : ∀ {as : List Addr} {st : List (List Tree)}, Stk K H n as st → ∀ a ∈ as, ∃ o, H a = some o
  | [], _, _, a, m => absurd m (List.not_mem_nil)
  | b :: as, l :: st, ⟨⟨vs, e, _⟩, h⟩, a, m => by
    rcases List.mem_cons.mp m with q | q
    · rw [q]; exact ⟨_, e⟩
    · exact Stk.some h a q
  | _ :: _, [], h, _, _ => h.elim
theorem Stk.len {K : PySem.W.Frag} {H : Hp} {n : Nat} : ∀ {as : List Addr} {st : List (List Tree)}, Stk K H n as st → as.length = st.length
  | [], [], _ => rfl
  | _ :: _, _ :: _, ⟨_, h⟩ => by rw [List.length_cons, List.length_cons, Stk.len h]
  | [], _ :: _, h => h.elim
  | _ :: _, [], h => h.elim
def Going (K : PySem.W.Frag) (H0 H : Hp) (u b : Addr) (n : Nat) (toks : List (List Nat)) (t : Tree) : Prop :=
  Keep [] H0 H ∧ ((∃ as st, H u = some (.lst ((b :: as.reverse).map V.ref)) ∧ H b = some (.lst []) ∧ Stk K H n as st ∧ (u :: b :: as).Nodup ∧ (∀ a ∈ as, H0 a = none) ∧ as.length ≤ n ∧ reads toks st = some t) ∨
    (∃ v, H u = some (.lst [.ref b]) ∧ H b = some (.lst [v]) ∧ Tr K H v t ∧ toks = []))
def weight (K : PySem.W.Frag) (H : Hp) (b : Addr) (toks : List (List Nat)) : Nat := toks.length
theorem Blanks.free {g cs' : List Nat} (h : Blanks g) (ne : g ≠ []) : Free (g ++ cs') := by
  obtain ⟨c, r, rfl⟩ := List.exists_cons_of_ne_nil ne
  intro d r' e hs
  have e1 := (List.cons.inj e).1
  subst e1
  rcases h c (List.mem_cons_self ..) with q | q <;> rcases hs with ⟨h1, _⟩ | ⟨h1, h2⟩ <;> omega
section
variable {P : Program} {w : World} {K : PySem.W.Frag} {mg : Str → Option Value} {base : Heap}
def spRead (K : PySem.W.Frag) : Sp := fun vs H Q _ => ∃ (g cs : List Nat) (toks : List (List Nat)) (t : Tree), vs = [.str (tx (g ++ cs))] ∧ Blanks g ∧ Rest cs toks ∧ (∀ x ∈ toks, IsTok x) ∧ reads toks [] = some t ∧ (g ++ cs).length ≤ 4000000 ∧
  ∀ (v : V) (H' : Hp), Tr K H' v t → Keep [] H H' → Q v H'
theorem has_read {k : Nat} (D : DefAt K mg "read_value" s_read_value p_read_value) (B : Bn mg) (c1 : Has P w K mg base k "_behind_blanks" p_behind_blanks spBlanks) (c2 : Has P w K mg base k "_word_at" p_word_at spWordAt) :
    Has P w K mg base (k + 1) "read_value" p_read_value (spRead K) := by
  obtain ⟨f, fd, F, hm, hb⟩ := D.ex
  obtain ⟨_, _, c_behind_blanks⟩ := c1
  obtain ⟨_, _, c_word_at⟩ := c2
  refine ⟨f, fd, F.ok sc_read_value (fun vs H Q E h => ?_) (fun cdv A outer s H vs Q E hr h => ?_), hm, F.kp, hb⟩
  · obtain ⟨_, _, _, _, rfl, _⟩ := h
    rfl
  obtain ⟨g0, cs0, toks0, t, rfl, bl0, rest0, tk0, rd0, sz0, q⟩ := h
  refine ⟨_, (pss_cons (ps_set (i := 1) sc_read_value.nd rfl (.inl rfl) (pe_lst (pa_cons (pe_lst pa_nil) pa_nil)))
    (pss_cons (ps_set (i := 2) sc_read_value.nd rfl (.inl rfl) (cal c_behind_blanks hr rfl (pa_cons (pv 0) (pa_cons pe_int pa_nil))))
    (pss_cons (ps_while PassesOwn.never (pt_not (pt_truth (pe_ix ix_list (pv 1) pe_int (fun _ _ => rfl)) (by intro _; rfl))) (pss_cons (ps_if (pt_cmpR op_eq (pv 2) (pe_callB call_len_str (by rfl) B.len PySem.boot_len (pa_cons (pv 0) pa_nil)) (nomark _)) (pss_one ps_never) pss_nil)
      (C8.pss_cut (ps_if (pt_cmpR op_eq (pe_ix ix_str (pv 0) (pv 2) (fun _ _ => rfl)) pe_str (nomark _)) (pss_cons (ps_expr (pe_bm PySem.F.plainAttrs_list PySem.F.slot_list_append PySem.F.type_list_append mt_append (pv 1) (pa_cons (pe_lst pa_nil) pa_nil)))
        (pss_one (ps_aug (i := 2) sc_read_value.nd rfl (.inl rfl) pe_int ip_add))) (pss_one (ps_if (PW.pt (pw_and (pt_cmpR op_eq (pe_ix ix_str (pv 0) (pv 2) (fun _ _ => rfl)) pe_str (nomark _)) (pw_and1 (pt_cmpR op_gt (pe_callB call_len_seq (by rfl) B.len PySem.boot_len (pa_cons (pv 1) pa_nil)) pe_int (nomark _))))) (pss_cons (ps_set (i := 3) sc_read_value.nd rfl (.inl rfl) (pe_bm0 PySem.F.plainAttrs_list PySem.F.slot_list_pop PySem.F.type_list_pop mt_pop (pv 1)))
          (pss_cons (ps_expr (pe_bm PySem.F.plainAttrs_list PySem.F.slot_list_append PySem.F.type_list_append mt_append (pe_ix ix_list (pv 1) (pe_un un_neg pe_int) (fun _ _ => rfl)) (pa_cons (pe_callTy call_tuple_of (by rfl) B.tuple (by decide +kernel) (pa_cons (pv 3) pa_nil)) pa_nil)))
          (pss_one (ps_aug (i := 2) sc_read_value.nd rfl (.inl rfl) pe_int ip_add)))) (pss_cons (ps_set (i := 4) sc_read_value.nd rfl (.inl rfl) (cal c_word_at hr rfl (pa_cons (pv 0) (pa_cons (pv 2) pa_nil))))
          (pss_cons (ps_expr (pe_bm PySem.F.plainAttrs_list PySem.F.slot_list_append PySem.F.type_list_append mt_append (pe_ix ix_list (pv 1) (pe_un un_neg pe_int) (fun _ _ => rfl)) (pa_cons (pv 4) pa_nil)))
          (pss_one (ps_aug (i := 2) sc_read_value.nd rfl (.inl rfl) (pe_callB call_len_str (by rfl) B.len PySem.boot_len (pa_cons (pv 4) pa_nil)) ip_add)))))))
      (pss_one (ps_set (i := 2) sc_read_value.nd rfl (.inl rfl) (cal c_behind_blanks hr rfl (pa_cons (pv 0) (pa_cons (pv 2) pa_nil))))))))
    (pss_cons (ps_if (pt_cmpR op_lt (pv 2) (pe_callB call_len_str (by rfl) B.len PySem.boot_len (pa_cons (pv 0) pa_nil)) (nomark _)) (pss_one ps_never) pss_nil)
    (pss_one (ps_ret (pe_ix ix_list (pe_ix ix_list (pv 1) pe_int (fun _ _ => rfl)) pe_int (fun _ _ => rfl)))))))), ?_⟩
  generalize hcs : g0 ++ cs0 = cs at sz0
  have sz : (tx cs).length ≤ sizeLine := by rw [tx_len]; exact Nat.le_trans sz0 (by decide)
  -- unfinished = [[]]
  refine ⟨Nat.zero_le _, fun b nb => ?_⟩
  refine ⟨by show (1 : Nat) ≤ sizeLine; decide, fun u nu => ?_⟩
  have ub : u ≠ b := by intro e; rw [e, upd_same] at nu; cases nu
  have k0 : Keep [] H (upd (upd H b (.lst [])) u (.lst [.ref b])) := (Keep.new nb).newT nu
  have nu0 : H u = none := (Keep.new (S := []) nb).free nu
  generalize hHa : upd (upd H b (.lst [])) u (.lst [.ref b]) = Ha at k0
  have ea : Ha u = some (.lst [.ref b]) := by rw [← hHa, upd_same]
  have eb : Ha b = some (.lst []) := by rw [← hHa, upd_ne ub.symm, upd_same]
  -- at = _behind_blanks(text, 0)
  refine ⟨_, rfl, cs, 0, rfl, Nat.zero_le _, sz0, fun j g' h1 h2 h3 h4 h5 h6 => ?_⟩
  have nbk := rest0.noBlank tk0
  rw [List.drop_zero] at h3
  obtain ⟨eg, ec⟩ := blanks_one bl0 h4 nbk h5 (hcs.trans h3)
  obtain ⟨W, hW⟩ : ∃ W : Nat → L2.St → Hp → Prop, W = fun m σ H' => ∃ (y3 y4 : Option V) (i : Nat) (toks : List (List Nat)), σ = [some (.str (tx cs)), some (.ref u), some (.int i), y3, y4] ∧ m = toks.length ∧ i ≤ cs.length ∧ Rest (cs.drop i) toks ∧ (∀ x ∈ toks, IsTok x) ∧ Going K H H' u b i toks t := ⟨_, rfl⟩
  refine ⟨W, ⟨toks0.length, ?_⟩, fun m σ H1 pw => ?_⟩
  · rw [hW]
    refine ⟨none, none, j, toks0, rfl, rfl, h2, by rw [← ec]; exact rest0, tk0, k0, .inl ⟨[], [], ea, eb, trivial, ?_, by simp, Nat.zero_le _, rd0⟩⟩
    simp [ub]
  clear eg ec h1 h2 h3 h4 h5 h6 ea eb hHa k0 nbk
  rw [hW] at pw
  obtain ⟨y3, y4, i, toks, rfl, rfl, hi, rest, tks, k1, go⟩ := pw
  rcases go with ⟨as, st, eu, eb, stk, nd, fresh, asl, rd⟩ | ⟨v, eu, eb, tv, rfl⟩
  · -- the reading goes on
    refine ⟨_, rfl, u, _, _, _, rfl, rfl, SqL.of eu, atI_zero _ _, _, tru_list eb, ?_⟩
    refine iteT ⟨fun σ' H' => ∃ m', m' < toks.length ∧ W m' σ' H', fun _ _ h => h, ?_⟩
    cases toks with
    | nil => cases rd
    | cons tk r =>
    obtain ⟨g, cs', e0, bg, fr, rest'⟩ := rest
    have tkok := tks tk (List.mem_cons_self ..)
    have tks' : ∀ x ∈ r, IsTok x := fun x m => tks x (List.mem_cons_of_mem _ m)
    obtain ⟨c, tr, etk, _, _⟩ := tkok.first
    have lene : i + tk.length + g.length + cs'.length = cs.length := by
      have := congrArg List.length e0
      rw [List.length_drop, List.length_append, List.length_append] at this
      omega
    have tkl : 0 < tk.length := List.length_pos_iff.mpr tkok.ne
    have hci : atI cs (i : Int) = some c := atI_nat (by
      have := drop_get (e := 0) e0
      rw [Nat.add_zero] at this
      rw [this, etk]; rfl)
    have ddrop : cs.drop (i + tk.length) = g ++ cs' := by
      rw [← List.drop_drop, e0, List.drop_left]
    have nu1 : u ≠ b := ub
    have asu : ∀ a ∈ as, a ≠ u := fun a m e => (List.nodup_cons.mp nd).1 (List.mem_cons_of_mem _ (e ▸ m))
    have asb : ∀ a ∈ as, a ≠ b := fun a m e => (List.nodup_cons.mp (List.nodup_cons.mp nd).2).1 (e ▸ m)
    have ndas : as.Nodup := (List.nodup_cons.mp (List.nodup_cons.mp nd).2).2
    -- if at == len(text)
    refine ⟨_, rfl, _, rfl, _, rfl, sz, rfl, _, rfl, ?_⟩
    rw [tx_len, decide_eq_false (fun z => by have := V.int.inj z; omega)]
    refine iteF ?_
    -- the three ways, up to the blanks
    refine ⟨fun σ' H' => ∃ y3 y4, σ' = [some (.str (tx cs)), some (.ref u), some (.int ((i + tk.length : Nat) : Int)), y3, y4] ∧ Going K H H' u b (i + tk.length) r t, ?_, fun σ' H' hmid => ?_⟩
    · refine ⟨_, rfl, _, rfl, _, _, c, rfl, rfl, sz, hci, rfl, _, rfl, ?_⟩
      by_cases hop : tk = [40]
      · subst hop
        have e1 := (List.cons.inj etk).1
        subst e1
        rw [lit_open, decide_eq_true (show V.str ⟨#[40]⟩ = V.str (tx [40]) from rfl)]
        refine iteT ?_
        refine ⟨_, rfl, .inl ⟨rfl, _, SqL.of eu⟩, Nat.zero_le _, fun n nn => ?_⟩
        have un : u ≠ n := ne_of_none eu nn
        have bn : b ≠ n := ne_of_none eb nn
        have eu2 : (upd H1 n (.lst [])) u = some (.lst ((b :: as.reverse).map V.ref)) := by rw [upd_ne un]; exact eu
        refine ⟨u, _, _, rfl, rfl, eu2, ?_, ?_⟩
        · rw [List.length_map, List.length_cons, List.length_reverse]
          exact Nat.lt_of_le_of_lt (show _ ≤ 4000001 by omega) (by decide)
        refine ⟨_, rfl, _, _, rfl, rfl, _, _, rfl, ?_⟩
        have kn : Keep [] H1 (upd H1 n (.lst [])) := Keep.new nn
        have ku : Keep [u] (upd H1 n (.lst [])) (upd (upd H1 n (.lst [])) u (.lst ((b :: as.reverse).map V.ref ++ [.ref n]))) := Keep.set eu2 (List.mem_cons_self ..)
        refine ⟨((k1.trans kn).cons.trans (ku.mono (by simp))).drop nu0, .inl ⟨n :: as, [] :: st, ?_, ?_, ⟨⟨[], ?_, trs_nil, Nat.zero_le _⟩, ?_⟩, ?_, ?_, ?_, ?_⟩⟩
        · rw [upd_same, List.reverse_cons]
          simp
        · rw [upd_ne ub.symm, upd_ne bn]; exact eb
        · rw [upd_ne un.symm, upd_same]
        · exact (stk.keep (m := i) kn (Nat.le_refl _) (by simp)).keep ku (by omega) (fun a m => by simpa using asu a m)
        · have na : n ∉ as := fun m => by
            obtain ⟨o, e⟩ := stk.some n m
            rw [nn] at e; cases e
          simp only [List.nodup_cons, List.mem_cons, not_or] at nd ⊢
          exact ⟨⟨ub, un, nd.1.2⟩, ⟨bn, nd.2.1⟩, na, nd.2.2⟩
        · intro a m
          rcases List.mem_cons.mp m with e | m
          · rw [e]; exact k1.free nn
          · exact fresh a m
        · rw [List.length_cons]
          have : ([40] : List Nat).length = 1 := rfl
          omega
        · rw [reads_open] at rd; exact rd
      · have c40 : c ≠ 40 := by
          intro e
          subst e
          rcases tkok with h | h | ⟨d, r', h, hl, _⟩
          · exact hop h
          · rw [h] at etk; cases etk
          · rw [h] at etk
            have := (List.cons.inj etk).1
            rw [this] at hl
            exact absurd hl.1 (by decide)
        rw [lit_open, decide_eq_false (show ¬ V.str ⟨#[c]⟩ = V.str (tx [40]) from fun z => c40 (List.cons.inj (tx_str (a := [c]) z)).1)]
        refine iteF ?_
        refine ⟨_, rfl, _, rfl, _, _, c, rfl, rfl, sz, hci, rfl, _, rfl, ?_⟩
        -- where the next item goes: the innermost open list, or the one that takes the whole
        have put : ∀ (H2 : Hp) (as : List Addr) (st : List (List Tree)) (x : V) (tt : Tree) (y3 y4 : Option V), Keep [] H H2 → H2 u = some (.lst ((b :: as.reverse).map V.ref)) → H2 b = some (.lst []) → Stk K H2 i as st → (u :: b :: as).Nodup → (∀ a ∈ as, H a = none) → as.length ≤ i → Tr K H2 x tt →
            (∀ l st', st = l :: st' → reads r ((l ++ [tt]) :: st') = some t) → (st = [] → r = [] ∧ tt = t) →
            ∃ (p : Addr) (vs : List V), atI ((b :: as.reverse).map V.ref) (-1) = some (.ref p) ∧ p ≠ u ∧ H2 p = some (.lst vs) ∧ vs.length < sizeLine ∧ Going K H (upd H2 p (.lst (vs ++ [x]))) u b (i + tk.length) r t := by
          intro H2 as st x tt y3 y4 kk eu eb stk nd fresh asl tx1 hgo hend
          have nub : u ≠ b := ub
          cases as with
          | nil =>
            cases st with
            | cons l st' => exact stk.elim
            | nil =>
              obtain ⟨er, et⟩ := hend rfl
              subst er et
              refine ⟨b, [], rfl, ub.symm, eb, (by decide), ?_⟩
              have kb : Keep [b] H2 (upd H2 b (.lst ([] ++ [x]))) := Keep.set eb (List.mem_cons_self ..)
              exact ⟨(kk.cons.trans (kb.mono (by simp))).drop nb, .inr ⟨x, by rw [upd_ne ub]; exact eu, upd_same, tx1.keep kb, rfl⟩⟩
          | cons a as' =>
            cases st with
            | nil => exact stk.elim
            | cons l st' =>
              obtain ⟨⟨vs, ea, ta, la⟩, stk'⟩ := stk
              have nau : a ≠ u := fun e => (List.nodup_cons.mp nd).1 (by rw [e]; simp)
              have nab : a ≠ b := fun e => (List.nodup_cons.mp (List.nodup_cons.mp nd).2).1 (by rw [e]; simp)
              have naas : a ∉ as' := (List.nodup_cons.mp (List.nodup_cons.mp (List.nodup_cons.mp nd).2).2).1
              refine ⟨a, vs, ?_, nau, ea, Nat.lt_of_le_of_lt (show _ ≤ 4000000 by omega) (by decide), ?_⟩
              · rw [List.reverse_cons, ← List.cons_append, List.map_append]
                exact atI_last _ _
              · have ka : Keep [a] H2 (upd H2 a (.lst (vs ++ [x]))) := Keep.set ea (List.mem_cons_self ..)
                refine ⟨(kk.cons.trans (ka.mono (by simp))).drop (fresh a (List.mem_cons_self ..)), .inl ⟨a :: as', (l ++ [tt]) :: st', by rw [upd_ne nau.symm]; exact eu, by rw [upd_ne nab.symm]; exact eb, ⟨⟨vs ++ [x], upd_same, (ta.append (Trs.one tx1)).keep ka, ?_⟩, stk'.keep ka (by omega) ?_⟩, nd, fresh, by omega, hgo l st' rfl⟩⟩
                · rw [List.length_append, List.length_singleton]; omega
                · intro z m
                  rw [List.mem_singleton]
                  intro e
                  rw [e] at m
                  exact naas m
        by_cases hcl : tk = [41]
        · subst hcl
          have e1 := (List.cons.inj etk).1
          subst e1
          rw [lit_close, decide_eq_true (show V.str ⟨#[41]⟩ = V.str (tx [41]) from rfl)]
          refine iteT ?_
          cases as with
          | nil =>
            cases st with
            | cons l st' => exact stk.elim
            | nil => rw [reads_close0] at rd; cases rd
          | cons a as' =>
          cases st with
          | nil => exact stk.elim
          | cons l st' =>
          obtain ⟨⟨vs, ea, ta, la⟩, stk'⟩ := stk
          have nau : a ≠ u := asu a (List.mem_cons_self ..)
          have nab : a ≠ b := asb a (List.mem_cons_self ..)
          refine ⟨_, rfl, u, _, rfl, .inl (SqL.of eu), _, _, rfl, rfl, _, rfl, ?_⟩
          have hlen : ((b :: (a :: as').reverse).map V.ref).length = as'.length + 2 := by simp
          rw [hlen, decide_eq_true (by omega)]
          refine iteT ?_
          -- items = unfinished.pop()
          have eu' : H1 u = some (.lst (((b :: as'.reverse).map V.ref) ++ [.ref a])) := by rw [eu, List.reverse_cons, ← List.cons_append, List.map_append]; rfl
          refine ⟨_, rfl, .inl ⟨rfl, _, SqL.of eu'⟩, u, _, _, rfl, rfl, eu', last_get _ _, ?_⟩
          rw [List.dropLast_concat]
          generalize hH2 : upd H1 u (.lst ((b :: as'.reverse).map V.ref)) = H2
          have ku : Keep [u] H1 H2 := by rw [← hH2]; exact Keep.set eu' (List.mem_cons_self ..)
          have eu2 : H2 u = some (.lst ((b :: as'.reverse).map V.ref)) := by rw [← hH2, upd_same]
          have eb2 : H2 b = some (.lst []) := by rw [← hH2, upd_ne ub.symm]; exact eb
          have ea2 : H2 a = some (.lst vs) := by rw [← hH2, upd_ne nau]; exact ea
          have k2 : Keep [] H H2 := (k1.cons.trans (ku.mono (by simp))).drop nu0
          have stk2 := stk'.keep ku (Nat.le_refl _) (fun z m => by simpa using asu z (List.mem_cons_of_mem _ m))
          have nd2 : (u :: b :: as').Nodup := by
            simp only [List.nodup_cons, List.mem_cons, not_or] at nd ⊢
            exact ⟨⟨nd.1.1, nd.1.2.2⟩, nd.2.1.2, nd.2.2.2⟩
          obtain ⟨p, ws, hp1, hp2, hp3, hp4, hp5⟩ : ∃ (p : Addr) (ws : List V), atI ((b :: as'.reverse).map V.ref) (-1) = some (.ref p) ∧ p ≠ u ∧ H2 p = some (.lst ws) ∧ ws.length < sizeLine ∧ True := by
            cases as' with
            | nil => exact ⟨b, [], rfl, ub.symm, eb2, by decide, trivial⟩
            | cons a2 as2 =>
              cases st' with
              | nil => exact stk2.elim
              | cons l2 st2 =>
                obtain ⟨⟨ws, e, _, lw⟩, _⟩ := stk2
                refine ⟨a2, ws, ?_, asu a2 (by simp), e, Nat.lt_of_le_of_lt (show _ ≤ 4000000 by omega) (by decide), trivial⟩
                rw [List.reverse_cons, ← List.cons_append, List.map_append]
                exact atI_last _ _
          clear hp5
          refine ⟨_, rfl, _, rfl, _, _, _, _, rfl, rfl, SqL.of eu2, hp1, .inl ⟨rfl, _, SqL.of hp3⟩, _, rfl, a, vs, rfl, .inl ⟨SqL.of ea2, fun tp ntp => ?_⟩⟩
          have kt : Keep [] H2 (upd H2 tp (.tup vs)) := Keep.new ntp
          have tv : Tr K (upd H2 tp (.tup vs)) (.ref tp) (.l l) := tr_tup upd_same ((ta.keep ku).keep kt)
          obtain ⟨p', ws', g1, g2, g3, g4, g5⟩ := put (upd H2 tp (.tup vs)) as' st' (.ref tp) (.l l) none none (k2.trans kt) (kt.get eu2 (by simp)) (kt.get eb2 (by simp)) (stk2.keep kt (Nat.le_refl _) (by simp)) nd2 (fun z m => fresh z (List.mem_cons_of_mem _ m)) (by rw [List.length_cons] at asl; omega) tv
            (fun l2 st2 e => by rw [e, reads_close] at rd; exact rd) (fun e => by
              rw [e, reads_close1] at rd
              split at rd
              · rename_i hr
                exact ⟨hr, Option.some.inj rd⟩
              · cases rd)
          rw [hp1] at g1
          cases g1
          refine ⟨p, ws', _, rfl, rfl, g3, g4, ?_⟩
          refine ⟨_, rfl, _, _, rfl, rfl, _, _, rfl, g5⟩
        · have wtk : IsWord tk := tkok.word hop hcl
          have c41 : c ≠ 41 := by
            intro e
            subst e
            obtain ⟨d, r', h, hl, _⟩ := wtk
            rw [h] at etk
            have := (List.cons.inj etk).1
            rw [this] at hl
            exact absurd hl.1 (by decide)
          rw [lit_close, decide_eq_false (show ¬ V.str ⟨#[c]⟩ = V.str (tx [41]) from fun z => c41 (List.cons.inj (tx_str (a := [c]) z)).1)]
          refine iteF (iteF ?_)
          have free : Free (g ++ cs') := by
            by_cases hg : g = []
            · rw [hg]; exact fr wtk hg
            · exact bg.free hg
          refine ⟨_, rfl, _, rfl, cs, tk, g ++ cs', i, rfl, e0, wtk, free, sz0, ?_⟩
          obtain ⟨p', ws', g1, g2, g3, g4, g5⟩ := put H1 as st (.str (tx tk)) (.w tk) none none k1 eu eb stk nd fresh asl tr_w
            (fun l2 st2 e => by rw [e, reads_word hop hcl] at rd; exact rd) (fun e => by
              rw [e, reads_word0 hop hcl] at rd
              split at rd
              · rename_i hr
                exact ⟨hr, Option.some.inj rd⟩
              · cases rd)
          refine ⟨_, rfl, _, rfl, _, _, _, _, rfl, rfl, SqL.of eu, g1, .inl ⟨rfl, _, SqL.of g3⟩, _, rfl, p', ws', _, rfl, rfl, g3, g4, ?_⟩
          refine ⟨_, rfl, _, rfl, _, rfl, ?_, _, _, rfl, rfl, y3, some (.str (tx tk)), ?_, g5⟩
          · rw [tx_len]; exact Nat.le_trans (show _ ≤ 4000000 by omega) (by decide)
          · rw [tx_len]; rfl
    · obtain ⟨y3, y4, rfl, go⟩ := hmid
      refine ⟨_, rfl, _, rfl, cs, i + tk.length, rfl, by omega, sz0, fun j g' h1 h2 h3 h4 h5 h6 => ?_⟩
      rw [ddrop] at h3
      obtain ⟨eg, ec⟩ := blanks_one bg h4 (rest'.noBlank tks') h5 h3
      refine ⟨r.length, Nat.lt_succ_self _, ?_⟩
      rw [hW]
      refine ⟨_, _, j, r, rfl, rfl, h2, by rw [← ec]; exact rest', tks', ?_⟩
      obtain ⟨kk, go⟩ := go
      refine ⟨kk, ?_⟩
      rcases go with ⟨as, st, g1, g2, g3, g4, g5, g6, g7⟩ | go
      · exact .inl ⟨as, st, g1, g2, g3.keep (S := []) Keep.refl h1 (by simp), g4, g5, by omega, g7⟩
      · exact .inr go
  · -- the whole is read
    refine ⟨_, rfl, u, _, _, _, rfl, rfl, SqL.of eu, rfl, _, tru_list eb, ?_⟩
    refine iteF ?_
    have e0 : cs.drop i = [] := rest
    have : cs.length ≤ i := List.drop_eq_nil_iff.mp e0
    refine ⟨_, rfl, _, rfl, _, rfl, sz, _, _, rfl, rfl, _, rfl, ?_⟩
    rw [tx_len, decide_eq_false (by omega)]
    refine iteF ⟨_, rfl, u, _, _, _, rfl, rfl, SqL.of eu, rfl, b, _, _, _, rfl, rfl, SqL.of eb, rfl, ?_⟩
    exact q v _ tv k1
end
end Og

namespace Og
open PySem PySem.Spec PyProof.Rows L2
/-! ### pairs of trees, compared -/
def Prs (K : PySem.W.Frag) (H : Hp) : List V → List (Tree × Tree) → Prop
  | vs, [] => vs = []
  | vs, p :: ps => ∃ a x y r, vs = .ref a :: r ∧ H a = some (.tup [x, y]) ∧ Tr K H x p.1 ∧ Tr K H y p.2 ∧ Prs K H r ps
theorem Prs.keep {K : PySem.W.Frag} {S : List Addr} {H H1 : Hp} (k : Keep S H H1) : ∀ {vs : List V} {ps : List (Tree × Tree)}, Prs K H vs ps → Prs K H1 vs ps
  | vs, [], h => h
  | vs, p :: ps, ⟨a, x, y, r, e, ea, h1, h2, h3⟩ => ⟨a, x, y, r, e, k.tup ea, h1.keep k, h2.keep k, Prs.keep k h3⟩
theorem Prs.app {K : PySem.W.Frag} {H : Hp} {vs2 : List V} {ps2 : List (Tree × Tree)} (g : Prs K H vs2 ps2) : ∀ {vs : List V} {ps : List (Tree × Tree)}, Prs K H vs ps → Prs K H (vs ++ vs2) (ps ++ ps2)
  | vs, [], h => by rw [show vs = [] from h]; exact g
  | vs, p :: ps, ⟨a, x, y, r, e, ea, h1, h2, h3⟩ => ⟨a, x, y, r ++ vs2, by rw [e]; rfl, ea, h1, h2, Prs.app g h3⟩
theorem Prs.len {K : PySem.W.Frag} {H : Hp} : ∀ {vs : List V} {ps : List (Tree × Tree)}, Prs K H vs ps → vs.length = ps.length
  | vs, [], h => by rw [show vs = [] from h]; rfl
  | vs, p :: ps, ⟨a, x, y, r, e, ea, h1, h2, h3⟩ => by rw [e, List.length_cons, List.length_cons, Prs.len h3]
theorem Prs.snoc {K : PySem.W.Frag} {H : Hp} {p : Tree × Tree} : ∀ {ps : List (Tree × Tree)} {vs : List V}, Prs K H vs (ps ++ [p]) → ∃ vs' a x y, vs = vs' ++ [.ref a] ∧ Prs K H vs' ps ∧ H a = some (.tup [x, y]) ∧ Tr K H x p.1 ∧ Tr K H y p.2
  | [], vs, ⟨a, x, y, r, e, ea, h1, h2, h3⟩ => ⟨[], a, x, y, by rw [e, show r = [] from h3]; rfl, rfl, ea, h1, h2⟩
  | q :: ps, vs, ⟨a, x, y, r, e, ea, h1, h2, h3⟩ => by
    obtain ⟨vs', a', x', y', e', g1, g2, g3, g4⟩ := Prs.snoc h3
    exact ⟨.ref a :: vs', a', x', y', by rw [e, e']; rfl, ⟨a, x, y, vs', rfl, ea, h1, h2, g1⟩, g2, g3, g4⟩
/-- how many parts the second ones have -/
def psz (ps : List (Tree × Tree)) : Nat := (ps.map fun p => p.2.size).sum
theorem psz_app (a b : List (Tree × Tree)) : psz (a ++ b) = psz a + psz b := by
  unfold psz
  rw [List.map_append, List.sum_append]
theorem psz_one (p : Tree × Tree) : psz [p] = p.2.size := by
  unfold psz
  simp
theorem psz_len : ∀ ps : List (Tree × Tree), ps.length ≤ psz ps
  | [] => Nat.zero_le _
  | p :: r => by
    have h := psz_len r
    have h2 := size_pos p.2
    unfold psz at h ⊢
    rw [List.map_cons, List.sum_cons, List.length_cons]
    omega
theorem psz_zip : ∀ (ts us : List Tree), psz (ts.zip us) ≤ sizes us
  | [], us => Nat.zero_le _
  | t :: ts, [] => Nat.zero_le _
  | t :: ts, u :: us => by
    have h := psz_zip ts us
    rw [List.zip_cons_cons, sizes_cons, show (t, u) :: ts.zip us = [(t, u)] ++ ts.zip us from rfl, psz_app, psz_one]
    show u.size + psz (ts.zip us) ≤ u.size + sizes us
    omega
theorem zip_eq : ∀ {ts us : List Tree}, ts.length = us.length → ((∀ p ∈ ts.zip us, p.1 = p.2) ↔ ts = us)
  | [], [], _ => ⟨fun _ => rfl, fun _ p m => by cases m⟩
  | [], _ :: _, h => by cases h
  | _ :: _, [], h => by cases h
  | t :: ts, u :: us, h => by
    have ih := zip_eq (ts := ts) (us := us) (Nat.succ.inj h)
    rw [List.zip_cons_cons]
    constructor
    · intro q
      have e1 : t = u := q (t, u) (List.mem_cons_self ..)
      rw [e1, ih.mp fun p m => q p (List.mem_cons_of_mem _ m)]
    · intro e p m
      have e1 := (List.cons.inj e).1
      have e2 := (List.cons.inj e).2
      rcases List.mem_cons.mp m with z | z
      · rw [z]; exact e1
      · exact ih.mpr e2 p z
section
variable {P : Program} {w : World} {K : PySem.W.Frag} {mg : Str → Option Value} {base : Heap}
def spLike (K : PySem.W.Frag) : Sp := fun vs H Q _ => ∃ (x y : V) (t u : Tree), vs = [x, y] ∧ Tr K H x t ∧ Tr K H y u ∧ u.size ≤ 300000 ∧
  ∀ (b : Bool) (H' : Hp), (b = true ↔ t = u) → Keep [] H H' → Q (.bl b) H'
theorem has_like {k : Nat} (D : DefAt K mg "_law_like" s_law_like p_law_like) (B : Bn mg) : Has P w K mg base (k + 1) "_law_like" p_law_like (spLike K) := by
  obtain ⟨f, fd, F, hm, hb⟩ := D.ex
  refine ⟨f, fd, F.ok sc_law_like (fun vs H Q E h => ?_) (fun cdv A outer s H vs Q E hr h => ?_), hm, F.kp, hb⟩
  · obtain ⟨_, _, _, _, rfl, _⟩ := h
    rfl
  obtain ⟨x, y, t, u, rfl, tx1, ty1, sz, q⟩ := h
  refine ⟨_, (pss_cons (ps_set (i := 2) sc_law_like.nd rfl (.inl rfl) (pe_lst (pa_cons (pe_tup (pa_cons (pv 0) (pa_cons (pv 1) pa_nil))) pa_nil)))
    (pss_cons (ps_for PassesOwn.never rfl (pi_range1 (by rfl) B.range (pa_cons pe_int pa_nil)) (pg_name (i := 3) sc_law_like.nd rfl (.inl rfl))
      (pss_cons (ps_if (pt_cmpR op_eq (pe_callB call_len_seq (by rfl) B.len PySem.boot_len (pa_cons (pv 2) pa_nil)) pe_int (nomark _)) (pss_one (ps_ret pe_bl)) pss_nil)
      (pss_cons (ps_asg (pe_bm0 PySem.F.plainAttrs_list PySem.F.slot_list_pop PySem.F.type_list_pop mt_pop (pv 2)) (pg_tup (by rfl) (pgs_cons (pg_name (i := 4) sc_law_like.nd rfl (.inl rfl)) (pgs_cons (pg_name (i := 5) sc_law_like.nd rfl (.inl rfl)) pgs_nil))))
      (pss_cons (ps_if (pt_val (pe_callB call_isi (by rfl) B.isinstance (by decide +kernel) (pa_cons (pv 5) (pa_cons (pe_bltn (v := .ty "str") rfl B.str (by decide +kernel) rfl) pa_nil)))) (pss_cons (ps_if (PW.pt (pw_or (pt_not (pt_val (pe_callB call_isi (by rfl) B.isinstance (by decide +kernel) (pa_cons (pv 4) (pa_cons (pe_bltn (v := .ty "str") rfl B.str (by decide +kernel) rfl) pa_nil))))) (pw_or1 (pt_cmpR op_ne (pv 4) (pv 5) (nomark _))))) (pss_one (ps_ret pe_bl)) pss_nil)
        (pss_one ps_continue)) pss_nil)
      (pss_cons (ps_if (PW.pt (pw_or (pt_not (pt_val (pe_callB call_isi (by rfl) B.isinstance (by decide +kernel) (pa_cons (pv 4) (pa_cons (pe_bltn (v := .ty "tuple") rfl B.tuple (by decide +kernel) rfl) pa_nil))))) (pw_or1 (pt_cmpR op_ne (pe_callB call_len_seq (by rfl) B.len PySem.boot_len (pa_cons (pv 4) pa_nil)) (pe_callB call_len_seq (by rfl) B.len PySem.boot_len (pa_cons (pv 5) pa_nil)) (nomark _))))) (pss_one (ps_ret pe_bl)) pss_nil)
      (pss_one (ps_for PassesOwn.never rfl (pi_range1 (by rfl) B.range (pa_cons (pe_callB call_len_seq (by rfl) B.len PySem.boot_len (pa_cons (pv 5) pa_nil)) pa_nil)) (pg_name (i := 6) sc_law_like.nd rfl (.inl rfl))
        (pss_one (ps_expr (pe_bm PySem.F.plainAttrs_list PySem.F.slot_list_append PySem.F.type_list_append mt_append (pv 2) (pa_cons (pe_tup (pa_cons (pe_ix ix_tup (pv 4) (pv 6) (fun _ _ => rfl)) (pa_cons (pe_ix ix_tup (pv 5) (pv 6) (fun _ _ => rfl)) pa_nil))) pa_nil)))))))))))
    (pss_one (ps_ret pe_bl)))), ?_⟩
  refine ⟨_, rfl, _, rfl, by show (2 : Nat) ≤ sizeLine; decide, fun a na => ?_⟩
  refine ⟨by show (1 : Nat) ≤ sizeLine; decide, fun p np => ?_⟩
  have k0 : Keep [] H (upd (upd H a (.tup [x, y])) p (.lst [.ref a])) := (Keep.new na).newT np
  have np0 : H p = none := (Keep.new (S := []) na).free np
  have pa : a ≠ p := ne_of_none upd_same np
  refine ⟨(400000 : Int), rfl, by decide, by decide, ?_⟩
  refine for_range (lo := 0) (n := (400000 : Int).toNat) (fun i σ H' => ∃ (y3 y4 y5 y6 : Option V) (vs : List V) (ps : List (Tree × Tree)), σ = [some x, some y, some (.ref p), y3, y4, y5, y6] ∧ Keep [] H H' ∧ H' p = some (.lst vs) ∧ Prs K H' vs ps ∧ psz ps + i ≤ 300000 ∧ (t = u ↔ ∀ z ∈ ps, z.1 = z.2))
    ⟨none, none, none, none, _, [(t, u)], rfl, k0, upd_same, ⟨a, x, y, [], rfl, by rw [upd_ne pa, upd_same], tx1.keep k0, ty1.keep k0, rfl⟩, by rw [psz_one]; exact sz, ?_⟩ (fun i σ H1 hi pw => ?_) (fun σ H1 pw => ?_)
  · constructor
    · intro e z m
      rw [List.mem_singleton.mp m]
      exact e
    · intro h
      exact h (t, u) (List.mem_singleton.mpr rfl)
  · obtain ⟨y3, y4, y5, y6, vs, ps, rfl, k1, e1, pr, sz1, iff⟩ := pw
    have vl := pr.len
    have pl := psz_len ps
    refine ⟨_, rfl, p, vs, rfl, .inl (SqL.of e1), rfl, _, rfl, ?_⟩
    by_cases hne : ps = []
    · subst hne
      rw [show vs = [] from pr, decide_eq_true (show V.int (([] : List V).length : Nat) = V.int 0 from rfl)]
      exact iteT (q true H1 ⟨fun _ => iff.mpr fun z m => (by cases m), fun _ => rfl⟩ k1)
    · obtain ⟨ps', z, rfl⟩ := snoc_of hne
      obtain ⟨vs', a1, x1, y1, rfl, pr', ea1, tx2, ty2⟩ := pr.snoc
      rw [psz_app, psz_one] at sz1 pl
      rw [decide_eq_false (fun e => by have := V.int.inj e; rw [List.length_append, List.length_singleton] at this; omega)]
      refine iteF ?_
      refine ⟨_, rfl, .inl ⟨rfl, _, SqL.of e1⟩, p, _, _, rfl, rfl, e1, last_get _ _, ?_⟩
      rw [List.dropLast_concat]
      generalize hH2 : upd H1 p (.lst vs') = H2
      have k2 : Keep [p] H1 H2 := by rw [← hH2]; exact Keep.set e1 (List.mem_cons_self ..)
      have e2 : H2 p = some (.lst vs') := by rw [← hH2, upd_same]
      have k2' : Keep [] H H2 := (k1.cons.trans (k2.mono (by simp))).drop np0
      refine ⟨a1, _, rfl, SqT.of_tup (k2.tup ea1), rfl, x1, _, rfl, y1, _, rfl, rfl, ?_⟩
      have tx3 := tx2.keep k2
      have ty3 := ty2.keep k2
      have pr3 := pr'.keep k2
      obtain ⟨z1, z2⟩ := z
      have split : (∀ q ∈ ps' ++ [(z1, z2)], q.1 = q.2) ↔ (∀ q ∈ ps', q.1 = q.2) ∧ z1 = z2 := by
        constructor
        · intro h
          exact ⟨fun q m => h q (List.mem_append.mpr (.inl m)), h (z1, z2) (by simp)⟩
        · rintro ⟨h1, h2⟩ q m
          rcases List.mem_append.mp m with m | m
          · exact h1 q m
          · rw [List.mem_singleton.mp m]; exact h2
      have no : z1 ≠ z2 → Q (.bl false) H2 := fun h => q false H2 ⟨fun e => (by cases e), fun e => absurd (split.mp (iff.mp e)).2 h⟩ k2'
      obtain ⟨ty, uu, q1, q2, q3⟩ := isi_str ty3
      refine ⟨_, rfl, _, _, ty, uu, _, rfl, q1, q2, q3, _, rfl, ?_⟩
      cases z2 with
      | w c2 =>
        refine iteT ?_
        obtain ⟨ty', uu', q1', q2', q3'⟩ := isi_str tx3
        refine ⟨_, rfl, _, _, ty', uu', _, rfl, q1', q2', q3', _, rfl, ?_⟩
        cases z1 with
        | l ts => exact iteT (iteT (no (fun e => by cases e)))
        | w c1 =>
          refine iteF ?_
          have ex := tx3.word
          have ey := ty3.word
          subst ex ey
          refine ⟨_, rfl, _, rfl, rfl, _, rfl, ?_⟩
          by_cases hc : c1 = c2
          · subst hc
            rw [show (!decide (V.str (tx c1) = V.str (tx c1))) = false by simp]
            refine iteF ⟨_, _, _, _, vs', ps', rfl, k2', e2, pr3, ?_, ?_⟩
            · rw [size_w] at sz1; omega
            · rw [iff, split]
              exact ⟨fun h => h.1, fun h => ⟨h, rfl⟩⟩
          · rw [show (!decide (V.str (tx c1) = V.str (tx c2))) = true by
              rw [decide_eq_false (fun e => hc (tx_str e))]; rfl]
            exact iteT (no (fun e => hc (Tree.w.inj e)))
      | l us =>
        refine iteF ?_
        obtain ⟨ty', uu', q1', q2', q3'⟩ := isi_tup tx3
        refine ⟨_, rfl, _, _, ty', uu', _, rfl, q1', q2', q3', _, rfl, ?_⟩
        cases z1 with
        | w c1 => exact iteT (iteT (no (fun e => by cases e)))
        | l ts =>
        refine iteF ?_
        obtain ⟨ax, wx, rfl, hX, trx⟩ := tx3.list
        obtain ⟨ay, wy, rfl, hY, try_⟩ := ty3.list
        have lx := trx.length
        have ly := try_.length
        refine ⟨_, rfl, ax, wx, rfl, .inr hX, _, rfl, ay, wy, rfl, .inr hY, rfl, _, rfl, ?_⟩
        by_cases hl : ts.length = us.length
        · rw [show (!decide (V.int ((wx.length : Nat) : Int) = V.int ((wy.length : Nat) : Int))) = false by
            rw [lx, ly, hl]; simp]
          refine iteF ?_
          refine ⟨_, rfl, ay, wy, rfl, .inr hY, _, rfl, by omega, ?_, ?_⟩
          · rw [size_l] at sz1
            have := len_sizes us
            omega
          rw [Int.toNat_natCast, ly]
          rw [size_l] at sz1
          have lsz := len_sizes us
          have zsz := psz_zip ts us
          have zl : (ts.zip us).length = us.length := by rw [List.length_zip, hl, Nat.min_self]
          refine for_range (lo := 0) (n := us.length) (fun j σ H' => ∃ (y6 : Option V) (vs2 : List V), σ = [some x, some y, some (.ref p), some (.int (0 + (i : Int))), some (.ref ax), some (.ref ay), y6] ∧ Keep [] H H' ∧ Keep [p] H2 H' ∧ H' p = some (.lst vs2) ∧ Prs K H' vs2 (ps' ++ (ts.zip us).take j))
            ⟨_, vs', rfl, k2', Keep.refl, e2, by rw [List.take_zero, List.append_nil]; exact pr3⟩ (fun j σ H4 hj pw => ?_) (fun σ H4 pw => ?_)
          · obtain ⟨y6, vs2, rfl, k4, k4b, e4, pr4⟩ := pw
            have jx : j < ts.length := by omega
            obtain ⟨vx, gx, tvx⟩ := trx.get (List.getElem?_eq_getElem jx)
            obtain ⟨vy, gy, tvy⟩ := try_.get (List.getElem?_eq_getElem hj)
            have e0 : (0 : Int) + (j : Int) = ((j : Nat) : Int) := by omega
            refine ⟨_, rfl, .inl ⟨rfl, _, SqL.of e4⟩, _, rfl, _, rfl, ax, wx, _, vx, rfl, rfl, k4b.sqT hX, by rw [e0]; exact atI_nat gx, _, rfl, _, rfl, ay, wy, _, vy, rfl, rfl, k4b.sqT hY, by rw [e0]; exact atI_nat gy, by show (2 : Nat) ≤ sizeLine; decide, fun tp ntp => ?_⟩
            have pt : p ≠ tp := ne_of_none e4 ntp
            have kt : Keep [] H4 (upd H4 tp (.tup [vx, vy])) := Keep.new ntp
            have e5 : (upd H4 tp (.tup [vx, vy])) p = some (.lst vs2) := kt.get e4 (by simp)
            have ku : Keep [p] (upd H4 tp (.tup [vx, vy])) (upd (upd H4 tp (.tup [vx, vy])) p (.lst (vs2 ++ [.ref tp]))) := Keep.set e5 (List.mem_cons_self ..)
            refine ⟨p, vs2, _, rfl, rfl, e5, ?_, ?_⟩
            · have := pr4.len
              rw [List.length_append, List.length_take] at this
              have h2 := psz_len ps'
              exact Nat.lt_of_le_of_lt (show _ ≤ 600000 by omega) (by decide)
            · refine ⟨_, _, rfl, ((k4.trans kt).cons.trans (ku.mono (by simp))).drop np0, (k4b.trans (kt.mono (by simp))).trans ku, upd_same, ?_⟩
              have ez : (ts.zip us).take (j + 1) = (ts.zip us).take j ++ [(ts[j], us[j])] := by
                rw [List.take_add_one, List.getElem?_zip_eq_some (z := (ts[j], us[j])).mpr ⟨List.getElem?_eq_getElem jx, List.getElem?_eq_getElem hj⟩]
                rfl
              rw [ez, ← List.append_assoc]
              have one : Prs K (upd (upd H4 tp (.tup [vx, vy])) p (.lst (vs2 ++ [.ref tp]))) [.ref tp] [(ts[j], us[j])] := ⟨tp, vx, vy, [], rfl, ku.tup upd_same, ((tvx.keep k4b).keep kt).keep ku, ((tvy.keep k4b).keep kt).keep ku, rfl⟩
              exact Prs.app one ((pr4.keep kt).keep ku)
          · obtain ⟨y6, vs2, rfl, k4, k4b, e4, pr4⟩ := pw
            rw [← zl, List.take_length] at pr4
            refine ⟨_, _, _, _, vs2, ps' ++ ts.zip us, rfl, k4, e4, pr4, by rw [psz_app]; omega, ?_⟩
            rw [iff, split]
            constructor
            · rintro ⟨h1, h2⟩ z m
              rcases List.mem_append.mp m with m | m
              · exact h1 z m
              · exact (zip_eq hl).mpr (Tree.l.inj h2) z m
            · intro h
              exact ⟨fun z m => h z (List.mem_append.mpr (.inl m)), congrArg Tree.l ((zip_eq hl).mp fun z m => h z (List.mem_append.mpr (.inr m)))⟩
        · rw [show (!decide (V.int ((wx.length : Nat) : Int) = V.int ((wy.length : Nat) : Int))) = true by
            rw [lx, ly, decide_eq_false (fun e => hl (by have := V.int.inj e; omega))]; rfl]
          exact iteT (no (fun e => hl (by rw [Tree.l.inj e])))
  · obtain ⟨y3, y4, y5, y6, vs, ps, rfl, k1, e1, pr, sz1, iff⟩ := pw
    exact absurd sz1 (by have : (400000 : Int).toNat = 400000 := rfl; omega)
end
end Og

namespace Og
open PySem PySem.Spec PyProof.Rows L2
mutual
theorem toks_len : ∀ t : Tree, (toks t).length ≤ 2 * t.size
  | .w x => by rw [toks_w, size_w]; show 1 ≤ 2 * 1; decide
  | .l ts => by
    have h := tokss_len ts
    rw [toks_l, size_l, List.length_cons, List.length_append, List.length_singleton]
    omega
theorem tokss_len : ∀ ts : List Tree, (tokss ts).length ≤ 2 * sizes ts
  | [] => by rw [tokss_nil]; exact Nat.zero_le _
  | t :: r => by
    have h1 := toks_len t
    have h2 := tokss_len r
    rw [tokss_cons, sizes_cons, List.length_append]
    omega
end
theorem tokss_snoc (ts : List Tree) (t : Tree) : tokss (ts ++ [t]) = tokss ts ++ toks t := by rw [tokss_app, tokss_cons, tokss_nil, List.append_nil]
theorem take_snoc {α : Type} {ts : List α} {i : Nat} {t : α} (h : ts[i]? = some t) : ts.take (i + 1) = ts.take i ++ [t] := by
  rw [List.take_add_one, h]
  rfl
/-- the texts of tokens, as values -/
def tvs (ys : List (List Nat)) : List V := (ys.map tx).map V.str
theorem tvs_app (a b : List (List Nat)) : tvs (a ++ b) = tvs a ++ tvs b := by unfold tvs; rw [List.map_append, List.map_append]
theorem tvs_len (a : List (List Nat)) : (tvs a).length = a.length := by unfold tvs; rw [List.length_map, List.length_map]
theorem tvs_get {a : List (List Nat)} {i : Nat} {x : List Nat} (h : a[i]? = some x) : (tvs a)[i]? = some (.str (tx x)) := by
  unfold tvs
  rw [List.getElem?_map, List.getElem?_map, h]
  rfl
section
variable {P : Program} {w : World} {K : PySem.W.Frag} {mg : Str → Option Value} {base : Heap}
def spWords (K : PySem.W.Frag) (n : Nat) : Sp := fun vs H Q _ => ∃ (v : V) (t : Tree), vs = [v] ∧ Tr K H v t ∧ Deep n t ∧ t.size ≤ 100000 ∧
  ∀ (p : Addr) (H' : Hp), Keep [] H H' → H p = none → H' p = some (.lst (tvs (toks t))) → Q (.ref p) H'
theorem has_words {k : Nat} (D : DefAt K mg "_law_words" s_law_words p_law_words) (B : Bn mg) : ∀ n, Has P w K mg base (k + n + 1) "_law_words" p_law_words (spWords K n) := by
  obtain ⟨f, fd, F, hm, hb⟩ := D.ex
  have all : ∀ n, FnOk P w K mg base CX0 (k + n + 1) f fd p_law_words (spWords K n) := fun n => by
    induction n with
    | zero =>
      have c_law_words : Callee P w K mg base CX0 k "_law_words" f fd p_law_words (fun _ _ _ _ => False) := ⟨⟨fun _ _ _ _ h => h.elim, fun _ _ _ _ _ _ _ _ _ _ _ _ _ h => h.elim⟩, hm, F.kp, hb⟩
      refine F.ok sc_law_words (fun vs H Q E h => ?_) (fun cdv A outer s H vs Q E hr h => ?_)
      · obtain ⟨a, d, rfl, _⟩ := h
        rfl
      obtain ⟨v, t, rfl, tv, dp, sz, q⟩ := h
      refine ⟨_, (pss_cons (ps_if (pt_val (pe_callB call_isi (by rfl) B.isinstance (by decide +kernel) (pa_cons (pv 0) (pa_cons (pe_bltn (v := .ty "str") rfl B.str (by decide +kernel) rfl) pa_nil)))) (pss_one (ps_ret (pe_lst (pa_cons (pv 0) pa_nil)))) pss_nil)
    (pss_cons (ps_set (i := 1) sc_law_words.nd rfl (.inl rfl) (pe_lst (pa_cons pe_str pa_nil)))
    (pss_cons (ps_for PassesOwn.never rfl (pi_tup (pv 0)) (pg_name (i := 2) sc_law_words.nd rfl (.inl rfl))
      (pss_one (ps_set (i := 1) sc_law_words.nd rfl (.inl rfl) (pe_op op_cat (pv 1) (cal c_law_words hr rfl (pa_cons (pv 2) pa_nil))))))
    (pss_one (ps_ret (pe_op op_cat (pv 1) (pe_lst (pa_cons pe_str pa_nil)))))))), ?_⟩
      cases t with
      | l ts => exact dp.elim
      | w x =>
        obtain ⟨ty, u, q1, q2, q3⟩ := isi_str tv
        refine ⟨_, rfl, _, _, ty, u, _, rfl, q1, q2, q3, _, rfl, iteT ⟨_, rfl, by show (1 : Nat) ≤ sizeLine; decide, fun p np => ?_⟩⟩
        rw [toks_w] at q
        exact q p _ (Keep.new np) np (by rw [upd_same, tv.word]; rfl)
    | succ n ih =>
      have c_law_words : Callee P w K mg base CX0 (k + n + 1) "_law_words" f fd p_law_words (spWords K n) := ⟨ih, hm, F.kp, hb⟩
      refine F.ok sc_law_words (fun vs H Q E h => ?_) (fun cdv A outer s H vs Q E hr h => ?_)
      · obtain ⟨a, d, rfl, _⟩ := h
        rfl
      obtain ⟨v, t, rfl, tv, dp, sz, q⟩ := h
      refine ⟨_, (pss_cons (ps_if (pt_val (pe_callB call_isi (by rfl) B.isinstance (by decide +kernel) (pa_cons (pv 0) (pa_cons (pe_bltn (v := .ty "str") rfl B.str (by decide +kernel) rfl) pa_nil)))) (pss_one (ps_ret (pe_lst (pa_cons (pv 0) pa_nil)))) pss_nil)
    (pss_cons (ps_set (i := 1) sc_law_words.nd rfl (.inl rfl) (pe_lst (pa_cons pe_str pa_nil)))
    (pss_cons (ps_for PassesOwn.never rfl (pi_tup (pv 0)) (pg_name (i := 2) sc_law_words.nd rfl (.inl rfl))
      (pss_one (ps_set (i := 1) sc_law_words.nd rfl (.inl rfl) (pe_op op_cat (pv 1) (cal c_law_words hr rfl (pa_cons (pv 2) pa_nil))))))
    (pss_one (ps_ret (pe_op op_cat (pv 1) (pe_lst (pa_cons pe_str pa_nil)))))))), ?_⟩
      obtain ⟨ty, u, q1, q2, q3⟩ := isi_str tv
      refine ⟨_, rfl, _, _, ty, u, _, rfl, q1, q2, q3, _, rfl, ?_⟩
      cases t with
      | w x =>
        refine iteT ⟨_, rfl, by show (1 : Nat) ≤ sizeLine; decide, fun p np => ?_⟩
        rw [toks_w] at q
        exact q p _ (Keep.new np) np (by rw [upd_same, tv.word]; rfl)
      | l ts =>
        obtain ⟨a, vs, rfl, hS, tvs1⟩ := tv.list
        refine iteF ⟨by show (1 : Nat) ≤ sizeLine; decide, fun p np => ?_⟩
        rw [size_l] at sz
        refine ⟨_, rfl, a, rfl, ⟨_, (Keep.new (S := []) np).sqT hS⟩, ?_⟩
        refine for_tup (K := K) (a := a) (xs := vs) (fun i σ H' => ∃ (p : Addr) (y2 : Option V), σ = [some (.ref a), some (.ref p), y2] ∧ Keep [] H H' ∧ H p = none ∧ H' p = some (.lst (tvs ([40] :: tokss (ts.take i)))))
          ⟨p, none, rfl, Keep.new np, np, by rw [upd_same, List.take_zero, tokss_nil]; show _ = some (HO.lst [V.str (tx [40])]); rw [lit_open]⟩ (fun i σ H' _ p => by obtain ⟨_, _, _, k1, _⟩ := p; exact k1.sqT hS) (fun i x σ H1 hx pw => ?_) (fun σ H1 pw => ?_)
        · obtain ⟨p, y2, rfl, k1, np, e1⟩ := pw
          have il : i < ts.length := by rw [← tvs1.length]; exact (List.getElem?_eq_some_iff.mp hx).1
          have hg : ts[i]? = some ts[i] := List.getElem?_eq_getElem il
          obtain ⟨y, hy, ty1⟩ := tvs1.get hg
          rw [hx] at hy
          cases hy
          have m := List.getElem_mem il
          have s1 := size_of_get hg
          refine ⟨_, rfl, _, rfl, x, ts[i], rfl, ty1.keep k1, dp _ m, by omega, fun r H2 k2 nr e2 => ?_⟩
          have e1' := k2.get e1 (by simp)
          have l1 := tokss_len (ts.take i)
          have l2 := sizes_take ts i
          have l3 := toks_len ts[i]
          refine ⟨p, r, _, _, rfl, rfl, e1', e2, ?_, fun z nz => ?_⟩
          · rw [tvs_len, tvs_len, List.length_cons]
            exact Nat.le_trans (show _ ≤ 1000000 by omega) (by decide)
          · refine ⟨z, _, rfl, (k1.trans k2).newT nz, (k1.trans k2).free nz, ?_⟩
            rw [upd_same, take_snoc hg, tokss_snoc, ← List.cons_append, tvs_app]
        · obtain ⟨p, y2, rfl, k1, np, e1⟩ := pw
          rw [tvs1.length, List.take_length] at e1
          have l1 := tokss_len ts
          refine ⟨_, rfl, by show (1 : Nat) ≤ sizeLine; decide, fun r nr => ?_⟩
          refine ⟨p, r, _, _, rfl, rfl, (Keep.new (S := []) nr).get e1 (by simp), upd_same, ?_, fun z nz => ?_⟩
          · rw [tvs_len, List.length_cons]
            exact Nat.le_trans (show _ ≤ 1000000 by show (tokss ts).length + 1 + 1 ≤ _; omega) (by decide)
          · have k2 := (k1.newT (o := .lst [.str ")"]) nr)
            refine q z _ (k2.newT nz) (k2.free nz) ?_
            rw [upd_same, toks_l, ← List.cons_append, tvs_app, lit_close]
            rfl
  exact fun n => ⟨f, fd, all n, hm, F.kp, hb⟩
/-! ### gaps -/
def spGap : Sp := fun vs H Q _ => ∃ (h d : Addr), vs = [.ref h] ∧ Hd H h d ∧
  ∀ (g : List Nat) (H' : Hp), Blanks g → g.length ≤ 3 → Keep [h] H H' → Hd H' h d → Q (.str (tx g)) H'
theorem lit_g1 : ("  " : Str) = tx [32, 32] := by decide +kernel
theorem lit_g2 : (" \n" : Str) = tx [32, 10] := by decide +kernel
theorem lit_g3 : ("\n\n " : Str) = tx [10, 10, 32] := by decide +kernel
theorem blanks_of {g : List Nat} (h : g.all (fun b => b == 32 || b == 10) = true) : Blanks g := fun b m => by
  have q := List.all_eq_true.mp h b m
  simpa using q
theorem has_gap {k : Nat} (D : DefAt K mg "_law_gap" s_law_gap p_law_gap) (B : Bn mg) (c1 : Has P w K mg base k "_law_take" p_law_take spTake) : Has P w K mg base (k + 1) "_law_gap" p_law_gap spGap := by
  obtain ⟨f, fd, F, hm, hb⟩ := D.ex
  obtain ⟨_, _, c_law_take⟩ := c1
  refine ⟨f, fd, F.ok sc_law_gap (fun vs H Q E h => ?_) (fun cdv A outer s H vs Q E hr h => ?_), hm, F.kp, hb⟩
  · obtain ⟨a, d, rfl, _⟩ := h
    rfl
  obtain ⟨a, d, rfl, hd, q⟩ := h
  refine ⟨_, (pss_one (ps_ret (pe_ix ix_list (pe_lst (pa_cons pe_str (pa_cons pe_str (pa_cons pe_str (pa_cons pe_str (pa_cons pe_str (pa_cons pe_str (pa_cons pe_str pa_nil)))))))) (cal c_law_take hr rfl (pa_cons (pv 0) (pa_cons pe_int pa_nil))) (fun _ _ => rfl)))), ?_⟩
  refine ⟨by show (7 : Nat) ≤ sizeLine; decide, fun p np => ?_⟩
  refine ⟨_, rfl, a, d, 7, rfl, hd.new np, by decide, fun j H2 j0 j1 k2 hd2 => ?_⟩
  have pa : p ≠ a := (hd.neH np).symm
  have hg : ∃ g : List Nat, atI [V.str "", V.str "", V.str " ", V.str "\n", V.str "  ", V.str " \n", V.str "\n\n "] j = some (.str (tx g)) ∧ Blanks g ∧ g.length ≤ 3 := by
    have : j = 0 ∨ j = 1 ∨ j = 2 ∨ j = 3 ∨ j = 4 ∨ j = 5 ∨ j = 6 := by omega
    rw [lit_empty, lit_blank, lit_nl, lit_g1, lit_g2, lit_g3]
    rcases this with rfl | rfl | rfl | rfl | rfl | rfl | rfl
    · exact ⟨[], rfl, blanks_nil, by decide⟩
    · exact ⟨[], rfl, blanks_nil, by decide⟩
    · exact ⟨[32], rfl, blanks_of rfl, by decide⟩
    · exact ⟨[10], rfl, blanks_of rfl, by decide⟩
    · exact ⟨[32, 32], rfl, blanks_of rfl, by decide⟩
    · exact ⟨[32, 10], rfl, blanks_of rfl, by decide⟩
    · exact ⟨[10, 10, 32], rfl, blanks_of rfl, by decide⟩
  obtain ⟨g, hg1, hg2, hg3⟩ := hg
  refine ⟨p, _, j, _, rfl, rfl, SqL.of (k2.get upd_same (by simpa using pa)), hg1, ?_⟩
  exact q g H2 hg2 hg3 ((Keep.new np).trans k2) hd2
/-! ### a text of tokens with gaps -/
theorem in_parens (x : List Nat) : inV (.str (tx x)) [.str "(", .str ")"] = decide (x = [40] ∨ x = [41]) := by
  rw [lit_open, lit_close]
  show ((tx [40] == tx x) || ((tx [41] == tx x) || false)) = _
  by_cases h1 : x = [40]
  · subst h1; decide
  · by_cases h2 : x = [41]
    · subst h2; decide
    · have e1 : (tx [40] == tx x) = false := by rw [beq_eq_false_iff_ne]; exact fun e => h1 (tx_inj e).symm
      have e2 : (tx [41] == tx x) = false := by rw [beq_eq_false_iff_ne]; exact fun e => h2 (tx_inj e).symm
      rw [e1, e2, decide_eq_false (by rintro (h | h) <;> contradiction)]
      rfl
theorem Rest.free {s : List Nat} {r : List (List Nat)} (h : Rest s r) (hr : ∀ x, r.head? = some x → x = [40] ∨ x = [41]) : Free s := by
  intro c q e
  cases r with
  | nil => rw [show s = [] from h] at e; cases e
  | cons t r =>
    obtain ⟨g, cs', rfl, _⟩ := h
    rcases hr t rfl with rfl | rfl
    · have := (List.cons.inj e).1
      subst this
      rintro (⟨h, _⟩ | ⟨h, h2⟩) <;> omega
    · have := (List.cons.inj e).1
      subst this
      rintro (⟨h, _⟩ | ⟨h, h2⟩) <;> omega
def spSpaced : Sp := fun vs H Q _ => ∃ (h d p : Addr) (toks : List (List Nat)), vs = [.ref h, .ref p] ∧ Hd H h d ∧ p ≠ h ∧ H p = some (.lst (tvs toks)) ∧ (∀ x ∈ toks, IsTok x) ∧ toks.length ≤ 200000 ∧
  ∀ (g cs : List Nat) (H' : Hp), Blanks g → Rest cs toks → (g ++ cs).length ≤ 4000000 → Keep [h] H H' → Hd H' h d → Q (.str (tx (g ++ cs))) H'
theorem IsTok.len {x : List Nat} (h : IsTok x) : x.length ≤ 12 := by
  rcases h with rfl | rfl | h
  · decide
  · decide
  · exact h.len
theorem has_spaced {k : Nat} (D : DefAt K mg "_law_spaced" s_law_spaced p_law_spaced) (B : Bn mg) (c1 : Has P w K mg base k "_law_take" p_law_take spTake) (c2 : Has P w K mg base k "_law_gap" p_law_gap spGap) : Has P w K mg base (k + 1) "_law_spaced" p_law_spaced spSpaced := by
  obtain ⟨f, fd, F, hm, hb⟩ := D.ex
  obtain ⟨_, _, c_law_take⟩ := c1
  obtain ⟨_, _, c_law_gap⟩ := c2
  refine ⟨f, fd, F.ok sc_law_spaced (fun vs H Q E h => ?_) (fun cdv A outer s H vs Q E hr h => ?_), hm, F.kp, hb⟩
  · obtain ⟨_, _, _, _, rfl, _⟩ := h
    rfl
  obtain ⟨a, d, p, toks, rfl, hd, pa, ep, tks, tl, q⟩ := h
  refine ⟨_, (pss_cons (ps_set (i := 2) sc_law_spaced.nd rfl (.inl rfl) (cal c_law_gap hr rfl (pa_cons (pv 0) pa_nil)))
    (pss_cons (ps_for PassesOwn.never rfl (pi_range1 (by rfl) B.range (pa_cons (pe_callB call_len_seq (by rfl) B.len PySem.boot_len (pa_cons (pv 1) pa_nil)) pa_nil)) (pg_name (i := 3) sc_law_spaced.nd rfl (.inl rfl))
      (pss_cons (ps_set (i := 4) sc_law_spaced.nd rfl (.inl rfl) (cal c_law_gap hr rfl (pa_cons (pv 0) pa_nil)))
      (C8.pss_cut (ps_if (PW.pt (pw_and (pt_cmpR op_eq (pv 4) pe_str (nomark _)) (pw_and (pt_cmpR op_lt (pe_op op_add (pv 3) pe_int) (pe_callB call_len_seq (by rfl) B.len PySem.boot_len (pa_cons (pv 1) pa_nil)) (nomark _)) (pw_and (pt_cmpR op_notIn_seq (pe_ix ix_list (pv 1) (pv 3) (fun _ _ => rfl)) (pe_lst (pa_cons pe_str (pa_cons pe_str pa_nil))) (by rfl)) (pw_and1 (pt_cmpR op_notIn_seq (pe_ix ix_list (pv 1) (pe_op op_add (pv 3) pe_int) (fun _ _ => rfl)) (pe_lst (pa_cons pe_str (pa_cons pe_str pa_nil))) (by rfl))))))) (pss_one (ps_set (i := 4) sc_law_spaced.nd rfl (.inl rfl) (pe_ix ix_list (pe_lst (pa_cons pe_str (pa_cons pe_str pa_nil))) (cal c_law_take hr rfl (pa_cons (pv 0) (pa_cons pe_int pa_nil))) (fun _ _ => rfl)))) pss_nil)
      (pss_one (ps_set (i := 2) sc_law_spaced.nd rfl (.inl rfl) (pe_op op_add_str (pe_op op_add_str (pv 2) (pe_ix ix_list (pv 1) (pv 3) (fun _ _ => rfl))) (pv 4)))))))
    (pss_one (ps_ret (pv 2))))), ?_⟩
  refine ⟨_, rfl, a, d, rfl, hd, fun g0 H1 bg0 lg0 k1 hd1 => ?_⟩
  have ep1 := k1.get ep (by simpa using pa)
  refine ⟨_, rfl, p, _, rfl, .inl (SqL.of ep1), _, rfl, by omega, by rw [tvs_len]; omega, ?_⟩
  rw [Int.toNat_natCast, tvs_len]
  refine for_range (lo := 0) (n := toks.length) (fun i σ H' => ∃ (y3 y4 : Option V) (c : List Nat), σ = [some (.ref a), some (.ref p), some (.str (tx (g0 ++ c))), y3, y4] ∧ Keep [a] H H' ∧ Hd H' a d ∧ c.length ≤ 15 * i ∧ ∀ s, Rest s (toks.drop i) → Rest (c ++ s) toks)
    ⟨none, none, [], by rw [List.append_nil]; rfl, k1, hd1, Nat.zero_le _, fun s h => h⟩ (fun i σ H2 hi pw => ?_) (fun σ H2 pw => ?_)
  · obtain ⟨y3, y4, c, rfl, k2, hd2, lc, inv⟩ := pw
    have hg : toks[i]? = some toks[i] := List.getElem?_eq_getElem hi
    have hcat : atI (tvs toks) (0 + (i : Int)) = some (.str (tx toks[i])) := by
      rw [show (0 : Int) + (i : Int) = ((i : Nat) : Int) by omega]
      exact atI_nat (tvs_get hg)
    have tki := tks _ (List.getElem_mem hi)
    have lti := tki.len
    have dr : toks.drop i = toks[i] :: toks.drop (i + 1) := List.drop_eq_getElem_cons hi
    refine ⟨_, rfl, a, d, rfl, hd2, fun g H3 bg lg k3 hd3 => ?_⟩
    have ep3 := (k2.trans k3).get ep (by simpa using pa)
    refine ⟨fun σ' H' => ∃ (g : List Nat), σ' = [some (.ref a), some (.ref p), some (.str (tx (g0 ++ c))), some (.int (0 + (i : Int))), some (.str (tx g))] ∧ Keep [a] H H' ∧ Hd H' a d ∧ Blanks g ∧ g.length ≤ 3 ∧ (g = [] → IsWord toks[i] → ∀ x, (toks.drop (i + 1)).head? = some x → x = [40] ∨ x = [41]), ?_, fun σ' H' hmid => ?_⟩
    · refine ⟨_, rfl, rfl, _, rfl, ?_⟩
      rw [lit_empty]
      by_cases hge : g = []
      · subst hge
        rw [decide_eq_true (show V.str (tx []) = V.str (tx []) from rfl)]
        refine iteT ?_
        refine ⟨_, rfl, _, _, rfl, rfl, _, rfl, p, _, rfl, .inl (SqL.of ep3), _, _, rfl, rfl, _, rfl, ?_⟩
        rw [tvs_len]
        by_cases hlast : i + 1 < toks.length
        · rw [decide_eq_true (by omega)]
          refine iteT ?_
          have hg1 : toks[i + 1]? = some toks[i + 1] := List.getElem?_eq_getElem hlast
          have hcat1 : atI (tvs toks) (0 + (i : Int) + 1) = some (.str (tx toks[i + 1])) := by
            rw [show (0 : Int) + (i : Int) + 1 = ((i + 1 : Nat) : Int) by omega]
            exact atI_nat (tvs_get hg1)
          have hh : (toks.drop (i + 1)).head? = some toks[i + 1] := by rw [List.head?_drop, hg1]
          refine ⟨_, rfl, _, rfl, p, _, _, _, rfl, rfl, SqL.of ep3, hcat, by show (2 : Nat) ≤ sizeLine; decide, fun l1 nl1 => ?_⟩
          refine ⟨l1, _, rfl, .inl (SqL.of upd_same), rfl, rfl, _, rfl, ?_⟩
          have kl1 : Keep [a] H3 (upd H3 l1 (.lst [.str "(", .str ")"])) := Keep.new nl1
          have hd4 := hd3.new (o := .lst [.str "(", .str ")"]) nl1
          have ep4 := kl1.get ep3 (by simpa using pa)
          rw [if_pos rfl, in_parens]
          by_cases hp : toks[i] = [40] ∨ toks[i] = [41]
          · rw [decide_eq_true hp]
            refine iteF (iteF ⟨[], rfl, (k2.trans k3).trans kl1, hd4, blanks_nil, by decide, fun _ wi => ?_⟩)
            rcases hp with e | e
            · exact absurd (e ▸ wi) not_word40
            · exact absurd (e ▸ wi) not_word41
          · rw [decide_eq_false hp]
            refine iteT ?_
            refine ⟨_, rfl, _, rfl, _, _, rfl, rfl, p, _, _, _, rfl, rfl, SqL.of ep4, hcat1, by show (2 : Nat) ≤ sizeLine; decide, fun l2 nl2 => ?_⟩
            refine ⟨l2, _, rfl, .inl (SqL.of upd_same), rfl, rfl, _, rfl, ?_⟩
            have kl2 : Keep [a] (upd H3 l1 (.lst [.str "(", .str ")"])) (upd (upd H3 l1 (.lst [.str "(", .str ")"])) l2 (.lst [.str "(", .str ")"])) := Keep.new nl2
            have hd5 := hd4.new (o := .lst [.str "(", .str ")"]) nl2
            rw [if_pos rfl, in_parens]
            by_cases hp1 : toks[i + 1] = [40] ∨ toks[i + 1] = [41]
            · rw [decide_eq_true hp1]
              refine iteF ⟨[], rfl, ((k2.trans k3).trans kl1).trans kl2, hd5, blanks_nil, by decide, fun _ wi x hx => ?_⟩
              rw [hh] at hx
              cases hx
              exact hp1
            · rw [decide_eq_false hp1]
              refine iteT ?_
              refine ⟨by show (2 : Nat) ≤ sizeLine; decide, fun l3 nl3 => ?_⟩
              refine ⟨_, rfl, a, d, 2, rfl, hd5.new nl3, by decide, fun j H6 j0 j1 k6 hd6 => ?_⟩
              have kl3 := Keep.new (S := [a]) (o := .lst [.str " ", .str "\n"]) nl3
              have l3a : l3 ≠ a := (hd5.neH nl3).symm
              have hj : j = 0 ∨ j = 1 := by omega
              have hb : ∃ b : List Nat, atI [V.str " ", V.str "\n"] j = some (.str (tx b)) ∧ Blanks b ∧ b.length = 1 := by
                rw [lit_blank, lit_nl]
                rcases hj with rfl | rfl
                · exact ⟨[32], rfl, blanks_of rfl, rfl⟩
                · exact ⟨[10], rfl, blanks_of rfl, rfl⟩
              obtain ⟨b, hb1, hb2, hb3⟩ := hb
              refine ⟨l3, _, j, _, rfl, rfl, SqL.of (k6.get upd_same (by simpa using l3a)), hb1, ?_⟩
              refine ⟨b, rfl, ((((k2.trans k3).trans kl1).trans kl2).trans kl3).trans k6, hd6, hb2, by omega, fun e => ?_⟩
              rw [e] at hb3
              cases hb3
        · rw [decide_eq_false (by omega)]
          refine iteF (iteF ⟨[], rfl, k2.trans k3, hd3, blanks_nil, by decide, fun _ _ x hx => ?_⟩)
          rw [List.drop_eq_nil_of_le (by omega)] at hx
          cases hx
      · rw [decide_eq_false (fun e => hge (tx_str e))]
        exact iteF (iteF ⟨g, rfl, k2.trans k3, hd3, bg, lg, fun e => absurd e hge⟩)
    · obtain ⟨g, rfl, k4, hd4, bg, lg, nxt⟩ := hmid
      have ep4 := k4.get ep (by simpa using pa)
      have big : (g0 ++ c).length ≤ 3500000 := by rw [List.length_append]; omega
      refine ⟨_, rfl, _, rfl, _, rfl, p, _, _, _, rfl, rfl, SqL.of ep4, hcat, _, _, rfl, rfl, ?_, _, rfl, _, _, rfl, rfl, ?_, ?_⟩
      · rw [tx_len, tx_len]; exact Nat.le_trans (show _ ≤ 4000000 by omega) (by decide)
      · rw [tx_app, tx_len, tx_len, List.length_append]; exact Nat.le_trans (show _ ≤ 4000000 by omega) (by decide)
      · rw [tx_app, tx_app, show g0 ++ c ++ toks[i] ++ g = g0 ++ (c ++ (toks[i] ++ g)) by simp]
        refine ⟨_, _, c ++ (toks[i] ++ g), rfl, k4, hd4, ?_, fun s hs => ?_⟩
        · rw [List.length_append, List.length_append]; omega
        · have h1 : Rest (toks[i] ++ (g ++ s)) (toks.drop i) := by
            rw [dr]
            exact ⟨g, s, rfl, bg, fun wi ge => hs.free (nxt ge wi), hs⟩
          have h2 := inv _ h1
          rw [show c ++ (toks[i] ++ g) ++ s = c ++ (toks[i] ++ (g ++ s)) by simp]
          exact h2
  · obtain ⟨y3, y4, c, rfl, k2, hd2, lc, inv⟩ := pw
    have h1 := inv [] (by rw [List.drop_length]; rfl)
    rw [List.append_nil] at h1
    refine ⟨_, rfl, ?_⟩
    exact q g0 c H2 bg0 h1 (by rw [List.length_append]; omega) k2 hd2
end
end Og

namespace Og
open PySem PySem.Spec PyProof.Rows L2
theorem lit_a : ("a" : Str) = tx [97] := by decide +kernel
theorem lit_b2 : ("b2" : Str) = tx [98, 50] := by decide +kernel
theorem lit_quote : ("quote" : Str) = tx [113, 117, 111, 116, 101] := by decide +kernel
def isWordB : List Nat → Bool
  | [] => false
  | c :: cs => (decide (97 ≤ c) && decide (c ≤ 122)) && cs.all (fun y => (decide (97 ≤ y) && decide (y ≤ 122)) || (decide (48 ≤ y) && decide (y ≤ 57))) && decide (cs.length ≤ 11)
theorem isWord_of : ∀ {x : List Nat}, isWordB x = true → IsWord x
  | [], h => by cases h
  | c :: cs, h => by
    simp only [isWordB, Bool.and_eq_true, decide_eq_true_eq, List.all_eq_true, Bool.or_eq_true] at h
    exact ⟨c, cs, rfl, h.1.1, h.1.2, h.2⟩
theorem three {j : Int} (h0 : 0 ≤ j) (h : j < 3) : j = 0 ∨ j = 1 ∨ j = 2 := by omega
theorem flat_le : ∀ (ys : List (List Nat)), (∀ z ∈ ys, z.length ≤ 8) → ys.flatten.length ≤ 8 * ys.length
  | [], _ => Nat.zero_le _
  | y :: r, h => by
    have h1 := flat_le r fun z m => h z (List.mem_cons_of_mem _ m)
    have h2 := h y (List.mem_cons_self ..)
    rw [List.flatten_cons, List.length_append, List.length_cons]
    omega
section
variable {P : Program} {w : World} {K : PySem.W.Frag} {mg : Str → Option Value} {base : Heap}
def spDeep (K : PySem.W.Frag) : Sp := fun vs H Q _ => ∃ (h d : Addr) (x : V) (t : Tree), vs = [.ref h, x] ∧ Hd H h d ∧ Tr K H x t ∧ WT t ∧
  ∀ (p : Addr) (y : V) (l r : List Nat) (t' : Tree) (H' : Hp), H' p = some (.lst [y, .str (tx l), .str (tx r)]) → Tr K H' y t' → WT t' → txt t' = l ++ txt t ++ r → l.length ≤ 2000 → r.length ≤ 2000 → t'.size ≤ t.size + 400 → Keep [h] H H' → Hd H' h d → p ≠ h → Q (.ref p) H'
theorem has_deep {k : Nat} (D : DefAt K mg "_law_deep" s_law_deep p_law_deep) (B : Bn mg) (c1 : Has P w K mg base k "_law_take" p_law_take spTake) : Has P w K mg base (k + 1) "_law_deep" p_law_deep (spDeep K) := by
  obtain ⟨f, fd, F, hm, hb⟩ := D.ex
  obtain ⟨_, _, c_law_take⟩ := c1
  refine ⟨f, fd, F.ok sc_law_deep (fun vs H Q E h => ?_) (fun cdv A outer s H vs Q E hr h => ?_), hm, F.kp, hb⟩
  · obtain ⟨_, _, _, _, rfl, _⟩ := h
    rfl
  obtain ⟨a, d, x, t, rfl, hd, tx1, wt, q⟩ := h
  refine ⟨_, (pss_cons (ps_set (i := 2) sc_law_deep.nd rfl (.inl rfl) (pv 1))
    (pss_cons (ps_set (i := 3) sc_law_deep.nd rfl (.inl rfl) (pe_lst pa_nil))
    (pss_cons (ps_set (i := 4) sc_law_deep.nd rfl (.inl rfl) (pe_lst pa_nil))
    (pss_cons (ps_set (i := 5) sc_law_deep.nd rfl (.inl rfl) (cal c_law_take hr rfl (pa_cons (pv 0) (pa_cons pe_int pa_nil))))
    (pss_cons (ps_for PassesOwn.never rfl (pi_range1 (by rfl) B.range (pa_cons (pe_op op_add pe_int (cal c_law_take hr rfl (pa_cons (pv 0) (pa_cons pe_int pa_nil)))) pa_nil)) (pg_name (i := 6) sc_law_deep.nd rfl (.inl rfl))
      (pss_cons (ps_set (i := 7) sc_law_deep.nd rfl (.inl rfl) (pe_op op_mod (pe_callTy call_int1 (by rfl) B.int (by decide +kernel) (pa_cons (pe_op op_add (pe_op op_fdiv (pv 5) (pe_op op_add pe_int (pv 6))) (pe_op op_mul (pv 6) (pv 5))) pa_nil)) pe_int))
      (pss_cons (ps_set (i := 8) sc_law_deep.nd rfl (.inl rfl) (pe_ix ix_list (pe_lst (pa_cons pe_str (pa_cons pe_str (pa_cons pe_str pa_nil)))) (pe_op op_mod (pe_callTy call_int1 (by rfl) B.int (by decide +kernel) (pa_cons (pe_op op_add (pv 5) (pe_op op_mul (pv 6) (pv 6))) pa_nil)) pe_int) (fun _ _ => rfl)))
      (pss_cons (ps_set (i := 2) sc_law_deep.nd rfl (.inl rfl) (pe_ix ix_list (pe_lst (pa_cons (pe_tup (pa_cons (pv 2) pa_nil)) (pa_cons (pe_tup (pa_cons (pv 8) (pa_cons (pv 2) pa_nil))) (pa_cons (pe_tup (pa_cons (pv 2) (pa_cons (pv 8) pa_nil))) pa_nil)))) (pv 7) (fun _ _ => rfl)))
      (pss_cons (ps_expr (pe_bm PySem.F.plainAttrs_list PySem.F.slot_list_append PySem.F.type_list_append mt_append (pv 3) (pa_cons (pe_ix ix_list (pe_lst (pa_cons pe_str (pa_cons (pe_op op_add_str (pe_op op_add_str pe_str (pv 8)) pe_str) (pa_cons pe_str pa_nil)))) (pv 7) (fun _ _ => rfl)) pa_nil)))
      (pss_one (ps_expr (pe_bm PySem.F.plainAttrs_list PySem.F.slot_list_append PySem.F.type_list_append mt_append (pv 4) (pa_cons (pe_ix ix_list (pe_lst (pa_cons pe_str (pa_cons pe_str (pa_cons (pe_op op_add_str (pe_op op_add_str pe_str (pv 8)) pe_str) pa_nil)))) (pv 7) (fun _ _ => rfl)) pa_nil)))))))))
    (pss_one (ps_ret (pe_lst (pa_cons (pv 2) (pa_cons (pe_join pe_str (pe_revL (pv 3))) (pa_cons (pe_join pe_str (pv 4)) pa_nil))))))))))), ?_⟩
  -- value, left, right
  refine ⟨_, rfl, Nat.zero_le _, fun le nle => ?_⟩
  refine ⟨Nat.zero_le _, fun ri nri => ?_⟩
  have k0 : Keep [] H (upd (upd H le (.lst [])) ri (.lst [])) := (Keep.new nle).newT nri
  have hd0 := (hd.new (o := .lst []) nle).new (o := .lst []) nri
  have nri0 : H ri = none := (Keep.new (S := []) nle).free nri
  have lr : le ≠ ri := ne_of_none upd_same nri
  have lea : le ≠ a := (hd.neH nle).symm
  have ria : ri ≠ a := (hd.neH nri0).symm
  have led : le ≠ d := (hd.neD nle).symm
  have rid : ri ≠ d := (hd.neD nri0).symm
  have el0 : (upd (upd H le (.lst [])) ri (.lst [])) le = some (.lst []) := by rw [upd_ne lr, upd_same]
  have er0 : (upd (upd H le (.lst [])) ri (.lst [])) ri = some (.lst []) := upd_same
  -- seed
  refine ⟨_, rfl, a, d, 100003, rfl, hd0, by decide, fun seed H1 s0 s1 k1 hd1 => ?_⟩
  refine ⟨_, rfl, a, d, 137, rfl, hd1, by decide, fun m H2 m0 m1 k2 hd2 => ?_⟩
  have k12 : Keep [a] H H2 := ((k0.mono (by simp)).trans k1).trans k2
  have k12b : Keep [a] (upd (upd H le (.lst [])) ri (.lst [])) H2 := k1.trans k2
  refine ⟨_, _, rfl, rfl, 60 + m, rfl, by omega, by omega, ?_⟩
  refine for_range (lo := 0) (n := (60 + m).toNat) (fun i σ H' => ∃ (y6 y7 y8 : Option V) (v : V) (t' : Tree) (ls rs : List (List Nat)), σ = [some (.ref a), some x, some v, some (.ref le), some (.ref ri), some (.int seed), y6, y7, y8] ∧ Keep [a] H H' ∧ Hd H' a d ∧
      H' le = some (.lst (tvs ls)) ∧ H' ri = some (.lst (tvs rs)) ∧ ls.length = i ∧ rs.length = i ∧ (∀ z ∈ ls, z.length ≤ 8) ∧ (∀ z ∈ rs, z.length ≤ 8) ∧ Tr K H' v t' ∧ WT t' ∧ t'.size ≤ t.size + 2 * i ∧ txt t' = ls.reverse.flatten ++ txt t ++ rs.flatten)
    ⟨none, none, none, x, t, [], [], rfl, k12, hd2, k12b.get el0 (by simpa using lea), k12b.get er0 (by simpa using ria), rfl, rfl, by simp, by simp, tx1.keep k12, wt, by omega, by simp⟩ (fun i σ H3 hi pw => ?_) (fun σ H3 pw => ?_)
  · obtain ⟨y6, y7, y8, v, t', ls, rs, rfl, k3, hd3, el, er, ll, rl, lb, rb, tv, wt', sz, etx⟩ := pw
    -- kind
    have dv : (0 : Int) < 1 + (0 + (i : Int)) ∧ 1 + (0 + (i : Int)) < 1073741824 := ⟨by omega, by omega⟩
    refine ⟨_, rfl, _, rfl, _, _, rfl, rfl, _, _, rfl, rfl, dv, _, rfl, _, rfl, _, _, rfl, rfl, .inr ⟨by omega, by omega⟩, _, _, rfl, rfl, .inl ⟨_, rfl, _, _, rfl, rfl, by show (0 : Int) < 3; decide, ?_⟩⟩
    have kd0 : 0 ≤ (seed / (1 + (0 + (i : Int))) + (0 + (i : Int)) * seed) % 3 := Int.emod_nonneg _ (by decide)
    have kd1 : (seed / (1 + (0 + (i : Int))) + (0 + (i : Int)) * seed) % 3 < 3 := Int.emod_lt_of_pos _ (by decide)
    -- word
    refine ⟨by show (3 : Nat) ≤ sizeLine; decide, fun p1 np1 => ?_⟩
    refine ⟨_, rfl, _, rfl, _, rfl, _, _, rfl, rfl, .inr ⟨by omega, by omega⟩, _, _, rfl, rfl, .inl ⟨_, rfl, _, _, rfl, rfl, by show (0 : Int) < 3; decide, ?_⟩⟩
    have wd0 : 0 ≤ (seed + (0 + (i : Int)) * (0 + (i : Int))) % 3 := Int.emod_nonneg _ (by decide)
    have wd1 : (seed + (0 + (i : Int)) * (0 + (i : Int))) % 3 < 3 := Int.emod_lt_of_pos _ (by decide)
    have hw : ∃ wd : List Nat, atI [V.str "a", V.str "b2", V.str "quote"] ((seed + (0 + (i : Int)) * (0 + (i : Int))) % 3) = some (.str (tx wd)) ∧ IsWord wd ∧ wd.length ≤ 5 := by
      rw [lit_a, lit_b2, lit_quote]
      rcases three wd0 wd1 with h | h | h <;> rw [h]
      · exact ⟨_, rfl, isWord_of rfl, by decide⟩
      · exact ⟨_, rfl, isWord_of rfl, by decide⟩
      · exact ⟨_, rfl, isWord_of rfl, by decide⟩
    obtain ⟨wd, hw1, hw2, hw3⟩ := hw
    refine ⟨p1, _, _, _, rfl, rfl, SqL.of upd_same, hw1, ?_⟩
    have ka : Keep [] H3 (upd H3 p1 (.lst [.str "a", .str "b2", .str "quote"])) := Keep.new np1
    generalize upd H3 p1 (.lst [.str "a", .str "b2", .str "quote"]) = H4 at ka
    -- value
    refine ⟨_, rfl, by show (1 : Nat) ≤ sizeLine; decide, fun t1 nt1 => ?_⟩
    refine ⟨_, rfl, _, rfl, by show (2 : Nat) ≤ sizeLine; decide, fun t2 nt2 => ?_⟩
    refine ⟨_, rfl, _, rfl, by show (2 : Nat) ≤ sizeLine; decide, fun t3 nt3 => ?_⟩
    refine ⟨by show (3 : Nat) ≤ sizeLine; decide, fun p2 np2 => ?_⟩
    have kb1 : Keep [] H4 (upd H4 t1 (.tup [v])) := Keep.new nt1
    generalize hB1 : upd H4 t1 (.tup [v]) = B1 at kb1 nt2 nt3 np2
    have kb2 : Keep [] B1 (upd B1 t2 (.tup [.str (tx wd), v])) := Keep.new nt2
    generalize hB2 : upd B1 t2 (.tup [.str (tx wd), v]) = B2 at kb2 nt3 np2
    have kb3 : Keep [] B2 (upd B2 t3 (.tup [v, .str (tx wd)])) := Keep.new nt3
    generalize hB3 : upd B2 t3 (.tup [v, .str (tx wd)]) = B3 at kb3 np2
    have kb4 : Keep [] B3 (upd B3 p2 (.lst [.ref t1, .ref t2, .ref t3])) := Keep.new np2
    have g1 : B3 t1 = some (.tup [v]) := kb3.tup (kb2.tup (by rw [← hB1, upd_same]))
    have g2 : B3 t2 = some (.tup [.str (tx wd), v]) := kb3.tup (by rw [← hB2, upd_same])
    have g3 : B3 t3 = some (.tup [v, .str (tx wd)]) := by rw [← hB3, upd_same]
    have kab : Keep [] H3 (upd B3 p2 (.lst [.ref t1, .ref t2, .ref t3])) := (((ka.trans kb1).trans kb2).trans kb3).trans kb4
    have tv4 := tv.keep kab
    have hv : ∃ (z : V) (nt : Tree) (lp rp : List Nat), atI [V.ref t1, V.ref t2, V.ref t3] ((seed / (1 + (0 + (i : Int))) + (0 + (i : Int)) * seed) % 3) = some z ∧ Tr K (upd B3 p2 (.lst [.ref t1, .ref t2, .ref t3])) z nt ∧ WT nt ∧ nt.size ≤ t'.size + 2 ∧ txt nt = lp ++ txt t' ++ rp ∧ lp.length ≤ 8 ∧ rp.length ≤ 8 ∧
        atI [V.str "(", V.str ("(" ++ tx wd ++ " "), V.str "("] ((seed / (1 + (0 + (i : Int))) + (0 + (i : Int)) * seed) % 3) = some (.str (tx lp)) ∧ atI [V.str ")", V.str ")", V.str (" " ++ tx wd ++ ")")] ((seed / (1 + (0 + (i : Int))) + (0 + (i : Int)) * seed) % 3) = some (.str (tx rp)) := by
      rw [lit_open, lit_close, lit_blank, tx_app, tx_app, tx_app, tx_app]
      rcases three kd0 kd1 with h | h | h <;> simp only [h]
      · refine ⟨.ref t1, .l [t'], [40], [41], rfl, tr_tup (kb4.tup g1) (Trs.one tv4), wt_l (wts_cons wt' wts_nil), ?_, ?_, by decide, by decide, rfl, rfl⟩
        · rw [size_l, sizes_cons, sizes_nil]; omega
        · rw [txt, seps_nil]; simp
      · refine ⟨.ref t2, .l [.w wd, t'], [40] ++ wd ++ [32], [41], rfl, tr_tup (kb4.tup g2) (trs_cons tr_w (Trs.one tv4)), wt_l (wts_cons (wt_w hw2) (wts_cons wt' wts_nil)), ?_, ?_, ?_, by decide, rfl, rfl⟩
        · rw [size_l, sizes_cons, sizes_cons, sizes_nil, size_w]; omega
        · rw [txt, seps_cons, seps_nil, txt_w]; simp
        · simp; omega
      · refine ⟨.ref t3, .l [t', .w wd], [40], [32] ++ wd ++ [41], rfl, tr_tup (kb4.tup g3) (trs_cons tv4 (Trs.one tr_w)), wt_l (wts_cons wt' (wts_cons (wt_w hw2) wts_nil)), ?_, ?_, by decide, ?_, rfl, rfl⟩
        · rw [size_l, sizes_cons, sizes_cons, sizes_nil, size_w]; omega
        · rw [txt, seps_cons, seps_nil, txt_w]; simp
        · simp; omega
    obtain ⟨z, nt, lp, rp, hz, tz, wz, sz2, etz, llp, lrp, hlp, hrp⟩ := hv
    refine ⟨_, rfl, p2, _, _, _, rfl, rfl, SqL.of upd_same, hz, ?_⟩
    generalize upd B3 p2 (.lst [.ref t1, .ref t2, .ref t3]) = H5 at kab tz
    have hd5 := hd3.keep0 kab
    have el5 := kab.get el (by simp)
    have er5 := kab.get er (by simp)
    have small : ∀ (c : List Nat), (tx [40] ++ tx c).length ≤ sizeLine → True := fun _ _ => trivial
    -- left.append(..)
    refine ⟨_, rfl, .inl ⟨rfl, _, SqL.of el5⟩, _, rfl, _, _, rfl, rfl, ?_, _, _, rfl, rfl, ?_, by show (3 : Nat) ≤ sizeLine; decide, fun p3 np3 => ?_⟩
    · rw [lit_open, tx_len, tx_len]; exact Nat.le_trans (show _ ≤ 100 by show 1 + wd.length ≤ 100; omega) (by decide)
    · rw [lit_open, lit_blank, tx_app, tx_len, tx_len]; exact Nat.le_trans (show _ ≤ 100 by simp; omega) (by decide)
    have kc : Keep [] H5 (upd H5 p3 (.lst [.str "(", .str ("(" ++ tx wd ++ " "), .str "("])) := Keep.new np3
    refine ⟨_, rfl, p3, _, _, _, rfl, rfl, SqL.of upd_same, hlp, le, _, _, rfl, rfl, kc.get el5 (by simp), ?_, ?_⟩
    · rw [tvs_len]; exact Nat.lt_of_le_of_lt (show _ ≤ 1000 by omega) (by decide)
    generalize upd H5 p3 (.lst [.str "(", .str ("(" ++ tx wd ++ " "), .str "("]) = H6 at kc
    have el6 := kc.get el5 (by simp)
    have er6 := kc.get er5 (by simp)
    have kd : Keep [le] H6 (upd H6 le (.lst (tvs ls ++ [.str (tx lp)]))) := Keep.set el6 (List.mem_cons_self ..)
    have el7 : (upd H6 le (.lst (tvs ls ++ [.str (tx lp)]))) le = some (.lst (tvs (ls ++ [lp]))) := by rw [upd_same, tvs_app]; rfl
    have er7 : (upd H6 le (.lst (tvs ls ++ [.str (tx lp)]))) ri = some (.lst (tvs rs)) := by rw [upd_ne lr.symm]; exact er6
    generalize upd H6 le (.lst (tvs ls ++ [.str (tx lp)])) = H7 at kd el7 er7
    -- right.append(..)
    refine ⟨_, rfl, .inl ⟨rfl, _, SqL.of er7⟩, _, rfl, _, _, rfl, rfl, ?_, _, _, rfl, rfl, ?_, by show (3 : Nat) ≤ sizeLine; decide, fun p4 np4 => ?_⟩
    · rw [lit_blank, tx_len, tx_len]; exact Nat.le_trans (show _ ≤ 100 by show 1 + wd.length ≤ 100; omega) (by decide)
    · rw [lit_close, lit_blank, tx_app, tx_len, tx_len]; exact Nat.le_trans (show _ ≤ 100 by simp; omega) (by decide)
    have ke : Keep [] H7 (upd H7 p4 (.lst [.str ")", .str ")", .str (" " ++ tx wd ++ ")")])) := Keep.new np4
    refine ⟨_, rfl, p4, _, _, _, rfl, rfl, SqL.of upd_same, hrp, ri, _, _, rfl, rfl, ke.get er7 (by simp), ?_, ?_⟩
    · rw [tvs_len]; exact Nat.lt_of_le_of_lt (show _ ≤ 1000 by omega) (by decide)
    generalize upd H7 p4 (.lst [.str ")", .str ")", .str (" " ++ tx wd ++ ")")]) = H8 at ke
    have el8 := ke.get el7 (by simp)
    have er8 := ke.get er7 (by simp)
    have kf : Keep [ri] H8 (upd H8 ri (.lst (tvs rs ++ [.str (tx rp)]))) := Keep.set er8 (List.mem_cons_self ..)
    -- all that changed since the turn began
    have kall : Keep [le, ri] H3 (upd H8 ri (.lst (tvs rs ++ [.str (tx rp)]))) := ((((kab.trans kc).mono (by simp)).trans (kd.mono (by simp))).trans (ke.mono (by simp))).trans (kf.mono (by simp))
    have kH : Keep [a] H (upd H8 ri (.lst (tvs rs ++ [.str (tx rp)]))) := by
      have h1 : Keep (le :: ri :: [a]) H (upd H8 ri (.lst (tvs rs ++ [.str (tx rp)]))) := (k3.mono (by simp)).trans (kall.mono (by simp))
      exact (h1.drop nle).drop nri0
    refine ⟨_, _, _, z, nt, ls ++ [lp], rs ++ [rp], rfl, kH, hd3.keep kall (by simp [lea.symm, ria.symm]) (by simp [led.symm, rid.symm]), by rw [upd_ne lr]; exact el8, by rw [upd_same, tvs_app]; rfl, by rw [List.length_append, ll]; rfl, by rw [List.length_append, rl]; rfl, ?_, ?_, ((((tz.keep kc).keep kd).keep ke).keep kf), wz, by omega, ?_⟩
    · intro y m
      rcases List.mem_append.mp m with m | m
      · exact lb y m
      · rw [List.mem_singleton.mp m]; exact llp
    · intro y m
      rcases List.mem_append.mp m with m | m
      · exact rb y m
      · rw [List.mem_singleton.mp m]; exact lrp
    · rw [etz, etx, List.reverse_append, List.reverse_singleton, List.singleton_append, List.flatten_cons, List.flatten_append, List.flatten_cons, List.flatten_nil, List.append_nil]
      simp
  · obtain ⟨y6, y7, y8, v, t', ls, rs, rfl, k3, hd3, el, er, ll, rl, lb, rb, tv, wt', sz, etx⟩ := pw
    have b1 := flat_le ls lb
    have b2 := flat_le rs rb
    have sum_ : ∀ ys : List (List Nat), ((ys.map tx).map (·.length)).sum = ys.flatten.length := fun ys => by
      rw [List.map_map, List.length_flatten]
      congr 1
    refine ⟨_, rfl, ⟨_, rfl⟩, _, rfl, le, _, rfl, SqL.of el, fun p5 np5 => ?_⟩
    have kc : Keep [] H3 (upd H3 p5 (.lst (tvs ls).reverse)) := Keep.new np5
    have rv : (tvs ls).reverse = tvs ls.reverse := by unfold tvs; rw [List.map_reverse, List.map_reverse]
    refine ⟨_, p5, ls.reverse.map tx, rfl, rfl, .inl (SqL.of (by rw [upd_same, rv]; rfl)), ?_, ?_⟩
    · rw [sum_, lit_empty, tx_len, List.length_map, List.length_reverse]
      have : ls.reverse.flatten.length = ls.flatten.length := by
        rw [List.length_flatten, List.length_flatten, List.map_reverse, List.sum_reverse]
      rw [this]
      show _ + ls.length * 0 ≤ _
      exact Nat.le_trans (show _ ≤ 2000 by omega) (by decide)
    rw [TL.join_eq, lit_empty, join_nil]
    refine ⟨⟨_, rfl⟩, _, rfl, _, ri, rs.map tx, rfl, rfl, .inl (SqL.of (kc.get er (by simp))), ?_, ?_⟩
    · rw [sum_, tx_len, List.length_map]
      show _ + rs.length * 0 ≤ _
      exact Nat.le_trans (show _ ≤ 2000 by omega) (by decide)
    rw [TL.join_eq, join_nil]
    refine ⟨by show (3 : Nat) ≤ sizeLine; decide, fun p6 np6 => ?_⟩
    have kd : Keep [] (upd H3 p5 (.lst (tvs ls).reverse)) (upd (upd H3 p5 (.lst (tvs ls).reverse)) p6 (.lst [v, .str (tx ls.reverse.flatten), .str (tx rs.flatten)])) := Keep.new np6
    refine q p6 v ls.reverse.flatten rs.flatten t' _ upd_same ((tv.keep kc).keep kd) wt' etx ?_ (by omega) (by omega) ((k3.trans (kc.mono (by simp))).trans (kd.mono (by simp))) ((hd3.keep0 kc).keep0 kd) ?_
    · have : ls.reverse.flatten.length = ls.flatten.length := by
        rw [List.length_flatten, List.length_flatten, List.map_reverse, List.sum_reverse]
      omega
    · exact ((hd3.keep0 kc).neH np6).symm
end
end Og

namespace Og
open PySem PySem.Spec PyProof.Rows L2
theorem most4 : Most 4 = 16105 := by decide
theorem tri {i : Int} (h0 : 0 ≤ i) (h : i < 4) : ∃ n : Nat, n ≤ 4 ∧ 1 + i = (n : Int) := ⟨(1 + i).toNat, by omega, by omega⟩
theorem ok_law {P : Program} {w : World} {K : PySem.W.Frag} {mg : Str → Option Value} {base : Heap} {e : Addr} {ed : FuncData} (F : Fun K "law" "law" s_law e ed) (B : Bn mg) (M : Mc mg)
    (D_read_value : DefAt K mg "read_value" s_read_value p_read_value) (D_behind_blanks : DefAt K mg "_behind_blanks" s_behind_blanks p_behind_blanks) (D_word_at : DefAt K mg "_word_at" s_word_at p_word_at) (D_write_value : DefAt K mg "write_value" s_write_value p_write_value)
    (D_law_draws : DefAt K mg "_law_draws" s_law_draws p_law_draws) (D_law_take : DefAt K mg "_law_take" s_law_take p_law_take) (D_law_word : DefAt K mg "_law_word" s_law_word p_law_word) (D_law_value : DefAt K mg "_law_value" s_law_value p_law_value) (D_law_text : DefAt K mg "_law_text" s_law_text p_law_text)
    (D_law_deep : DefAt K mg "_law_deep" s_law_deep p_law_deep) (D_law_like : DefAt K mg "_law_like" s_law_like p_law_like) (D_law_words : DefAt K mg "_law_words" s_law_words p_law_words) (D_law_gap : DefAt K mg "_law_gap" s_law_gap p_law_gap) (D_law_spaced : DefAt K mg "_law_spaced" s_law_spaced p_law_spaced) :
    FnOk P w K mg base CX0 30 e ed ["script"] (spLaw K) := by
  have h_draws := has_draws (P := P) (w := w) (base := base) (k := 0) D_law_draws B
  have h_take := has_take (P := P) (w := w) (base := base) (k := 0) D_law_take B
  have h_word := has_word (P := P) (w := w) (base := base) (k := 1) D_law_word B h_take
  obtain ⟨fv, fdv, h_value⟩ := has_value (P := P) (w := w) (base := base) (k := 2) D_law_value B (h_take.mono (by decide)) h_word
  have h_value := has_upto h_value 4
  have h_text := has_text (P := P) (w := w) (base := base) (k := 0) D_law_text B 4
  have h_words := has_words (P := P) (w := w) (base := base) (k := 0) D_law_words B 4
  have h_blanks := has_blanks (P := P) (w := w) (base := base) (k := 0) D_behind_blanks B M
  have h_wordat := has_wordat (P := P) (w := w) (base := base) (k := 0) D_word_at B M
  have h_read := has_read (P := P) (w := w) (base := base) (k := 1) D_read_value B h_blanks h_wordat
  have h_write := has_write (P := P) (w := w) (base := base) (k := 0) D_write_value B
  have h_like := has_like (P := P) (w := w) (base := base) (k := 0) D_law_like B
  have h_gap := has_gap (P := P) (w := w) (base := base) (k := 1) D_law_gap B h_take
  have h_spaced := has_spaced (P := P) (w := w) (base := base) (k := 2) D_law_spaced B (h_take.mono (by decide)) h_gap
  have h_deep := has_deep (P := P) (w := w) (base := base) (k := 1) D_law_deep B h_take
  obtain ⟨_, _, c_law_draws⟩ := h_draws.mono (show 1 ≤ 29 by decide)
  obtain ⟨_, _, c_law_take⟩ := h_take.mono (show 1 ≤ 29 by decide)
  obtain ⟨_, _, c_law_value⟩ := h_value.mono (show 7 ≤ 29 by decide)
  obtain ⟨_, _, c_law_text⟩ := h_text.mono (show 5 ≤ 29 by decide)
  obtain ⟨_, _, c_law_words⟩ := h_words.mono (show 5 ≤ 29 by decide)
  obtain ⟨_, _, c_read_value⟩ := h_read.mono (show 2 ≤ 29 by decide)
  obtain ⟨_, _, c_write_value⟩ := h_write.mono (show 1 ≤ 29 by decide)
  obtain ⟨_, _, c_law_like⟩ := h_like.mono (show 1 ≤ 29 by decide)
  obtain ⟨_, _, c_law_spaced⟩ := h_spaced.mono (show 3 ≤ 29 by decide)
  obtain ⟨_, _, c_law_deep⟩ := h_deep.mono (show 2 ≤ 29 by decide)
  refine F.ok sc_law (fun vs H Q E h => ?_) (fun cdv A outer s H vs Q E hr h => ?_)
  · obtain ⟨a, ns, rfl, _⟩ := h
    rfl
  obtain ⟨a, ns, rfl, hS, h63, q⟩ := h
  refine ⟨_, (pss_cons (ps_set (i := 1) sc_law.nd rfl (.inl rfl) (pe_lst (pa_cons (cal c_law_draws hr rfl (pa_cons (pv 0) (pa_cons pe_int pa_nil))) (pa_cons pe_int pa_nil))))
    (pss_cons (ps_set (i := 2) sc_law.nd rfl (.inl rfl) (cal c_law_value hr rfl (pa_cons (pv 1) (pa_cons (pe_op op_add pe_int (cal c_law_take hr rfl (pa_cons (pv 1) (pa_cons pe_int pa_nil)))) pa_nil))))
    (pss_cons (ps_set (i := 3) sc_law.nd rfl (.inl rfl) (cal c_law_text hr rfl (pa_cons (pv 2) pa_nil)))
    (pss_cons (ps_set (i := 4) sc_law.nd rfl (.inl rfl) (cal c_write_value hr rfl (pa_cons (pv 2) pa_nil)))
    (pss_cons (ps_if (PW.pt (pw_or (pt_not (pt_val (pe_callB call_isi (by rfl) B.isinstance (by decide +kernel) (pa_cons (pv 4) (pa_cons (pe_bltn (v := .ty "str") rfl B.str (by decide +kernel) rfl) pa_nil))))) (pw_or (pt_cmpR op_ne (pv 4) (pv 3) (nomark _)) (pw_or1 (pt_not (pt_val (cal c_law_like hr rfl (pa_cons (cal c_read_value hr rfl (pa_cons (pv 3) pa_nil)) (pa_cons (pv 2) pa_nil))))))))) (pss_one (ps_ret pe_bl)) pss_nil)
    (pss_cons (ps_for PassesOwn.never rfl (pi_range1 (by rfl) B.range (pa_cons pe_int pa_nil)) (pg_name (i := 5) sc_law.nd rfl (.inl rfl))
      (pss_one (ps_if (pt_not (pt_val (cal c_law_like hr rfl (pa_cons (cal c_read_value hr rfl (pa_cons (cal c_law_spaced hr rfl (pa_cons (pv 1) (pa_cons (cal c_law_words hr rfl (pa_cons (pv 2) pa_nil)) pa_nil))) pa_nil)) (pa_cons (pv 2) pa_nil))))) (pss_one (ps_ret pe_bl)) pss_nil)))
    (pss_cons (ps_if (pt_cmpR op_gt (cal c_law_take hr rfl (pa_cons (pv 1) (pa_cons pe_int pa_nil))) pe_int (nomark _)) (pss_one (ps_ret pe_bl)) pss_nil)
    (pss_cons (ps_asg (cal c_law_deep hr rfl (pa_cons (pv 1) (pa_cons (pv 2) pa_nil))) (pg_lst rfl (pgs_cons (pg_name (i := 6) sc_law.nd rfl (.inl rfl)) (pgs_cons (pg_name (i := 7) sc_law.nd rfl (.inl rfl)) (pgs_cons (pg_name (i := 8) sc_law.nd rfl (.inl rfl)) pgs_nil)))))
    (pss_cons (ps_set (i := 9) sc_law.nd rfl (.inl rfl) (pe_op op_add_str (pe_op op_add_str (pv 7) (pv 3)) (pv 8)))
    (pss_one (ps_ret (pe_and (pe_cmpR op_eq (cal c_write_value hr rfl (pa_cons (pv 6) pa_nil)) (pv 9) (nomark _)) (pe_one (cal c_law_like hr rfl (pa_cons (cal c_read_value hr rfl (pa_cons (pv 9) pa_nil)) (pa_cons (pv 6) pa_nil)))))))))))))))), ?_⟩
  -- hand
  refine ⟨_, rfl, a, ns, 900, rfl, hS, h63, by decide, fun d ds H1 k1 nd ed1 dl => ?_⟩
  refine ⟨by show (2 : Nat) ≤ sizeLine; decide, fun h nh => ?_⟩
  have hd0 : Hd (upd H1 h (.lst [.ref d, .int 0])) h d := ⟨0, ds, upd_same, by rw [upd_ne (ne_of_none ed1 nh)]; exact ed1, by omega⟩
  generalize upd H1 h (.lst [.ref d, .int 0]) = H2 at hd0
  -- value
  refine ⟨_, rfl, _, rfl, h, d, 4, rfl, hd0, by decide, fun i H3 i0 i1 k3 hd3 => ?_⟩
  obtain ⟨n, n4, en⟩ := tri i0 i1
  refine ⟨1, i, rfl, rfl, n, n4, h, d, ?_, hd3, fun v t H4 tv dt k4 hd4 => ?_⟩
  · show [V.ref h, V.int (1 + i)] = _
    rw [en]
  obtain ⟨wt, sz, dp⟩ := dt
  have sz4 : t.size ≤ 16105 := Nat.le_trans sz (by rw [← most4]; exact Most.mono n4)
  have dp4 := dp.mono n4
  have tl := txt_len wt
  have tkl := toks_len t
  -- text
  refine ⟨_, rfl, v, t, rfl, tv, wt, dp4, by omega, fun H5 k5 => ?_⟩
  have tv5 := tv.keep k5
  have hd5 := hd4.keep0 k5
  -- written
  refine ⟨_, rfl, v, t, rfl, tv5, wt, by omega, fun H6 k6 => ?_⟩
  have tv6 := tv5.keep k6
  have hd6 := hd5.keep0 k6
  -- the first test
  obtain ⟨ty, u, q1, q2, q3⟩ := isi_strS (K := K) (H := H6) (x := tx (txt t))
  refine ⟨_, rfl, _, _, ty, u, _, rfl, q1, q2, q3, _, rfl, ?_⟩
  refine iteF ?_
  refine ⟨_, rfl, _, rfl, rfl, _, rfl, ?_⟩
  rw [show (!decide (V.str (tx (txt t)) = V.str (tx (txt t)))) = false by simp]
  refine iteF ?_
  refine ⟨_, rfl, [], txt t, toks t, t, rfl, blanks_nil, rest_of_txt wt, toks_all wt, reads_whole wt, by show (txt t).length ≤ _; omega, fun v1 H7 tv7 k7 => ?_⟩
  have hd7 := hd6.keep0 k7
  have tw7 := tv6.keep k7
  refine ⟨_, rfl, v1, v, t, t, rfl, tv7, tw7, by omega, fun b H8 hb k8 => ?_⟩
  have eb : b = true := hb.mpr rfl
  subst eb
  have hd8 := hd7.keep0 k8
  have tv8 := tw7.keep k8
  refine ⟨_, rfl, ?_⟩
  refine iteF ?_
  -- for step in range(2)
  refine ⟨2, rfl, by decide, by decide, ?_⟩
  refine for_range (lo := 0) (n := (2 : Int).toNat) (fun i σ H' => ∃ y5 y6 y7 y8 y9 : Option V, σ = [some (.ref a), some (.ref h), some v, some (.str (tx (txt t))), some (.str (tx (txt t))), y5, y6, y7, y8, y9] ∧ Hd H' h d ∧ Tr K H' v t)
    ⟨none, none, none, none, none, rfl, hd8, tv8⟩ (fun i σ H9 hi pw => ?_) (fun σ H9 pw => ?_)
  · obtain ⟨y5, y6, y7, y8, y9, rfl, hd9, tv9⟩ := pw
    refine ⟨_, rfl, _, rfl, v, t, rfl, tv9, dp4, by omega, fun p H10 k10 np10 ep10 => ?_⟩
    have hd10 := hd9.keep0 k10
    have tv10 := tv9.keep k10
    refine ⟨h, d, p, toks t, rfl, hd10, (hd9.neH np10).symm, ep10, toks_all wt, by omega, fun g cs H11 bg rs l11 k11 hd11 => ?_⟩
    have tv11 := tv10.keep k11
    refine ⟨g, cs, toks t, t, rfl, bg, rs, toks_all wt, reads_whole wt, l11, fun v2 H12 tv12 k12 => ?_⟩
    have tw12 := tv11.keep k12
    refine ⟨_, rfl, v2, v, t, t, rfl, tv12, tw12, by omega, fun b H13 hb k13 => ?_⟩
    have eb : b = true := hb.mpr rfl
    subst eb
    refine ⟨_, rfl, iteF ⟨_, _, _, _, _, rfl, (hd11.keep0 k12).keep0 k13, tw12.keep k13⟩⟩
  · obtain ⟨y5, y6, y7, y8, y9, rfl, hd9, tv9⟩ := pw
    refine ⟨_, rfl, h, d, 2, rfl, hd9, by decide, fun j H10 j0 j1 k10 hd10 => ?_⟩
    refine ⟨_, _, rfl, rfl, _, rfl, ite2 (fun _ => q _) (fun _ => ?_)⟩
    have tv10 := tv9.keep k10
    refine ⟨_, rfl, _, rfl, h, d, v, t, rfl, hd10, tv10, wt, fun p y l r t' H11 ep11 ty11 wt' et' ll rl sz' k11 hd11 ph => ?_⟩
    refine ⟨p, _, rfl, SqL.of ep11, rfl, y, _, rfl, _, _, rfl, _, _, rfl, rfl, ?_⟩
    -- whole
    refine ⟨_, rfl, _, rfl, _, _, rfl, rfl, ?_, _, rfl, _, _, rfl, rfl, ?_, ?_⟩
    · rw [tx_len, tx_len]; exact Nat.le_trans (show _ ≤ 1000000 by omega) (by decide)
    · rw [tx_app, tx_len, tx_len, List.length_append]; exact Nat.le_trans (show _ ≤ 1000000 by omega) (by decide)
    rw [tx_app, tx_app, ← et']
    have tl' : (txt t').length ≤ 1000000 := by rw [et', List.length_append, List.length_append]; omega
    refine ⟨_, rfl, y, t', rfl, ty11, wt', tl', fun H12 k12 => ?_⟩
    refine ⟨_, rfl, rfl, ?_⟩
    rw [show decide (V.str (tx (txt t')) = V.str (tx (txt t'))) = true by simp]
    refine ⟨_, rfl, iteT ?_⟩
    refine ⟨_, rfl, [], txt t', toks t', t', rfl, blanks_nil, rest_of_txt wt', toks_all wt', reads_whole wt', by show (txt t').length ≤ _; omega, fun v3 H13 tv13 k13 => ?_⟩
    refine ⟨_, rfl, v3, y, t', t', rfl, tv13, (ty11.keep k12).keep k13, by omega, fun b H14 hb k14 => ?_⟩
    have eb : b = true := hb.mpr rfl
    subst eb
    exact q H14
theorem all_mk {l : PySem.W.OpenLaw} {w : World} {K : PySem.W.Frag} {h : Heap} {mg : Str → Option Value} {fa f0 f1 f2 f3 f4 f5 f6 f7 f8 f9 f10 f11 f12 f13 f14 : Addr} (X : K.In h) (G : h.Ns mainGlobals mg) (hfa : mg "law" = some (.ref fa))
    {od0 an0 od1 an1 od2 an2 od3 an3 od4 an4 od5 an5 od6 an6 od7 an7 od8 an8 od9 an9 od10 an10 od11 an11 od12 an12 od13 an13 od14 an14 : Option Addr} {sl0 sl1 sl2 sl3 sl4 sl5 sl6 sl7 sl8 sl9 sl10 sl11 sl12 sl13 sl14 : Array (Option Value)} {oc0 kV0 dc0 pm0 cd0 ct0 oc1 kV1 dc1 pm1 cd1 ct1 oc2 kV2 dc2 pm2 cd2 ct2 oc3 kV3 dc3 pm3 cd3 ct3 oc4 kV4 dc4 pm4 cd4 ct4 oc5 kV5 dc5 pm5 cd5 ct5 oc6 kV6 dc6 pm6 cd6 ct6 oc7 kV7 dc7 pm7 cd7 ct7 oc8 kV8 dc8 pm8 cd8 ct8 oc9 kV9 dc9 pm9 cd9 ct9 oc10 kV10 dc10 pm10 cd10 ct10 oc11 kV11 dc11 pm11 cd11 ct11 oc12 kV12 dc12 pm12 cd12 ct12 oc13 kV13 dc13 pm13 cd13 ct13 oc14 kV14 dc14 pm14 cd14 ct14 : Value} {t0 t1 t2 t3 : Tok}
    (a0 : PySem.W.nsIn K mainGlobals "read_value" = some (some (.ref f0))) (l0 : K.lookup f0 = some ⟨oc0, od0, .func (PySem.W.fnOf "read_value" "read_value" (defArgs s_read_value) (defBody s_read_value) (defScope s_read_value) .none kV0 dc0 pm0 an0 cd0 ct0), sl0⟩) (c0 : PySem.W.codeIn K cd0 "read_value" = true) (k0 : PySem.W.keepIn K (.ref f0) = true)
    (a1 : PySem.W.nsIn K mainGlobals "_behind_blanks" = some (some (.ref f1))) (l1 : K.lookup f1 = some ⟨oc1, od1, .func (PySem.W.fnOf "_behind_blanks" "_behind_blanks" (defArgs s_behind_blanks) (defBody s_behind_blanks) (defScope s_behind_blanks) .none kV1 dc1 pm1 an1 cd1 ct1), sl1⟩) (c1 : PySem.W.codeIn K cd1 "_behind_blanks" = true) (k1 : PySem.W.keepIn K (.ref f1) = true)
    (a2 : PySem.W.nsIn K mainGlobals "_word_at" = some (some (.ref f2))) (l2 : K.lookup f2 = some ⟨oc2, od2, .func (PySem.W.fnOf "_word_at" "_word_at" (defArgs s_word_at) (defBody s_word_at) (defScope s_word_at) .none kV2 dc2 pm2 an2 cd2 ct2), sl2⟩) (c2 : PySem.W.codeIn K cd2 "_word_at" = true) (k2 : PySem.W.keepIn K (.ref f2) = true)
    (a3 : PySem.W.nsIn K mainGlobals "write_value" = some (some (.ref f3))) (l3 : K.lookup f3 = some ⟨oc3, od3, .func (PySem.W.fnOf "write_value" "write_value" (defArgs s_write_value) (defBody s_write_value) (defScope s_write_value) .none kV3 dc3 pm3 an3 cd3 ct3), sl3⟩) (c3 : PySem.W.codeIn K cd3 "write_value" = true) (k3 : PySem.W.keepIn K (.ref f3) = true)
    (a4 : PySem.W.nsIn K mainGlobals "_law_draws" = some (some (.ref f4))) (l4 : K.lookup f4 = some ⟨oc4, od4, .func (PySem.W.fnOf "_law_draws" "_law_draws" (defArgs s_law_draws) (defBody s_law_draws) (defScope s_law_draws) .none kV4 dc4 pm4 an4 cd4 ct4), sl4⟩) (c4 : PySem.W.codeIn K cd4 "_law_draws" = true) (k4 : PySem.W.keepIn K (.ref f4) = true)
    (a5 : PySem.W.nsIn K mainGlobals "_law_take" = some (some (.ref f5))) (l5 : K.lookup f5 = some ⟨oc5, od5, .func (PySem.W.fnOf "_law_take" "_law_take" (defArgs s_law_take) (defBody s_law_take) (defScope s_law_take) .none kV5 dc5 pm5 an5 cd5 ct5), sl5⟩) (c5 : PySem.W.codeIn K cd5 "_law_take" = true) (k5 : PySem.W.keepIn K (.ref f5) = true)
    (a6 : PySem.W.nsIn K mainGlobals "_law_word" = some (some (.ref f6))) (l6 : K.lookup f6 = some ⟨oc6, od6, .func (PySem.W.fnOf "_law_word" "_law_word" (defArgs s_law_word) (defBody s_law_word) (defScope s_law_word) .none kV6 dc6 pm6 an6 cd6 ct6), sl6⟩) (c6 : PySem.W.codeIn K cd6 "_law_word" = true) (k6 : PySem.W.keepIn K (.ref f6) = true)
    (a7 : PySem.W.nsIn K mainGlobals "_law_value" = some (some (.ref f7))) (l7 : K.lookup f7 = some ⟨oc7, od7, .func (PySem.W.fnOf "_law_value" "_law_value" (defArgs s_law_value) (defBody s_law_value) (defScope s_law_value) .none kV7 dc7 pm7 an7 cd7 ct7), sl7⟩) (c7 : PySem.W.codeIn K cd7 "_law_value" = true) (k7 : PySem.W.keepIn K (.ref f7) = true)
    (a8 : PySem.W.nsIn K mainGlobals "_law_text" = some (some (.ref f8))) (l8 : K.lookup f8 = some ⟨oc8, od8, .func (PySem.W.fnOf "_law_text" "_law_text" (defArgs s_law_text) (defBody s_law_text) (defScope s_law_text) .none kV8 dc8 pm8 an8 cd8 ct8), sl8⟩) (c8 : PySem.W.codeIn K cd8 "_law_text" = true) (k8 : PySem.W.keepIn K (.ref f8) = true)
    (a9 : PySem.W.nsIn K mainGlobals "_law_deep" = some (some (.ref f9))) (l9 : K.lookup f9 = some ⟨oc9, od9, .func (PySem.W.fnOf "_law_deep" "_law_deep" (defArgs s_law_deep) (defBody s_law_deep) (defScope s_law_deep) .none kV9 dc9 pm9 an9 cd9 ct9), sl9⟩) (c9 : PySem.W.codeIn K cd9 "_law_deep" = true) (k9 : PySem.W.keepIn K (.ref f9) = true)
    (a10 : PySem.W.nsIn K mainGlobals "_law_like" = some (some (.ref f10))) (l10 : K.lookup f10 = some ⟨oc10, od10, .func (PySem.W.fnOf "_law_like" "_law_like" (defArgs s_law_like) (defBody s_law_like) (defScope s_law_like) .none kV10 dc10 pm10 an10 cd10 ct10), sl10⟩) (c10 : PySem.W.codeIn K cd10 "_law_like" = true) (k10 : PySem.W.keepIn K (.ref f10) = true)
    (a11 : PySem.W.nsIn K mainGlobals "_law_words" = some (some (.ref f11))) (l11 : K.lookup f11 = some ⟨oc11, od11, .func (PySem.W.fnOf "_law_words" "_law_words" (defArgs s_law_words) (defBody s_law_words) (defScope s_law_words) .none kV11 dc11 pm11 an11 cd11 ct11), sl11⟩) (c11 : PySem.W.codeIn K cd11 "_law_words" = true) (k11 : PySem.W.keepIn K (.ref f11) = true)
    (a12 : PySem.W.nsIn K mainGlobals "_law_gap" = some (some (.ref f12))) (l12 : K.lookup f12 = some ⟨oc12, od12, .func (PySem.W.fnOf "_law_gap" "_law_gap" (defArgs s_law_gap) (defBody s_law_gap) (defScope s_law_gap) .none kV12 dc12 pm12 an12 cd12 ct12), sl12⟩) (c12 : PySem.W.codeIn K cd12 "_law_gap" = true) (k12 : PySem.W.keepIn K (.ref f12) = true)
    (a13 : PySem.W.nsIn K mainGlobals "_law_spaced" = some (some (.ref f13))) (l13 : K.lookup f13 = some ⟨oc13, od13, .func (PySem.W.fnOf "_law_spaced" "_law_spaced" (defArgs s_law_spaced) (defBody s_law_spaced) (defScope s_law_spaced) .none kV13 dc13 pm13 an13 cd13 ct13), sl13⟩) (c13 : PySem.W.codeIn K cd13 "_law_spaced" = true) (k13 : PySem.W.keepIn K (.ref f13) = true)
    (a14 : PySem.W.nsIn K mainGlobals "law" = some (some (.ref f14))) (l14 : K.lookup f14 = some ⟨oc14, od14, .func (PySem.W.fnOf "law" "law" (defArgs s_law) (defBody s_law) (defScope s_law) .none kV14 dc14 pm14 an14 cd14 ct14), sl14⟩) (c14 : PySem.W.codeIn K cd14 "law" = true) (k14 : PySem.W.keepIn K (.ref f14) = true)
    (zlen : PySem.W.nsIn K mainGlobals "len" = some none)
    (zrange : PySem.W.nsIn K mainGlobals "range" = some none)
    (zint : PySem.W.nsIn K mainGlobals "int" = some none)
    (zabs : PySem.W.nsIn K mainGlobals "abs" = some none)
    (zstr : PySem.W.nsIn K mainGlobals "str" = some none)
    (ztuple : PySem.W.nsIn K mainGlobals "tuple" = some none)
    (zlist : PySem.W.nsIn K mainGlobals "list" = some none)
    (zbool : PySem.W.nsIn K mainGlobals "bool" = some none)
    (zisinstance : PySem.W.nsIn K mainGlobals "isinstance" = some none)
    (gc0 : PySem.W.nsIn K mainGlobals "LETTERS" = some (some (.str "abcdefghijklmnopqrstuvwxyz" t0)))
    (gc1 : PySem.W.nsIn K mainGlobals "RUN_SIGNS" = some (some (.str "abcdefghijklmnopqrstuvwxyz0123456789" t1)))
    (gc2 : PySem.W.nsIn K mainGlobals "BLANKS" = some (some (.str " \n" t2)))
    (gc3 : PySem.W.nsIn K mainGlobals "LONGEST_WORD" = some (some (.int 12 t3)))
    : ∃ fd : FuncData, (∀ (s : Shared) (v : Value), BindsTo s fd ⟨[v], []⟩ [("script", v)]) ∧ ∀ base : Heap, K.In base → base.Ns mainGlobals mg → FnOk l.prog w K mg base CX0 30 fa fd ["script"] (spLaw K) := by
  have e := hfa.symm.trans (PySem.W.mg_of X G a14)
  cases e
  have B : Bn mg := ⟨PySem.W.mg_none_of X G zlen, PySem.W.mg_none_of X G zrange, PySem.W.mg_none_of X G zint, PySem.W.mg_none_of X G zabs, PySem.W.mg_none_of X G zstr, PySem.W.mg_none_of X G ztuple, PySem.W.mg_none_of X G zlist, PySem.W.mg_none_of X G zbool, PySem.W.mg_none_of X G zisinstance⟩
  have M : Mc mg := ⟨⟨_, PySem.W.mg_of X G gc0⟩, ⟨_, PySem.W.mg_of X G gc1⟩, ⟨_, PySem.W.mg_of X G gc2⟩, ⟨_, PySem.W.mg_of X G gc3⟩⟩
  have F0 := fun_mk (st := s_read_value) l0 c0 k0
  have b0 := F0.binds (ps := p_read_value) fun _ _ _ _ _ _ us hl => match us, hl with | [_], _ => rfl
  have D_read_value : DefAt K mg "read_value" s_read_value p_read_value := ⟨⟨f0, _, F0, PySem.W.mg_of X G a0, b0⟩⟩
  have F1 := fun_mk (st := s_behind_blanks) l1 c1 k1
  have b1 := F1.binds (ps := p_behind_blanks) fun _ _ _ _ _ _ us hl => match us, hl with | [_, _], _ => rfl
  have D_behind_blanks : DefAt K mg "_behind_blanks" s_behind_blanks p_behind_blanks := ⟨⟨f1, _, F1, PySem.W.mg_of X G a1, b1⟩⟩
  have F2 := fun_mk (st := s_word_at) l2 c2 k2
  have b2 := F2.binds (ps := p_word_at) fun _ _ _ _ _ _ us hl => match us, hl with | [_, _], _ => rfl
  have D_word_at : DefAt K mg "_word_at" s_word_at p_word_at := ⟨⟨f2, _, F2, PySem.W.mg_of X G a2, b2⟩⟩
  have F3 := fun_mk (st := s_write_value) l3 c3 k3
  have b3 := F3.binds (ps := p_write_value) fun _ _ _ _ _ _ us hl => match us, hl with | [_], _ => rfl
  have D_write_value : DefAt K mg "write_value" s_write_value p_write_value := ⟨⟨f3, _, F3, PySem.W.mg_of X G a3, b3⟩⟩
  have F4 := fun_mk (st := s_law_draws) l4 c4 k4
  have b4 := F4.binds (ps := p_law_draws) fun _ _ _ _ _ _ us hl => match us, hl with | [_, _], _ => rfl
  have D_law_draws : DefAt K mg "_law_draws" s_law_draws p_law_draws := ⟨⟨f4, _, F4, PySem.W.mg_of X G a4, b4⟩⟩
  have F5 := fun_mk (st := s_law_take) l5 c5 k5
  have b5 := F5.binds (ps := p_law_take) fun _ _ _ _ _ _ us hl => match us, hl with | [_, _], _ => rfl
  have D_law_take : DefAt K mg "_law_take" s_law_take p_law_take := ⟨⟨f5, _, F5, PySem.W.mg_of X G a5, b5⟩⟩
  have F6 := fun_mk (st := s_law_word) l6 c6 k6
  have b6 := F6.binds (ps := p_law_word) fun _ _ _ _ _ _ us hl => match us, hl with | [_], _ => rfl
  have D_law_word : DefAt K mg "_law_word" s_law_word p_law_word := ⟨⟨f6, _, F6, PySem.W.mg_of X G a6, b6⟩⟩
  have F7 := fun_mk (st := s_law_value) l7 c7 k7
  have b7 := F7.binds (ps := p_law_value) fun _ _ _ _ _ _ us hl => match us, hl with | [_, _], _ => rfl
  have D_law_value : DefAt K mg "_law_value" s_law_value p_law_value := ⟨⟨f7, _, F7, PySem.W.mg_of X G a7, b7⟩⟩
  have F8 := fun_mk (st := s_law_text) l8 c8 k8
  have b8 := F8.binds (ps := p_law_text) fun _ _ _ _ _ _ us hl => match us, hl with | [_], _ => rfl
  have D_law_text : DefAt K mg "_law_text" s_law_text p_law_text := ⟨⟨f8, _, F8, PySem.W.mg_of X G a8, b8⟩⟩
  have F9 := fun_mk (st := s_law_deep) l9 c9 k9
  have b9 := F9.binds (ps := p_law_deep) fun _ _ _ _ _ _ us hl => match us, hl with | [_, _], _ => rfl
  have D_law_deep : DefAt K mg "_law_deep" s_law_deep p_law_deep := ⟨⟨f9, _, F9, PySem.W.mg_of X G a9, b9⟩⟩
  have F10 := fun_mk (st := s_law_like) l10 c10 k10
  have b10 := F10.binds (ps := p_law_like) fun _ _ _ _ _ _ us hl => match us, hl with | [_, _], _ => rfl
  have D_law_like : DefAt K mg "_law_like" s_law_like p_law_like := ⟨⟨f10, _, F10, PySem.W.mg_of X G a10, b10⟩⟩
  have F11 := fun_mk (st := s_law_words) l11 c11 k11
  have b11 := F11.binds (ps := p_law_words) fun _ _ _ _ _ _ us hl => match us, hl with | [_], _ => rfl
  have D_law_words : DefAt K mg "_law_words" s_law_words p_law_words := ⟨⟨f11, _, F11, PySem.W.mg_of X G a11, b11⟩⟩
  have F12 := fun_mk (st := s_law_gap) l12 c12 k12
  have b12 := F12.binds (ps := p_law_gap) fun _ _ _ _ _ _ us hl => match us, hl with | [_], _ => rfl
  have D_law_gap : DefAt K mg "_law_gap" s_law_gap p_law_gap := ⟨⟨f12, _, F12, PySem.W.mg_of X G a12, b12⟩⟩
  have F13 := fun_mk (st := s_law_spaced) l13 c13 k13
  have b13 := F13.binds (ps := p_law_spaced) fun _ _ _ _ _ _ us hl => match us, hl with | [_, _], _ => rfl
  have D_law_spaced : DefAt K mg "_law_spaced" s_law_spaced p_law_spaced := ⟨⟨f13, _, F13, PySem.W.mg_of X G a13, b13⟩⟩
  have F14 := fun_mk (st := s_law) l14 c14 k14
  have b14 := F14.binds (ps := p_law) fun _ _ _ _ _ _ us hl => match us, hl with | [_], _ => rfl
  refine ⟨PySem.W.fnOf "law" "law" (defArgs s_law) (defBody s_law) (defScope s_law) .none kV14 dc14 pm14 an14 cd14 ct14, fun s v => .of_eq rfl, fun base _ _ => ?_⟩
  exact ok_law F14 B M D_read_value D_behind_blanks D_word_at D_write_value D_law_draws D_law_take D_law_word D_law_value D_law_text D_law_deep D_law_like D_law_words D_law_gap D_law_spaced
theorem walk {l : PySem.W.OpenLaw} {q : Program} {loose : List Str} {XP : (Str → Option Value) → Heap → Prop} {YP : World → Heap → Prop} {d : DefRec} {K : Params → PySem.W.Frag} (hn : l.most = some 63) (hdf : d.params.defaults = [])
    (hY : ∀ (w : World) (h : Heap), YP w h → (K w.params).In h)
    (F : ∀ (w : World) (mg : Str → Option Value) (fa : Addr) (h : Heap), (K w.params).In h → h.Ns mainGlobals mg → mg d.name = some (.ref fa) →
      ∃ fd : FuncData, (∀ (s : Shared) (u : Value), BindsTo s fd ⟨[u], []⟩ [("script", u)]) ∧ ∀ base : Heap, (K w.params).In base → base.Ns mainGlobals mg → FnOk l.prog w (K w.params) mg base CX0 30 fa fd ["script"] (spLaw (K w.params))) :
    PySem.W.WalkO q loose XP YP l.row.toRowW d [] (fun f vs => PySem.call f vs) :=
  L2.walk_of (n := 63) (k := 30) (x := "script") (CX := fun _ => CX0) (sp := fun w => spLaw (K w.params)) hn (by decide) hdf ⟨rfl, by decide, by decide⟩ hY F (fun _ _ a ns hl _ hS => ⟨a, ns, rfl, hS, hl, fun _ => rfl⟩) fun _ _ _ _ _ z => z
end Og
open PySem PySem.W PyProof.Rows
set_option maxRecDepth 100000 in
set_option maxHeartbeats 0 in
theorem PySem.Challenge.cw_ownglass_k01_values_read_back_holds : PySem.Challenge.rw_ownglass_k01_values_read_back.Holds := by
  w_on; o_law; k_head; (case hw => w_witness2)
  k_fill
  refine Og.walk (l := PySem.Challenge.rw_ownglass_k01_values_read_back) rfl rfl (fun w h Y => PySem.W.kIn_of Y) ?F
  case F =>
    intro w mg fa h KX G hmg
    refine' Og.all_mk KX G hmg ?a0 ?l0 ?c0 ?k0 ?a1 ?l1 ?c1 ?k1 ?a2 ?l2 ?c2 ?k2 ?a3 ?l3 ?c3 ?k3 ?a4 ?l4 ?c4 ?k4 ?a5 ?l5 ?c5 ?k5 ?a6 ?l6 ?c6 ?k6 ?a7 ?l7 ?c7 ?k7 ?a8 ?l8 ?c8 ?k8 ?a9 ?l9 ?c9 ?k9 ?a10 ?l10 ?c10 ?k10 ?a11 ?l11 ?c11 ?k11 ?a12 ?l12 ?c12 ?k12 ?a13 ?l13 ?c13 ?k13 ?a14 ?l14 ?c14 ?k14 ?zlen ?zrange ?zint ?zabs ?zstr ?ztuple ?zlist ?zbool ?zisinstance ?gc0 ?gc1 ?gc2 ?gc3
    (case a0 => k_is)
    (case l0 => k_is)
    (case c0 => k_is)
    (case k0 => k_is)
    (case a1 => k_is)
    (case l1 => k_is)
    (case c1 => k_is)
    (case k1 => k_is)
    (case a2 => k_is)
    (case l2 => k_is)
    (case c2 => k_is)
    (case k2 => k_is)
    (case a3 => k_is)
    (case l3 => k_is)
    (case c3 => k_is)
    (case k3 => k_is)
    (case a4 => k_is)
    (case l4 => k_is)
    (case c4 => k_is)
    (case k4 => k_is)
    (case a5 => k_is)
    (case l5 => k_is)
    (case c5 => k_is)
    (case k5 => k_is)
    (case a6 => k_is)
    (case l6 => k_is)
    (case c6 => k_is)
    (case k6 => k_is)
    (case a7 => k_is)
    (case l7 => k_is)
    (case c7 => k_is)
    (case k7 => k_is)
    (case a8 => k_is)
    (case l8 => k_is)
    (case c8 => k_is)
    (case k8 => k_is)
    (case a9 => k_is)
    (case l9 => k_is)
    (case c9 => k_is)
    (case k9 => k_is)
    (case a10 => k_is)
    (case l10 => k_is)
    (case c10 => k_is)
    (case k10 => k_is)
    (case a11 => k_is)
    (case l11 => k_is)
    (case c11 => k_is)
    (case k11 => k_is)
    (case a12 => k_is)
    (case l12 => k_is)
    (case c12 => k_is)
    (case k12 => k_is)
    (case a13 => k_is)
    (case l13 => k_is)
    (case c13 => k_is)
    (case k13 => k_is)
    (case a14 => k_is)
    (case l14 => k_is)
    (case c14 => k_is)
    (case k14 => k_is)
    (case zlen => k_is)
    (case zrange => k_is)
    (case zint => k_is)
    (case zabs => k_is)
    (case zstr => k_is)
    (case ztuple => k_is)
    (case zlist => k_is)
    (case zbool => k_is)
    (case zisinstance => k_is)
    (case gc0 => k_is)
    (case gc1 => k_is)
    (case gc2 => k_is)
    (case gc3 => k_is)
