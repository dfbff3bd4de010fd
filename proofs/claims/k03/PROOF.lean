import PyProof.Rows.All
import Wide.All
import OpenK.AllK
import Wide.FinOn
import HandS.ForMost
import HandS.IsInst
import HandS.TupAny
import HandS.Style
import HandS.Codes
import HandS.TryOnly
import HandS.Zip
import KE.KDictZip
import KE.KDictList
import PySem.Challenge.RW_ownglass_k03_same_values
set_option Elab.async false
set_option linter.all false
set_option maxRecDepth 100000
set_option maxHeartbeats 4000000
set_option Elab.async false
set_option linter.all false
set_option maxRecDepth 100000
/-! L0: what the proofs of all laws share: heaps that keep all but some lists, trees (words and lists of trees), the law's hand, callees. -/
namespace Og
open PySem PySem.Spec PyProof.Rows L2

/-! ### heaps: each tracked thing stays, but for lists at the places S -/
def Keep (S : List Addr) (H H' : Hp) : Prop := ∀ b o, H b = some o → H' b = some o ∨ (b ∈ S ∧ ∃ xs ys, o = .lst xs ∧ H' b = some (.lst ys))
theorem Keep.refl {S : List Addr} {H : Hp} : Keep S H H := fun _ _ e => .inl e
theorem Keep.trans {S : List Addr} {H H1 H2 : Hp} (a : Keep S H H1) (b : Keep S H1 H2) : Keep S H H2 := fun p o e => by
  rcases a p o e with h | ⟨h, xs, ys, e1, e2⟩
  · exact b p o h
  · rcases b p _ e2 with h' | ⟨_, xs', ys', e3, e4⟩
    · exact .inr ⟨h, xs, ys, e1, h'⟩
    · exact .inr ⟨h, xs, ys', e1, e4⟩
theorem Keep.mono {S S' : List Addr} {H H1 : Hp} (a : Keep S H H1) (h : ∀ x ∈ S, x ∈ S') : Keep S' H H1 := fun p o e => by
  rcases a p o e with q | ⟨q, r⟩
  · exact .inl q
  · exact .inr ⟨h _ q, r⟩
theorem Keep.new {S : List Addr} {H : Hp} {p : Addr} {o : HO} (h : H p = none) : Keep S H (upd H p o) := fun b u e => .inl (by rw [upd_ne (ne_of_none e h)]; exact e)
theorem Keep.newT {S : List Addr} {H H1 : Hp} {p : Addr} {o : HO} (a : Keep S H H1) (h : H1 p = none) : Keep S H (upd H1 p o) := a.trans (Keep.new h)
theorem Keep.set {S : List Addr} {H : Hp} {p : Addr} {xs ys : List V} (h : H p = some (.lst xs)) (m : p ∈ S) : Keep S H (upd H p (.lst ys)) := fun b u e => by
  by_cases hb : b = p
  · subst hb
    rw [h] at e
    cases e
    exact .inr ⟨m, xs, ys, rfl, upd_same⟩
  · exact .inl (by rw [upd_ne hb]; exact e)
theorem Keep.setT {S : List Addr} {H H1 : Hp} {p : Addr} {xs ys : List V} (a : Keep S H H1) (h : H1 p = some (.lst xs)) (m : p ∈ S) : Keep S H (upd H1 p (.lst ys)) := a.trans (Keep.set h m)
/-- a list that is new may change -/
theorem Keep.drop {S : List Addr} {H H1 : Hp} {p : Addr} (a : Keep (p :: S) H H1) (h : H p = none) : Keep S H H1 := fun b o e => by
  rcases a b o e with q | ⟨q, r⟩
  · exact .inl q
  · rcases List.mem_cons.mp q with q | q
    · subst q
      rw [h] at e
      cases e
    · exact .inr ⟨q, r⟩
theorem Keep.cons {S : List Addr} {H H1 : Hp} {p : Addr} (a : Keep S H H1) : Keep (p :: S) H H1 := a.mono fun _ h => List.mem_cons_of_mem _ h
theorem Keep.get {S : List Addr} {H H1 : Hp} {b : Addr} {o : HO} (a : Keep S H H1) (e : H b = some o) (h : b ∉ S) : H1 b = some o := by
  rcases a b o e with q | ⟨q, _⟩
  · exact q
  · exact absurd q h
theorem Keep.free {S : List Addr} {H H1 : Hp} {b : Addr} (a : Keep S H H1) (e : H1 b = none) : H b = none := by
  cases q : H b with
  | none => rfl
  | some o =>
    rcases a b o q with r | ⟨_, _, _, _, r⟩ <;> rw [r] at e <;> cases e
theorem Keep.rdT {S : List Addr} {H H1 : Hp} {b : Addr} {xs : List V} (a : Keep S H H1) (e : Rd H b (.tup xs)) : Rd H1 b (.tup xs) := by
  rcases e with e | ⟨o, e⟩
  · rcases a b _ e with q | ⟨_, _, _, q, _⟩
    · exact .inl q
    · cases q
  · rcases a b _ e with q | ⟨_, _, _, q, _⟩
    · exact .inr ⟨o, q⟩
    · cases q
theorem Keep.sqT {K : PySem.W.Frag} {S : List Addr} {H H1 : Hp} {b : Addr} {xs : List V} (a : Keep S H H1) (e : SqT K H b xs) : SqT K H1 b xs := by
  rcases e with e | e
  · exact .inl (a.rdT e)
  · exact .inr e
theorem Keep.sqL {K : PySem.W.Frag} {S : List Addr} {H H1 : Hp} {b : Addr} {xs : List V} (a : Keep S H H1) (h : b ∉ S) (e : SqL K H b xs) : SqL K H1 b xs := by
  rcases e with (e | ⟨o, e⟩) | e
  · exact .inl (.inl (a.get e h))
  · exact .inl (.inr ⟨o, a.get e h⟩)
  · exact .inr e
theorem Keep.tup {S : List Addr} {H H1 : Hp} {b : Addr} {xs : List V} (a : Keep S H H1) (e : H b = some (.tup xs)) : H1 b = some (.tup xs) := by
  rcases a b _ e with q | ⟨_, _, _, q, _⟩
  · exact q
  · cases q
theorem Keep.of_same {S : List Addr} {H H1 : Hp} (a : Same H H1) : Keep S H H1 := fun b o e => .inl (a b o e)
theorem Keep.same {H H1 : Hp} (a : Keep [] H H1) : Same H H1 := fun b o e => a.get e (by simp)

/-! ### texts by their codes -/
def tx (cs : List Nat) : Str := ⟨cs.toArray⟩
theorem tx_list (cs : List Nat) : (tx cs).cps.toList = cs := rfl
theorem tx_len (cs : List Nat) : (tx cs).length = cs.length := by
  show cs.toArray.size = cs.length
  simp
theorem tx_app (a b : List Nat) : tx a ++ tx b = tx (a ++ b) := by
  show Str.mk (a.toArray ++ b.toArray) = Str.mk (a ++ b).toArray
  simp
theorem tx_of (s : Str) : s = tx s.cps.toList := by
  cases s
  rfl
theorem tx_inj {a b : List Nat} (h : tx a = tx b) : a = b := by
  have q := congrArg (fun s : Str => s.cps.toList) h
  exact q
theorem tx_str {a b : List Nat} (h : V.str (tx a) = V.str (tx b)) : a = b := tx_inj (V.str.inj h)
theorem atI_tx {cs : List Nat} {z : Int} {c : Nat} (h : atI (tx cs).cps.toList z = some c) : atI cs z = some c := h
/-! ### trees -/
inductive Tree where
  | w (x : List Nat)
  | l (ts : List Tree)
mutual
def Tr (K : PySem.W.Frag) (H : Hp) : V → Tree → Prop
  | v, .w x => v = .str (tx x)
  | v, .l ts => ∃ a vs, v = .ref a ∧ SqT K H a vs ∧ Trs K H vs ts
def Trs (K : PySem.W.Frag) (H : Hp) : List V → List Tree → Prop
  | vs, [] => vs = []
  | vs, t :: ts => ∃ v r, vs = v :: r ∧ Tr K H v t ∧ Trs K H r ts
end
mutual
theorem Tr.keep {K : PySem.W.Frag} {S : List Addr} {H H1 : Hp} (a : Keep S H H1) : ∀ {v : V} {t : Tree}, Tr K H v t → Tr K H1 v t
  | v, .w x, h => by rw [Tr] at h ⊢; exact h
  | v, .l ts, h => by
    rw [Tr] at h ⊢
    obtain ⟨p, vs, e, h1, h2⟩ := h
    exact ⟨p, vs, e, a.sqT h1, Trs.keep a h2⟩
theorem Trs.keep {K : PySem.W.Frag} {S : List Addr} {H H1 : Hp} (a : Keep S H H1) : ∀ {vs : List V} {ts : List Tree}, Trs K H vs ts → Trs K H1 vs ts
  | vs, [], h => by rw [Trs] at h ⊢; exact h
  | vs, t :: ts, h => by
    rw [Trs] at h ⊢
    obtain ⟨v, r, e, h1, h2⟩ := h
    exact ⟨v, r, e, Tr.keep a h1, Trs.keep a h2⟩
end
section
variable {K : PySem.W.Frag} {H : Hp}
theorem tr_w {x : List Nat} : Tr K H (.str (tx x)) (.w x) := by rw [Tr]
theorem tr_l {a : Addr} {vs : List V} {ts : List Tree} (h : SqT K H a vs) (r : Trs K H vs ts) : Tr K H (.ref a) (.l ts) := by rw [Tr]; exact ⟨a, vs, rfl, h, r⟩
theorem trs_nil : Trs K H [] [] := by rw [Trs]
theorem trs_cons {v : V} {vs : List V} {t : Tree} {ts : List Tree} (h : Tr K H v t) (r : Trs K H vs ts) : Trs K H (v :: vs) (t :: ts) := by rw [Trs]; exact ⟨v, vs, rfl, h, r⟩
theorem Tr.word {v : V} {x : List Nat} (h : Tr K H v (.w x)) : v = .str (tx x) := by rw [Tr] at h; exact h
theorem Tr.list {v : V} {ts : List Tree} (h : Tr K H v (.l ts)) : ∃ a vs, v = .ref a ∧ SqT K H a vs ∧ Trs K H vs ts := by rw [Tr] at h; exact h
theorem Trs.nil {vs : List V} (h : Trs K H vs []) : vs = [] := by rw [Trs] at h; exact h
theorem Trs.cons {vs : List V} {t : Tree} {ts : List Tree} (h : Trs K H vs (t :: ts)) : ∃ v r, vs = v :: r ∧ Tr K H v t ∧ Trs K H r ts := by rw [Trs] at h; exact h
theorem Trs.length : ∀ {vs : List V} {ts : List Tree}, Trs K H vs ts → vs.length = ts.length
  | vs, [], h => by rw [h.nil]; rfl
  | vs, t :: ts, h => by
    obtain ⟨v, r, rfl, _, h2⟩ := h.cons
    rw [List.length_cons, List.length_cons, Trs.length h2]
theorem Trs.get : ∀ {vs : List V} {ts : List Tree} {i : Nat} {t : Tree}, Trs K H vs ts → ts[i]? = some t → ∃ v, vs[i]? = some v ∧ Tr K H v t
  | vs, [], i, t, h, e => by simp at e
  | vs, t' :: ts, 0, t, h, e => by
    obtain ⟨v, r, rfl, h1, h2⟩ := h.cons
    have e' : t' = t := Option.some.inj e
    subst e'
    exact ⟨v, rfl, h1⟩
  | vs, t' :: ts, i + 1, t, h, e => by
    obtain ⟨v, r, rfl, h1, h2⟩ := h.cons
    exact Trs.get (i := i) h2 e
theorem Trs.append : ∀ {vs ws : List V} {ts us : List Tree}, Trs K H vs ts → Trs K H ws us → Trs K H (vs ++ ws) (ts ++ us)
  | vs, ws, [], us, h, g => by rw [h.nil]; exact g
  | vs, ws, t :: ts, us, h, g => by
    obtain ⟨v, r, rfl, h1, h2⟩ := h.cons
    exact trs_cons h1 (Trs.append h2 g)
theorem Trs.take : ∀ {vs : List V} {ts : List Tree} (n : Nat), Trs K H vs ts → Trs K H (vs.take n) (ts.take n)
  | vs, ts, 0, h => trs_nil
  | vs, [], n + 1, h => by rw [h.nil]; exact trs_nil
  | vs, t :: ts, n + 1, h => by
    obtain ⟨v, r, rfl, h1, h2⟩ := h.cons
    exact trs_cons h1 (Trs.take n h2)
theorem Trs.drop : ∀ {vs : List V} {ts : List Tree} (n : Nat), Trs K H vs ts → Trs K H (vs.drop n) (ts.drop n)
  | vs, ts, 0, h => h
  | vs, [], n + 1, h => by rw [h.nil]; exact trs_nil
  | vs, t :: ts, n + 1, h => by
    obtain ⟨v, r, rfl, h1, h2⟩ := h.cons
    exact Trs.drop n h2
theorem tr_tup {a : Addr} {vs : List V} {ts : List Tree} (h : H a = some (.tup vs)) (r : Trs K H vs ts) : Tr K H (.ref a) (.l ts) := tr_l (.inl (.inl h)) r
end
theorem Trs.snoc {K : PySem.W.Frag} {H : Hp} {vs : List V} {its : List Tree} {x : Tree} (h : Trs K H vs (its ++ [x])) : ∃ vs' v, vs = vs' ++ [v] ∧ Trs K H vs' its ∧ Tr K H v x := by
  induction its generalizing vs with
  | nil =>
    obtain ⟨v, r, rfl, h1, h2⟩ := h.cons
    rw [h2.nil]
    exact ⟨[], v, rfl, trs_nil, h1⟩
  | cons t ts ih =>
    obtain ⟨v, r, rfl, h1, h2⟩ := h.cons
    obtain ⟨vs', v', rfl, h3, h4⟩ := ih h2
    exact ⟨v :: vs', v', rfl, trs_cons h1 h3, h4⟩
theorem Trs.one {K : PySem.W.Frag} {H : Hp} {v : V} {t : Tree} (h : Tr K H v t) : Trs K H [v] [t] := trs_cons h trs_nil
theorem last_get {α : Type} (xs : List α) (x : α) : (xs ++ [x])[(xs ++ [x]).length - 1]? = some x := by
  rw [List.length_append, List.length_singleton, Nat.add_sub_cancel, List.getElem?_append_right (Nat.le_refl _), Nat.sub_self]
  rfl
theorem snoc_of {α : Type} {xs : List α} (h : xs ≠ []) : ∃ ys y, xs = ys ++ [y] := ⟨xs.dropLast, xs.getLast h, (List.dropLast_concat_getLast h).symm⟩
theorem emp_iff {vs : List V} {its : List Tree} {K : PySem.W.Frag} {H : Hp} (h : Trs K H vs its) : vs.isEmpty = its.isEmpty := by
  cases its with
  | nil => rw [h.nil]; rfl
  | cons t r => obtain ⟨v, r', rfl, _⟩ := h.cons; rfl
theorem SqT.of_tup {K : PySem.W.Frag} {H : Hp} {a : Addr} {vs : List V} (h : H a = some (.tup vs)) : SqT K H a vs := .inl (.inl h)

/-- a comprehension without a test -/
theorem yes {σ : L2.St} {H : Hp} {A B : Hp → Prop} (h : A H) : tYes σ H fun b H3 => if b = true then A H3 else B H3 := by
  show (if true = true then A H else B H)
  rw [if_pos rfl]
  exact h
/-! ### lists of ints -/
theorem map_int_get {ns : List Int} {i : Nat} {x : V} (h : (ns.map V.int)[i]? = some x) : ∃ n, x = .int n ∧ ns[i]? = some n := by
  rw [List.getElem?_map] at h
  cases e : ns[i]? with
  | none => rw [e] at h; cases h
  | some n => rw [e] at h; exact ⟨n, (Option.some.inj h).symm, rfl⟩
theorem atI_of {α : Type} {xs : List α} {z : Int} (h0 : 0 ≤ z) (h : z < (xs.length : Int)) : ∃ x, atI xs z = some x ∧ xs[z.toNat]? = some x := by
  have l : z.toNat < xs.length := by omega
  refine ⟨xs[z.toNat], ?_, List.getElem?_eq_getElem l⟩
  have q := atI_nat (List.getElem?_eq_getElem l)
  rw [show ((z.toNat : Nat) : Int) = z by omega] at q
  exact q
theorem atI_zero {α : Type} (x : α) (xs : List α) : atI (x :: xs) 0 = some x := atI_nat (j := 0) rfl
theorem atI_int {ns : List Int} {z : Int} (h0 : 0 ≤ z) (h : z < (ns.length : Int)) : ∃ n, atI (ns.map V.int) z = some (.int n) := by
  obtain ⟨x, h1, h2⟩ := atI_of (xs := ns.map V.int) h0 (by rw [List.length_map]; exact h)
  obtain ⟨n, rfl, _⟩ := map_int_get h2
  exact ⟨n, h1⟩
theorem ixN_int {n : Nat} {z : Int} (h0 : 0 ≤ z) (h : z < (n : Int)) : ixN n z = some z.toNat := by
  unfold ixN
  rw [if_pos h0, if_pos h]
theorem map_int_set (ns : List Int) (j : Nat) (y : Int) : (ns.map V.int).set j (.int y) = (ns.set j y).map V.int := by
  rw [List.map_set]
theorem map_int_app (ns : List Int) (y : Int) : ns.map V.int ++ [V.int y] = (ns ++ [y]).map V.int := by
  rw [List.map_append]; rfl

/-! ### isinstance, truth -/
def Tree.isW : Tree → Bool
  | .w _ => true
  | .l _ => false
section
variable {K : PySem.W.Frag} {H : Hp}
theorem tyX_tup {a : Addr} {xs : List V} (h : SqT K H a xs) : TyX K H (.ref a) (.type "tuple") := by
  rcases h with (h | ⟨o, h⟩) | ⟨o, its, n, h, c, _⟩
  · exact .base (.tup h)
  · exact .fTuple h
  · exact .kTuple h c
theorem kit_ss : PySem.W.kitOne K (.type "str") (.type "str") = some true := kit_ty (by decide +kernel)
theorem kit_ts : PySem.W.kitOne K (.type "tuple") (.type "str") = some false := kit_ty (by decide +kernel)
theorem kit_st : PySem.W.kitOne K (.type "str") (.type "tuple") = some false := kit_ty (by decide +kernel)
theorem kit_tt : PySem.W.kitOne K (.type "tuple") (.type "tuple") = some true := kit_ty (by decide +kernel)
/-- the witnesses of isinstance(v, str), isinstance(v, tuple) for a tree v -/
theorem isi_str {v : V} {t : Tree} (h : Tr K H v t) : ∃ ty u, ClsV (.ty "str") u ∧ TyX K H v ty ∧ PySem.W.kitOne K ty u = some t.isW := by
  cases t with
  | w x => rw [h.word]; exact ⟨_, _, .ty _, .base (.str _), kit_ss⟩
  | l ts =>
    obtain ⟨a, vs, rfl, h1, _⟩ := h.list
    exact ⟨_, _, .ty _, tyX_tup h1, kit_ts⟩
theorem isi_tup {v : V} {t : Tree} (h : Tr K H v t) : ∃ ty u, ClsV (.ty "tuple") u ∧ TyX K H v ty ∧ PySem.W.kitOne K ty u = some (!t.isW) := by
  cases t with
  | w x => rw [h.word]; exact ⟨_, _, .ty _, .base (.str _), kit_st⟩
  | l ts =>
    obtain ⟨a, vs, rfl, h1, _⟩ := h.list
    exact ⟨_, _, .ty _, tyX_tup h1, kit_tt⟩
theorem isi_strS {x : Str} : ∃ ty u, ClsV (.ty "str") u ∧ TyX K H (.str x) ty ∧ PySem.W.kitOne K ty u = some true := ⟨_, _, .ty _, .base (.str _), kit_ty (by decide +kernel)⟩
theorem isi_boolB {x : Bool} : ∃ ty u, ClsV (.ty "bool") u ∧ TyX K H (.bl x) ty ∧ PySem.W.kitOne K ty u = some true := ⟨_, _, .ty _, .base (.bl _), kit_ty (by decide +kernel)⟩
/-- a test that is a value of True or False -/
theorem tru_list {p : Addr} {xs : List V} (h : H p = some (.lst xs)) : TruV K (.ref p) H (!xs.isEmpty) := .inl ⟨xs, SqL.of h, rfl⟩
end
theorem sIx0 (n : Nat) : HT.sIx n 0 none = 0 := rfl
/-- a text cut: from i to j -/
theorem cutS_nat (cs : List Nat) {i j : Nat} (h : i ≤ j) (hj : j ≤ cs.length) : cutS (tx cs) (some (i : Int)) (some (j : Int)) = tx ((cs.drop i).take (j - i)) := by
  unfold cutS
  rw [HT.sIx_nat, HT.sIx_nat, tx_len, tx_list]
  rw [Nat.min_eq_left hj, Nat.min_eq_left (Nat.le_trans h hj)]
  rfl
theorem cutS_to (cs : List Nat) {j : Nat} (hj : j ≤ cs.length) : cutS (tx cs) none (some (j : Int)) = tx (cs.take j) := by
  unfold cutS
  rw [HT.sIx_nat, tx_len, tx_list, Nat.min_eq_left hj, sIx0, Nat.sub_zero, List.drop_zero]
  rfl
theorem cutS_from (cs : List Nat) {i : Nat} (hj : i ≤ cs.length) : cutS (tx cs) (some (i : Int)) none = tx (cs.drop i) := by
  unfold cutS
  rw [HT.sIx_nat, tx_len, tx_list, Nat.min_eq_left hj, HT.sIx_none]
  show Str.mk (List.take (cs.length - i) (cs.drop i)).toArray = _
  rw [List.take_of_length_le (by rw [List.length_drop]; omega)]
  rfl

/-! ### callees -/
structure Callee (P : Program) (w : World) (K : PySem.W.Frag) (mg : Str → Option Value) (base : Heap) (CX : CXT) (k : Nat) (x : Str) (f : Addr) (fd : FuncData) (ps : List Str) (sp : Sp) : Prop where
  ok : FnOk P w K mg base CX k f fd ps sp
  mg : mg x = some (.ref f)
  kp : PySem.W.keepIn K (.ref f) = true
  bi : Binds K fd ps []
def Has (P : Program) (w : World) (K : PySem.W.Frag) (mg : Str → Option Value) (base : Heap) (k : Nat) (x : Str) (ps : List Str) (sp : Sp) : Prop := ∃ f fd, Callee P w K mg base CX0 k x f fd ps sp
theorem Has.mono {P : Program} {w : World} {K : PySem.W.Frag} {mg : Str → Option Value} {base : Heap} {j k : Nat} {x : Str} {ps : List Str} {sp : Sp} (h : Has P w K mg base j x ps sp) (l : j ≤ k) : Has P w K mg base k x ps sp := by
  obtain ⟨f, fd, c⟩ := h
  exact ⟨f, fd, c.ok.mono l, c.mg, c.kp, c.bi⟩
/-- a def with a promise for each n: one promise for all up to N -/
theorem has_upto {P : Program} {w : World} {K : PySem.W.Frag} {mg : Str → Option Value} {base : Heap} {k : Nat} {x : Str} {f : Addr} {fd : FuncData} {ps : List Str} {sp : Nat → Sp} (h : ∀ n, Callee P w K mg base CX0 (k + n + 1) x f fd ps (sp n)) (N : Nat) :
    Has P w K mg base (k + N + 1) x ps (fun vs H Q E => ∃ n, n ≤ N ∧ sp n vs H Q E) := by
  refine ⟨f, fd, ⟨fun vs H Q E q => ?_, fun A outer s H args us vs Q E hr e b v q => ?_⟩, (h 0).mg, (h 0).kp, (h 0).bi⟩
  · obtain ⟨n, _, q⟩ := q
    exact (h n).ok.len vs H Q E q
  · obtain ⟨n, hn, q⟩ := q
    exact ((h n).ok.mono (show k + n + 1 ≤ k + N + 1 by omega)).run A outer s H args us vs Q E hr e b v q
/-- a def as it stands behind the top -/
structure DefAt (K : PySem.W.Frag) (mg : Str → Option Value) (x : Str) (st : Stmt) (ps : List Str) : Prop where
  ex : ∃ f fd, Fun K x x st f fd ∧ mg x = some (.ref f) ∧ Binds K fd ps []
section
variable {X : Cx} {k : Nat} {x : Str} {f : Addr} {fd : FuncData} {ps : List Str} {sp : Sp} {p pos : Pos} {e : Expr} {es : List Expr} {t : TA}
theorem cal (C : Callee X.prog X.w X.K X.mg X.base CX0 k x f fd ps sp) (hr : Room k X.A) (hg : Gl X x) (ha : PA X (e :: es) t) (hdb : (x == ("__debug__" : Str)) = false := by decide)
    (he : starEach (e :: es) X.env = (false, eval e X.env) :: starEach es X.env := by rfl) (hpl : (backTo pos (starEach es X.env)).any (·.1) = false := by rfl) : PE X (.Call (.Name x p) (e :: es) [] pos) (tCall sp [] E0 t) :=
  pe_call C.ok hr hg C.mg C.kp C.bi .nil pass0 ha hdb he hpl
end
/-! ### the law's hand: a list of the draws (at d) and a number; all that is asked of it is that it is one -/
def Hd (H : Hp) (h d : Addr) : Prop := ∃ (n : Nat) (ds : List Int), H h = some (.lst [.ref d, .int n]) ∧ H d = some (.lst (ds.map V.int)) ∧ ds.length ≤ 100000
theorem Hd.ne {H : Hp} {h d : Addr} (a : Hd H h d) : d ≠ h := by
  intro q
  obtain ⟨n, ds, e, e2, _⟩ := a
  subst q
  rw [e] at e2
  have q := HO.lst.inj (Option.some.inj e2)
  cases ds with
  | nil => cases q
  | cons x r =>
    have := (List.cons.inj q).1
    cases this
theorem Hd.lst {H : Hp} {h d : Addr} (a : Hd H h d) : ∃ xs, H h = some (.lst xs) := by
  obtain ⟨n, ds, e, _⟩ := a
  exact ⟨_, e⟩
theorem Hd.neH {H : Hp} {h d p : Addr} (a : Hd H h d) (q : H p = none) : h ≠ p := by
  obtain ⟨n, ds, e, _⟩ := a
  exact ne_of_none e q
theorem Hd.neD {H : Hp} {h d p : Addr} (a : Hd H h d) (q : H p = none) : d ≠ p := by
  obtain ⟨n, ds, _, e, _⟩ := a
  exact ne_of_none e q
theorem Hd.keep {S : List Addr} {H H1 : Hp} {h d : Addr} (a : Hd H h d) (k : Keep S H H1) (hh : h ∉ S) (hd : d ∉ S) : Hd H1 h d := by
  obtain ⟨n, ds, e1, e2, l⟩ := a
  exact ⟨n, ds, k.get e1 hh, k.get e2 hd, l⟩
theorem Hd.keep0 {H H1 : Hp} {h d : Addr} (a : Hd H h d) (k : Keep [] H H1) : Hd H1 h d := a.keep k (by simp) (by simp)
theorem Hd.upd {H : Hp} {h d p : Addr} {o : HO} (a : Hd H h d) (q1 : h ≠ p) (q2 : d ≠ p) : Hd (upd H p o) h d := by
  obtain ⟨n, ds, e1, e2, l⟩ := a
  exact ⟨n, ds, by rw [upd_ne q1]; exact e1, by rw [upd_ne q2]; exact e2, l⟩
theorem Hd.new {H : Hp} {h d p : Addr} {o : HO} (a : Hd H h d) (q : H p = none) : Hd (L2.upd H p o) h d := a.upd (a.neH q) (a.neD q)
theorem sizeL {n : Nat} (h : n ≤ 100000) : n ≤ sizeLine := Nat.le_trans h (by decide)
theorem sizeLt {n : Nat} (h : n ≤ 100000) : n < sizeLine := Nat.lt_of_le_of_lt h (by decide)
end Og

namespace Og
open PySem PySem.Spec PyProof.Rows L2
/-! ### tuples of trees: index, slice, concatenation, length, making -/
def cutL {α : Type} (xs : List α) (lo hi : Option Int) : List α := (xs.drop (HT.sIx xs.length 0 lo)).take (HT.sIx xs.length xs.length hi - HT.sIx xs.length 0 lo)
theorem cutL_whole {α : Type} {xs : List α} {lo hi : Option Int} (h : HT.sIx xs.length 0 lo = 0 ∧ HT.sIx xs.length xs.length hi = xs.length) : cutL xs lo hi = xs := by
  unfold cutL
  rw [h.1, h.2, List.drop_zero, Nat.sub_zero, List.take_length]
theorem cutL_to {α : Type} (xs : List α) {j : Nat} (hj : j ≤ xs.length) : cutL xs none (some (j : Int)) = xs.take j := by
  unfold cutL
  rw [HT.sIx_nat, Nat.min_eq_left hj, sIx0, Nat.sub_zero, List.drop_zero]
theorem cutL_from {α : Type} (xs : List α) {i : Nat} (hj : i ≤ xs.length) : cutL xs (some (i : Int)) none = xs.drop i := by
  unfold cutL
  rw [HT.sIx_nat, Nat.min_eq_left hj, HT.sIx_none, List.take_of_length_le (by rw [List.length_drop]; exact Nat.le_refl _)]
theorem cutL_mid {α : Type} (xs : List α) {i j : Nat} (h : i ≤ j) (hj : j ≤ xs.length) : cutL xs (some (i : Int)) (some (j : Int)) = (xs.drop i).take (j - i) := by
  unfold cutL
  rw [HT.sIx_nat, HT.sIx_nat, Nat.min_eq_left hj, Nat.min_eq_left (Nat.le_trans h hj)]
theorem cutL_len {α : Type} (xs : List α) (lo hi : Option Int) : (cutL xs lo hi).length ≤ xs.length := by
  unfold cutL
  rw [List.length_take, List.length_drop]
  omega
theorem cutL_mem {α : Type} {xs : List α} {lo hi : Option Int} {x : α} (h : x ∈ cutL xs lo hi) : x ∈ xs := List.mem_of_mem_drop (List.mem_of_mem_take h)
section
variable {K : PySem.W.Frag} {H : Hp}
theorem Trs.cut {vs : List V} {ts : List Tree} (lo hi : Option Int) (h : Trs K H vs ts) : Trs K H (cutV vs lo hi) (cutL ts lo hi) := by
  unfold cutV cutL
  rw [h.length]
  exact (h.drop _).take _
theorem Tr.tup {v : V} {ts : List Tree} (h : Tr K H v (.l ts)) : ∃ a vs, v = .ref a ∧ SqT K H a vs ∧ vs.length = ts.length := by
  obtain ⟨a, vs, e, hs, r⟩ := h.list
  exact ⟨a, vs, e, hs, r.length⟩
/-- t[lo:hi] -/
theorem sl_tr {x : V} {ts : List Tree} {lo hi : Option Int} {Q : VK} (h : Tr K H x (.l ts)) (q : ∀ v H', Tr K H' v (.l (cutL ts lo hi)) → Keep [] H H' → Q v H') : rSlA K x lo hi H Q := by
  obtain ⟨a, vs, rfl, hs, r⟩ := h.list
  refine ⟨a, vs, rfl, hs, fun w => ?_, fun _ p np => ?_⟩
  · rw [r.length] at w
    exact q _ _ (by rw [cutL_whole w]; exact h) Keep.refl
  · exact q _ _ (tr_tup upd_same ((r.cut lo hi).keep (Keep.new (S := []) np))) (Keep.new np)
/-- t + u -/
theorem cat_tr {x y : V} {ts us : List Tree} {Q : VK} (hx : Tr K H x (.l ts)) (hy : Tr K H y (.l us)) (hz : ts.length + us.length ≤ sizeLine) (q : ∀ v H', Tr K H' v (.l (ts ++ us)) → Keep [] H H' → Q v H') : rCatA K x y H Q := by
  obtain ⟨a, vs, rfl, hs, r⟩ := hx.list
  obtain ⟨b, ws, rfl, hs2, r2⟩ := hy.list
  refine ⟨a, b, vs, ws, rfl, rfl, hs, hs2, by rw [r.length, r2.length]; exact hz, fun e => ?_, fun _ e => ?_, fun _ _ p np => ?_⟩
  · subst e
    have : ts = [] := List.length_eq_zero_iff.mp r.length.symm
    subst this
    exact q _ _ hy Keep.refl
  · subst e
    have : us = [] := List.length_eq_zero_iff.mp r2.length.symm
    subst this
    rw [List.append_nil] at q
    exact q _ _ hx Keep.refl
  · exact q _ _ (tr_tup upd_same ((r.append r2).keep (Keep.new (S := []) np))) (Keep.new np)
/-- t[i] -/
theorem ix_tr {x : V} {ts : List Tree} {i : Int} {t : Tree} {Q : VK} (h : Tr K H x (.l ts)) (e : atI ts i = some t) (q : ∀ v, Tr K H v t → Q v H) : rIxT K x (.int i) H Q := by
  obtain ⟨a, vs, rfl, hs, r⟩ := h.list
  unfold atI at e
  cases hi : ixN ts.length i with
  | none => rw [hi] at e; cases e
  | some j =>
    rw [hi] at e
    obtain ⟨v, hv, tv⟩ := r.get (i := j) e
    refine ⟨a, vs, i, v, rfl, rfl, hs, ?_, q v tv⟩
    unfold atI
    rw [r.length, hi]
    exact hv
/-- len(t) -/
theorem len_tr {x : V} {ts : List Tree} {Q : VK} (h : Tr K H x (.l ts)) (q : Q (.int (ts.length : Nat)) H) : ∃ p ys, [x] = [V.ref p] ∧ (SqL K H p ys ∨ SqT K H p ys) ∧ Q (.int ys.length) H := by
  obtain ⟨a, vs, rfl, hs, r⟩ := h.list
  exact ⟨a, vs, rfl, .inr hs, by rw [r.length]; exact q⟩
/-- (a, b, ..) -/
theorem mk_tr {p : Addr} {vs : List V} {ts : List Tree} (np : H p = none) (r : Trs K H vs ts) : Tr K (upd H p (.tup vs)) (.ref p) (.l ts) ∧ Keep [] H (upd H p (.tup vs)) :=
  ⟨tr_tup upd_same (r.keep (Keep.new (S := []) np)), Keep.new np⟩
end
/-- x != y, x == y of trees one of which is a word -/
def rNeTr (K : PySem.W.Frag) : R2 := fun x y H Q => ∃ t u : Tree, Tr K H x t ∧ Tr K H y u ∧ (t.isW = true ∨ u.isW = true) ∧ ∀ b : Bool, (b = true ↔ t ≠ u) → Q (.bl b) H
def rEqTr (K : PySem.W.Frag) : R2 := fun x y H Q => ∃ t u : Tree, Tr K H x t ∧ Tr K H y u ∧ (t.isW = true ∨ u.isW = true) ∧ ∀ b : Bool, (b = true ↔ t = u) → Q (.bl b) H
theorem op_neTr {X : Cx} (hu : X.A.units + 64 < cLine) : OpR X (compareOp .NotEq) (rNeTr X.K) := by
  intro pins s σ H x y v u Q I rx ry h
  obtain ⟨t, t', hx, hy, hw, q⟩ := h
  cases t with
  | w a =>
    have ex := hx.word
    subst ex
    cases t' with
    | w b =>
      have ey := hy.word
      subst ey
      refine op_ne pins s σ H _ _ v u Q I rx ry ⟨rfl, q _ ?_⟩
      by_cases e : a = b
      · subst e; simp
      · have : ¬ V.str (tx a) = V.str (tx b) := fun z => e (tx_str z)
        have e2 : ¬ Tree.w a = Tree.w b := fun z => e (Tree.w.inj z)
        simp [this, e2]
    | l us =>
      obtain ⟨p, ws, rfl, hs, _⟩ := hy.list
      obtain ⟨its, _, pt, _⟩ := I.tuple hs
      obtain ⟨tk, rfl⟩ := rx
      obtain rfl : u = Value.ref p := ry
      exact SeqAt.RcNeAt.str_tuple _ _ pt (by omega) _ _ _ _ ⟨.bl true, H, I, rfl, q true (by simp)⟩
  | l ts =>
    obtain ⟨p, ws, rfl, hs, _⟩ := hx.list
    cases t' with
    | w b =>
      have ey := hy.word
      subst ey
      obtain ⟨its, _, pt, _⟩ := I.tuple hs
      obtain ⟨tk, rfl⟩ := ry
      obtain rfl : v = Value.ref p := rx
      exact SeqAt.RcNeAt.tuple_str _ _ pt (by omega) _ _ _ _ ⟨.bl true, H, I, rfl, q true (by simp)⟩
    | l us => rcases hw with h | h <;> cases h
theorem op_eqTr {X : Cx} (hu : X.A.units + 64 < cLine) : OpR X (compareOp .Eq) (rEqTr X.K) := by
  intro pins s σ H x y v u Q I rx ry h
  obtain ⟨t, t', hx, hy, hw, q⟩ := h
  cases t with
  | w a =>
    have ex := hx.word
    subst ex
    cases t' with
    | w b =>
      have ey := hy.word
      subst ey
      refine op_eq pins s σ H _ _ v u Q I rx ry ⟨rfl, q _ ?_⟩
      by_cases e : a = b
      · subst e; simp
      · have : ¬ V.str (tx a) = V.str (tx b) := fun z => e (tx_str z)
        have e2 : ¬ Tree.w a = Tree.w b := fun z => e (Tree.w.inj z)
        simp [this, e2]
    | l us =>
      obtain ⟨p, ws, rfl, hs, _⟩ := hy.list
      obtain ⟨its, _, pt, _⟩ := I.tuple hs
      obtain ⟨tk, rfl⟩ := rx
      obtain rfl : u = Value.ref p := ry
      exact SeqAt.RcAt.str_tuple _ _ pt (by omega) _ _ _ _ ⟨.bl false, H, I, rfl, q false (by simp)⟩
  | l ts =>
    obtain ⟨p, ws, rfl, hs, _⟩ := hx.list
    cases t' with
    | w b =>
      have ey := hy.word
      subst ey
      obtain ⟨its, _, pt, _⟩ := I.tuple hs
      obtain ⟨tk, rfl⟩ := ry
      obtain rfl : v = Value.ref p := rx
      exact SeqAt.RcAt.tuple_str _ _ pt (by omega) _ _ _ _ ⟨.bl false, H, I, rfl, q false (by simp)⟩
    | l us => rcases hw with h | h <;> cases h
end Og

/-! ### zip over two tuples whose pairs are kept: the zip makes a new pair at each turn -/
namespace Og
open PySem PySem.Calls RZ
section
variable {prog : Program} {w : World} {A : Around} {E : Value → Shared → Prop} {s : Shared}
/-- the zip z of the tuples a, b before turn i; S is some other address -/
structure Zs (z TI TO i1 i2 a b S : Addr) (xs ys : Array Value) (i : Nat) (h : Heap) : Prop where
  ti : IsPair h TI (.ref i1) (.ref i2)
  it1 : h.IsTupleIter i1 a i
  it2 : h.IsTupleIter i2 b i
  ta : h.IsTuple a xs
  tb : h.IsTuple b ys
  to : ∃ o, h.get? TO = some o
  st : (IsZip h z TI TO .none ∧ ∃ p q, IsPair h TO p q) ∨ ∃ T f oT, IsZipHeld h z TI TO T f ∧ h.get? T = some oT ∧ T ≠ z ∧ T ≠ TO ∧ T ≠ i1 ∧ T ≠ i2 ∧ T ≠ S
variable {z TI TO i1 i2 a b S : Addr} {xs ys : Array Value} {i : Nat}
theorem Zs.at {h h' : Heap} (Z : Zs z TI TO i1 i2 a b S xs ys i h) (k : ∀ c o, c ≠ S → h.get? c = some o → h'.get? c = some o) (d : z ≠ S ∧ TI ≠ S ∧ TO ≠ S ∧ i1 ≠ S ∧ i2 ≠ S ∧ a ≠ S ∧ b ≠ S) : Zs z TI TO i1 i2 a b S xs ys i h' := by
  obtain ⟨dz, dTI, dTO, d1, d2, da, db⟩ := d
  refine ⟨k _ _ dTI Z.ti, Z.it1.at fun o e => k _ o d1 e, Z.it2.at fun o e => k _ o d2 e, ?_, ?_, ?_, ?_⟩
  · obtain ⟨o, e, r⟩ := Z.ta
    exact ⟨o, k _ o da e, r⟩
  · obtain ⟨o, e, r⟩ := Z.tb
    exact ⟨o, k _ o db e, r⟩
  · obtain ⟨o, e⟩ := Z.to
    exact ⟨o, k _ o dTO e⟩
  · rcases Z.st with ⟨e, p, q, f⟩ | ⟨T, f, oT, e, eT, r1, r2, r3, r4, r5⟩
    · exact .inl ⟨k _ _ dz e, p, q, k _ _ dTO f⟩
    · exact .inr ⟨T, f, oT, k _ _ dz e, k _ _ r5 eT, r1, r2, r3, r4, r5⟩
theorem held_item {T : Addr} {f : Bool} {oT : Obj} {x y : Value} {Q : Value → Shared → Prop} (D : ZipApart z TI TO i1 i2 a b) (hz : IsZipHeld s.heap z TI TO T f) (hT : s.heap.get? T = some oT) (hTI : IsPair s.heap TI (.ref i1) (.ref i2))
    (h1 : s.heap.IsTupleIter i1 a i) (h2 : s.heap.IsTupleIter i2 b i) (ha : s.heap.IsTuple a xs) (hb : s.heap.IsTuple b ys) (hx : xs[i]? = some x) (hy : ys[i]? = some y)
    (hQ : ∀ h', IsZipHeld h' z TI TO T true → h'.IsTupleIter i1 a (i + 1) → h'.IsTupleIter i2 b (i + 1) → IsPair h' s.heap.objs.size x y → (∀ c o, c ≠ z → c ≠ i1 → c ≠ i2 → s.heap.get? c = some o → h'.get? c = some o) → Q (.ref s.heap.objs.size) { s with heap := h' }) :
    wpAny (model prog w) A (Builtin.«zip.__next__» ⟨[.ref z], []⟩) (fun fin s' => ∃ v, fin = .done (.ret v) ∧ Q v s') E s := by
  show wpAny _ _ (field (.ref z) 2 >>= _) _ _ _
  refine wpAny_bind (wpAny_field hz rfl (x := .bool false) rfl (wpAny_bind (wpAny_field hz rfl (x := .ref TI) rfl (wpAny_bind (wpAny_seqItems hTI rfl (wpAny_bind (wpAny_tupleHeld_zip hz hT fun g1 hz1 b1 => ?_)))))))
  simp only [Bool.false_eq_true, if_false]
  rw [← Array.forIn_toList]
  simp only [List.forIn_cons, List.forIn_nil]
  refine wpAny_bind (wpAny_bind (wpAny_bind (wpAny_holding (wpAny_bind (nextOf_tuple_item (s := { s with heap := g1 }) (h1.extBut b1.extBut D.i1z) (ha.extBut b1.extBut D.l1z) hx fun g2 k1 b2 => wpAny_pure (wpAny_pure ?_))))))
  refine wpAny_bind (wpAny_bind (wpAny_holding (wpAny_bind (nextOf_tuple_item (s := { s with heap := g2 }) ((h2.extBut b1.extBut D.i2z).extBut b2.extBut D.i12.symm) ((hb.extBut b1.extBut D.l2z).extBut b2.extBut D.l2i1) hy fun g3 k2 b3 => wpAny_pure (wpAny_pure (wpAny_pure ?_))))))
  have sz : g3.objs.size = s.heap.objs.size := (b3.1.trans b2.1).trans b1.1
  show wpAny _ _ (newTuple [x, y] >>= _) _ _ _
  refine wpAny_bind (wpAny_newTuple (wpAny_pure ⟨_, rfl, ?_⟩))
  show Q (.ref g3.objs.size) _
  have new : IsPair (g3.push { cls := .type "tuple", data := .seq #[x, y] }) g3.objs.size x y := Heap.get?_push_size _ rfl
  rw [sz] at new ⊢
  have up : ∀ {c o}, g3.get? c = some o → (g3.push { cls := .type "tuple", data := .seq #[x, y] }).get? c = some o := fun q => Heap.get?_push_of_some _ q
  exact hQ _ (up (b3.extBut _ _ D.i2z.symm (b2.extBut _ _ D.i1z.symm hz1))) ((k1.extBut b3.extBut D.i12).at fun o q => up q) (k2.at fun o q => up q) new fun c o c1 c2 c3 q => up (b3.extBut _ _ c3 (b2.extBut _ _ c2 (b1.extBut _ _ c1 q)))
theorem held_end {T : Addr} {f : Bool} {oT : Obj} {Q : Fin → Shared → Prop} (hh : A.handled = none) (D : ZipApart z TI TO i1 i2 a b) (hz : IsZipHeld s.heap z TI TO T f) (hT : s.heap.get? T = some oT) (hTI : IsPair s.heap TI (.ref i1) (.ref i2))
    (h1 : s.heap.IsTupleIter i1 a i) (ha : s.heap.IsTuple a xs) (hx : xs[i]? = none)
    (hE : ∀ h' e, (∀ c o, c ≠ z → c ≠ i1 → s.heap.get? c = some o → h'.get? c = some o) → (∃ o, h'.get? e = some o ∧ o.cls = .type "StopIteration") → E (.ref e) { s with heap := h' }) :
    wpAny (model prog w) A (Builtin.«zip.__next__» ⟨[.ref z], []⟩) Q E s := by
  show wpAny _ _ (field (.ref z) 2 >>= _) _ _ _
  refine wpAny_bind (wpAny_field hz rfl (x := .bool false) rfl (wpAny_bind (wpAny_field hz rfl (x := .ref TI) rfl (wpAny_bind (wpAny_seqItems hTI rfl (wpAny_bind (wpAny_tupleHeld_zip hz hT fun g1 hz1 b1 => ?_)))))))
  simp only [Bool.false_eq_true, if_false]
  rw [← Array.forIn_toList]
  simp only [List.forIn_cons, List.forIn_nil]
  exact wpAny_bind (wpAny_bind (wpAny_bind (wpAny_holding (wpAny_bind (nextOf_tuple_end (s := { s with heap := g1 }) hh (h1.extBut b1.extBut D.i1z) (ha.extBut b1.extBut D.l1z) hx fun g2 e b2 he => hE g2 e (fun c o c1 c2 q => b2 _ _ c2 (b1.extBut _ _ c1 q)) he)))))
/-- the next pair -/
theorem Zs.item {x y : Value} {Q : Option Value → Shared → Prop} (D : ZipApart z TI TO i1 i2 a b) (Z : Zs z TI TO i1 i2 a b S xs ys i s.heap) (hS : ∃ o, s.heap.get? S = some o) (hx : xs[i]? = some x) (hy : ys[i]? = some y)
    (hQ : ∀ h', Zs z TI TO i1 i2 a b S xs ys (i + 1) h' → IsPair h' s.heap.objs.size x y → (∀ c o, c ∉ [z, TI, TO, i1, i2] → s.heap.get? c = some o → h'.get? c = some o) → Q (some (.ref s.heap.objs.size)) { s with heap := h' }) :
    wpAny (model prog w) A (pyNext (.ref z)) Q E s := by
  have lt : ∀ {c o}, s.heap.get? c = some o → s.heap.objs.size ≠ c := fun e => Nat.ne_of_gt (Heap.lt_size e)
  have n1 : s.heap.objs.size ≠ i1 := let ⟨_, e, _⟩ := Z.it1; lt e
  have n2 : s.heap.objs.size ≠ i2 := let ⟨_, e, _⟩ := Z.it2; lt e
  have nS : s.heap.objs.size ≠ S := let ⟨_, e⟩ := hS; lt e
  have up : ∀ {h' : Heap} {t : Addr} {vs : Array Value}, s.heap.IsTuple t vs → t ≠ z → t ≠ TO → t ≠ i1 → t ≠ i2 → (∀ c o, c ≠ z → c ≠ TO → c ≠ i1 → c ≠ i2 → s.heap.get? c = some o → h'.get? c = some o) → h'.IsTuple t vs := fun ⟨o, e, r⟩ c1 c2 c3 c4 k => ⟨o, k _ o c1 c2 c3 c4 e, r⟩
  rcases Z.st with ⟨hz, p, q, hTO⟩ | ⟨T, f, oT, hz, hT, r1, r2, r3, r4, r5⟩
  · refine pyNext_zipT_item D hz Z.ti hTO Z.it1 Z.it2 Z.ta Z.tb hx hy fun h' a1 a2 a3 a4 a5 a6 k => hQ h' ⟨k _ _ D.TIz D.TITO D.TIi1 D.TIi2 Z.ti, a3, a4, up Z.ta D.l1z D.l1TO D.l1i1 D.l1i2 k, up Z.tb D.l2z D.l2TO D.l2i1 D.l2i2 k, ⟨_, a2⟩, .inr ⟨_, false, _, a1, a5, lt hz, lt hTO, n1, n2, nS⟩⟩ a5 fun c o hc e => ?_
    exact k c o (fun x => hc (by simp [x])) (fun x => hc (by simp [x])) (fun x => hc (by simp [x])) (fun x => hc (by simp [x])) e
  · have hTy : s.TypeIs (.ref z) "zip" := ⟨_, hz, rfl⟩
    unfold pyNext
    refine wpAny_bind (wpAny_attempt (wpAny_callSpecial?_slot (name := Str.ofString "__next__") hTy F.slot_zip_next (wpAny_call_entry F.slot_zip_next hTy F.entry_zip_next (held_item D hz hT Z.ti Z.it1 Z.it2 Z.ta Z.tb hx hy fun h' a1 a3 a4 a5 k => wpAny_pure ?_) (F.args_zip_next_1 _))))
    exact hQ h' ⟨k _ _ D.TIz D.TIi1 D.TIi2 Z.ti, a3, a4, up Z.ta D.l1z D.l1TO D.l1i1 D.l1i2 fun c o c1 _ c3 c4 => k c o c1 c3 c4, up Z.tb D.l2z D.l2TO D.l2i1 D.l2i2 fun c o c1 _ c3 c4 => k c o c1 c3 c4, (let ⟨o, e⟩ := Z.to; ⟨o, k _ o D.TOz D.TOi1 D.TOi2 e⟩), .inr ⟨T, true, oT, a1, k _ _ r1 r3 r4 hT, r1, r2, r3, r4, r5⟩⟩ a5 fun c o hc e => k c o (fun x => hc (by simp [x])) (fun x => hc (by simp [x])) (fun x => hc (by simp [x])) e
/-- no pair any more -/
theorem Zs.done {Q : Option Value → Shared → Prop} (hh : A.handled = none) (D : ZipApart z TI TO i1 i2 a b) (Z : Zs z TI TO i1 i2 a b S xs ys i s.heap) (hx : xs[i]? = none)
    (hQ : ∀ h', (∀ c o, c ∉ [z, TI, TO, i1, i2] → s.heap.get? c = some o → h'.get? c = some o) → Q none { s with heap := h' }) : wpAny (model prog w) A (pyNext (.ref z)) Q E s := by
  rcases Z.st with ⟨hz, p, q, hTO⟩ | ⟨T, f, oT, hz, hT, r1, r2, r3, r4, r5⟩
  · exact pyNext_zipT_end hh D hz Z.ti hTO Z.it1 Z.it2 Z.ta Z.tb (.inl hx) fun h' k => hQ h' fun c o hc e => k c o (fun x => hc (by simp [x])) (fun x => hc (by simp [x])) (fun x => hc (by simp [x])) (fun x => hc (by simp [x])) e
  · have hTy : s.TypeIs (.ref z) "zip" := ⟨_, hz, rfl⟩
    unfold pyNext
    refine wpAny_bind (wpAny_attempt (wpAny_callSpecial?_slot (name := Str.ofString "__next__") hTy F.slot_zip_next (wpAny_call_entry F.slot_zip_next hTy F.entry_zip_next (held_end hh D hz hT Z.ti Z.it1 Z.ta hx fun h' e k he => ?_) (F.args_zip_next_1 _))))
    obtain ⟨o, ho, hc⟩ := he
    exact wpAny_bind (wpAny_isInstance (T := "StopIteration") (b := true) ⟨o, ho, hc⟩ isSubtype_stop (wpAny_pure (hQ _ fun c o hc e => k c o (fun x => hc (by simp [x])) (fun x => hc (by simp [x])) e)))
end
end Og

/-! ### list(zip(a, b)) of two tuples of one length -/
namespace Og
open PySem PySem.Spec PySem.Calls PyProof.Rows L2 RZ
theorem zip_len_no : typeLookup (.type "zip") "__len__" = pure none := by rw [typeLookup_type, builtinLookup_eq_fast]; kernel_rfl
theorem zip_hint_no : typeLookup (.type "zip") "__length_hint__" = pure none := by rw [typeLookup_type, builtinLookup_eq_fast]; kernel_rfl
/-- the list at S holds the first i pairs of xs and ys; all else stands -/
structure Zp (H0 H : Hp) (S : Addr) (xs ys : List V) (i : Nat) : Prop where
  lst : ∃ acc, H S = some (.lst acc) ∧ acc.length = i ∧ ∀ j, j < i → ∃ (T : Addr) (x y : V), acc[j]? = some (.ref T) ∧ xs[j]? = some x ∧ ys[j]? = some y ∧ H T = some (.tup [x, y])
  keep : Keep [S] H0 H
section
variable {X : Cx} {pins : List (Addr × Obj)} {σ : L2.St} {z TI TO i1 i2 a b S : Addr} {xs ys : List V}
theorem zip_loop {A : Around} {us ws : List Value} {n : Nat} {res : Value} {R : Result → Shared → Prop} {H0 : Hp} (hh : A.handled = none) (D : ZipApart z TI TO i1 i2 a b) (dS : z ≠ S ∧ TI ≠ S ∧ TO ≠ S ∧ i1 ≠ S ∧ i2 ≠ S ∧ a ≠ S ∧ b ≠ S)
    (rx : Vals xs us) (ry : Vals ys ws) (lx : xs.length = n) (ly : ys.length = n) (hn : n ≤ sizeLine) :
    ∀ (k i : Nat) (s : Shared) (H : Hp), n - i = k → i ≤ n → Inv X pins σ H s → (∀ c ∈ [z, TI, TO, i1, i2], FpOk X pins H c) → Zs z TI TO i1 i2 a b S us.toArray ws.toArray i s.heap → Zp H0 H S xs ys i →
    (∀ s' H', Inv X pins σ H' s' → Zp H0 H' S xs ys n → R (.ok (.ret res)) s') → codeAny (model X.prog X.w) A (.builtin "list.extend.loop" ⟨[.ref S, .ref z, res], []⟩) R s := by
  intro k
  induction k with
  | zero =>
    intro i s H hk hi I fp Z zp hR
    obtain rfl : i = n := by omega
    refine codeAny_builtin F.entry_extend_loop ?_
    rw [Around.under_plainId F.plain_extend_loop _]
    show wpAny _ A.in1 (pyNext (.ref z) >>= _) _ _ s
    have lu := rx.length
    refine wpAny_bind (Zs.done (A := A.in1) hh D Z (by simp; omega) fun h' kk => wpAny_pure ?_)
    exact hR _ H (I.turnedL (t' := s.toks) (ch := [z, TI, TO, i1, i2]) kk fp) zp
  | succ k ih =>
    intro i s H hk hi I fp Z zp hR
    have hlt : i < n := by omega
    have hx : xs[i]? = some xs[i] := List.getElem?_eq_getElem (by omega)
    have hy : ys[i]? = some ys[i] := List.getElem?_eq_getElem (by omega)
    generalize xs[i] = x at hx
    generalize ys[i] = y at hy
    obtain ⟨u, hu, ru⟩ := rx.get hx
    obtain ⟨u2, hu2, ru2⟩ := ry.get hy
    obtain ⟨⟨acc, eS, la, each⟩, keep⟩ := zp
    obtain ⟨_, its0, c0, _, _, eo⟩ := I.lstM eS
    refine codeAny_builtin F.entry_extend_loop ?_
    rw [Around.under_plainId F.plain_extend_loop _]
    show wpAny _ A.in1 (pyNext (.ref z) >>= _) _ _ s
    refine wpAny_bind (Zs.item (A := A.in1) D Z ⟨_, eo⟩ (by simpa using hu) (by simpa using hu2) fun h' Z' hT kk => ?_)
    have nT : H s.heap.objs.size = none := I.hok.fresh (Nat.le_refl _)
    have I1 : Inv X pins σ (upd H s.heap.objs.size (.tup [x, y])) { s with heap := h' } :=
      I.turnedNew (t' := s.toks) (ch := [z, TI, TO, i1, i2]) kk fp (Nat.le_refl _) ⟨by show 2 ≤ sizeLine; decide, [u, u2], .cons ru (.cons ru2 .nil), ⟨_, hT, rfl, _, rfl⟩⟩
    have eS1 : upd H s.heap.objs.size (.tup [x, y]) S = some (.lst acc) := by rw [upd_ne (ne_of_none eS nT)]; exact eS
    obtain ⟨_, its, c1, r, li, e1⟩ := I1.lstM eS1
    show wpAny _ A.in1 (updateSeq S (·.push (.ref s.heap.objs.size)) >>= _) _ _ _
    refine wpAny_bind (wpAny_updateSeq e1 rfl (wpAny_pure ⟨plainId_quiet F.plain_extend_loop _, ?_⟩) (by simp; omega) (by show (its.toArray.push _).size ≤ _; rw [Array.size_push, List.size_toArray]; omega))
    have I2 := I1.lset (ys := acc ++ [.ref s.heap.objs.size]) (t' := s.toks) (its' := its ++ [.ref s.heap.objs.size]) (f := (·.push (.ref s.heap.objs.size))) eS1 e1 (by simp) (r.append (show Vals [.ref s.heap.objs.size] [.ref s.heap.objs.size] from .cons (show RelV (.ref s.heap.objs.size) (.ref s.heap.objs.size) from rfl) .nil)) (by rw [List.length_append, List.length_singleton]; omega)
    have neS : S ≠ s.heap.objs.size := ne_of_none eS nT
    refine ih (i + 1) _ _ (by omega) hlt I2 (fun c hc => ?_) (Z'.at (fun c o hcS q => (Heap.get?_update_other _ _ (Ne.symm hcS)).trans q) dS) ⟨⟨_, upd_same, by rw [List.length_append, List.length_singleton, la], fun j hj => ?_⟩, ?_⟩ hR
    · have f := fp c hc
      have cS : c ≠ S := by
        obtain ⟨d1, d2, d3, d4, d5, _, _⟩ := dS
        have e' : c = z ∨ c = TI ∨ c = TO ∨ c = i1 ∨ c = i2 := by simpa using hc
        rcases e' with q | q | q | q | q <;> rw [q] <;> assumption
      have cT : c ≠ s.heap.objs.size := by
        have there : ∃ o, s.heap.get? c = some o := by
          have e' : c = z ∨ c = TI ∨ c = TO ∨ c = i1 ∨ c = i2 := by simpa using hc
          rcases e' with q | q | q | q | q
          · rcases Z.st with ⟨hz, _⟩ | ⟨_, _, _, hz, _⟩ <;> exact ⟨_, q ▸ hz⟩
          · exact ⟨_, q ▸ Z.ti⟩
          · obtain ⟨o, h⟩ := Z.to; exact ⟨o, q ▸ h⟩
          · obtain ⟨o, h, _⟩ := Z.it1; exact ⟨o, q ▸ h⟩
          · obtain ⟨o, h, _⟩ := Z.it2; exact ⟨o, q ▸ h⟩
        obtain ⟨o, h⟩ := there
        exact Nat.ne_of_lt (Heap.lt_size h)
      exact ⟨by rw [upd_ne cS, upd_ne cT]; exact f.1, f.2⟩
    · by_cases hji : j < i
      · obtain ⟨T, x', y', g1, g2, g3, g4⟩ := each j hji
        have nTT : T ≠ s.heap.objs.size := ne_of_none g4 nT
        have nTS : T ≠ S := by
          intro q
          rw [q, eS] at g4
          cases g4
        exact ⟨T, x', y', by rw [List.getElem?_append_left (by omega)]; exact g1, g2, g3, by rw [upd_ne nTS, upd_ne nTT]; exact g4⟩
      · obtain rfl : j = i := by omega
        exact ⟨_, x, y, by rw [← la, List.getElem?_concat_length], hx, hy, by rw [upd_ne neS.symm, upd_same]⟩
    · exact (keep.newT nT).trans ((Keep.set (by rw [upd_ne neS]; exact eS) (List.mem_cons_self ..)))
end
end Og

namespace Og
open PySem PySem.Spec PySem.Calls PyProof.Rows L2 RZ
section
variable {X : Cx} {pins : List (Addr × Obj)} {σ : L2.St} {z TI TO i1 i2 a b : Addr} {xs ys : List V}
theorem Zs.there {s : Shared} {S : Addr} {us ws : Array Value} {i : Nat} {h : Heap} (Z : Zs z TI TO i1 i2 a b S us ws i h) : (∃ o, h.get? z = some o) ∧ (∃ o, h.get? TI = some o) ∧ (∃ o, h.get? TO = some o) ∧ (∃ o, h.get? i1 = some o) ∧ (∃ o, h.get? i2 = some o) ∧ (∃ o, h.get? a = some o) ∧ (∃ o, h.get? b = some o) := by
  refine ⟨?_, ⟨_, Z.ti⟩, Z.to, ?_, ?_, ?_, ?_⟩
  · rcases Z.st with ⟨hz, _⟩ | ⟨_, _, _, hz, _⟩ <;> exact ⟨_, hz⟩
  · obtain ⟨o, e, _⟩ := Z.it1; exact ⟨o, e⟩
  · obtain ⟨o, e, _⟩ := Z.it2; exact ⟨o, e⟩
  · obtain ⟨o, e, _⟩ := Z.ta; exact ⟨o, e⟩
  · obtain ⟨o, e, _⟩ := Z.tb; exact ⟨o, e⟩
theorem zip_hint {prog : Program} {w : World} {A : Around} {E : Value → Shared → Prop} {s : Shared} {Q : Bool → Shared → Prop} (hT : s.TypeIs (.ref z) "zip") (h : Q true s) : wpAny (model prog w) A (Builtin.List.listLengthHint (.ref z)) Q E s := by
  unfold Builtin.List.listLengthHint
  refine wpAny_bind (wpAny_specialOf hT zip_len_no ?_)
  show wpAny _ A (specialOf (Value.ref z) (Str.ofString "__length_hint__") >>= _) _ _ _
  refine wpAny_bind (wpAny_specialOf hT zip_hint_no ?_)
  exact wpAny_pure h
theorem call_list_zip {A : Around} {E : Value → Shared → Prop} {Q : Value → Shared → Prop} {us ws : List Value} {n : Nat} {s : Shared} {H : Hp} (hh : A.handled = none) (D : ZipApart z TI TO i1 i2 a b)
    (rx : Vals xs us) (ry : Vals ys ws) (lx : xs.length = n) (ly : ys.length = n) (hn : n ≤ sizeLine) (I : Inv X pins σ H s) (fp : ∀ c ∈ [z, TI, TO, i1, i2], FpOk X pins H c) (Z : Zs z TI TO i1 i2 a b s.heap.objs.size us.toArray ws.toArray 0 s.heap) (hzN : IsZip s.heap z TI TO .none)
    (hQ : ∀ s' H', Inv X pins σ H' s' → Zp H H' s.heap.objs.size xs ys n → Q (.ref s.heap.objs.size) s') :
    wpAny (model X.prog X.w) A (call (.type "list") [.ref z]) Q E s := by
  refine callType_codes (Q₁ := fun obj s₁ => obj = .ref s.heap.objs.size ∧ s₁ = { s with heap := s.heap.push { cls := .type "list", data := .seq #[] } }) PySem.F.called_list (PySem.F.typeCall_list_1 _) PySem.F.entry_list_init
    (code_list_new _ ⟨rfl, rfl⟩) fun obj s₁ h₁ => ?_
  obtain ⟨rfl, rfl⟩ := h₁
  have hS : (s.heap.push { cls := .type "list", data := .seq #[] }).get? s.heap.objs.size = some { cls := .type "list", data := .seq #[] } := Heap.get?_push_size _ rfl
  obtain ⟨⟨_, tz⟩, ⟨_, tTI⟩, ⟨_, tTO⟩, ⟨_, t1⟩, ⟨_, t2⟩, ⟨_, ta⟩, ⟨_, tb⟩⟩ := Z.there (s := s)
  have dS : z ≠ s.heap.objs.size ∧ TI ≠ s.heap.objs.size ∧ TO ≠ s.heap.objs.size ∧ i1 ≠ s.heap.objs.size ∧ i2 ≠ s.heap.objs.size ∧ a ≠ s.heap.objs.size ∧ b ≠ s.heap.objs.size :=
    ⟨Nat.ne_of_lt (Heap.lt_size tz), Nat.ne_of_lt (Heap.lt_size tTI), Nat.ne_of_lt (Heap.lt_size tTO), Nat.ne_of_lt (Heap.lt_size t1), Nat.ne_of_lt (Heap.lt_size t2), Nat.ne_of_lt (Heap.lt_size ta), Nat.ne_of_lt (Heap.lt_size tb)⟩
  have dc : ∀ c ∈ [z, TI, TO, i1, i2], c ≠ s.heap.objs.size := fun c hc => by
    obtain ⟨d1, d2, d3, d4, d5, _, _⟩ := dS
    have e' : c = z ∨ c = TI ∨ c = TO ∨ c = i1 ∨ c = i2 := by simpa using hc
    rcases e' with q | q | q | q | q <;> rw [q] <;> assumption
  have nS : H s.heap.objs.size = none := I.hok.fresh (Nat.le_refl _)
  have up : ∀ {c : Addr} {o : Obj}, s.heap.get? c = some o → (s.heap.push { cls := .type "list", data := .seq #[] }).get? c = some o := fun e => Heap.get?_push_of_some _ e
  have I1 : Inv X pins σ (upd H s.heap.objs.size (.lst [])) { s with heap := s.heap.push { cls := .type "list", data := .seq #[] } } :=
    I.laid (t' := s.toks) (fun c o e => up e) (Nat.le_refl _) (show ObjOk X.prog X.w _ _ _ (.lst []) from ⟨Nat.zero_le _, [], 0, .nil, hS⟩)
  have Z1 := Z.at (h' := s.heap.push { cls := .type "list", data := .seq #[] }) (fun c o _ e => up e) dS
  have zN1 : IsZip (s.heap.push { cls := .type "list", data := .seq #[] }) z TI TO .none := up hzN
  refine ⟨⟨_, hS, rfl⟩, PySem.F.args_list_init_2 _ _, ?_⟩
  generalize hS0 : s.heap.objs.size = S at *
  generalize s.heap.push { cls := .type "list", data := .seq #[] } = h1 at *
  show wpAny _ A.in1.in1 (do let old ← Builtin.List.listItems (.ref S); Builtin.List.listUpdate (.ref S) (fun _ => #[]); letGo old.toList.reverse; Builtin.List.listExtendWith (.ref S) (.ref z) .none) _ _ _
  refine wpAny_bind ?_
  unfold Builtin.List.listItems
  refine wpAny_bind (wpAny_seqItems hS rfl (wpAny_pure ?_))
  show wpAny _ A.in1.in1 (updateSeq S (fun _ => #[]) >>= fun _ => letGo (#[] : Array Value).toList.reverse >>= fun _ => Builtin.List.listExtendWith (.ref S) (.ref z) .none) _ _ _
  refine wpAny_bind (wpAny_updateSeq hS rfl ?_)
  have I2 := I1.lset (ys := []) (t' := s.toks) (its := []) (its' := []) (f := fun _ => #[]) upd_same hS rfl .nil (Nat.zero_le _)
  have Z2 := Z1.at (fun c o hcS q => (Heap.get?_update_other _ (Obj.mapSeq (fun _ => (#[] : Array Value))) (Ne.symm hcS)).trans q) dS
  have zN2 : IsZip (h1.update S (Obj.mapSeq (fun _ => (#[] : Array Value)))) z TI TO .none := (Heap.get?_update_other _ _ (Ne.symm dS.1)).trans zN1
  have hS2 := Heap.get?_update_self (Obj.mapSeq (fun _ => (#[] : Array Value))) hS rfl
  refine wpAny_bind (wpAny_letGo ?_)
  generalize h1.update S (Obj.mapSeq (fun _ => (#[] : Array Value))) = h2 at *
  unfold Builtin.List.listExtendWith
  have hTy : Shared.TypeIs { s with heap := h2 } (.ref z) "zip" := ⟨_, zN2, rfl⟩
  refine wpAny_bind (wpAny_typeOf hTy ?_)
  have q1 : Builtin.List.listSameRef (.ref S) (.ref z) = false := by simp [Builtin.List.listSameRef, dS.1.symm]
  have q2 : (Value.type "zip" == Value.type "list") = false := by decide
  have q3 : (Value.type "zip" == Value.type "tuple") = false := by decide
  simp only [q1, q2, q3, Bool.or_false, Bool.false_eq_true, if_false]
  refine wpAny_bind (wpAny_pyIter_zip zN2 ?_)
  refine wpAny_bind (wpAny_holding (zip_hint hTy ?_))
  show wpAny _ A.in1.in1 (rule "list.extend.makes-room" >>= fun _ => Builtin.List.listTouch (.ref S) >>= fun _ =>
    again (.builtin "list.extend.loop" ⟨[.ref S, .ref z, .none], []⟩)) _ _ _
  refine wpAny_bind (wpAny_rule ?_)
  refine wpAny_bind ?_
  show wpAny _ A.in1.in1 (updateSeq S (·.push .none) >>= fun _ => updateSeq S (·.pop)) _ _ _
  refine wpAny_bind (wpAny_updateSeq hS2 rfl ?_)
  have hS3 := Heap.get?_update_self (Obj.mapSeq (·.push Value.none)) hS2 rfl
  refine wpAny_updateSeq (hz := by seq_fits) hS3 rfl ?_
  have I3 := I2.lset (ys := [.non]) (t' := s.toks) (its := []) (its' := [.none]) (f := (·.push Value.none)) upd_same hS2 rfl (.cons rfl .nil) (by decide)
  have I4 := I3.lset (ys := []) (t' := s.toks) (its := [.none]) (its' := []) (f := (·.pop)) upd_same hS3 rfl .nil (Nat.zero_le _)
  have Z3 := (Z2.at (fun c o hcS q => (Heap.get?_update_other _ (Obj.mapSeq (·.push Value.none)) (Ne.symm hcS)).trans q) dS).at (fun c o hcS q => (Heap.get?_update_other _ (Obj.mapSeq (·.pop)) (Ne.symm hcS)).trans q) dS
  refine wpAny_pure ⟨plainId_quiet PySem.F.plain_extend_loop _, ?_⟩
  have nz : ∀ c ∈ [z, TI, TO, i1, i2], FpOk X pins (upd (upd (upd (upd H S (.lst [])) S (.lst [])) S (.lst [.non])) S (.lst [])) c := fun c hc => by
    have f := fp c hc
    have d := dc c hc
    exact ⟨by rw [upd_ne d, upd_ne d, upd_ne d, upd_ne d]; exact f.1, f.2⟩
  refine zip_loop (A := A.in1) (H0 := H) hh D dS rx ry lx ly hn (n - 0) 0 _ _ rfl (Nat.zero_le _) I4 nz Z3 ⟨⟨[], upd_same, rfl, fun j hj => absurd hj (Nat.not_lt_zero _)⟩, ?_⟩ fun s' H' I' zp => ?_
  · exact (((Keep.new nS).trans (Keep.set upd_same (List.mem_cons_self ..))).trans (Keep.set upd_same (List.mem_cons_self ..))).trans (Keep.set upd_same (List.mem_cons_self ..))
  · exact ⟨rfl, hQ s' H' I' zp⟩
end
/-- list(zip(a, b)) of two tuples of one length -/
def tListZip (K : PySem.W.Frag) (ta : TA) : TE := fun σ H Q => ta σ H fun vs H1 => ∃ (a b : Addr) (xs ys : List V), vs = [.ref a, .ref b] ∧ SqT K H1 a xs ∧ SqT K H1 b ys ∧ xs.length = ys.length ∧ ys.length ≤ sizeLine ∧
  ∀ (S : Addr) (H' : Hp), H1 S = none → Zp H1 H' S xs ys ys.length → Q (.ref S) H'
theorem pe_listzip {X : Cx} {e e2 : Expr} {ta : TA} {p p2 q pos : Pos} (hg : Gl X "list") (hm : X.mg "list" = none) (hg2 : Gl X "zip") (hm2 : X.mg "zip" = none) (ha : PA X [e, e2] ta) (hc : X.calm = true := by rfl)
    (hs : starEach [e, e2] X.env = (false, eval e X.env) :: starEach [e2] X.env := by rfl) (hpl : (backTo q (starEach [e2] X.env)).any (·.1) = false := by rfl) :
    PE X (.Call (.Name "list" p) [.Call (.Name "zip" p2) [e, e2] [] q] [] pos) (tListZip X.K ta) := by
  refine ⟨fun pins s σ H Q I h => ?_⟩
  refine Call_ (ld_blt I hg hm PyProof.Rows.boot_list ?_)
  refine PyProof.Rows.callWith_type1 (PyProof.Rows.args_cons ?_ rfl) rfl rfl
  refine Call_ (ld_blt I hg2 hm2 PyProof.Rows.boot_zip (PyProof.Rows.callWith_type1 (thn (ha.run q pins s σ H _ I h) fun us s1 ⟨vs, H1, I1, r1, q1⟩ => ?_) hs hpl))
  obtain ⟨a, b, xs, ys, rfl, hqx, hqy, hl, hsz, q1⟩ := q1
  cases r1 with
  | cons r rr =>
    cases rr with
    | cons r' rr =>
      cases rr
      cases r
      cases r'
      obtain ⟨its, rv, p1, _⟩ := I1.tuple hqx
      obtain ⟨its2, rv2, p2, _⟩ := I1.tuple hqy
      obtain ⟨o1, ho1, _⟩ := id p1
      obtain ⟨o2, ho2, _⟩ := id p2
      refine call_zipT (show s1.heap.IsTuple a its.toArray from p1) (show s1.heap.IsTuple b its2.toArray from p2) fun h' hz hTI hTO h1 h2 hsz5 hk => PyProof.Rows.args_nil ?_
      have I2 : Inv X pins σ H1 { s1 with heap := h' } := I1.kept (t' := s1.toks) hk
      have D := PySem.W.ktu_apart s1.heap.objs.size a b (Heap.lt_size ho1) (Heap.lt_size ho2)
      have fresh5 : ∀ c, c ∈ [s1.heap.objs.size + 4, s1.heap.objs.size + 2, s1.heap.objs.size + 3, s1.heap.objs.size, s1.heap.objs.size + 1] → FpOk X pins H1 c := fun c hcm => by
        have e' : c = s1.heap.objs.size + 4 ∨ c = s1.heap.objs.size + 2 ∨ c = s1.heap.objs.size + 3 ∨ c = s1.heap.objs.size ∨ c = s1.heap.objs.size + 1 := by simpa using hcm
        have hle : s1.heap.objs.size ≤ c := by omega
        exact I1.fpOk hle (I1.hok.fresh hle)
      have up : ∀ {t : Addr} {vs : Array Value}, s1.heap.IsTuple t vs → h'.IsTuple t vs := fun ⟨o, e, r⟩ => ⟨o, hk _ o e, r⟩
      refine call_list_zip (A := _) (I1.ok.hd hc) D rv rv2 hl rfl hsz I2 fresh5 ⟨hTI, h1, h2, up p1, up p2, ⟨_, hTO⟩, .inl ⟨hz, _, _, hTO⟩⟩ hz fun s' H' I' zp => ?_
      exact ⟨.ref _, H', I', rfl, q1 _ H' (I2.hok.fresh (Nat.le_refl _)) zp⟩
end Og

namespace Og
open PySem PySem.Spec PyProof.Rows L2
def topS (i : Nat) : Stmt := PySem.Challenge.pw_ownglass_k03_same_values.main.body.getD i (.Pass ⟨0, 0, 0, 0⟩)
abbrev s_same_values : Stmt := topS 1
abbrev n_same_values : List Str := ["first", "second", "waiting", "one", "other"]
abbrev p_same_values : List Str := ["first", "second"]
theorem sc_same_values : FnScope n_same_values p_same_values (defScope s_same_values) := ⟨rfl, rfl, rfl, by decide +kernel, rfl, by decide +kernel, by decide +kernel⟩
abbrev s_law_draws : Stmt := topS 3
abbrev n_law_draws : List Str := ["script", "many", "rests", "cell", "draws", "k", "at", "mixed"]
abbrev p_law_draws : List Str := ["script", "many"]
theorem sc_law_draws : FnScope n_law_draws p_law_draws (defScope s_law_draws) := ⟨rfl, rfl, rfl, by decide +kernel, rfl, by decide +kernel, by decide +kernel⟩
abbrev s_law_take : Stmt := topS 4
abbrev n_law_take : List Str := ["hand", "many", "at", "draws"]
abbrev p_law_take : List Str := ["hand", "many"]
theorem sc_law_take : FnScope n_law_take p_law_take (defScope s_law_take) := ⟨rfl, rfl, rfl, by decide +kernel, rfl, by decide +kernel, by decide +kernel⟩
abbrev s_law_word : Stmt := topS 5
abbrev n_law_word : List Str := ["hand", "letters", "size", "word", "k"]
abbrev p_law_word : List Str := ["hand"]
theorem sc_law_word : FnScope n_law_word p_law_word (defScope s_law_word) := ⟨rfl, rfl, rfl, by decide +kernel, rfl, by decide +kernel, by decide +kernel⟩
abbrev s_law_value : Stmt := topS 6
abbrev n_law_value : List Str := ["hand", "depth", "many", "k"]
abbrev p_law_value : List Str := ["hand", "depth"]
theorem sc_law_value : FnScope n_law_value p_law_value (defScope s_law_value) := ⟨rfl, rfl, rfl, by decide +kernel, rfl, by decide +kernel, by decide +kernel⟩
abbrev s_law_like : Stmt := topS 7
abbrev n_law_like : List Str := ["found", "expected", "pairs", "step", "first", "second", "at"]
abbrev p_law_like : List Str := ["found", "expected"]
theorem sc_law_like : FnScope n_law_like p_law_like (defScope s_law_like) := ⟨rfl, rfl, rfl, by decide +kernel, rfl, by decide +kernel, by decide +kernel⟩
abbrev s_law_again : Stmt := topS 8
abbrev n_law_again : List Str := ["value", "one"]
abbrev p_law_again : List Str := ["value"]
theorem sc_law_again : FnScope n_law_again p_law_again (defScope s_law_again) := ⟨rfl, rfl, rfl, by decide +kernel, rfl, by decide +kernel, by decide +kernel⟩
abbrev s_law_bent : Stmt := topS 9
abbrev n_law_bent : List Str := ["hand", "value", "kind", "at"]
abbrev p_law_bent : List Str := ["hand", "value"]
theorem sc_law_bent : FnScope n_law_bent p_law_bent (defScope s_law_bent) := ⟨rfl, rfl, rfl, by decide +kernel, rfl, by decide +kernel, by decide +kernel⟩
abbrev s_law_nested : Stmt := topS 10
abbrev n_law_nested : List Str := ["value", "many", "kind", "other", "k", "word", "place"]
abbrev p_law_nested : List Str := ["value", "many", "kind", "other"]
theorem sc_law_nested : FnScope n_law_nested p_law_nested (defScope s_law_nested) := ⟨rfl, rfl, rfl, by decide +kernel, rfl, by decide +kernel, by decide +kernel⟩
abbrev s_law_tells : Stmt := topS 11
abbrev n_law_tells : List Str := ["first", "second", "due", "pair", "found"]
abbrev p_law_tells : List Str := ["first", "second", "due"]
theorem sc_law_tells : FnScope n_law_tells p_law_tells (defScope s_law_tells) := ⟨rfl, rfl, rfl, by decide +kernel, rfl, by decide +kernel, by decide +kernel⟩
abbrev s_law : Stmt := topS 12
abbrev n_law : List Str := ["script", "hand", "value", "other", "second", "due", "many", "kind", "first", "place", "has_word"]
abbrev p_law : List Str := ["script"]
theorem sc_law : FnScope n_law p_law (defScope s_law) := ⟨rfl, rfl, rfl, by decide +kernel, rfl, by decide +kernel, by decide +kernel⟩
/-- the constants of the module -/
structure Mc (mg : Str → Option Value) : Prop where
  triv : True
/-- the names of built-ins that no row of the program gives another meaning -/
structure Bn (mg : Str → Option Value) : Prop where
  len : mg "len" = none
  range : mg "range" = none
  int : mg "int" = none
  abs : mg "abs" = none
  str : mg "str" = none
  tuple : mg "tuple" = none
  list : mg "list" = none
  bool : mg "bool" = none
  isinstance : mg "isinstance" = none
  ValueError : mg "ValueError" = none
  zip : mg "zip" = none
/-- what law(script) promises: for a list of at most 63 ints the answer is True -/
def spLaw (K : PySem.W.Frag) : Sp := fun vs H Q _ => ∃ (a : Addr) (ns : List Int), vs = [.ref a] ∧ SqL K H a (ns.map V.int) ∧ ns.length ≤ 63 ∧ ∀ H', Q (.bl true) H'
end Og

namespace Og
open PySem PySem.Spec PyProof.Rows L2
section
variable {P : Program} {w : World} {K : PySem.W.Frag} {mg : Str → Option Value} {base : Heap}
def spDraws (K : PySem.W.Frag) : Sp := fun vs H Q _ => ∃ (a : Addr) (ns : List Int) (m : Nat), vs = [.ref a, .int m] ∧ SqL K H a (ns.map V.int) ∧ ns.length ≤ 63 ∧ m ≤ 100000 ∧
  ∀ (p : Addr) (ds : List Int) (H' : Hp), Keep [] H H' → H p = none → H' p = some (.lst (ds.map V.int)) → ds.length = m → Q (.ref p) H'
theorem has_draws {k : Nat} (D : DefAt K mg "_law_draws" s_law_draws p_law_draws) (B : Bn mg) : Has P w K mg base (k + 1) "_law_draws" p_law_draws (spDraws K) := by
  obtain ⟨f, fd, F, hm, hb⟩ := D.ex
  refine ⟨f, fd, F.ok sc_law_draws (fun vs H Q E h => ?_) (fun cdv A outer s H vs Q E hr h => ?_), hm, F.kp, hb⟩
  · obtain ⟨a, ns, m, rfl, _⟩ := h
    rfl
  obtain ⟨a, ns, m, rfl, hS, h63, hm1, q⟩ := h
  refine ⟨_, (pss_cons (ps_setLc (i := 2) (own := [("cell", 3)]) (g := gName 3) (tt := tYes) rfl sc_law_draws.nd rfl rfl (sw_true rfl rfl rfl (by decide +kernel)) (pi_list (pv 0)) (blkOk_by (N := n_law_draws) (sc := defScope s_law_draws) (by decide +kernel)) (fun _ _ _ _ _ => pg_name (i := 3) sc_law_draws.nd rfl (Or.inl rfl)) (fun _ _ _ _ _ => pts_nil) (fun _ _ _ _ _ => (pe_callB call_abs (by rfl) B.abs (by decide +kernel) (pa_cons (pe_callTy call_int1 (by rfl) B.int (by decide +kernel) (pa_cons (pv 3) pa_nil)) pa_nil))))
    (pss_cons (ps_set (i := 4) sc_law_draws.nd rfl (.inl rfl) (pe_lst pa_nil))
    (pss_cons (ps_for PassesOwn.never rfl (pi_range1 (by rfl) B.range (pa_cons (pv 1) pa_nil)) (pg_name (i := 5) sc_law_draws.nd rfl (.inl rfl))
      (pss_cons (ps_set (i := 3) sc_law_draws.nd rfl (.inl rfl) (pv 5))
      (C8.pss_cut (ps_if (pt_cmpR op_gt (pe_callB call_len_seq (by rfl) B.len PySem.boot_len (pa_cons (pv 0) pa_nil)) pe_int (nomark _)) (pss_cons (ps_set (i := 6) sc_law_draws.nd rfl (.inl rfl) (pe_op op_mod (pv 5) (pe_callB call_len_seq (by rfl) B.len PySem.boot_len (pa_cons (pv 0) pa_nil))))
        (pss_cons (ps_set (i := 3) sc_law_draws.nd rfl (.inl rfl) (pe_callTy call_int1 (by rfl) B.int (by decide +kernel) (pa_cons (pe_ix ix_list (pv 0) (pv 6) (fun _ _ => rfl)) pa_nil)))
        (pss_one (ps_if (PW.pt (pw_and (pt_cmpR op_ge (pv 3) (pe_op op_pow pe_int pe_int) (nomark _)) (pw_and1 (pt_cmpR op_gt (pe_ix ix_list (pv 2) (pv 6) (fun _ _ => rfl)) pe_int (nomark _))))) (pss_cons (ps_expr (pe_bm PySem.F.plainAttrs_list PySem.F.slot_list_append PySem.F.type_list_append mt_append (pv 4) (pa_cons (pe_op op_mod (pe_callTy call_int1 (by rfl) B.int (by decide +kernel) (pa_cons (pe_ix ix_list (pv 2) (pv 6) (fun _ _ => rfl)) pa_nil)) pe_int) pa_nil)))
          (pss_cons (ps_asg (pe_op op_fdiv (pe_callTy call_int1 (by rfl) B.int (by decide +kernel) (pa_cons (pe_ix ix_list (pv 2) (pv 6) (fun _ _ => rfl)) pa_nil)) pe_int) (pg_sub (pv 2) (pv 6) set_list))
          (pss_one ps_continue))) pss_nil)))) pss_nil)
      (pss_cons (ps_set (i := 7) sc_law_draws.nd rfl (.inl rfl) (pe_op op_mod (pe_callTy call_int1 (by rfl) B.int (by decide +kernel) (pa_cons (pe_op op_add (pe_op op_add (pe_op op_mul (pv 3) pe_int) (pe_op op_mul (pv 5) pe_int)) pe_int) pa_nil)) pe_int))
      (pss_cons (ps_set (i := 7) sc_law_draws.nd rfl (.inl rfl) (pe_op op_mod (pe_callTy call_int1 (by rfl) B.int (by decide +kernel) (pa_cons (pe_op op_add (pe_op op_fdiv (pe_op op_mul (pv 7) (pv 7)) pe_int) (pv 7)) pa_nil)) pe_int))
      (pss_one (ps_expr (pe_bm PySem.F.plainAttrs_list PySem.F.slot_list_append PySem.F.type_list_append mt_append (pv 4) (pa_cons (pe_op op_mod (pe_callTy call_int1 (by rfl) B.int (by decide +kernel) (pa_cons (pe_op op_add (pe_op op_fdiv (pe_op op_mul (pv 7) (pv 7)) pe_int) (pe_op op_mul (pv 5) pe_int)) pa_nil)) pe_int) pa_nil)))))))))
    (pss_one (ps_ret (pv 4)))))), ?_⟩
  -- rests
  refine ⟨_, rfl, a, rfl, ⟨_, hS⟩, fun r nr => ?_⟩
  refine lc_list (K := K) (a := a) (xs := ns.map V.int) (fun i H' => Keep [] H H' ∧ ∃ rs : List Int, rs.length = i ∧ H' r = some (.lst (rs.map V.int))) ⟨Keep.new nr, [], rfl, upd_same⟩ (fun i H' _ p => p.1.sqL (by simp) hS) (fun i x H1 hx p => ?_) (fun H1 p => ?_)
  · obtain ⟨n, rfl, hn⟩ := map_int_get hx
    obtain ⟨k1, rs, e1, e2⟩ := p
    have hi : i < ns.length := (List.getElem?_eq_some_iff.mp hn).1
    refine ⟨rfl, yes ?_⟩
    refine ⟨_, rfl, .inl ⟨_, rfl, _, rfl, _, e2, ?_, ?_⟩⟩
    · rw [List.length_map]
      exact sizeLt (by omega)
    · refine ⟨(k1.cons.setT e2 (List.mem_cons_self ..)).drop nr, rs ++ [if n < 0 then -n else n], (by rw [List.length_append, e1]; rfl), ?_⟩
      rw [upd_same, map_int_app]
  -- draws
  obtain ⟨k1, rs, e1, e2⟩ := p
  rw [List.length_map] at e1
  refine ⟨Nat.zero_le _, fun d nd => ?_⟩
  have k2 : Keep [] H (upd H1 d (.lst [])) := k1.newT nd
  have drn : d ≠ r := (ne_of_none e2 nd).symm
  have nd0 : H d = none := k1.free nd
  have nr0 : H r = none := nr
  refine ⟨_, rfl, (m : Int), rfl, by omega, by omega, ?_⟩
  refine for_range (lo := 0) (n := (m : Int).toNat) (fun i σ H' => ∃ y3 y5 y6 y7, σ = [some (.ref a), some (.int m), some (.ref r), y3, some (.ref d), y5, y6, y7] ∧ Keep [] H H' ∧ (∃ rs : List Int, rs.length = ns.length ∧ H' r = some (.lst (rs.map V.int))) ∧ ∃ ds : List Int, ds.length = i ∧ H' d = some (.lst (ds.map V.int)))
    ⟨_, _, _, _, rfl, k2, ⟨rs, e1, by rw [upd_ne drn.symm]; exact e2⟩, [], rfl, upd_same⟩ (fun i σ H2 hi p => ?_) (fun σ H2 p => ?_)
  · obtain ⟨y3, y5, y6, y7, rfl, k3, ⟨rs, e3, e4⟩, ds, e5, e6⟩ := p
    have sL : SqL K H2 a (ns.map V.int) := k3.sqL (by simp) hS
    have dsz : (ds.map V.int).length < sizeLine := by rw [List.length_map]; exact sizeLt (by omega)
    -- cell = k
    refine ⟨_, rfl, ?_⟩
    refine ⟨fun σ' H' => H' = H2 ∧ ∃ (cell : Int) (y6 y7 : Option V), σ' = [some (.ref a), some (.int m), some (.ref r), some (.int cell), some (.ref d), some (.int (0 + i)), y6, y7], ?_, fun σ' H' hmid => ?_⟩
    refine ⟨_, rfl, _, _, rfl, .inl sL, _, _, rfl, rfl, _, rfl, ?_⟩
    refine ite2 (fun c => ?_) (fun c => ?_)
    · have c0 : (0 : Int) < ((ns.map V.int).length : Nat) := of_decide_eq_true c
      rw [List.length_map] at c0
      have at0 : 0 ≤ (0 + (i : Int)) % (ns.length : Int) := Int.emod_nonneg _ (by omega)
      have at1 : (0 + (i : Int)) % (ns.length : Int) < (ns.length : Int) := Int.emod_lt_of_pos _ c0
      obtain ⟨x, hx⟩ := atI_int (ns := ns) at0 at1
      obtain ⟨y, hy⟩ := atI_int (ns := rs) at0 (by rw [e3]; exact at1)
      refine ⟨_, rfl, _, rfl, _, _, rfl, .inl sL, _, _, rfl, rfl, (by show (0 : Int) < _; rw [List.length_map]; exact c0), ?_⟩
      rw [List.length_map]
      refine ⟨_, rfl, _, rfl, _, _, _, _, rfl, rfl, sL, hx, .inl ⟨_, rfl, ?_⟩⟩
      refine ⟨_, rfl, _, _, rfl, rfl, ⟨by decide, by decide, by decide⟩, _, _, rfl, rfl, _, rfl, ?_⟩
      refine ite2 (fun c1 => ?_) (fun c1 => ?_)
      · refine ⟨_, rfl, _, rfl, _, _, _, _, rfl, rfl, SqL.of e4, hy, _, _, rfl, rfl, _, rfl, ?_⟩
        refine ite2 (fun c2 => ?_) (fun c2 => ?_)
        · -- draws.append(..), rests[at] = .., continue
          refine ⟨_, rfl, .inl ⟨rfl, _, SqL.of e6⟩, _, rfl, _, rfl, _, _, _, _, rfl, rfl, SqL.of e4, hy, .inl ⟨_, rfl, _, _, rfl, rfl, by show (0 : Int) < 1000003; decide, _, _, _, rfl, rfl, e6, dsz, ?_⟩⟩
          have e4' : (upd H2 d (.lst (ds.map V.int ++ [.int (y % 1000003)]))) r = some (.lst (rs.map V.int)) := by rw [upd_ne drn.symm]; exact e4
          refine ⟨_, rfl, _, rfl, _, _, _, _, rfl, rfl, SqL.of e4', hy, .inl ⟨_, rfl, _, _, rfl, rfl, ⟨by decide, by decide⟩, _, rfl, _, rfl, _, _, _, _, rfl, rfl, e4', ixN_int at0 (by rw [List.length_map, e3]; exact at1), ?_⟩⟩
          refine ⟨_, _, _, _, rfl, ?_, ⟨rs.set ((0 + (i : Int)) % (ns.length : Int)).toNat (y / 1000003), by rw [List.length_set]; exact e3, by rw [upd_same, map_int_set]⟩, ds ++ [y % 1000003], by rw [List.length_append, e5]; rfl, by rw [upd_ne drn, upd_same, map_int_app]⟩
          exact (((k3.cons (p := d)).setT e6 (List.mem_cons_self ..)).cons (p := r)).setT e4' (List.mem_cons_self ..) |>.drop nr0 |>.drop nd0
        · exact ⟨rfl, _, _, _, rfl⟩
      · exact ⟨rfl, _, _, _, rfl⟩
    · exact ⟨rfl, _, _, _, rfl⟩
    · obtain ⟨rfl, cell, y6, y7, rfl⟩ := hmid
      have big : ∀ z : Int, 0 ≤ z % 2147483647 ∧ z % 2147483647 < 2147483647 := fun z => ⟨Int.emod_nonneg _ (by decide), Int.emod_lt_of_pos _ (by decide)⟩
      have big2 : ∀ z : Int, 0 ≤ z % 2147483629 ∧ z % 2147483629 < 2147483629 := fun z => ⟨Int.emod_nonneg _ (by decide), Int.emod_lt_of_pos _ (by decide)⟩
      refine ⟨_, rfl, _, _, rfl, rfl, .inr ⟨by decide, by decide⟩, _, rfl, _, _, rfl, rfl, .inr ⟨by decide, by decide⟩, _, _, rfl, rfl, _, _, rfl, rfl, .inl ⟨_, rfl, _, _, rfl, rfl, by show (0 : Int) < 2147483647; decide, ?_⟩⟩
      generalize e1 : (cell * 48271 + (0 + (i : Int)) * 69621 + 11) % 2147483647 = m1
      have b1 := big (cell * 48271 + (0 + (i : Int)) * 69621 + 11)
      rw [e1] at b1
      refine ⟨_, rfl, _, rfl, _, _, rfl, rfl, .inl ⟨by omega, by omega⟩, _, _, rfl, rfl, ⟨by decide, by decide⟩, _, rfl, _, _, rfl, rfl, .inl ⟨_, rfl, _, _, rfl, rfl, by show (0 : Int) < 2147483629; decide, ?_⟩⟩
      generalize e2 : (m1 * m1 / 4096 + m1) % 2147483629 = m2
      have b2 := big2 (m1 * m1 / 4096 + m1)
      rw [e2] at b2
      refine ⟨_, rfl, .inl ⟨rfl, _, SqL.of e6⟩, _, rfl, _, rfl, _, _, rfl, rfl, .inl ⟨by omega, by omega⟩, _, _, rfl, rfl, ⟨by decide, by decide⟩, _, rfl, _, _, rfl, rfl, .inr ⟨by decide, by decide⟩, _, _, rfl, rfl, .inl ⟨_, rfl, _, _, rfl, rfl, by show (0 : Int) < 2147483629; decide, _, _, _, rfl, rfl, e6, dsz, ?_⟩⟩
      exact ⟨_, _, _, _, rfl, (k3.cons.setT e6 (List.mem_cons_self ..)).drop nd0, ⟨rs, e3, by rw [upd_ne drn.symm]; exact e4⟩, ds ++ [_], by rw [List.length_append, e5]; rfl, by rw [upd_same, map_int_app]⟩
  · obtain ⟨y3, y5, y6, y7, rfl, k3, _, ds, e5, e6⟩ := p
    refine ⟨_, rfl, ?_⟩
    exact q d ds H2 k3 nd0 e6 (by omega)
end
end Og

namespace Og
open PySem PySem.Spec PyProof.Rows L2
section
variable {P : Program} {w : World} {K : PySem.W.Frag} {mg : Str → Option Value} {base : Heap}
def spTake : Sp := fun vs H Q _ => ∃ (h d : Addr) (m : Int), vs = [.ref h, .int m] ∧ Hd H h d ∧ 0 < m ∧
  ∀ (i : Int) (H' : Hp), 0 ≤ i → i < m → Keep [h] H H' → Hd H' h d → Q (.int i) H'
theorem has_take {k : Nat} (D : DefAt K mg "_law_take" s_law_take p_law_take) (B : Bn mg) : Has P w K mg base (k + 1) "_law_take" p_law_take spTake := by
  obtain ⟨f, fd, F, hm, hb⟩ := D.ex
  refine ⟨f, fd, F.ok sc_law_take (fun vs H Q E h => ?_) (fun cdv A outer s H vs Q E hr h => ?_), hm, F.kp, hb⟩
  · obtain ⟨a, d, m, rfl, _⟩ := h
    rfl
  obtain ⟨a, d, m, rfl, hd, hm1, q⟩ := h
  refine ⟨_, (pss_cons (ps_set (i := 2) sc_law_take.nd rfl (.inl rfl) (pe_ix ix_list (pv 0) pe_int (fun _ _ => rfl)))
    (pss_cons (ps_asg (pe_op op_add (pv 2) pe_int) (pg_sub (pv 0) pe_int set_list))
    (pss_cons (ps_set (i := 3) sc_law_take.nd rfl (.inl rfl) (pe_ix ix_list (pv 0) pe_int (fun _ _ => rfl)))
    (pss_cons (ps_if (pt_cmpR op_ge (pv 2) (pe_callB call_len_seq (by rfl) B.len PySem.boot_len (pa_cons (pv 3) pa_nil)) (nomark _)) (pss_one (ps_ret pe_int)) pss_nil)
    (pss_one (ps_ret (pe_op op_mod (pe_op op_fdiv (pe_callTy call_int1 (by rfl) B.int (by decide +kernel) (pa_cons (pe_ix ix_list (pv 3) (pv 2) (fun _ _ => rfl)) pa_nil)) pe_int) (pv 1)))))))), ?_⟩
  obtain ⟨n, ds, e1, e2, l⟩ := id hd
  refine ⟨_, rfl, _, _, _, _, rfl, rfl, SqL.of e1, rfl, ?_⟩
  refine ⟨_, rfl, _, _, rfl, rfl, _, rfl, _, _, _, _, rfl, rfl, e1, rfl, ?_⟩
  have e3 : (upd H a (.lst [.ref d, .int ((n : Int) + 1)])) a = some (.lst [.ref d, .int ((n : Int) + 1)]) := upd_same
  have e4 : (upd H a (.lst [.ref d, .int ((n : Int) + 1)])) d = some (.lst (ds.map V.int)) := by rw [upd_ne hd.ne]; exact e2
  have k1 : Keep [a] H (upd H a (.lst [.ref d, .int ((n : Int) + 1)])) := Keep.set e1 (List.mem_cons_self ..)
  have hd2 : Hd (upd H a (.lst [.ref d, .int ((n : Int) + 1)])) a d := ⟨n + 1, ds, upd_same, e4, l⟩
  refine ⟨_, rfl, _, _, _, _, rfl, rfl, SqL.of e3, rfl, ?_⟩
  refine ⟨_, rfl, _, rfl, _, _, rfl, .inl (SqL.of e4), _, _, rfl, rfl, _, rfl, ?_⟩
  refine ite2 (fun c => ?_) (fun c => ?_)
  · exact q 0 _ (by omega) hm1 k1 hd2
  · have c' : ¬ (((ds.map V.int).length : Nat) : Int) ≤ (n : Int) := of_decide_eq_false (Bool.eq_false_iff.mpr c)
    rw [List.length_map] at c'
    obtain ⟨x, hx⟩ := atI_int (ns := ds) (z := (n : Int)) (by omega) (by omega)
    refine ⟨_, rfl, _, rfl, _, _, _, _, rfl, rfl, SqL.of e4, hx, .inl ⟨_, rfl, _, _, rfl, rfl, ⟨by decide, by decide⟩, _, rfl, _, _, rfl, rfl, hm1, ?_⟩⟩
    exact q _ _ (Int.emod_nonneg _ (by omega)) (Int.emod_lt_of_pos _ hm1) k1 hd2
end
end Og

namespace Og
open PySem PySem.Spec PyProof.Rows L2
/-- a small letter; a letter or a digit -/
def Letter (c : Nat) : Prop := 97 ≤ c ∧ c ≤ 122
def Sign (c : Nat) : Prop := (97 ≤ c ∧ c ≤ 122) ∨ (48 ≤ c ∧ c ≤ 57)
/-- a word of the document -/
def IsWord (x : List Nat) : Prop := ∃ c cs, x = c :: cs ∧ Letter c ∧ (∀ y ∈ cs, Sign y) ∧ cs.length ≤ 11
theorem IsWord.ne {x : List Nat} (h : IsWord x) : x ≠ [] := by
  obtain ⟨c, cs, rfl, _⟩ := h
  simp
theorem IsWord.len {x : List Nat} (h : IsWord x) : x.length ≤ 12 := by
  obtain ⟨c, cs, rfl, _, _, l⟩ := h
  rw [List.length_cons]
  omega
theorem lit_letters : ("abcdefghijklmnopqrstuvwxyz" : Str) = tx ((List.range 26).map (· + 97)) := by decide +kernel
theorem lit_digits : ("0123456789" : Str) = tx ((List.range 10).map (· + 48)) := by decide +kernel
theorem letters_at {z : Int} (h0 : 0 ≤ z) (h : z < 26) : ∃ c, atI ((List.range 26).map (· + 97)) z = some c ∧ Letter c := by
  obtain ⟨x, h1, h2⟩ := atI_of (xs := (List.range 26).map (· + 97)) h0 (by simpa using h)
  refine ⟨x, h1, ?_⟩
  have m := List.mem_of_getElem? h2
  obtain ⟨y, hy, rfl⟩ := List.mem_map.mp m
  have := List.mem_range.mp hy
  exact ⟨by omega, by omega⟩
theorem signs_at {z : Int} (h0 : 0 ≤ z) (h : z < 36) : ∃ c, atI ((List.range 26).map (· + 97) ++ (List.range 10).map (· + 48)) z = some c ∧ Sign c := by
  obtain ⟨x, h1, h2⟩ := atI_of (xs := (List.range 26).map (· + 97) ++ (List.range 10).map (· + 48)) h0 (by simpa using h)
  refine ⟨x, h1, ?_⟩
  have m := List.mem_of_getElem? h2
  rcases List.mem_append.mp m with m | m
  · obtain ⟨y, hy, rfl⟩ := List.mem_map.mp m
    have := List.mem_range.mp hy
    exact .inl ⟨by omega, by omega⟩
  · obtain ⟨y, hy, rfl⟩ := List.mem_map.mp m
    have := List.mem_range.mp hy
    exact .inr ⟨by omega, by omega⟩
theorem four {j : Int} (h0 : 0 ≤ j) (h : j < 4) : j = 0 ∨ j = 1 ∨ j = 2 ∨ j = 3 := by omega
end Og

namespace Og
open PySem PySem.Spec PyProof.Rows L2
/-! ### drawn trees -/
mutual
def WT : Tree → Prop
  | .w x => IsWord x
  | .l ts => WTs ts
def WTs : List Tree → Prop
  | [] => True
  | t :: ts => WT t ∧ WTs ts
end
mutual
def Tree.size : Tree → Nat
  | .w _ => 1
  | .l ts => sizes ts + 1
def sizes : List Tree → Nat
  | [] => 0
  | t :: ts => t.size + sizes ts
end
theorem wt_w {x : List Nat} (h : IsWord x) : WT (.w x) := by rw [WT]; exact h
theorem wt_l {ts : List Tree} (h : WTs ts) : WT (.l ts) := by rw [WT]; exact h
theorem WT.word {x : List Nat} (h : WT (.w x)) : IsWord x := by rw [WT] at h; exact h
theorem WT.list {ts : List Tree} (h : WT (.l ts)) : WTs ts := by rw [WT] at h; exact h
theorem wts_nil : WTs [] := by rw [WTs]; trivial
theorem wts_cons {t : Tree} {ts : List Tree} (h : WT t) (r : WTs ts) : WTs (t :: ts) := by rw [WTs]; exact ⟨h, r⟩
theorem WTs.head {t : Tree} {ts : List Tree} (h : WTs (t :: ts)) : WT t := by rw [WTs] at h; exact h.1
theorem WTs.tail {t : Tree} {ts : List Tree} (h : WTs (t :: ts)) : WTs ts := by rw [WTs] at h; exact h.2
theorem WTs.app : ∀ {ts us : List Tree}, WTs ts → WTs us → WTs (ts ++ us)
  | [], us, _, g => g
  | t :: ts, us, h, g => wts_cons h.head (WTs.app h.tail g)
theorem WTs.all : ∀ {ts : List Tree}, WTs ts → ∀ t ∈ ts, WT t
  | [], _, t, m => absurd m (List.not_mem_nil)
  | u :: ts, h, t, m => by
    rcases List.mem_cons.mp m with e | m
    · rw [e]; exact h.head
    · exact WTs.all h.tail t m
theorem WTs.of : ∀ {ts : List Tree}, (∀ t ∈ ts, WT t) → WTs ts
  | [], _ => wts_nil
  | u :: ts, h => wts_cons (h u (List.mem_cons_self ..)) (WTs.of fun t m => h t (List.mem_cons_of_mem _ m))
theorem size_w (x : List Nat) : (Tree.w x).size = 1 := by rw [Tree.size]
theorem size_l (ts : List Tree) : (Tree.l ts).size = sizes ts + 1 := by rw [Tree.size]
theorem sizes_nil : sizes [] = 0 := by rw [sizes]
theorem sizes_cons (t : Tree) (ts : List Tree) : sizes (t :: ts) = t.size + sizes ts := by rw [sizes]
theorem sizes_app : ∀ (ts us : List Tree), sizes (ts ++ us) = sizes ts + sizes us
  | [], us => by rw [List.nil_append, sizes_nil, Nat.zero_add]
  | t :: ts, us => by rw [List.cons_append, sizes_cons, sizes_cons, sizes_app ts us, Nat.add_assoc]
theorem size_pos : ∀ t : Tree, 0 < t.size
  | .w x => by rw [size_w]; omega
  | .l ts => by rw [size_l]; omega
theorem len_sizes : ∀ ts : List Tree, ts.length ≤ sizes ts
  | [] => by rw [sizes_nil]; exact Nat.le_refl _
  | t :: ts => by
    have h := len_sizes ts
    have h2 := size_pos t
    rw [sizes_cons, List.length_cons]
    omega
theorem sizes_take : ∀ (ts : List Tree) (n : Nat), sizes (ts.take n) ≤ sizes ts
  | ts, 0 => by rw [List.take_zero, sizes_nil]; omega
  | [], n + 1 => by rw [List.take_nil]; omega
  | t :: ts, n + 1 => by
    rw [List.take_succ_cons, sizes_cons, sizes_cons]
    have := sizes_take ts n
    omega
theorem sizes_drop : ∀ (ts : List Tree) (n : Nat), sizes (ts.drop n) ≤ sizes ts
  | ts, 0 => by rw [List.drop_zero]; omega
  | [], n + 1 => by rw [List.drop_nil]; omega
  | t :: ts, n + 1 => by
    rw [List.drop_succ_cons, sizes_cons]
    have := sizes_drop ts n
    omega
theorem size_of_get {ts : List Tree} {i : Nat} {t : Tree} (h : ts[i]? = some t) : t.size ≤ sizes ts := by
  induction ts generalizing i with
  | nil => simp at h
  | cons u r ih =>
    rw [sizes_cons]
    cases i with
    | zero =>
      have e : u = t := Option.some.inj h
      rw [e]
      omega
    | succ j =>
      have := ih (i := j) h
      omega
/-- how many parts a drawn value has at most -/
def Most : Nat → Nat
  | 0 => 1
  | n + 1 => 1 + 11 * Most n
/-- nested at most n deep -/
def Deep : Nat → Tree → Prop
  | _, .w _ => True
  | 0, .l _ => False
  | n + 1, .l ts => ∀ t ∈ ts, Deep n t
theorem deep_w (n : Nat) (x : List Nat) : Deep n (.w x) := by cases n <;> trivial
theorem Deep.mono : ∀ {m n : Nat} {t : Tree}, m ≤ n → Deep m t → Deep n t
  | _, n, .w x, _, _ => deep_w n x
  | 0, _, .l _, _, h => h.elim
  | m + 1, 0, .l _, l, _ => absurd l (by omega)
  | m + 1, n + 1, .l ts, l, h => fun t q => Deep.mono (Nat.le_of_succ_le_succ l) (h t q)
def Drawn (n : Nat) (t : Tree) : Prop := WT t ∧ t.size ≤ Most n ∧ Deep n t
theorem Most.le (n : Nat) : Most n ≤ Most (n + 1) := by rw [show Most (n + 1) = 1 + 11 * Most n from rfl]; omega
theorem Most.mono {m n : Nat} (h : m ≤ n) : Most m ≤ Most n := by
  induction h with
  | refl => exact Nat.le_refl _
  | step _ ih => exact Nat.le_trans ih (Most.le _)
theorem most_pos (n : Nat) : 1 ≤ Most n := by
  have := Most.mono (Nat.zero_le n)
  exact this
theorem sizes_le {ts : List Tree} {b : Nat} (h : ∀ t ∈ ts, t.size ≤ b) : sizes ts ≤ ts.length * b := by
  induction ts with
  | nil => rw [sizes_nil]; omega
  | cons t r ih =>
    have h1 := h t (List.mem_cons_self ..)
    have h2 := ih fun u m => h u (List.mem_cons_of_mem _ m)
    rw [sizes_cons, List.length_cons, Nat.add_mul]
    omega
theorem sizes_split : ∀ {ts : List Tree} {n : Nat} {t : Tree}, ts[n]? = some t → sizes (ts.take n) + t.size + sizes (ts.drop (n + 1)) = sizes ts
  | [], n, t, h => by simp at h
  | u :: r, 0, t, h => by
    have e : u = t := Option.some.inj h
    subst e
    rw [List.take_zero, sizes_nil, sizes_cons, List.drop_succ_cons, List.drop_zero]
    omega
  | u :: r, n + 1, t, h => by
    have ih := sizes_split (ts := r) (n := n) (t := t) h
    rw [List.take_succ_cons, sizes_cons, sizes_cons, List.drop_succ_cons]
    omega
theorem sizes_two (ts : List Tree) (n : Nat) : sizes (ts.take n) + sizes (ts.drop n) = sizes ts := by
  have h := sizes_app (ts.take n) (ts.drop n)
  rw [List.take_append_drop] at h
  exact h.symm
theorem cutS_len2 (z : Str) (lo hi : Option Int) : (cutS z lo hi).length ≤ z.length := by
  unfold cutS
  show (List.toArray _).size ≤ _
  rw [List.size_toArray, List.length_take, List.length_drop]
  have e : z.cps.toList.length = z.length := by show z.cps.toList.length = z.cps.size; simp
  omega
end Og

namespace Og
open PySem PySem.Spec PyProof.Rows L2
section
variable {P : Program} {w : World} {K : PySem.W.Frag} {mg : Str → Option Value} {base : Heap}
def spWord : Sp := fun vs H Q _ => ∃ (h d : Addr), vs = [.ref h] ∧ Hd H h d ∧
  ∀ (x : List Nat) (H' : Hp), IsWord x → Keep [h] H H' → Hd H' h d → Q (.str (tx x)) H'
theorem has_word {k : Nat} (D : DefAt K mg "_law_word" s_law_word p_law_word) (B : Bn mg) (c1 : Has P w K mg base k "_law_take" p_law_take spTake) : Has P w K mg base (k + 1) "_law_word" p_law_word spWord := by
  obtain ⟨f, fd, F, hm, hb⟩ := D.ex
  obtain ⟨_, _, c_law_take⟩ := c1
  refine ⟨f, fd, F.ok sc_law_word (fun vs H Q E h => ?_) (fun cdv A outer s H vs Q E hr h => ?_), hm, F.kp, hb⟩
  · obtain ⟨a, d, rfl, _⟩ := h
    rfl
  obtain ⟨a, d, rfl, hd, q⟩ := h
  refine ⟨_, (pss_cons (ps_set (i := 1) sc_law_word.nd rfl (.inl rfl) pe_str)
    (pss_cons (ps_set (i := 2) sc_law_word.nd rfl (.inl rfl) (pe_ix ix_list (pe_lst (pa_cons pe_int (pa_cons pe_int (pa_cons (pe_op op_add pe_int (cal c_law_take hr rfl (pa_cons (pv 0) (pa_cons pe_int pa_nil)))) (pa_cons pe_int pa_nil))))) (cal c_law_take hr rfl (pa_cons (pv 0) (pa_cons pe_int pa_nil))) (fun _ _ => rfl)))
    (pss_cons (ps_set (i := 3) sc_law_word.nd rfl (.inl rfl) (pe_ix ix_str (pv 1) (cal c_law_take hr rfl (pa_cons (pv 0) (pa_cons pe_int pa_nil))) (fun _ _ => rfl)))
    (pss_cons (ps_for PassesOwn.never rfl (pi_range1 (by rfl) B.range (pa_cons (pe_op op_sub (pv 2) pe_int) pa_nil)) (pg_name (i := 4) sc_law_word.nd rfl (.inl rfl))
      (pss_one (ps_set (i := 3) sc_law_word.nd rfl (.inl rfl) (pe_op op_add_str (pv 3) (pe_ix ix_str (pe_op op_add_str (pv 1) pe_str) (cal c_law_take hr rfl (pa_cons (pv 0) (pa_cons pe_int pa_nil))) (fun _ _ => rfl))))))
    (pss_one (ps_ret (pv 3))))))), ?_⟩
  -- size
  refine ⟨_, rfl, a, d, 12, rfl, hd, by decide, fun i H1 i0 i1 k1 hd1 => ?_⟩
  refine ⟨1, i, rfl, rfl, by show (4 : Nat) ≤ sizeLine; decide, fun p np => ?_⟩
  refine ⟨_, rfl, a, d, 4, rfl, hd1.new np, by decide, fun j H2 j0 j1 k2 hd2 => ?_⟩
  have np0 : H p = none := k1.free np
  have pa : p ≠ a := (hd.neH np0).symm
  have pd : p ≠ d := (hd.neD np0).symm
  have hsz : ∃ z : Int, atI [V.int 1, V.int 2, V.int (1 + i), V.int 12] j = some (.int z) ∧ 1 ≤ z ∧ z ≤ 12 := by
    rcases four j0 j1 with rfl | rfl | rfl | rfl
    · exact ⟨1, rfl, by omega, by omega⟩
    · exact ⟨2, rfl, by omega, by omega⟩
    · exact ⟨1 + i, rfl, by omega, by omega⟩
    · exact ⟨12, rfl, by omega, by omega⟩
  obtain ⟨z, hz, z1, z2⟩ := hsz
  have k3 : Keep [a] H H2 := (k1.trans (Keep.new np)).trans k2
  refine ⟨p, _, j, _, rfl, rfl, SqL.of (k2.get upd_same (by simpa using pa)), hz, ?_⟩
  -- word = letters[..]
  refine ⟨_, rfl, _, rfl, a, d, 26, rfl, hd2, by decide, fun i2 H3 i20 i21 k4 hd3 => ?_⟩
  obtain ⟨c, hc, lc⟩ := letters_at i20 i21
  refine ⟨_, _, c, rfl, rfl, by decide +kernel, by rw [lit_letters]; exact hc, ?_⟩
  -- the loop
  refine ⟨_, rfl, _, _, rfl, rfl, _, rfl, by omega, by omega, ?_⟩
  refine for_range (lo := 0) (n := (z - 1).toNat) (fun i σ H' => ∃ y4 cs, σ = [some (.ref a), some (.str "abcdefghijklmnopqrstuvwxyz"), some (.int z), some (.str (tx (c :: cs))), y4] ∧ cs.length = i ∧ (∀ y ∈ cs, Sign y) ∧ Keep [a] H H' ∧ Hd H' a d)
    ⟨none, [], rfl, rfl, by simp, k3.trans k4, hd3⟩ (fun i σ H4 hi p => ?_) (fun σ H4 p => ?_)
  · obtain ⟨y4, cs, rfl, e1, e2, k5, hd4⟩ := p
    refine ⟨_, rfl, _, rfl, _, _, rfl, rfl, by decide +kernel, _, rfl, a, d, 36, rfl, hd4, by decide, fun i3 H5 i30 i31 k6 hd5 => ?_⟩
    obtain ⟨b, hb2, lb⟩ := signs_at i30 i31
    refine ⟨_, _, b, rfl, rfl, by decide +kernel, by rw [lit_letters, lit_digits, tx_app]; exact hb2, ?_⟩
    refine ⟨_, _, rfl, rfl, ?_, ?_⟩
    · rw [tx_len]
      show (c :: cs).length + 1 ≤ sizeLine
      rw [List.length_cons]
      exact sizeL (by omega)
    · have e : tx (c :: cs) ++ (⟨#[b]⟩ : Str) = tx (c :: (cs ++ [b])) := tx_app (c :: cs) [b]
      rw [e]
      refine ⟨_, cs ++ [b], rfl, by rw [List.length_append, e1]; rfl, ?_, k5.trans k6, hd5⟩
      · intro y hy
        rcases List.mem_append.mp hy with h | h
        · exact e2 y h
        · rw [List.mem_singleton] at h
          rw [h]
          exact lb
  · obtain ⟨y4, cs, rfl, e1, e2, k5, hd4⟩ := p
    refine ⟨_, rfl, ?_⟩
    exact q (c :: cs) H4 ⟨c, cs, rfl, lc, e2, by omega⟩ k5 hd4
end
end Og

namespace Og
open PySem PySem.Spec PyProof.Rows L2
section
variable {P : Program} {w : World} {K : PySem.W.Frag} {mg : Str → Option Value} {base : Heap}
def spValue (K : PySem.W.Frag) (n : Nat) : Sp := fun vs H Q _ => ∃ (h d : Addr), vs = [.ref h, .int n] ∧ Hd H h d ∧
  ∀ (v : V) (t : Tree) (H' : Hp), Tr K H' v t → Drawn n t → Keep [h] H H' → Hd H' h d → Q v H'
theorem has_value {k : Nat} (D : DefAt K mg "_law_value" s_law_value p_law_value) (B : Bn mg) (c1 : Has P w K mg base k "_law_take" p_law_take spTake) (c2 : Has P w K mg base k "_law_word" p_law_word spWord) :
    ∃ f fd, ∀ n, Callee P w K mg base CX0 (k + n + 1) "_law_value" f fd p_law_value (spValue K n) := by
  obtain ⟨f, fd, F, hm, hb⟩ := D.ex
  have all : ∀ n, FnOk P w K mg base CX0 (k + n + 1) f fd p_law_value (spValue K n) := fun n => by
    induction n with
    | zero =>
      obtain ⟨_, _, c_law_take⟩ := c1
      obtain ⟨_, _, c_law_word⟩ := c2
      have c_law_value : Callee P w K mg base CX0 k "_law_value" f fd p_law_value (fun _ _ _ _ => False) := ⟨⟨fun _ _ _ _ h => h.elim, fun _ _ _ _ _ _ _ _ _ _ _ _ _ h => h.elim⟩, hm, F.kp, hb⟩
      refine F.ok sc_law_value (fun vs H Q E h => ?_) (fun cdv A outer s H vs Q E hr h => ?_)
      · obtain ⟨a, d, rfl, _⟩ := h
        rfl
      obtain ⟨a, d, rfl, hd, q⟩ := h
      refine ⟨_, (pss_cons (ps_if (PW.pt (pw_or (pt_cmpR op_eq (pv 1) pe_int (nomark _)) (pw_or1 (pt_cmpR op_eq (cal c_law_take hr rfl (pa_cons (pv 0) (pa_cons pe_int pa_nil))) pe_int (nomark _))))) (pss_one (ps_ret (cal c_law_word hr rfl (pa_cons (pv 0) pa_nil)))) pss_nil)
    (pss_cons (ps_set (i := 2) sc_law_value.nd rfl (.inl rfl) (pe_ix ix_list (pe_lst (pa_cons (cal c_law_take hr rfl (pa_cons (pv 0) (pa_cons pe_int pa_nil))) (pa_cons (cal c_law_take hr rfl (pa_cons (pv 0) (pa_cons pe_int pa_nil))) pa_nil))) (pe_op op_fdiv (cal c_law_take hr rfl (pa_cons (pv 0) (pa_cons pe_int pa_nil))) pe_int) (fun _ _ => rfl)))
    (pss_one (ps_ret (pe_callTy call_tuple_of (by rfl) B.tuple (by decide +kernel) (pa_cons (pe_lc (own := [("k", 3)]) (g := gName 3) (tt := tYes) rfl sc_law_value.nd (pi_range1 (by rfl) B.range (pa_cons (pv 2) pa_nil)) (blkOk_by (N := n_law_value) (sc := defScope s_law_value) (by decide +kernel)) (fun _ _ _ _ _ => pg_name (i := 3) sc_law_value.nd rfl (Or.inl rfl)) (fun _ _ _ _ _ => pts_nil) (fun _ _ _ _ _ => (cal c_law_value hr rfl (pa_cons (pv 0) (pa_cons (pe_op op_sub (pv 1) pe_int) pa_nil))))) pa_nil)))))), ?_⟩
      refine ⟨_, rfl, rfl, _, rfl, iteT (iteT ?_)⟩
      exact ⟨_, rfl, a, d, rfl, hd, fun x H1 wx k1 hd1 => q _ _ _ tr_w ⟨wt_w wx, by rw [size_w]; exact most_pos 0, deep_w _ _⟩ k1 hd1⟩
    | succ n ih =>
      obtain ⟨_, _, c_law_take⟩ := c1.mono (show k ≤ k + n + 1 by omega)
      obtain ⟨_, _, c_law_word⟩ := c2.mono (show k ≤ k + n + 1 by omega)
      have c_law_value : Callee P w K mg base CX0 (k + n + 1) "_law_value" f fd p_law_value (spValue K n) := ⟨ih, hm, F.kp, hb⟩
      refine F.ok sc_law_value (fun vs H Q E h => ?_) (fun cdv A outer s H vs Q E hr h => ?_)
      · obtain ⟨a, d, rfl, _⟩ := h
        rfl
      obtain ⟨a, d, rfl, hd, q⟩ := h
      refine ⟨_, (pss_cons (ps_if (PW.pt (pw_or (pt_cmpR op_eq (pv 1) pe_int (nomark _)) (pw_or1 (pt_cmpR op_eq (cal c_law_take hr rfl (pa_cons (pv 0) (pa_cons pe_int pa_nil))) pe_int (nomark _))))) (pss_one (ps_ret (cal c_law_word hr rfl (pa_cons (pv 0) pa_nil)))) pss_nil)
    (pss_cons (ps_set (i := 2) sc_law_value.nd rfl (.inl rfl) (pe_ix ix_list (pe_lst (pa_cons (cal c_law_take hr rfl (pa_cons (pv 0) (pa_cons pe_int pa_nil))) (pa_cons (cal c_law_take hr rfl (pa_cons (pv 0) (pa_cons pe_int pa_nil))) pa_nil))) (pe_op op_fdiv (cal c_law_take hr rfl (pa_cons (pv 0) (pa_cons pe_int pa_nil))) pe_int) (fun _ _ => rfl)))
    (pss_one (ps_ret (pe_callTy call_tuple_of (by rfl) B.tuple (by decide +kernel) (pa_cons (pe_lc (own := [("k", 3)]) (g := gName 3) (tt := tYes) rfl sc_law_value.nd (pi_range1 (by rfl) B.range (pa_cons (pv 2) pa_nil)) (blkOk_by (N := n_law_value) (sc := defScope s_law_value) (by decide +kernel)) (fun _ _ _ _ _ => pg_name (i := 3) sc_law_value.nd rfl (Or.inl rfl)) (fun _ _ _ _ _ => pts_nil) (fun _ _ _ _ _ => (cal c_law_value hr rfl (pa_cons (pv 0) (pa_cons (pe_op op_sub (pv 1) pe_int) pa_nil))))) pa_nil)))))), ?_⟩
      have word : ∀ H1, Keep [a] H H1 → Hd H1 a d → spWord [.ref a] H1 Q E0 := fun H1 k1 hd1 => ⟨a, d, rfl, hd1, fun x H2 wx k2 hd2 => q _ _ _ tr_w ⟨wt_w wx, by rw [size_w]; exact most_pos _, deep_w _ _⟩ (k1.trans k2) hd2⟩
      refine ⟨_, rfl, rfl, _, rfl, ite2 (fun c => iteT ⟨_, rfl, word _ Keep.refl hd⟩) (fun c => ?_)⟩
      refine ⟨_, rfl, a, d, 3, rfl, hd, by decide, fun i H1 i0 i1 k1 hd1 => ?_⟩
      refine ⟨rfl, _, rfl, ite2 (fun c => ⟨_, rfl, word _ k1 hd1⟩) (fun c => ?_)⟩
      refine ⟨_, rfl, a, d, 5, rfl, hd1, by decide, fun i5 H2 i50 i51 k2 hd2 => ?_⟩
      refine ⟨_, rfl, a, d, 12, rfl, hd2, by decide, fun i12 H3 i120 i121 k3 hd3 => ?_⟩
      refine ⟨by show (2 : Nat) ≤ sizeLine; decide, fun p np => ?_⟩
      refine ⟨_, rfl, a, d, 4, rfl, hd3.new np, by decide, fun j H4 j0 j1 k4 hd4 => ?_⟩
      have kk : Keep [a] H H3 := (k1.trans k2).trans k3
      have pa : p ≠ a := (hd3.neH np).symm
      have k5 : Keep [a] H H4 := (kk.trans (Keep.new np)).trans k4
      have hz : ∃ z : Int, atI [V.int i5, V.int i12] (j / 3) = some (.int z) ∧ 0 ≤ z ∧ z ≤ 11 := by
        rcases four j0 j1 with rfl | rfl | rfl | rfl
        · exact ⟨i5, rfl, by omega, by omega⟩
        · exact ⟨i5, rfl, by omega, by omega⟩
        · exact ⟨i5, rfl, by omega, by omega⟩
        · exact ⟨i12, rfl, by omega, by omega⟩
      obtain ⟨z, hz, z0, z1⟩ := hz
      refine ⟨_, _, rfl, rfl, ⟨by decide, by decide⟩, p, _, _, _, rfl, rfl, SqL.of (k4.get upd_same (by simpa using pa)), hz, ?_⟩
      refine ⟨_, rfl, z, rfl, by omega, by omega, fun L nL => ?_⟩
      have La : L ≠ a := (hd4.neH nL).symm
      have Ld : L ≠ d := (hd4.neD nL).symm
      have nL0 : H L = none := k5.free nL
      refine lc_range (lo := 0) (n := z.toNat) (fun i H' => ∃ vs ts, H' L = some (.lst vs) ∧ Trs K H' vs ts ∧ ts.length = i ∧ (∀ t ∈ ts, Drawn n t) ∧ Keep [a] H H' ∧ Hd H' a d)
        ⟨[], [], upd_same, trs_nil, rfl, by simp, k5.newT nL, hd4.new nL⟩ (fun i H5 hi p => ?_) (fun H5 p => ?_)
      · obtain ⟨vs, ts, e1, e2, e3, e4, k6, hd5⟩ := p
        refine ⟨rfl, yes ?_⟩
        refine ⟨_, rfl, _, rfl, _, _, rfl, rfl, a, d, ?_, hd5, fun v t H6 tv dt k7 hd6 => ?_⟩
        · show [V.ref a, V.int ((((n + 1 : Nat)) : Int) - 1)] = [V.ref a, V.int (n : Int)]
          rw [show (((n + 1 : Nat)) : Int) - 1 = (n : Int) by omega]
        have e1' : H6 L = some (.lst vs) := k7.get e1 (by simpa using La)
        have k8 : Keep [L] H6 (upd H6 L (.lst (vs ++ [v]))) := Keep.set e1' (List.mem_cons_self ..)
        refine ⟨vs, e1', ?_, vs ++ [v], ts ++ [t], upd_same, (e2.keep k7 |>.append (trs_cons tv trs_nil)).keep k8, by rw [List.length_append, e3]; rfl, ?_, ((k6.trans k7).cons.trans (k8.mono (by simp))).drop nL0, hd6.upd La.symm Ld.symm⟩
        · rw [e2.length]
          exact sizeLt (by omega)
        · intro u hu
          rcases List.mem_append.mp hu with m | m
          · exact e4 u m
          · rw [List.mem_singleton.mp m]
            exact dt
      · obtain ⟨vs, ts, e1, e2, e3, e4, k6, hd5⟩ := p
        refine ⟨L, vs, rfl, .inl ⟨SqL.of e1, fun T nT => ?_⟩⟩
        refine q _ (.l ts) _ (tr_tup upd_same (e2.keep (Keep.new (S := []) nT))) ⟨wt_l (WTs.of fun t m => (e4 t m).1), ?_, fun t m => (e4 t m).2.2⟩ (k6.newT nT) (hd5.new nT)
        rw [size_l]
        have := sizes_le fun t m => (e4 t m).2.1
        have l : ts.length ≤ 11 := by omega
        have := Nat.mul_le_mul_right (Most n) l
        rw [show Most (n + 1) = 1 + 11 * Most n from rfl]
        omega
  exact ⟨f, fd, fun n => ⟨all n, hm, F.kp, hb⟩⟩
end
end Og

namespace Og
open PySem PySem.Spec PyProof.Rows L2
/-! ### pairs of trees, compared -/
def Prs (K : PySem.W.Frag) (H : Hp) : List V → List (Tree × Tree) → Prop
  | vs, [] => vs = []
  | vs, p :: ps => ∃ a x y r, vs = .ref a :: r ∧ H a = some (.tup [x, y]) ∧ Tr K H x p.1 ∧ Tr K H y p.2 ∧ Prs K H r ps
theorem Prs.keep {K : PySem.W.Frag} {S : List Addr} {H H1 : Hp} (k : Keep S H H1) : ∀ {vs : List V} {ps : List (Tree × Tree)}, Prs K H vs ps → Prs K H1 vs ps
  | vs, [], h => h
  | vs, p :: ps, ⟨a, x, y, r, e, ea, h1, h2, h3⟩ => ⟨a, x, y, r, e, k.tup ea, h1.keep k, h2.keep k, Prs.keep k h3⟩
theorem Prs.app {K : PySem.W.Frag} {H : Hp} {vs2 : List V} {ps2 : List (Tree × Tree)} (g : Prs K H vs2 ps2) : ∀ {vs : List V} {ps : List (Tree × Tree)}, Prs K H vs ps → Prs K H (vs ++ vs2) (ps ++ ps2)
  | vs, [], h => by rw [show vs = [] from h]; exact g
  | vs, p :: ps, ⟨a, x, y, r, e, ea, h1, h2, h3⟩ => ⟨a, x, y, r ++ vs2, by rw [e]; rfl, ea, h1, h2, Prs.app g h3⟩
theorem Prs.len {K : PySem.W.Frag} {H : Hp} : ∀ {vs : List V} {ps : List (Tree × Tree)}, Prs K H vs ps → vs.length = ps.length
  | vs, [], h => by rw [show vs = [] from h]; rfl
  | vs, p :: ps, ⟨a, x, y, r, e, ea, h1, h2, h3⟩ => by rw [e, List.length_cons, List.length_cons, Prs.len h3]
theorem Prs.snoc {K : PySem.W.Frag} {H : Hp} {p : Tree × Tree} : ∀ {ps : List (Tree × Tree)} {vs : List V}, Prs K H vs (ps ++ [p]) → ∃ vs' a x y, vs = vs' ++ [.ref a] ∧ Prs K H vs' ps ∧ H a = some (.tup [x, y]) ∧ Tr K H x p.1 ∧ Tr K H y p.2
  | [], vs, ⟨a, x, y, r, e, ea, h1, h2, h3⟩ => ⟨[], a, x, y, by rw [e, show r = [] from h3]; rfl, rfl, ea, h1, h2⟩
  | q :: ps, vs, ⟨a, x, y, r, e, ea, h1, h2, h3⟩ => by
    obtain ⟨vs', a', x', y', e', g1, g2, g3, g4⟩ := Prs.snoc h3
    exact ⟨.ref a :: vs', a', x', y', by rw [e, e']; rfl, ⟨a, x, y, vs', rfl, ea, h1, h2, g1⟩, g2, g3, g4⟩
/-- how many parts the second ones have -/
def psz (ps : List (Tree × Tree)) : Nat := (ps.map fun p => p.2.size).sum
theorem psz_app (a b : List (Tree × Tree)) : psz (a ++ b) = psz a + psz b := by
  unfold psz
  rw [List.map_append, List.sum_append]
theorem psz_one (p : Tree × Tree) : psz [p] = p.2.size := by
  unfold psz
  simp
theorem psz_len : ∀ ps : List (Tree × Tree), ps.length ≤ psz ps
  | [] => Nat.zero_le _
  | p :: r => by
    have h := psz_len r
    have h2 := size_pos p.2
    unfold psz at h ⊢
    rw [List.map_cons, List.sum_cons, List.length_cons]
    omega
theorem psz_zip : ∀ (ts us : List Tree), psz (ts.zip us) ≤ sizes us
  | [], us => Nat.zero_le _
  | t :: ts, [] => Nat.zero_le _
  | t :: ts, u :: us => by
    have h := psz_zip ts us
    rw [List.zip_cons_cons, sizes_cons, show (t, u) :: ts.zip us = [(t, u)] ++ ts.zip us from rfl, psz_app, psz_one]
    show u.size + psz (ts.zip us) ≤ u.size + sizes us
    omega
theorem zip_eq : ∀ {ts us : List Tree}, ts.length = us.length → ((∀ p ∈ ts.zip us, p.1 = p.2) ↔ ts = us)
  | [], [], _ => ⟨fun _ => rfl, fun _ p m => by cases m⟩
  | [], _ :: _, h => by cases h
  | _ :: _, [], h => by cases h
  | t :: ts, u :: us, h => by
    have ih := zip_eq (ts := ts) (us := us) (Nat.succ.inj h)
    rw [List.zip_cons_cons]
    constructor
    · intro q
      have e1 : t = u := q (t, u) (List.mem_cons_self ..)
      rw [e1, ih.mp fun p m => q p (List.mem_cons_of_mem _ m)]
    · intro e p m
      have e1 := (List.cons.inj e).1
      have e2 := (List.cons.inj e).2
      rcases List.mem_cons.mp m with z | z
      · rw [z]; exact e1
      · exact ih.mpr e2 p z
section
variable {P : Program} {w : World} {K : PySem.W.Frag} {mg : Str → Option Value} {base : Heap}
def spLike (K : PySem.W.Frag) : Sp := fun vs H Q _ => ∃ (x y : V) (t u : Tree), vs = [x, y] ∧ Tr K H x t ∧ Tr K H y u ∧ u.size ≤ 300000 ∧
  ∀ (b : Bool) (H' : Hp), (b = true ↔ t = u) → Keep [] H H' → Q (.bl b) H'
theorem has_like {k : Nat} (D : DefAt K mg "_law_like" s_law_like p_law_like) (B : Bn mg) : Has P w K mg base (k + 1) "_law_like" p_law_like (spLike K) := by
  obtain ⟨f, fd, F, hm, hb⟩ := D.ex
  refine ⟨f, fd, F.ok sc_law_like (fun vs H Q E h => ?_) (fun cdv A outer s H vs Q E hr h => ?_), hm, F.kp, hb⟩
  · obtain ⟨_, _, _, _, rfl, _⟩ := h
    rfl
  obtain ⟨x, y, t, u, rfl, tx1, ty1, sz, q⟩ := h
  refine ⟨_, (pss_cons (ps_set (i := 2) sc_law_like.nd rfl (.inl rfl) (pe_lst (pa_cons (pe_tup (pa_cons (pv 0) (pa_cons (pv 1) pa_nil))) pa_nil)))
    (pss_cons (ps_for PassesOwn.never rfl (pi_range1 (by rfl) B.range (pa_cons pe_int pa_nil)) (pg_name (i := 3) sc_law_like.nd rfl (.inl rfl))
      (pss_cons (ps_if (pt_cmpR op_eq (pe_callB call_len_seq (by rfl) B.len PySem.boot_len (pa_cons (pv 2) pa_nil)) pe_int (nomark _)) (pss_one (ps_ret pe_bl)) pss_nil)
      (pss_cons (ps_asg (pe_bm0 PySem.F.plainAttrs_list PySem.F.slot_list_pop PySem.F.type_list_pop mt_pop (pv 2)) (pg_tup (by rfl) (pgs_cons (pg_name (i := 4) sc_law_like.nd rfl (.inl rfl)) (pgs_cons (pg_name (i := 5) sc_law_like.nd rfl (.inl rfl)) pgs_nil))))
      (pss_cons (ps_if (pt_val (pe_callB call_isi (by rfl) B.isinstance (by decide +kernel) (pa_cons (pv 5) (pa_cons (pe_bltn (v := .ty "str") rfl B.str (by decide +kernel) rfl) pa_nil)))) (pss_cons (ps_if (PW.pt (pw_or (pt_not (pt_val (pe_callB call_isi (by rfl) B.isinstance (by decide +kernel) (pa_cons (pv 4) (pa_cons (pe_bltn (v := .ty "str") rfl B.str (by decide +kernel) rfl) pa_nil))))) (pw_or1 (pt_cmpR op_ne (pv 4) (pv 5) (nomark _))))) (pss_one (ps_ret pe_bl)) pss_nil)
        (pss_one ps_continue)) pss_nil)
      (pss_cons (ps_if (PW.pt (pw_or (pt_not (pt_val (pe_callB call_isi (by rfl) B.isinstance (by decide +kernel) (pa_cons (pv 4) (pa_cons (pe_bltn (v := .ty "tuple") rfl B.tuple (by decide +kernel) rfl) pa_nil))))) (pw_or1 (pt_cmpR op_ne (pe_callB call_len_seq (by rfl) B.len PySem.boot_len (pa_cons (pv 4) pa_nil)) (pe_callB call_len_seq (by rfl) B.len PySem.boot_len (pa_cons (pv 5) pa_nil)) (nomark _))))) (pss_one (ps_ret pe_bl)) pss_nil)
      (pss_one (ps_for PassesOwn.never rfl (pi_range1 (by rfl) B.range (pa_cons (pe_callB call_len_seq (by rfl) B.len PySem.boot_len (pa_cons (pv 5) pa_nil)) pa_nil)) (pg_name (i := 6) sc_law_like.nd rfl (.inl rfl))
        (pss_one (ps_expr (pe_bm PySem.F.plainAttrs_list PySem.F.slot_list_append PySem.F.type_list_append mt_append (pv 2) (pa_cons (pe_tup (pa_cons (pe_ix ix_tup (pv 4) (pv 6) (fun _ _ => rfl)) (pa_cons (pe_ix ix_tup (pv 5) (pv 6) (fun _ _ => rfl)) pa_nil))) pa_nil)))))))))))
    (pss_one (ps_ret pe_bl)))), ?_⟩
  refine ⟨_, rfl, _, rfl, by show (2 : Nat) ≤ sizeLine; decide, fun a na => ?_⟩
  refine ⟨by show (1 : Nat) ≤ sizeLine; decide, fun p np => ?_⟩
  have k0 : Keep [] H (upd (upd H a (.tup [x, y])) p (.lst [.ref a])) := (Keep.new na).newT np
  have np0 : H p = none := (Keep.new (S := []) na).free np
  have pa : a ≠ p := ne_of_none upd_same np
  refine ⟨(400000 : Int), rfl, by decide, by decide, ?_⟩
  refine for_range (lo := 0) (n := (400000 : Int).toNat) (fun i σ H' => ∃ (y3 y4 y5 y6 : Option V) (vs : List V) (ps : List (Tree × Tree)), σ = [some x, some y, some (.ref p), y3, y4, y5, y6] ∧ Keep [] H H' ∧ H' p = some (.lst vs) ∧ Prs K H' vs ps ∧ psz ps + i ≤ 300000 ∧ (t = u ↔ ∀ z ∈ ps, z.1 = z.2))
    ⟨none, none, none, none, _, [(t, u)], rfl, k0, upd_same, ⟨a, x, y, [], rfl, by rw [upd_ne pa, upd_same], tx1.keep k0, ty1.keep k0, rfl⟩, by rw [psz_one]; exact sz, ?_⟩ (fun i σ H1 hi pw => ?_) (fun σ H1 pw => ?_)
  · constructor
    · intro e z m
      rw [List.mem_singleton.mp m]
      exact e
    · intro h
      exact h (t, u) (List.mem_singleton.mpr rfl)
  · obtain ⟨y3, y4, y5, y6, vs, ps, rfl, k1, e1, pr, sz1, iff⟩ := pw
    have vl := pr.len
    have pl := psz_len ps
    refine ⟨_, rfl, p, vs, rfl, .inl (SqL.of e1), rfl, _, rfl, ?_⟩
    by_cases hne : ps = []
    · subst hne
      rw [show vs = [] from pr, decide_eq_true (show V.int (([] : List V).length : Nat) = V.int 0 from rfl)]
      exact iteT (q true H1 ⟨fun _ => iff.mpr fun z m => (by cases m), fun _ => rfl⟩ k1)
    · obtain ⟨ps', z, rfl⟩ := snoc_of hne
      obtain ⟨vs', a1, x1, y1, rfl, pr', ea1, tx2, ty2⟩ := pr.snoc
      rw [psz_app, psz_one] at sz1 pl
      rw [decide_eq_false (fun e => by have := V.int.inj e; rw [List.length_append, List.length_singleton] at this; omega)]
      refine iteF ?_
      refine ⟨_, rfl, .inl ⟨rfl, _, SqL.of e1⟩, p, _, _, rfl, rfl, e1, last_get _ _, ?_⟩
      rw [List.dropLast_concat]
      generalize hH2 : upd H1 p (.lst vs') = H2
      have k2 : Keep [p] H1 H2 := by rw [← hH2]; exact Keep.set e1 (List.mem_cons_self ..)
      have e2 : H2 p = some (.lst vs') := by rw [← hH2, upd_same]
      have k2' : Keep [] H H2 := (k1.cons.trans (k2.mono (by simp))).drop np0
      refine ⟨a1, _, rfl, SqT.of_tup (k2.tup ea1), rfl, x1, _, rfl, y1, _, rfl, rfl, ?_⟩
      have tx3 := tx2.keep k2
      have ty3 := ty2.keep k2
      have pr3 := pr'.keep k2
      obtain ⟨z1, z2⟩ := z
      have split : (∀ q ∈ ps' ++ [(z1, z2)], q.1 = q.2) ↔ (∀ q ∈ ps', q.1 = q.2) ∧ z1 = z2 := by
        constructor
        · intro h
          exact ⟨fun q m => h q (List.mem_append.mpr (.inl m)), h (z1, z2) (by simp)⟩
        · rintro ⟨h1, h2⟩ q m
          rcases List.mem_append.mp m with m | m
          · exact h1 q m
          · rw [List.mem_singleton.mp m]; exact h2
      have no : z1 ≠ z2 → Q (.bl false) H2 := fun h => q false H2 ⟨fun e => (by cases e), fun e => absurd (split.mp (iff.mp e)).2 h⟩ k2'
      obtain ⟨ty, uu, q1, q2, q3⟩ := isi_str ty3
      refine ⟨_, rfl, _, _, ty, uu, _, rfl, q1, q2, q3, _, rfl, ?_⟩
      cases z2 with
      | w c2 =>
        refine iteT ?_
        obtain ⟨ty', uu', q1', q2', q3'⟩ := isi_str tx3
        refine ⟨_, rfl, _, _, ty', uu', _, rfl, q1', q2', q3', _, rfl, ?_⟩
        cases z1 with
        | l ts => exact iteT (iteT (no (fun e => by cases e)))
        | w c1 =>
          refine iteF ?_
          have ex := tx3.word
          have ey := ty3.word
          subst ex ey
          refine ⟨_, rfl, _, rfl, rfl, _, rfl, ?_⟩
          by_cases hc : c1 = c2
          · subst hc
            rw [show (!decide (V.str (tx c1) = V.str (tx c1))) = false by simp]
            refine iteF ⟨_, _, _, _, vs', ps', rfl, k2', e2, pr3, ?_, ?_⟩
            · rw [size_w] at sz1; omega
            · rw [iff, split]
              exact ⟨fun h => h.1, fun h => ⟨h, rfl⟩⟩
          · rw [show (!decide (V.str (tx c1) = V.str (tx c2))) = true by
              rw [decide_eq_false (fun e => hc (tx_str e))]; rfl]
            exact iteT (no (fun e => hc (Tree.w.inj e)))
      | l us =>
        refine iteF ?_
        obtain ⟨ty', uu', q1', q2', q3'⟩ := isi_tup tx3
        refine ⟨_, rfl, _, _, ty', uu', _, rfl, q1', q2', q3', _, rfl, ?_⟩
        cases z1 with
        | w c1 => exact iteT (iteT (no (fun e => by cases e)))
        | l ts =>
        refine iteF ?_
        obtain ⟨ax, wx, rfl, hX, trx⟩ := tx3.list
        obtain ⟨ay, wy, rfl, hY, try_⟩ := ty3.list
        have lx := trx.length
        have ly := try_.length
        refine ⟨_, rfl, ax, wx, rfl, .inr hX, _, rfl, ay, wy, rfl, .inr hY, rfl, _, rfl, ?_⟩
        by_cases hl : ts.length = us.length
        · rw [show (!decide (V.int ((wx.length : Nat) : Int) = V.int ((wy.length : Nat) : Int))) = false by
            rw [lx, ly, hl]; simp]
          refine iteF ?_
          refine ⟨_, rfl, ay, wy, rfl, .inr hY, _, rfl, by omega, ?_, ?_⟩
          · rw [size_l] at sz1
            have := len_sizes us
            omega
          rw [Int.toNat_natCast, ly]
          rw [size_l] at sz1
          have lsz := len_sizes us
          have zsz := psz_zip ts us
          have zl : (ts.zip us).length = us.length := by rw [List.length_zip, hl, Nat.min_self]
          refine for_range (lo := 0) (n := us.length) (fun j σ H' => ∃ (y6 : Option V) (vs2 : List V), σ = [some x, some y, some (.ref p), some (.int (0 + (i : Int))), some (.ref ax), some (.ref ay), y6] ∧ Keep [] H H' ∧ Keep [p] H2 H' ∧ H' p = some (.lst vs2) ∧ Prs K H' vs2 (ps' ++ (ts.zip us).take j))
            ⟨_, vs', rfl, k2', Keep.refl, e2, by rw [List.take_zero, List.append_nil]; exact pr3⟩ (fun j σ H4 hj pw => ?_) (fun σ H4 pw => ?_)
          · obtain ⟨y6, vs2, rfl, k4, k4b, e4, pr4⟩ := pw
            have jx : j < ts.length := by omega
            obtain ⟨vx, gx, tvx⟩ := trx.get (List.getElem?_eq_getElem jx)
            obtain ⟨vy, gy, tvy⟩ := try_.get (List.getElem?_eq_getElem hj)
            have e0 : (0 : Int) + (j : Int) = ((j : Nat) : Int) := by omega
            refine ⟨_, rfl, .inl ⟨rfl, _, SqL.of e4⟩, _, rfl, _, rfl, ax, wx, _, vx, rfl, rfl, k4b.sqT hX, by rw [e0]; exact atI_nat gx, _, rfl, _, rfl, ay, wy, _, vy, rfl, rfl, k4b.sqT hY, by rw [e0]; exact atI_nat gy, by show (2 : Nat) ≤ sizeLine; decide, fun tp ntp => ?_⟩
            have pt : p ≠ tp := ne_of_none e4 ntp
            have kt : Keep [] H4 (upd H4 tp (.tup [vx, vy])) := Keep.new ntp
            have e5 : (upd H4 tp (.tup [vx, vy])) p = some (.lst vs2) := kt.get e4 (by simp)
            have ku : Keep [p] (upd H4 tp (.tup [vx, vy])) (upd (upd H4 tp (.tup [vx, vy])) p (.lst (vs2 ++ [.ref tp]))) := Keep.set e5 (List.mem_cons_self ..)
            refine ⟨p, vs2, _, rfl, rfl, e5, ?_, ?_⟩
            · have := pr4.len
              rw [List.length_append, List.length_take] at this
              have h2 := psz_len ps'
              exact Nat.lt_of_le_of_lt (show _ ≤ 600000 by omega) (by decide)
            · refine ⟨_, _, rfl, ((k4.trans kt).cons.trans (ku.mono (by simp))).drop np0, (k4b.trans (kt.mono (by simp))).trans ku, upd_same, ?_⟩
              have ez : (ts.zip us).take (j + 1) = (ts.zip us).take j ++ [(ts[j], us[j])] := by
                rw [List.take_add_one, List.getElem?_zip_eq_some (z := (ts[j], us[j])).mpr ⟨List.getElem?_eq_getElem jx, List.getElem?_eq_getElem hj⟩]
                rfl
              rw [ez, ← List.append_assoc]
              have one : Prs K (upd (upd H4 tp (.tup [vx, vy])) p (.lst (vs2 ++ [.ref tp]))) [.ref tp] [(ts[j], us[j])] := ⟨tp, vx, vy, [], rfl, ku.tup upd_same, ((tvx.keep k4b).keep kt).keep ku, ((tvy.keep k4b).keep kt).keep ku, rfl⟩
              exact Prs.app one ((pr4.keep kt).keep ku)
          · obtain ⟨y6, vs2, rfl, k4, k4b, e4, pr4⟩ := pw
            rw [← zl, List.take_length] at pr4
            refine ⟨_, _, _, _, vs2, ps' ++ ts.zip us, rfl, k4, e4, pr4, by rw [psz_app]; omega, ?_⟩
            rw [iff, split]
            constructor
            · rintro ⟨h1, h2⟩ z m
              rcases List.mem_append.mp m with m | m
              · exact h1 z m
              · exact (zip_eq hl).mpr (Tree.l.inj h2) z m
            · intro h
              exact ⟨fun z m => h z (List.mem_append.mpr (.inl m)), congrArg Tree.l ((zip_eq hl).mp fun z m => h z (List.mem_append.mpr (.inr m)))⟩
        · rw [show (!decide (V.int ((wx.length : Nat) : Int) = V.int ((wy.length : Nat) : Int))) = true by
            rw [lx, ly, decide_eq_false (fun e => hl (by have := V.int.inj e; omega))]; rfl]
          exact iteT (no (fun e => hl (by rw [Tree.l.inj e])))
  · obtain ⟨y3, y4, y5, y6, vs, ps, rfl, k1, e1, pr, sz1, iff⟩ := pw
    exact absurd sz1 (by have : (400000 : Int).toNat = 400000 := rfl; omega)
end
end Og

namespace Og
open PySem PySem.Spec PyProof.Rows L2
section
variable {P : Program} {w : World} {K : PySem.W.Frag} {mg : Str → Option Value} {base : Heap}
def spAgain (K : PySem.W.Frag) (n : Nat) : Sp := fun vs H Q _ => ∃ (v : V) (t : Tree), vs = [v] ∧ Tr K H v t ∧ WT t ∧ Deep n t ∧ t.size ≤ 300000 ∧
  ∀ (v' : V) (H' : Hp), Tr K H' v' t → Keep [] H H' → Q v' H'
theorem again_word {x : List Nat} (wx : IsWord x) : cutS (tx x) none (some 1) ++ cutS (tx x) (some 1) none = tx x := by
  have l : 1 ≤ x.length := List.length_pos_iff.mpr wx.ne
  have e1 := cutS_to x (j := 1) l
  have e2 := cutS_from x (i := 1) l
  rw [show (some (1 : Int)) = some ((1 : Nat) : Int) from rfl, e1, e2, tx_app, List.take_append_drop]
theorem again_sz {x : List Nat} (wx : IsWord x) : (tx x).length ≤ sizeLine ∧ (cutS (tx x) none (some 1)).length + (cutS (tx x) (some 1) none).length ≤ sizeLine := by
  have l : 1 ≤ x.length := List.length_pos_iff.mpr wx.ne
  have l2 := wx.len
  have e1 := cutS_to x (j := 1) l
  have e2 := cutS_from x (i := 1) l
  rw [show (some (1 : Int)) = some ((1 : Nat) : Int) from rfl, e1, e2, tx_len, tx_len, tx_len, List.length_take, List.length_drop]
  exact ⟨sizeL (by omega), sizeL (by omega)⟩
theorem has_again {k : Nat} (D : DefAt K mg "_law_again" s_law_again p_law_again) (B : Bn mg) : ∀ n, Has P w K mg base (k + n + 1) "_law_again" p_law_again (spAgain K n) := by
  obtain ⟨f, fd, F, hm, hb⟩ := D.ex
  have all : ∀ n, FnOk P w K mg base CX0 (k + n + 1) f fd p_law_again (spAgain K n) := fun n => by
    induction n with
    | zero =>
      have c_law_again : Callee P w K mg base CX0 k "_law_again" f fd p_law_again (fun _ _ _ _ => False) := ⟨⟨fun _ _ _ _ h => h.elim, fun _ _ _ _ _ _ _ _ _ _ _ _ _ h => h.elim⟩, hm, F.kp, hb⟩
      refine F.ok sc_law_again (fun vs H Q E h => ?_) (fun cdv A outer s H vs Q E hr h => ?_)
      · obtain ⟨a, d, rfl, _⟩ := h
        rfl
      obtain ⟨v, t, rfl, tv, wt, dp, sz, q⟩ := h
      refine ⟨_, (pss_cons (ps_if (pt_val (pe_callB call_isi (by rfl) B.isinstance (by decide +kernel) (pa_cons (pv 0) (pa_cons (pe_bltn (v := .ty "str") rfl B.str (by decide +kernel) rfl) pa_nil)))) (pss_one (ps_ret (pe_op op_add_str (pe_slice sl_str (pv 0) po_none (po_some pe_int)) (pe_slice sl_str (pv 0) (po_some pe_int) po_none)))) pss_nil)
    (pss_one (ps_ret (pe_callTy call_tuple_of (by rfl) B.tuple (by decide +kernel) (pa_cons (pe_lc (own := [("one", 1)]) (g := gName 1) (tt := tYes) rfl sc_law_again.nd (pi_tup (pv 0)) (blkOk_by (N := n_law_again) (sc := defScope s_law_again) (by decide +kernel)) (fun _ _ _ _ _ => pg_name (i := 1) sc_law_again.nd rfl (Or.inl rfl)) (fun _ _ _ _ _ => pts_nil) (fun _ _ _ _ _ => (cal c_law_again hr rfl (pa_cons (pv 1) pa_nil)))) pa_nil))))), ?_⟩
      cases t with
      | l ts => exact dp.elim
      | w x =>
        obtain ⟨ty, u, q1, q2, q3⟩ := isi_str tv
        refine ⟨_, rfl, _, _, ty, u, _, rfl, q1, q2, q3, _, rfl, iteT ?_⟩
        have e := tv.word
        subst e
        obtain ⟨z1, z2⟩ := again_sz wt.word
        refine ⟨_, rfl, _, rfl, _, rfl, z1, _, rfl, _, rfl, _, rfl, z1, _, _, rfl, rfl, z2, ?_⟩
        rw [again_word wt.word]
        exact q _ _ tv Keep.refl
    | succ n ih =>
      have c_law_again : Callee P w K mg base CX0 (k + n + 1) "_law_again" f fd p_law_again (spAgain K n) := ⟨ih, hm, F.kp, hb⟩
      refine F.ok sc_law_again (fun vs H Q E h => ?_) (fun cdv A outer s H vs Q E hr h => ?_)
      · obtain ⟨a, d, rfl, _⟩ := h
        rfl
      obtain ⟨v, t, rfl, tv, wt, dp, sz, q⟩ := h
      refine ⟨_, (pss_cons (ps_if (pt_val (pe_callB call_isi (by rfl) B.isinstance (by decide +kernel) (pa_cons (pv 0) (pa_cons (pe_bltn (v := .ty "str") rfl B.str (by decide +kernel) rfl) pa_nil)))) (pss_one (ps_ret (pe_op op_add_str (pe_slice sl_str (pv 0) po_none (po_some pe_int)) (pe_slice sl_str (pv 0) (po_some pe_int) po_none)))) pss_nil)
    (pss_one (ps_ret (pe_callTy call_tuple_of (by rfl) B.tuple (by decide +kernel) (pa_cons (pe_lc (own := [("one", 1)]) (g := gName 1) (tt := tYes) rfl sc_law_again.nd (pi_tup (pv 0)) (blkOk_by (N := n_law_again) (sc := defScope s_law_again) (by decide +kernel)) (fun _ _ _ _ _ => pg_name (i := 1) sc_law_again.nd rfl (Or.inl rfl)) (fun _ _ _ _ _ => pts_nil) (fun _ _ _ _ _ => (cal c_law_again hr rfl (pa_cons (pv 1) pa_nil)))) pa_nil))))), ?_⟩
      cases t with
      | w x =>
        obtain ⟨ty, u, q1, q2, q3⟩ := isi_str tv
        refine ⟨_, rfl, _, _, ty, u, _, rfl, q1, q2, q3, _, rfl, iteT ?_⟩
        have e := tv.word
        subst e
        obtain ⟨z1, z2⟩ := again_sz wt.word
        refine ⟨_, rfl, _, rfl, _, rfl, z1, _, rfl, _, rfl, _, rfl, z1, _, _, rfl, rfl, z2, ?_⟩
        rw [again_word wt.word]
        exact q _ _ tv Keep.refl
      | l ts =>
        obtain ⟨a, vs, rfl, hS, tvs⟩ := tv.list
        have szs := sz
        rw [size_l] at szs
        have lsz := len_sizes ts
        obtain ⟨ty, u, q1, q2, q3⟩ := isi_str tv
        refine ⟨_, rfl, _, _, ty, u, _, rfl, q1, q2, q3, _, rfl, iteF ?_⟩
        refine ⟨_, rfl, a, rfl, ⟨_, hS⟩, fun L nL => ?_⟩
        refine lc_tup (K := K) (a := a) (xs := vs) (fun i H' => Keep [] H H' ∧ ∃ ws, H' L = some (.lst ws) ∧ Trs K H' ws (ts.take i)) ⟨Keep.new nL, [], upd_same, trs_nil⟩ (fun i H' _ p => p.1.sqT hS) (fun i x H1 hx p => ?_) (fun H1 p => ?_)
        · obtain ⟨k1, ws, e1, r1⟩ := p
          have il : i < vs.length := (List.getElem?_eq_some_iff.mp hx).1
          have il2 : i < ts.length := by rw [← tvs.length]; exact il
          have hg : ts[i]? = some ts[i] := List.getElem?_eq_getElem il2
          obtain ⟨y, hy, ty⟩ := tvs.get hg
          rw [hx] at hy
          cases hy
          have m := List.getElem_mem il2
          have sg := size_of_get hg
          refine ⟨rfl, yes ?_⟩
          refine ⟨_, rfl, x, ts[i], rfl, ty.keep k1, wt.list.all _ m, dp _ m, by omega, fun v2 H2 tv2 k2 => ?_⟩
          have e2 := k2.get e1 (by simp)
          have k8 : Keep [L] H2 (upd H2 L (.lst (ws ++ [v2]))) := Keep.set e2 (List.mem_cons_self ..)
          refine ⟨_, e2, ?_, ((k1.trans k2).cons.trans k8).drop nL, ws ++ [v2], upd_same, ?_⟩
          · rw [r1.length, List.length_take]
            exact Nat.lt_of_le_of_lt (Nat.min_le_right _ _) (Nat.lt_of_le_of_lt (show ts.length ≤ 300000 by omega) (by decide))
          · rw [List.take_add_one, hg]
            exact ((r1.keep k2).append (Trs.one tv2)).keep k8
        · obtain ⟨k1, ws, e1, r1⟩ := p
          rw [tvs.length, List.take_length] at r1
          refine ⟨L, ws, rfl, .inl ⟨SqL.of e1, fun T nT => ?_⟩⟩
          exact q _ _ (tr_tup upd_same (r1.keep (Keep.new (S := []) nT))) (k1.trans (Keep.new nT))
  exact fun n => ⟨f, fd, all n, hm, F.kp, hb⟩
end
end Og

namespace Og
open PySem PySem.Spec PyProof.Rows L2
/-! ### a tree put into lists, one after another -/
def nwords : List (List Nat) := [[97], [98, 50], [113, 117, 111, 116, 101]]
def nword (k : Nat) (other : Int) : List Nat := if (k : Int) = other then [99] else nwords.getD (k % 3) []
def nplace (k : Nat) (kind : Int) : Int := ([0, 1, 2, 0] : List Int).getD (((k : Int) + kind) % 4).toNat 0
def nstep (k : Nat) (kind other : Int) (t : Tree) : Tree := if nplace k kind = 0 then .l [t] else if nplace k kind = 1 then .l [.w (nword k other), t] else .l [t, .w (nword k other)]
def nest : Nat → Int → Int → Tree → Tree
  | 0, _, _, t => t
  | n + 1, kind, other, t => nstep n kind other (nest n kind other t)
theorem nl_a : ("a" : Str) = tx [97] := by decide +kernel
theorem nl_b2 : ("b2" : Str) = tx [98, 50] := by decide +kernel
theorem nl_quote : ("quote" : Str) = tx [113, 117, 111, 116, 101] := by decide +kernel
theorem nl_c : ("c" : Str) = tx [99] := by decide +kernel
theorem nplace_cases (k : Nat) (kind : Int) : nplace k kind = 0 ∨ nplace k kind = 1 ∨ nplace k kind = 2 := by
  unfold nplace
  have h0 : 0 ≤ ((k : Int) + kind) % 4 := Int.emod_nonneg _ (by decide)
  have h1 : ((k : Int) + kind) % 4 < 4 := Int.emod_lt_of_pos _ (by decide)
  rcases four h0 h1 with h | h | h | h <;> rw [h]
  · exact .inl rfl
  · exact .inr (.inl rfl)
  · exact .inr (.inr rfl)
  · exact .inl rfl
theorem nplace_at (k : Nat) (kind : Int) : atI [V.int 0, V.int 1, V.int 2, V.int 0] (((k : Int) + kind) % 4) = some (.int (nplace k kind)) := by
  unfold nplace
  have h0 : 0 ≤ ((k : Int) + kind) % 4 := Int.emod_nonneg _ (by decide)
  have h1 : ((k : Int) + kind) % 4 < 4 := Int.emod_lt_of_pos _ (by decide)
  rcases four h0 h1 with h | h | h | h <;> rw [h] <;> rfl
theorem nword_at (k : Nat) : atI [V.str "a", V.str "b2", V.str "quote"] ((k : Int) % 3) = some (.str (tx (nwords.getD (k % 3) []))) := by
  rw [nl_a, nl_b2, nl_quote]
  have e : (k : Int) % 3 = ((k % 3 : Nat) : Int) := by omega
  rw [e]
  have h : k % 3 < 3 := Nat.mod_lt _ (by decide)
  have c : k % 3 = 0 ∨ k % 3 = 1 ∨ k % 3 = 2 := by omega
  rcases c with c | c | c <;> rw [c] <;> rfl
theorem nword_other (k : Nat) (other : Int) (h : (k : Int) ≠ other) : nword k other = nwords.getD (k % 3) [] := if_neg h
theorem nword_ne (k : Nat) (other : Int) (h : (k : Int) = other) (o2 : Int) (h2 : (k : Int) ≠ o2) : nword k other ≠ nword k o2 := by
  rw [nword_other k o2 h2]
  unfold nword
  rw [if_pos h]
  have h : k % 3 < 3 := Nat.mod_lt _ (by decide)
  have c : k % 3 = 0 ∨ k % 3 = 1 ∨ k % 3 = 2 := by omega
  rcases c with c | c | c <;> rw [c] <;> decide
theorem nstep_size (k : Nat) (kind other : Int) (t : Tree) : (nstep k kind other t).size ≤ t.size + 2 ∧ t.size < (nstep k kind other t).size := by
  unfold nstep
  split
  · rw [size_l, sizes_cons, sizes_nil]; omega
  · split
    · rw [size_l, sizes_cons, sizes_cons, sizes_nil, size_w]; omega
    · rw [size_l, sizes_cons, sizes_cons, sizes_nil, size_w]; omega
theorem nest_size (kind other : Int) (t : Tree) : ∀ n, (nest n kind other t).size ≤ t.size + 2 * n
  | 0 => Nat.le_refl _
  | n + 1 => by
    have h := nest_size kind other t n
    have h2 := (nstep_size n kind other (nest n kind other t)).1
    show (nstep n kind other (nest n kind other t)).size ≤ _
    omega
/-- a step is the same just if what is put in is, and the word beside, if there is one -/
theorem nstep_eq (k : Nat) (kind o o2 : Int) (t u : Tree) : nstep k kind o t = nstep k kind o2 u ↔ t = u ∧ (nplace k kind = 0 ∨ nword k o = nword k o2) := by
  unfold nstep
  rcases nplace_cases k kind with h | h | h <;> rw [h]
  · simp
  · simp [and_comm]
  · simp
theorem nest_eq (kind : Int) (t u : Tree) (o : Int) : ∀ n, nest n kind o t = nest n kind o u ↔ t = u
  | 0 => Iff.rfl
  | n + 1 => by
    show nstep n kind o (nest n kind o t) = nstep n kind o (nest n kind o u) ↔ _
    rw [nstep_eq, nest_eq kind t u o n]
    exact ⟨fun h => h.1, fun h => ⟨h, .inr rfl⟩⟩
/-- with another word at one of the lists -/
theorem nest_ne (kind : Int) (t : Tree) (p : Nat) : ∀ n, nest n kind (-1) t = nest n kind (p : Int) t ↔ ¬ (p < n ∧ nplace p kind > 0)
  | 0 => ⟨fun _ h => absurd h.1 (Nat.not_lt_zero _), fun _ => rfl⟩
  | n + 1 => by
    show nstep n kind (-1) (nest n kind (-1) t) = nstep n kind p (nest n kind p t) ↔ _
    rw [nstep_eq, nest_ne kind t p n]
    by_cases e : p = n
    · subst e
      constructor
      · rintro ⟨_, h⟩ ⟨_, h2⟩
        rcases h with h | h
        · omega
        · exact nword_ne p p rfl (-1) (by omega) h.symm
      · intro h
        refine ⟨fun h2 => absurd h2.1 (Nat.lt_irrefl _), ?_⟩
        rcases nplace_cases p kind with h2 | h2 | h2
        · exact .inl h2
        · exact absurd ⟨Nat.lt_succ_self _, by omega⟩ h
        · exact absurd ⟨Nat.lt_succ_self _, by omega⟩ h
    · have w : nword n (-1) = nword n p := by rw [nword_other _ _ (by omega), nword_other _ _ (by omega)]
      constructor
      · rintro ⟨h, _⟩ ⟨h1, h2⟩
        exact h ⟨by omega, h2⟩
      · intro h
        exact ⟨fun h2 => h ⟨by omega, h2.2⟩, .inr w⟩
section
variable {P : Program} {w : World} {K : PySem.W.Frag} {mg : Str → Option Value} {base : Heap}
def spNested (K : PySem.W.Frag) : Sp := fun vs H Q _ => ∃ (v : V) (t : Tree) (m : Nat) (kind other : Int), vs = [v, .int m, .int kind, .int other] ∧ Tr K H v t ∧ m ≤ 1000 ∧
  ∀ (v' : V) (H' : Hp), Tr K H' v' (nest m kind other t) → Keep [] H H' → Q v' H'
theorem has_nested {k : Nat} (D : DefAt K mg "_law_nested" s_law_nested p_law_nested) (B : Bn mg) : Has P w K mg base (k + 1) "_law_nested" p_law_nested (spNested K) := by
  obtain ⟨f, fd, F, hm, hb⟩ := D.ex
  refine ⟨f, fd, F.ok sc_law_nested (fun vs H Q E h => ?_) (fun cdv A outer s H vs Q E hr h => ?_), hm, F.kp, hb⟩
  · obtain ⟨_, _, _, _, _, rfl, _⟩ := h
    rfl
  obtain ⟨v, t, m, kind, other, rfl, tv, hm1, q⟩ := h
  refine ⟨_, (pss_cons (ps_for PassesOwn.never rfl (pi_range1 (by rfl) B.range (pa_cons (pv 1) pa_nil)) (pg_name (i := 4) sc_law_nested.nd rfl (.inl rfl))
      (pss_cons (ps_set (i := 5) sc_law_nested.nd rfl (.inl rfl) (pe_ix ix_list (pe_lst (pa_cons pe_str (pa_cons pe_str (pa_cons pe_str pa_nil)))) (pe_op op_mod (pe_callTy call_int1 (by rfl) B.int (by decide +kernel) (pa_cons (pv 4) pa_nil)) pe_int) (fun _ _ => rfl)))
      (C8.pss_cut (ps_if (pt_cmpR op_eq (pv 4) (pv 3) (nomark _)) (pss_one (ps_set (i := 5) sc_law_nested.nd rfl (.inl rfl) pe_str)) pss_nil)
      (pss_cons (ps_set (i := 6) sc_law_nested.nd rfl (.inl rfl) (pe_ix ix_list (pe_lst (pa_cons pe_int (pa_cons pe_int (pa_cons pe_int (pa_cons pe_int pa_nil))))) (pe_op op_mod (pe_callTy call_int1 (by rfl) B.int (by decide +kernel) (pa_cons (pe_op op_add (pv 4) (pv 2)) pa_nil)) pe_int) (fun _ _ => rfl)))
      (pss_one (ps_set (i := 0) sc_law_nested.nd rfl (.inl rfl) (pe_ix ix_list (pe_lst (pa_cons (pe_tup (pa_cons (pv 0) pa_nil)) (pa_cons (pe_tup (pa_cons (pv 5) (pa_cons (pv 0) pa_nil))) (pa_cons (pe_tup (pa_cons (pv 0) (pa_cons (pv 5) pa_nil))) pa_nil)))) (pv 6) (fun _ _ => rfl))))))))
    (pss_one (ps_ret (pv 0)))), ?_⟩
  refine ⟨_, rfl, (m : Int), rfl, by omega, by omega, ?_⟩
  refine for_range (lo := 0) (n := (m : Int).toNat) (fun i σ H' => ∃ (v' : V) (y4 y5 y6 : Option V), σ = [some v', some (.int m), some (.int kind), some (.int other), y4, y5, y6] ∧ Keep [] H H' ∧ Tr K H' v' (nest i kind other t))
    ⟨v, none, none, none, rfl, Keep.refl, tv⟩ (fun i σ H1 hi pw => ?_) (fun σ H1 pw => ?_)
  · obtain ⟨v1, y4, y5, y6, rfl, k1, tv1⟩ := pw
    refine ⟨by show (3 : Nat) ≤ sizeLine; decide, fun p1 np1 => ?_⟩
    have ei : (0 : Int) + (i : Int) = (i : Int) := by omega
    refine ⟨_, rfl, .inl ⟨_, rfl, _, _, rfl, rfl, by show (0 : Int) < 3; decide, ?_⟩⟩
    refine ⟨p1, _, _, _, rfl, rfl, SqL.of upd_same, by rw [ei]; exact nword_at i, ?_⟩
    have ka : Keep [] H1 (upd H1 p1 (.lst [.str "a", .str "b2", .str "quote"])) := Keep.new np1
    generalize upd H1 p1 (.lst [.str "a", .str "b2", .str "quote"]) = H2 at ka
    refine ⟨fun σ' H' => σ' = [some v1, some (.int m), some (.int kind), some (.int other), some (.int i), some (.str (tx (nword i other))), y6] ∧ H' = H2, ?_, ?_⟩
    · refine ⟨_, rfl, _, rfl, rfl, _, rfl, ite2 (fun c => ?_) (fun c => ?_)⟩
      · have e : (i : Int) = other := by
          have := of_decide_eq_true c
          have := V.int.inj this
          omega
        refine ⟨?_, rfl⟩
        rw [ei, nl_c]
        unfold nword
        rw [if_pos e]
        rfl
      · have e : (i : Int) ≠ other := by
          have := of_decide_eq_false (Bool.eq_false_iff.mpr c)
          intro z
          exact this (by rw [ei, z])
        refine ⟨?_, rfl⟩
        rw [ei, nword_other _ _ e]
        rfl
    rintro σ' H' ⟨rfl, rfl⟩
    generalize hw : nword i other = wd
    refine ⟨by show (4 : Nat) ≤ sizeLine; decide, fun p2 np2 => ?_⟩
    refine ⟨_, rfl, _, rfl, _, _, rfl, rfl, .inl ⟨_, rfl, _, _, rfl, rfl, by show (0 : Int) < 4; decide, ?_⟩⟩
    refine ⟨p2, _, _, _, rfl, rfl, SqL.of upd_same, nplace_at i kind, ?_⟩
    have kb : Keep [] H' (upd H' p2 (.lst [.int 0, .int 1, .int 2, .int 0])) := Keep.new np2
    generalize upd H' p2 (.lst [.int 0, .int 1, .int 2, .int 0]) = H3 at kb
    -- value
    refine ⟨_, rfl, by show (1 : Nat) ≤ sizeLine; decide, fun t1 nt1 => ?_⟩
    refine ⟨_, rfl, _, rfl, by show (2 : Nat) ≤ sizeLine; decide, fun t2 nt2 => ?_⟩
    refine ⟨_, rfl, _, rfl, by show (2 : Nat) ≤ sizeLine; decide, fun t3 nt3 => ?_⟩
    refine ⟨by show (3 : Nat) ≤ sizeLine; decide, fun p3 np3 => ?_⟩
    have kc1 : Keep [] H3 (upd H3 t1 (.tup [v1])) := Keep.new nt1
    generalize hB1 : upd H3 t1 (.tup [v1]) = B1 at kc1 nt2 nt3 np3
    have kc2 : Keep [] B1 (upd B1 t2 (.tup [.str (tx wd), v1])) := Keep.new nt2
    generalize hB2 : upd B1 t2 (.tup [.str (tx wd), v1]) = B2 at kc2 nt3 np3
    have kc3 : Keep [] B2 (upd B2 t3 (.tup [v1, .str (tx wd)])) := Keep.new nt3
    generalize hB3 : upd B2 t3 (.tup [v1, .str (tx wd)]) = B3 at kc3 np3
    have kc4 : Keep [] B3 (upd B3 p3 (.lst [.ref t1, .ref t2, .ref t3])) := Keep.new np3
    have g1 : B3 t1 = some (.tup [v1]) := kc3.tup (kc2.tup (by rw [← hB1, upd_same]))
    have g2 : B3 t2 = some (.tup [.str (tx wd), v1]) := kc3.tup (by rw [← hB2, upd_same])
    have g3 : B3 t3 = some (.tup [v1, .str (tx wd)]) := by rw [← hB3, upd_same]
    have kall : Keep [] H1 (upd B3 p3 (.lst [.ref t1, .ref t2, .ref t3])) := (((((ka.trans kb).trans kc1).trans kc2).trans kc3).trans kc4)
    have tv4 := tv1.keep kall
    have hz : ∃ z, atI [V.ref t1, V.ref t2, V.ref t3] (nplace i kind) = some z ∧ Tr K (upd B3 p3 (.lst [.ref t1, .ref t2, .ref t3])) z (nstep i kind other (nest i kind other t)) := by
      unfold nstep
      rw [hw]
      rcases nplace_cases i kind with h | h | h <;> rw [h]
      · exact ⟨_, rfl, tr_tup (kc4.tup g1) (Trs.one tv4)⟩
      · exact ⟨_, rfl, tr_tup (kc4.tup g2) (trs_cons tr_w (Trs.one tv4))⟩
      · exact ⟨_, rfl, tr_tup (kc4.tup g3) (trs_cons tv4 (Trs.one tr_w))⟩
    obtain ⟨z, hz1, hz2⟩ := hz
    refine ⟨_, rfl, p3, _, _, _, rfl, rfl, SqL.of upd_same, hz1, ?_⟩
    exact ⟨z, _, _, _, by rw [← ei]; rfl, k1.trans kall, hz2⟩
  · obtain ⟨v1, y4, y5, y6, rfl, k1, tv1⟩ := pw
    refine ⟨_, rfl, ?_⟩
    exact q _ _ tv1 k1
end
end Og

namespace Og
open PySem PySem.Spec PyProof.Rows L2
/-- pairs made of two rows -/
theorem prs_of {K : PySem.W.Frag} {H : Hp} : ∀ {acc : List V} {ts us : List Tree}, acc.length = ts.length → ts.length = us.length →
    (∀ (j : Nat) (t u : Tree), ts[j]? = some t → us[j]? = some u → ∃ (T : Addr) (x y : V), acc[j]? = some (V.ref T) ∧ H T = some (.tup [x, y]) ∧ Tr K H x t ∧ Tr K H y u) → Prs K H acc (ts.zip us)
  | acc, [], us, h, _, _ => List.length_eq_zero_iff.mp h
  | acc, t :: ts, [], _, h, _ => by cases h
  | [], t :: ts, u :: us, h, _, _ => by cases h
  | v :: acc, t :: ts, u :: us, h, h2, q => by
    obtain ⟨T, x, y, e, g1, g2, g3⟩ := q 0 t u rfl rfl
    have ev : v = V.ref T := Option.some.inj e
    subst ev
    exact ⟨T, x, y, acc, rfl, g1, g2, g3, prs_of (Nat.succ.inj h) (Nat.succ.inj h2) fun j t' u' e1 e2 => q (j + 1) t' u' e1 e2⟩
section
variable {P : Program} {w : World} {K : PySem.W.Frag} {mg : Str → Option Value} {base : Heap}
def spSame (K : PySem.W.Frag) : Sp := fun vs H Q _ => ∃ (x y : V) (t u : Tree), vs = [x, y] ∧ Tr K H x t ∧ Tr K H y u ∧ u.size ≤ 300000 ∧
  ∀ (b : Bool) (H' : Hp), (b = true ↔ t = u) → Keep [] H H' → Q (.bl b) H'
theorem has_same {k : Nat} (D : DefAt K mg "same_values" s_same_values p_same_values) (B : Bn mg) : Has P w K mg base (k + 1) "same_values" p_same_values (spSame K) := by
  obtain ⟨f, fd, F, hm, hb⟩ := D.ex
  refine ⟨f, fd, F.ok sc_same_values (fun vs H Q E h => ?_) (fun cdv A outer s H vs Q E hr h => ?_), hm, F.kp, hb⟩
  · obtain ⟨_, _, _, _, rfl, _⟩ := h
    rfl
  obtain ⟨x, y, t, u, rfl, tx1, ty1, sz, q⟩ := h
  refine ⟨_, (pss_cons (ps_set (i := 2) sc_same_values.nd rfl (.inl rfl) (pe_lst (pa_cons (pe_tup (pa_cons (pv 0) (pa_cons (pv 1) pa_nil))) pa_nil)))
    (pss_cons (ps_while PassesOwn.never (pt_truth (pv 2) (by intro _; rfl)) (pss_cons (ps_asg (pe_bm0 PySem.F.plainAttrs_list PySem.F.slot_list_pop PySem.F.type_list_pop mt_pop (pv 2)) (pg_tup (by rfl) (pgs_cons (pg_name (i := 3) sc_same_values.nd rfl (.inl rfl)) (pgs_cons (pg_name (i := 4) sc_same_values.nd rfl (.inl rfl)) pgs_nil))))
      (pss_one (ps_if (PW.pt (pw_or (pt_not (pt_val (pe_callB call_isi (by rfl) B.isinstance (by decide +kernel) (pa_cons (pv 3) (pa_cons (pe_bltn (v := .ty "tuple") rfl B.tuple (by decide +kernel) rfl) pa_nil))))) (pw_or1 (pt_not (pt_val (pe_callB call_isi (by rfl) B.isinstance (by decide +kernel) (pa_cons (pv 4) (pa_cons (pe_bltn (v := .ty "tuple") rfl B.tuple (by decide +kernel) rfl) pa_nil)))))))) (pss_one (ps_if (pt_cmpR (op_neTr hr.units) (pv 3) (pv 4) (nomark _)) (pss_one (ps_ret pe_bl)) pss_nil)) (pss_one (ps_if (pt_cmpR op_ne (pe_callB call_len_seq (by rfl) B.len PySem.boot_len (pa_cons (pv 3) pa_nil)) (pe_callB call_len_seq (by rfl) B.len PySem.boot_len (pa_cons (pv 4) pa_nil)) (nomark _)) (pss_one (ps_ret pe_bl)) (pss_one (ps_expr (pe_bm PySem.F.plainAttrs_list PySem.F.slot_list_extend PySem.F.type_list_extend mt_extend (pv 2) (pa_cons (pe_listzip rfl B.list rfl B.zip (pa_cons (pv 3) (pa_cons (pv 4) pa_nil))) pa_nil))))))))))
    (pss_one (ps_ret pe_bl)))), ?_⟩
  refine ⟨_, rfl, _, rfl, by show (2 : Nat) ≤ sizeLine; decide, fun a na => ?_⟩
  refine ⟨by show (1 : Nat) ≤ sizeLine; decide, fun p np => ?_⟩
  have k0 : Keep [] H (upd (upd H a (.tup [x, y])) p (.lst [.ref a])) := (Keep.new na).newT np
  have np0 : H p = none := (Keep.new (S := []) na).free np
  have pa : a ≠ p := ne_of_none upd_same np
  obtain ⟨W, hW⟩ : ∃ W : Nat → L2.St → Hp → Prop, W = fun m σ H' => ∃ (y3 y4 : Option V) (vs : List V) (ps : List (Tree × Tree)), σ = [some x, some y, some (.ref p), y3, y4] ∧ m = psz ps ∧ Keep [] H H' ∧ H' p = some (.lst vs) ∧ Prs K H' vs ps ∧ psz ps ≤ 300000 ∧ (t = u ↔ ∀ z ∈ ps, z.1 = z.2) := ⟨_, rfl⟩
  refine ⟨W, ⟨psz [(t, u)], ?_⟩, fun m σ H1 pw => ?_⟩
  · rw [hW]
    refine ⟨none, none, _, [(t, u)], rfl, rfl, k0, upd_same, ⟨a, x, y, [], rfl, by rw [upd_ne pa, upd_same], tx1.keep k0, ty1.keep k0, rfl⟩, by rw [psz_one]; exact sz, ?_⟩
    constructor
    · intro e z m
      rw [List.mem_singleton.mp m]
      exact e
    · intro h
      exact h (t, u) (List.mem_singleton.mpr rfl)
  rw [hW] at pw
  obtain ⟨y3, y4, vs, ps, rfl, rfl, k1, e1, pr, sz1, iff⟩ := pw
  have vl := pr.len
  have pl := psz_len ps
  refine ⟨_, rfl, _, tru_list e1, ?_⟩
  by_cases hne : ps = []
  · subst hne
    rw [show vs = [] from pr]
    refine iteF ?_
    exact q true H1 ⟨fun _ => iff.mpr fun z m => (by cases m), fun _ => rfl⟩ k1
  obtain ⟨ps', z, rfl⟩ := snoc_of hne
  obtain ⟨vs', a1, x1, y1, rfl, pr', ea1, tx2, ty2⟩ := pr.snoc
  have b0 : (!(vs' ++ [V.ref a1]).isEmpty) = true := by cases vs' <;> rfl
  rw [b0]
  refine iteT ⟨fun σ' H' => ∃ m', m' < psz (ps' ++ [z]) ∧ W m' σ' H', fun _ _ h => h, ?_⟩
  rw [psz_app, psz_one] at sz1 pl ⊢
  refine ⟨_, rfl, .inl ⟨rfl, _, SqL.of e1⟩, p, _, _, rfl, rfl, e1, last_get _ _, ?_⟩
  rw [List.dropLast_concat]
  generalize hH2 : upd H1 p (.lst vs') = H2
  have k2 : Keep [p] H1 H2 := by rw [← hH2]; exact Keep.set e1 (List.mem_cons_self ..)
  have e2 : H2 p = some (.lst vs') := by rw [← hH2, upd_same]
  have k2' : Keep [] H H2 := (k1.cons.trans (k2.mono (by simp))).drop np0
  refine ⟨a1, _, rfl, SqT.of_tup (k2.tup ea1), rfl, x1, _, rfl, y1, _, rfl, rfl, ?_⟩
  have tx3 := tx2.keep k2
  have ty3 := ty2.keep k2
  have pr3 := pr'.keep k2
  obtain ⟨z1, z2⟩ := z
  have split : (∀ q ∈ ps' ++ [(z1, z2)], q.1 = q.2) ↔ (∀ q ∈ ps', q.1 = q.2) ∧ z1 = z2 := by
    constructor
    · intro h
      exact ⟨fun q m => h q (List.mem_append.mpr (.inl m)), h (z1, z2) (by simp)⟩
    · rintro ⟨h1, h2⟩ q m
      rcases List.mem_append.mp m with m | m
      · exact h1 q m
      · rw [List.mem_singleton.mp m]; exact h2
  have no : z1 ≠ z2 → Q (.bl false) H2 := fun h => q false H2 ⟨fun e => (by cases e), fun e => absurd (split.mp (iff.mp e)).2 h⟩ k2'
  have words : (z1.isW = true ∨ z2.isW = true) → ∀ b : Bool, (b = true ↔ z1 ≠ z2) → (b = true → Q (.bl false) H2) ∧ (b = false → ∃ m', m' < psz ps' + z2.size ∧ W m' [some x, some y, some (.ref p), some x1, some y1] H2) := fun hw b hb => by
    refine ⟨fun e => no (hb.mp e), fun e => ?_⟩
    have eq : z1 = z2 := Classical.byContradiction fun h => by rw [hb.mpr h] at e; cases e
    have := size_pos z2
    refine ⟨psz ps', by omega, ?_⟩
    rw [hW]
    exact ⟨_, _, vs', ps', rfl, rfl, k2', e2, pr3, by omega, by rw [iff, split]; exact ⟨fun h => h.1, fun h => ⟨h, eq⟩⟩⟩
  obtain ⟨ty, uu, q1, q2, q3⟩ := isi_tup tx3
  refine ⟨_, rfl, _, _, ty, uu, _, rfl, q1, q2, q3, _, rfl, ?_⟩
  cases z1 with
  | w c1 =>
    refine iteT ?_
    refine iteT ?_
    refine (⟨_, rfl, _, rfl, .w c1, z2, tx3, ty3, .inl rfl, fun b hb => ⟨b, rfl, ?_⟩⟩)
    obtain ⟨w1, w2⟩ := words (.inl rfl) b hb
    cases b with
    | true => exact iteT (w1 rfl)
    | false => exact iteF (w2 rfl)
  | l ts =>
    refine iteF ?_
    obtain ⟨ty', uu', q1', q2', q3'⟩ := isi_tup ty3
    refine ⟨_, rfl, _, _, ty', uu', _, rfl, q1', q2', q3', _, rfl, ?_⟩
    cases z2 with
    | w c2 =>
      refine iteT ?_
      refine (⟨_, rfl, _, rfl, .l ts, .w c2, tx3, ty3, .inr rfl, fun b hb => ⟨b, rfl, ?_⟩⟩)
      obtain ⟨w1, w2⟩ := words (.inr rfl) b hb
      cases b with
      | true => exact iteT (w1 rfl)
      | false => exact iteF (w2 rfl)
    | l us =>
      refine iteF ?_
      obtain ⟨ax, wx, rfl, hX, trx⟩ := tx3.list
      obtain ⟨ay, wy, rfl, hY, try_⟩ := ty3.list
      have lx := trx.length
      have ly := try_.length
      have sz2 := sz1
      rw [show (Tree.l ts, Tree.l us).2 = Tree.l us from rfl, size_l] at sz2
      have lsz := len_sizes us
      refine ⟨_, rfl, ax, wx, rfl, .inr hX, _, rfl, ay, wy, rfl, .inr hY, rfl, _, rfl, ?_⟩
      by_cases hl : ts.length = us.length
      · rw [show (!decide (V.int ((wx.length : Nat) : Int) = V.int ((wy.length : Nat) : Int))) = false by
          rw [lx, ly, hl]; simp]
        refine iteF ?_
        refine ⟨_, rfl, .inl ⟨rfl, _, SqL.of e2⟩, _, rfl, _, rfl, ax, ay, wx, wy, rfl, hX, hY, by omega, ?_, fun S H3 nS zp => ?_⟩
        · exact Nat.le_trans (show _ ≤ 300000 by omega) (by decide)
        obtain ⟨⟨acc, eS, la, each⟩, kz⟩ := zp
        have k3 : Keep [] H2 H3 := kz.drop nS
        have pS : p ≠ S := ne_of_none e2 nS
        have e3 : H3 p = some (.lst vs') := k3.get e2 (by simp)
        have lz : (ts.zip us).length = us.length := by rw [List.length_zip, hl, Nat.min_self]
        have zsz := psz_zip ts us
        have prl := pr3.len
        have psl := psz_len ps'
        refine ⟨p, S, vs', acc, rfl, rfl, e3, eS, ?_, ?_⟩
        · exact Nat.le_trans (show _ ≤ 600000 by omega) (by decide)
        have k4 : Keep [p] H3 (upd H3 p (.lst (vs' ++ acc))) := Keep.set e3 (List.mem_cons_self ..)
        have pz : Prs K H3 acc (ts.zip us) := prs_of (by omega) hl fun j t1 u1 g1 g2 => by
          have jl : j < wy.length := by
            have := (List.getElem?_eq_some_iff.mp g2).1
            omega
          obtain ⟨T, x2, y2, f1, f2, f3, f4⟩ := each j jl
          obtain ⟨vx, h1, h2⟩ := trx.get g1
          obtain ⟨vy, h3, h4⟩ := try_.get g2
          rw [f2] at h1
          rw [f3] at h3
          cases h1
          cases h3
          exact ⟨T, x2, y2, f1, f4, h2.keep k3, h4.keep k3⟩
        refine ⟨psz (ps' ++ ts.zip us), ?_, ?_⟩
        · rw [psz_app]
          show _ < psz ps' + (Tree.l us).size
          rw [size_l]
          omega
        rw [hW]
        refine ⟨_, _, vs' ++ acc, ps' ++ ts.zip us, rfl, rfl, ((k2'.trans k3).cons.trans k4).drop np0, upd_same, ?_, by rw [psz_app]; omega, ?_⟩
        · exact Prs.app (pz.keep k4) ((pr3.keep k3).keep k4)
        · rw [iff, split]
          constructor
          · rintro ⟨h1, h2⟩ z m
            rcases List.mem_append.mp m with m | m
            · exact h1 z m
            · exact (zip_eq hl).mpr (Tree.l.inj h2) z m
          · intro h
            exact ⟨fun z m => h z (List.mem_append.mpr (.inl m)), congrArg Tree.l ((zip_eq hl).mp fun z m => h z (List.mem_append.mpr (.inr m)))⟩
      · rw [show (!decide (V.int ((wx.length : Nat) : Int) = V.int ((wy.length : Nat) : Int))) = true by
          rw [lx, ly, decide_eq_false (fun e => hl (by have := V.int.inj e; omega))]; rfl]
        exact iteT (no (fun e => hl (by rw [Tree.l.inj e])))
end
end Og

namespace Og
open PySem PySem.Spec PyProof.Rows L2
section
variable {P : Program} {w : World} {K : PySem.W.Frag} {mg : Str → Option Value} {base : Heap}
def spBent (K : PySem.W.Frag) (n : Nat) : Sp := fun vs H Q _ => ∃ (h d : Addr) (v : V) (t : Tree), vs = [.ref h, v] ∧ Hd H h d ∧ Tr K H v t ∧ WT t ∧ Deep n t ∧ t.size ≤ 300000 ∧
  ∀ (v' : V) (t' : Tree) (H' : Hp), Tr K H' v' t' → t'.size ≤ t.size + 2 → Keep [h] H H' → Hd H' h d → Q v' H'
theorem has_bent {k : Nat} (D : DefAt K mg "_law_bent" s_law_bent p_law_bent) (B : Bn mg) (c1 : Has P w K mg base k "_law_take" p_law_take spTake) : ∀ n, Has P w K mg base (k + n + 1) "_law_bent" p_law_bent (spBent K n) := by
  obtain ⟨f, fd, F, hm, hb⟩ := D.ex
  have step : ∀ n sp, Callee P w K mg base CX0 (k + n) "_law_bent" f fd p_law_bent sp → (∀ m, n = m + 1 → ∀ vs H Q E, spBent K m vs H Q E → sp vs H Q E) → FnOk P w K mg base CX0 (k + n + 1) f fd p_law_bent (spBent K n) := fun n sp c_law_bent hsp => by
    obtain ⟨_, _, c_law_take⟩ := c1.mono (show k ≤ k + n by omega)
    refine F.ok sc_law_bent (fun vs H Q E h => ?_) (fun cdv A outer s H vs Q E hr h => ?_)
    · obtain ⟨_, _, _, _, rfl, _⟩ := h
      rfl
    obtain ⟨a, d, v, t, rfl, hd, tv, wt, dp, sz, q⟩ := h
    refine ⟨_, (pss_cons (ps_if (pt_val (pe_callB call_isi (by rfl) B.isinstance (by decide +kernel) (pa_cons (pv 1) (pa_cons (pe_bltn (v := .ty "str") rfl B.str (by decide +kernel) rfl) pa_nil)))) (pss_one (ps_ret (pe_ix ix_list (pe_lst (pa_cons (pe_slice sl_str (pe_op op_add_str (pv 1) pe_str) po_none (po_some pe_int)) (pa_cons (pe_op op_add_str (pe_slice sl_str (pv 1) po_none (po_some (pe_un un_neg pe_int))) pe_str) (pa_cons (pe_tup pa_nil) (pa_cons (pe_tup (pa_cons (pv 1) pa_nil)) pa_nil))))) (cal c_law_take hr rfl (pa_cons (pv 0) (pa_cons pe_int pa_nil))) (fun _ _ => rfl)))) pss_nil)
    (pss_cons (ps_set (i := 2) sc_law_bent.nd rfl (.inl rfl) (cal c_law_take hr rfl (pa_cons (pv 0) (pa_cons pe_int pa_nil))))
    (pss_cons (ps_if (PW.pt (pw_or (pt_cmpR op_eq (pe_callB call_len_seq (by rfl) B.len PySem.boot_len (pa_cons (pv 1) pa_nil)) pe_int (nomark _)) (pw_or1 (pt_cmpR op_eq (pv 2) pe_int (nomark _))))) (pss_one (ps_ret (pe_op op_catA (pv 1) (pe_tup (pa_cons pe_str pa_nil))))) pss_nil)
    (pss_cons (ps_set (i := 3) sc_law_bent.nd rfl (.inl rfl) (cal c_law_take hr rfl (pa_cons (pv 0) (pa_cons (pe_callB call_len_seq (by rfl) B.len PySem.boot_len (pa_cons (pv 1) pa_nil)) pa_nil))))
    (pss_cons (ps_if (pt_cmpR op_eq (pv 2) pe_int (nomark _)) (pss_one (ps_ret (pe_op op_catA (pe_slice sl_tupA (pv 1) po_none (po_some (pv 3))) (pe_slice sl_tupA (pv 1) (po_some (pe_op op_add (pv 3) pe_int)) po_none)))) pss_nil)
    (pss_cons (ps_if (pt_cmpR op_eq (pv 2) pe_int (nomark _)) (pss_one (ps_ret (pe_op op_catA (pe_slice sl_tupA (pv 1) (po_some pe_int) po_none) (pe_slice sl_tupA (pv 1) po_none (po_some pe_int))))) pss_nil)
    (pss_one (ps_ret (pe_op op_catA (pe_op op_catA (pe_slice sl_tupA (pv 1) po_none (po_some (pv 3))) (pe_tup (pa_cons (cal c_law_bent hr rfl (pa_cons (pv 0) (pa_cons (pe_ix ix_tup (pv 1) (pv 3) (fun _ _ => rfl)) pa_nil))) pa_nil))) (pe_slice sl_tupA (pv 1) (po_some (pe_op op_add (pv 3) pe_int)) po_none)))))))))), ?_⟩
    obtain ⟨ty, u, q1, q2, q3⟩ := isi_str tv
    refine ⟨_, rfl, _, _, ty, u, _, rfl, q1, q2, q3, _, rfl, ?_⟩
    cases t with
    | w x =>
      refine iteT ?_
      have e := tv.word
      subst e
      have lx := wt.word.len
      have l0 : (tx x ++ ("x" : Str)).length ≤ 100 := by rw [show ("x" : Str) = tx [120] by decide +kernel, tx_app, tx_len, List.length_append, List.length_singleton]; omega
      have l1 := cutS_len2 (tx x) none (some (-1))
      rw [tx_len] at l1
      refine ⟨_, rfl, _, _, rfl, rfl, ?_, _, rfl, _, rfl, Nat.le_trans l0 (by decide), ?_⟩
      · rw [tx_len]; exact Nat.le_trans (show _ ≤ 100 by show x.length + 1 ≤ 100; omega) (by decide)
      refine ⟨_, rfl, _, rfl, _, rfl, _, rfl, ?_, _, _, rfl, rfl, ?_, ?_⟩
      · rw [tx_len]; exact Nat.le_trans (show _ ≤ 100 by omega) (by decide)
      · exact Nat.le_trans (show _ ≤ 100 by show _ + 1 ≤ 100; omega) (by decide)
      generalize cutS (tx x ++ ("x" : Str)) none (some 12) = s1
      generalize cutS (tx x) none (some (-1)) ++ ("y" : Str) = s2
      refine ⟨Nat.zero_le _, fun t0 nt0 => ?_⟩
      refine ⟨_, rfl, by show (1 : Nat) ≤ sizeLine; decide, fun t1 nt1 => ?_⟩
      refine ⟨by show (4 : Nat) ≤ sizeLine; decide, fun p np => ?_⟩
      have ka : Keep [] H (upd H t0 (.tup [])) := Keep.new nt0
      generalize hB1 : upd H t0 (.tup []) = B1 at ka nt1 np
      have kb : Keep [] B1 (upd B1 t1 (.tup [.str (tx x)])) := Keep.new nt1
      generalize hB2 : upd B1 t1 (.tup [.str (tx x)]) = B2 at kb np
      have kc : Keep [] B2 (upd B2 p (.lst [.str s1, .str s2, .ref t0, .ref t1])) := Keep.new np
      have g0 : B2 t0 = some (.tup []) := kb.tup (by rw [← hB1, upd_same])
      have g1 : B2 t1 = some (.tup [.str (tx x)]) := by rw [← hB2, upd_same]
      have kall := (ka.trans kb).trans kc
      have hd1 := hd.keep0 kall
      have pa : p ≠ a := ((hd.keep0 (ka.trans kb)).neH np).symm
      refine ⟨_, rfl, a, d, 4, rfl, hd1, by decide, fun j H1 j0 j1 k1 hd2 => ?_⟩
      have e1 : H1 p = some (.lst [.str s1, .str s2, .ref t0, .ref t1]) := k1.get upd_same (by simpa using pa)
      have hz : ∃ z t', atI [V.str s1, V.str s2, V.ref t0, V.ref t1] j = some z ∧ Tr K H1 z t' ∧ t'.size ≤ 3 := by
        rcases four j0 j1 with rfl | rfl | rfl | rfl
        · exact ⟨_, .w s1.cps.toList, rfl, by rw [tx_of s1]; exact tr_w, by rw [size_w]; decide⟩
        · exact ⟨_, .w s2.cps.toList, rfl, by rw [tx_of s2]; exact tr_w, by rw [size_w]; decide⟩
        · exact ⟨_, .l [], rfl, tr_tup (k1.tup (kc.tup g0)) trs_nil, by rw [size_l, sizes_nil]; decide⟩
        · exact ⟨_, .l [.w x], rfl, tr_tup (k1.tup (kc.tup g1)) (Trs.one tr_w), by rw [size_l, sizes_cons, sizes_nil, size_w]; decide⟩
      obtain ⟨z, t', hz1, hz2, hz3⟩ := hz
      refine ⟨p, _, _, z, rfl, rfl, SqL.of e1, hz1, ?_⟩
      exact q z t' H1 hz2 (by rw [size_w]; omega) ((kall.mono (by simp)).trans k1) hd2
    | l ts =>
      refine iteF ?_
      have sz2 := sz
      rw [size_l] at sz2
      have lsz := len_sizes ts
      refine ⟨_, rfl, a, d, 6, rfl, hd, by decide, fun kd H1 kd0 kd1 k1 hd1 => ?_⟩
      have tv1 := tv.keep k1
      have app : ∀ (b : Bool), (b = true → (tRet (tOp (rCatA K) (tVar 1) (tTup (tCons (tC (.str "a")) tNil)))) { nx := fun _ _ => True, rt := Q } [some (.ref a), some v, some (.int kd), none] H1) := fun _ _ => by
        refine ⟨_, rfl, by show (1 : Nat) ≤ sizeLine; decide, fun t1 nt1 => ?_⟩
        obtain ⟨tm, km⟩ := mk_tr (K := K) (H := H1) (vs := [.str "a"]) (ts := [.w [97]]) nt1 (by rw [show ("a" : Str) = tx [97] by decide +kernel]; exact Trs.one tr_w)
        refine cat_tr (tv1.keep km) tm ?_ fun v2 H2 tv2 k2 => ?_
        · exact Nat.le_trans (show _ ≤ 400000 by rw [List.length_singleton]; omega) (by decide)
        · refine q v2 _ H2 tv2 ?_ ((k1.trans (km.mono (by simp))).trans (k2.mono (by simp))) ((hd1.keep0 km).keep0 k2)
          rw [size_l, size_l, sizes_app, sizes_cons, sizes_nil, size_w]
          omega
      obtain ⟨av, vs, rfl, hS, lv⟩ := tv1.tup
      refine ⟨_, rfl, av, vs, rfl, .inr hS, rfl, _, rfl, ite2 (fun c => iteT (app true rfl)) (fun c => ?_)⟩
      have ne : 0 < ts.length := by
        have : ¬ V.int ((vs.length : Nat) : Int) = V.int 0 := of_decide_eq_false (Bool.eq_false_iff.mpr c)
        rw [lv] at this
        have : ts.length ≠ 0 := fun z => this (by rw [z]; rfl)
        omega
      refine ⟨_, rfl, rfl, _, rfl, ite2 (fun _ => app true rfl) (fun _ => ?_)⟩
      refine ⟨_, rfl, _, rfl, av, vs, rfl, .inr hS, a, d, _, rfl, hd1, by omega, fun at' H2 at0 at1 k2 hd2 => ?_⟩
      rw [lv] at at1
      obtain ⟨n', rfl⟩ := Int.eq_ofNat_of_zero_le at0
      have nl : n' < ts.length := by omega
      have hg : ts[n']? = some ts[n'] := List.getElem?_eq_getElem nl
      have sp1 := sizes_split hg
      have tv2 := tv1.keep k2
      have en : (some ((n' : Int) + 1)) = some ((n' + 1 : Nat) : Int) := by rw [show ((n' + 1 : Nat) : Int) = (n' : Int) + 1 by omega]
      have c1 := cutL_to ts (j := n') (by omega)
      have c2 := cutL_from ts (i := n' + 1) (by omega)
      rw [← en] at c2
      have k12 : Keep [a] H H2 := k1.trans k2
      refine ⟨_, rfl, rfl, _, rfl, ite2 (fun _ => ?_) (fun _ => ?_)⟩
      · refine ⟨_, rfl, _, rfl, _, rfl, sl_tr tv2 fun v3 H3 tv3 k3 => ⟨_, rfl, _, rfl, _, _, rfl, rfl, _, rfl, ?_⟩⟩
        dsimp only [tNoPart]
        refine sl_tr (tv2.keep k3) fun v4 H4 tv4 k4 => ?_
        rw [c1] at tv3
        rw [c2] at tv4
        refine cat_tr (tv3.keep k4) tv4 ?_ fun v5 H5 tv5 k5 => ?_
        · exact Nat.le_trans (show _ ≤ 600000 by rw [List.length_take, List.length_drop]; omega) (by decide)
        · refine q v5 _ H5 tv5 ?_ (((k12.trans (k3.mono (by simp))).trans (k4.mono (by simp))).trans (k5.mono (by simp))) (((hd2.keep0 k3).keep0 k4).keep0 k5)
          rw [size_l, size_l, sizes_app]
          omega
      refine ⟨_, rfl, rfl, _, rfl, ite2 (fun _ => ?_) (fun _ => ?_)⟩
      · have d1 := cutL_from ts (i := 1) ne
        have d2 := cutL_to ts (j := 1) ne
        have sp2 := sizes_two ts 1
        refine ⟨_, rfl, _, rfl, ?_⟩
        dsimp only [tNoPart]
        refine sl_tr tv2 fun v3 H3 tv3 k3 => ?_
        refine ⟨_, rfl, _, rfl, ?_⟩
        refine sl_tr (tv2.keep k3) fun v4 H4 tv4 k4 => ?_
        rw [show (some (1 : Int)) = some ((1 : Nat) : Int) from rfl, d1] at tv3
        rw [show (some (1 : Int)) = some ((1 : Nat) : Int) from rfl, d2] at tv4
        refine cat_tr (tv3.keep k4) tv4 ?_ fun v5 H5 tv5 k5 => ?_
        · exact Nat.le_trans (show _ ≤ 600000 by rw [List.length_take, List.length_drop]; omega) (by decide)
        · refine q v5 _ H5 tv5 ?_ (((k12.trans (k3.mono (by simp))).trans (k4.mono (by simp))).trans (k5.mono (by simp))) (((hd2.keep0 k3).keep0 k4).keep0 k5)
          rw [size_l, size_l, sizes_app]
          omega
      -- one of the items bent
      cases n with
      | zero => exact (dp : False).elim
      | succ m =>
      have mem := List.getElem_mem nl
      refine ⟨_, rfl, _, rfl, _, rfl, sl_tr tv2 fun v3 H3 tv3 k3 => ?_⟩
      rw [c1] at tv3
      have hd3 := hd2.keep0 k3
      refine ⟨_, rfl, _, rfl, _, rfl, ix_tr (t := ts[n']) (tv2.keep k3) (atI_nat hg) fun vb tvb => hsp m rfl _ _ _ _ ⟨a, d, vb, ts[n'], rfl, hd3, tvb, wt.list.all _ mem, dp _ mem, by omega, fun v6 t6 H6 tv6 sz6 k6 hd6 => ?_⟩⟩
      refine ⟨by show (1 : Nat) ≤ sizeLine; decide, fun t1 nt1 => ?_⟩
      obtain ⟨tm, km⟩ := mk_tr (K := K) (H := H6) nt1 (Trs.one tv6)
      refine cat_tr ((tv3.keep k6).keep km) tm ?_ fun v7 H7 tv7 k7 => ?_
      · exact Nat.le_trans (show _ ≤ 600000 by rw [List.length_take, List.length_singleton]; omega) (by decide)
      have kk : Keep [a] H2 H7 := (((k3.mono (by simp)).trans k6).trans (km.mono (by simp))).trans (k7.mono (by simp))
      refine ⟨_, rfl, _, rfl, _, _, rfl, rfl, _, rfl, ?_⟩
      dsimp only [tNoPart]
      refine sl_tr (tv2.keep kk) fun v8 H8 tv8 k8 => ?_
      rw [c2] at tv8
      refine cat_tr (tv7.keep k8) tv8 ?_ fun v9 H9 tv9 k9 => ?_
      · exact Nat.le_trans (show _ ≤ 900000 by rw [List.length_append, List.length_take, List.length_drop, List.length_singleton]; omega) (by decide)
      · refine q v9 _ H9 tv9 ?_ ((k12.trans kk).trans ((k8.trans k9).mono (by simp))) (((hd6.keep0 km).keep0 k7).keep0 (k8.trans k9))
        rw [size_l, size_l, sizes_app, sizes_app, sizes_cons, sizes_nil]
        omega
  have all : ∀ n, FnOk P w K mg base CX0 (k + n + 1) f fd p_law_bent (spBent K n) := fun n => by
    induction n with
    | zero => exact step 0 (fun _ _ _ _ => False) ⟨⟨fun _ _ _ _ h => h.elim, fun _ _ _ _ _ _ _ _ _ _ _ _ _ h => h.elim⟩, hm, F.kp, hb⟩ fun m e => by cases e
    | succ m ih => exact step (m + 1) (spBent K m) ⟨ih, hm, F.kp, hb⟩ fun m' e vs H Q E q => by cases e; exact q
  exact fun n => ⟨f, fd, all n, hm, F.kp, hb⟩
end
end Og

namespace Og
open PySem PySem.Spec PyProof.Rows L2
section
variable {P : Program} {w : World} {K : PySem.W.Frag} {mg : Str → Option Value} {base : Heap}
def spTells (K : PySem.W.Frag) : Sp := fun vs H Q _ => ∃ (x y : V) (t u : Tree) (b : Bool), vs = [x, y, .bl b] ∧ Tr K H x t ∧ Tr K H y u ∧ t.size ≤ 300000 ∧ u.size ≤ 300000 ∧ (b = true ↔ t = u) ∧
  ∀ H' : Hp, Keep [] H H' → Q (.bl true) H'
theorem has_tells {k : Nat} (D : DefAt K mg "_law_tells" s_law_tells p_law_tells) (B : Bn mg) (c1 : Has P w K mg base k "same_values" p_same_values (spSame K)) : Has P w K mg base (k + 1) "_law_tells" p_law_tells (spTells K) := by
  obtain ⟨f, fd, F, hm, hb⟩ := D.ex
  obtain ⟨_, _, c_same_values⟩ := c1
  refine ⟨f, fd, F.ok sc_law_tells (fun vs H Q E h => ?_) (fun cdv A outer s H vs Q E hr h => ?_), hm, F.kp, hb⟩
  · obtain ⟨_, _, _, _, _, rfl, _⟩ := h
    rfl
  obtain ⟨x, y, t, u, b, rfl, tx1, ty1, sz1, sz2, hb1, q⟩ := h
  refine ⟨_, (pss_cons (ps_for PassesOwn.never rfl (pi_list (pe_lst (pa_cons (pe_tup (pa_cons (pv 0) (pa_cons (pv 1) pa_nil))) (pa_cons (pe_tup (pa_cons (pv 1) (pa_cons (pv 0) pa_nil))) pa_nil)))) (pg_name (i := 3) sc_law_tells.nd rfl (.inl rfl))
      (pss_cons (ps_set (i := 4) sc_law_tells.nd rfl (.inl rfl) (cal c_same_values hr rfl (pa_cons (pe_ix ix_tup (pv 3) pe_int (fun _ _ => rfl)) (pa_cons (pe_ix ix_tup (pv 3) pe_int (fun _ _ => rfl)) pa_nil))))
      (pss_one (ps_if (PW.pt (pw_or (pt_not (pt_val (pe_callB call_isi (by rfl) B.isinstance (by decide +kernel) (pa_cons (pv 4) (pa_cons (pe_bltn (v := .ty "bool") rfl B.bool (by decide +kernel) rfl) pa_nil))))) (pw_or1 (pt_cmpR op_ne (pv 4) (pv 2) (nomark _))))) (pss_one (ps_ret pe_bl)) pss_nil))))
    (pss_one (ps_ret (pe_and (pe_cmpR op_isBl (cal c_same_values hr rfl (pa_cons (pv 0) (pa_cons (pv 0) pa_nil))) pe_bl (nomark _)) (pe_one (pe_cmpR op_isBl (cal c_same_values hr rfl (pa_cons (pv 1) (pa_cons (pv 1) pa_nil))) pe_bl (nomark _))))))), ?_⟩
  refine ⟨_, rfl, _, rfl, by show (2 : Nat) ≤ sizeLine; decide, fun a1 na1 => ?_⟩
  refine ⟨_, rfl, _, rfl, by show (2 : Nat) ≤ sizeLine; decide, fun a2 na2 => ?_⟩
  refine ⟨by show (2 : Nat) ≤ sizeLine; decide, fun p np => ?_⟩
  have ka : Keep [] H (upd H a1 (.tup [x, y])) := Keep.new na1
  generalize hB1 : upd H a1 (.tup [x, y]) = B1 at ka na2 np
  have kb : Keep [] B1 (upd B1 a2 (.tup [y, x])) := Keep.new na2
  generalize hB2 : upd B1 a2 (.tup [y, x]) = B2 at kb np
  have kc : Keep [] B2 (upd B2 p (.lst [.ref a1, .ref a2])) := Keep.new np
  have g1 : B2 a1 = some (.tup [x, y]) := kb.tup (by rw [← hB1, upd_same])
  have g2 : B2 a2 = some (.tup [y, x]) := by rw [← hB2, upd_same]
  have kall := (ka.trans kb).trans kc
  have ep : (upd B2 p (.lst [.ref a1, .ref a2])) p = some (.lst [.ref a1, .ref a2]) := upd_same
  have h1 := kc.tup g1
  have h2 := kc.tup g2
  generalize upd B2 p (.lst [.ref a1, .ref a2]) = B3 at kall ep h1 h2
  refine ⟨p, rfl, ⟨_, SqL.of ep⟩, ?_⟩
  have k0 : Keep [] B3 B3 := Keep.refl
  refine for_list (K := K) (a := p) (xs := [.ref a1, .ref a2]) (fun i σ H' => ∃ y3 y4, σ = [some x, some y, some (.bl b), y3, y4] ∧ Keep [] B3 H') ⟨none, none, rfl, Keep.refl⟩ (fun i σ H' _ pw => ?_) (fun i z σ H1 hz pw => ?_) (fun σ H1 pw => ?_)
  · obtain ⟨_, _, _, k1⟩ := pw
    exact SqL.of (k1.get ep (by simp))
  · obtain ⟨y3, y4, rfl, k1⟩ := pw
    have pair : ∃ (aX : Addr) (l r : V) (t' u' : Tree), z = .ref aX ∧ H1 aX = some (.tup [l, r]) ∧ Tr K H1 l t' ∧ Tr K H1 r u' ∧ u'.size ≤ 300000 ∧ (b = true ↔ t' = u') := by
      have kk := kall.trans k1
      rcases i with _ | _ | i
      · cases hz
        exact ⟨a1, x, y, t, u, rfl, k1.tup h1, tx1.keep kk, ty1.keep kk, sz2, hb1⟩
      · cases hz
        exact ⟨a2, y, x, u, t, rfl, k1.tup h2, ty1.keep kk, tx1.keep kk, sz1, by rw [hb1]; exact eq_comm⟩
      · cases hz
    obtain ⟨aX, l, r, t', u', rfl, eX, tl, tr, szu, hb2⟩ := pair
    refine ⟨_, rfl, aX, _, _, _, rfl, rfl, SqT.of_tup eX, rfl, _, rfl, aX, _, _, _, rfl, rfl, SqT.of_tup eX, rfl, l, r, t', u', rfl, tl, tr, szu, fun bb H2 hbb k2 => ?_⟩
    have e : bb = b := by
      rw [Bool.eq_iff_iff, hbb, hb2]
    subst e
    obtain ⟨ty, uu, q1, q2, q3⟩ := isi_boolB (K := K) (H := H2) (x := bb)
    refine ⟨_, rfl, _, _, ty, uu, _, rfl, q1, q2, q3, _, rfl, iteF ?_⟩
    refine ⟨_, rfl, _, rfl, rfl, _, rfl, ?_⟩
    rw [show (!decide (V.bl bb = V.bl bb)) = false by simp]
    exact iteF ⟨_, _, rfl, k1.trans k2⟩
  · obtain ⟨y3, y4, rfl, k1⟩ := pw
    have kk := kall.trans k1
    refine ⟨_, rfl, _, rfl, x, x, t, t, rfl, tx1.keep kk, tx1.keep kk, sz1, fun b1 H2 hb2 k2 => ?_⟩
    obtain rfl : b1 = true := hb2.mpr rfl
    refine ⟨_, _, rfl, rfl, _, rfl, iteT ?_⟩
    refine ⟨_, rfl, _, rfl, y, y, u, u, rfl, ty1.keep (kk.trans k2), ty1.keep (kk.trans k2), sz2, fun b2 H3 hb3 k3 => ?_⟩
    obtain rfl : b2 = true := hb3.mpr rfl
    refine ⟨_, _, rfl, rfl, ?_⟩
    exact q H3 ((kk.trans k2).trans k3)
end
end Og

namespace Og
open PySem PySem.Spec PyProof.Rows L2
theorem most4 : Most 4 = 16105 := by decide
theorem nat_of {i : Int} {m : Nat} (h0 : 0 ≤ i) (h : i < (m : Int)) : ∃ n : Nat, n < m ∧ i = (n : Int) := ⟨i.toNat, by omega, by omega⟩
theorem ok_law {P : Program} {w : World} {K : PySem.W.Frag} {mg : Str → Option Value} {base : Heap} {e : Addr} {ed : FuncData} (F : Fun K "law" "law" s_law e ed) (B : Bn mg) (M : Mc mg)
    (D_same_values : DefAt K mg "same_values" s_same_values p_same_values)
    (D_law_draws : DefAt K mg "_law_draws" s_law_draws p_law_draws)
    (D_law_take : DefAt K mg "_law_take" s_law_take p_law_take)
    (D_law_word : DefAt K mg "_law_word" s_law_word p_law_word)
    (D_law_value : DefAt K mg "_law_value" s_law_value p_law_value)
    (D_law_like : DefAt K mg "_law_like" s_law_like p_law_like)
    (D_law_again : DefAt K mg "_law_again" s_law_again p_law_again)
    (D_law_bent : DefAt K mg "_law_bent" s_law_bent p_law_bent)
    (D_law_nested : DefAt K mg "_law_nested" s_law_nested p_law_nested)
    (D_law_tells : DefAt K mg "_law_tells" s_law_tells p_law_tells) :
    FnOk P w K mg base CX0 30 e ed ["script"] (spLaw K) := by
  have h_draws := has_draws (P := P) (w := w) (base := base) (k := 0) D_law_draws B
  have h_take := has_take (P := P) (w := w) (base := base) (k := 0) D_law_take B
  have h_word := has_word (P := P) (w := w) (base := base) (k := 1) D_law_word B h_take
  obtain ⟨fv, fdv, h_value⟩ := has_value (P := P) (w := w) (base := base) (k := 2) D_law_value B (h_take.mono (by decide)) h_word
  have h_value := has_upto h_value 4
  have h_again := has_again (P := P) (w := w) (base := base) (k := 0) D_law_again B 4
  have h_like := has_like (P := P) (w := w) (base := base) (k := 0) D_law_like B
  have h_same := has_same (P := P) (w := w) (base := base) (k := 0) D_same_values B
  have h_bent := has_bent (P := P) (w := w) (base := base) (k := 1) D_law_bent B h_take 4
  have h_nested := has_nested (P := P) (w := w) (base := base) (k := 0) D_law_nested B
  have h_tells := has_tells (P := P) (w := w) (base := base) (k := 1) D_law_tells B h_same
  obtain ⟨_, _, c_law_draws⟩ := h_draws.mono (show _ ≤ 29 by decide)
  obtain ⟨_, _, c_law_take⟩ := h_take.mono (show _ ≤ 29 by decide)
  obtain ⟨_, _, c_law_value⟩ := h_value.mono (show _ ≤ 29 by decide)
  obtain ⟨_, _, c_law_again⟩ := h_again.mono (show _ ≤ 29 by decide)
  obtain ⟨_, _, c_law_like⟩ := h_like.mono (show _ ≤ 29 by decide)
  obtain ⟨_, _, c_law_bent⟩ := h_bent.mono (show _ ≤ 29 by decide)
  obtain ⟨_, _, c_law_nested⟩ := h_nested.mono (show _ ≤ 29 by decide)
  obtain ⟨_, _, c_law_tells⟩ := h_tells.mono (show _ ≤ 29 by decide)
  refine F.ok sc_law (fun vs H Q E h => ?_) (fun cdv A outer s H vs Q E hr h => ?_)
  · obtain ⟨a, ns, rfl, _⟩ := h
    rfl
  obtain ⟨a, ns, rfl, hS, h63, q⟩ := h
  refine ⟨_, (pss_cons (ps_set (i := 1) sc_law.nd rfl (.inl rfl) (pe_lst (pa_cons (cal c_law_draws hr rfl (pa_cons (pv 0) (pa_cons pe_int pa_nil))) (pa_cons pe_int pa_nil))))
    (pss_cons (ps_set (i := 2) sc_law.nd rfl (.inl rfl) (cal c_law_value hr rfl (pa_cons (pv 1) (pa_cons (cal c_law_take hr rfl (pa_cons (pv 1) (pa_cons pe_int pa_nil))) pa_nil))))
    (pss_cons (ps_set (i := 3) sc_law.nd rfl (.inl rfl) (pe_lst (pa_cons (cal c_law_again hr rfl (pa_cons (pv 2) pa_nil)) (pa_cons (cal c_law_value hr rfl (pa_cons (pv 1) (pa_cons (cal c_law_take hr rfl (pa_cons (pv 1) (pa_cons pe_int pa_nil))) pa_nil))) (pa_cons (cal c_law_bent hr rfl (pa_cons (pv 1) (pa_cons (pv 2) pa_nil))) (pa_cons (cal c_law_bent hr rfl (pa_cons (pv 1) (pa_cons (pv 2) pa_nil))) pa_nil))))))
    (pss_cons (ps_set (i := 4) sc_law.nd rfl (.inl rfl) (pe_ix ix_list (pv 3) (cal c_law_take hr rfl (pa_cons (pv 1) (pa_cons pe_int pa_nil))) (fun _ _ => rfl)))
    (pss_cons (ps_set (i := 5) sc_law.nd rfl (.inl rfl) (cal c_law_like hr rfl (pa_cons (pv 4) (pa_cons (pv 2) pa_nil))))
    (pss_cons (ps_if (pt_not (pt_val (cal c_law_tells hr rfl (pa_cons (pv 2) (pa_cons (pv 4) (pa_cons (pv 5) pa_nil)))))) (pss_one (ps_ret pe_bl)) pss_nil)
    (pss_cons (ps_set (i := 6) sc_law.nd rfl (.inl rfl) (pe_ix ix_list (pe_lst (pa_cons (cal c_law_take hr rfl (pa_cons (pv 1) (pa_cons pe_int pa_nil))) (pa_cons (cal c_law_take hr rfl (pa_cons (pv 1) (pa_cons pe_int pa_nil))) pa_nil))) (cal c_law_take hr rfl (pa_cons (pv 1) (pa_cons pe_int pa_nil))) (fun _ _ => rfl)))
    (pss_cons (ps_set (i := 7) sc_law.nd rfl (.inl rfl) (cal c_law_take hr rfl (pa_cons (pv 1) (pa_cons pe_int pa_nil))))
    (pss_cons (ps_set (i := 8) sc_law.nd rfl (.inl rfl) (cal c_law_nested hr rfl (pa_cons (pv 2) (pa_cons (pv 6) (pa_cons (pv 7) (pa_cons (pe_un un_neg pe_int) pa_nil))))))
    (pss_cons (ps_if (pt_not (pt_val (cal c_law_tells hr rfl (pa_cons (pv 8) (pa_cons (cal c_law_nested hr rfl (pa_cons (pv 4) (pa_cons (pv 6) (pa_cons (pv 7) (pa_cons (pe_un un_neg pe_int) pa_nil))))) (pa_cons (pv 5) pa_nil)))))) (pss_one (ps_ret pe_bl)) pss_nil)
    (pss_cons (ps_if (pt_not (pt_val (cal c_law_tells hr rfl (pa_cons (pv 8) (pa_cons (cal c_law_nested hr rfl (pa_cons (cal c_law_again hr rfl (pa_cons (pv 2) pa_nil)) (pa_cons (pv 6) (pa_cons (pv 7) (pa_cons (pe_un un_neg pe_int) pa_nil))))) (pa_cons pe_bl pa_nil)))))) (pss_one (ps_ret pe_bl)) pss_nil)
    (pss_cons (ps_if (PW.pt (pw_or (pt_not (pt_val (cal c_law_tells hr rfl (pa_cons (pv 8) (pa_cons (pe_tup (pa_cons (pv 8) pa_nil)) (pa_cons pe_bl pa_nil)))))) (pw_or1 (pt_not (pt_val (cal c_law_tells hr rfl (pa_cons (pv 8) (pa_cons (pe_tup (pa_cons pe_str (pa_cons (pv 8) pa_nil))) (pa_cons pe_bl pa_nil))))))))) (pss_one (ps_ret pe_bl)) pss_nil)
    (pss_cons (ps_set (i := 9) sc_law.nd rfl (.inl rfl) (cal c_law_take hr rfl (pa_cons (pv 1) (pa_cons (pe_op op_add (pv 6) pe_int) pa_nil))))
    (C8.pss_cut (ps_set (i := 10) sc_law.nd rfl (.inl rfl) (pe_and (pe_cmpR op_lt (pv 9) (pv 6) (nomark _)) (pe_one (pe_cmpR op_gt (pe_ix ix_list (pe_lst (pa_cons pe_int (pa_cons pe_int (pa_cons pe_int (pa_cons pe_int pa_nil))))) (pe_op op_mod (pe_callTy call_int1 (by rfl) B.int (by decide +kernel) (pa_cons (pe_op op_add (pv 9) (pv 7)) pa_nil)) pe_int) (fun _ _ => rfl)) pe_int (nomark _)))))
    (pss_one (ps_ret (cal c_law_tells hr rfl (pa_cons (pv 8) (pa_cons (cal c_law_nested hr rfl (pa_cons (pv 2) (pa_cons (pv 6) (pa_cons (pv 7) (pa_cons (pv 9) pa_nil))))) (pa_cons (pe_not (pv 10)) pa_nil)))))))))))))))))))), ?_⟩
  -- hand
  refine ⟨_, rfl, a, ns, 500, rfl, hS, h63, by decide, fun d ds H1 k1 nd ed1 dl => ?_⟩
  refine ⟨by show (2 : Nat) ≤ sizeLine; decide, fun h nh => ?_⟩
  have hd0 : Hd (upd H1 h (.lst [.ref d, .int 0])) h d := ⟨0, ds, upd_same, by rw [upd_ne (ne_of_none ed1 nh)]; exact ed1, by omega⟩
  generalize upd H1 h (.lst [.ref d, .int 0]) = H2 at hd0
  -- value
  refine ⟨_, rfl, _, rfl, h, d, 5, rfl, hd0, by decide, fun i H3 i0 i1 k3 hd3 => ?_⟩
  obtain ⟨n, n5, rfl⟩ := nat_of (m := 5) i0 i1
  refine ⟨n, by omega, h, d, rfl, hd3, fun v t H4 tv4 dt k4 hd4 => ?_⟩
  obtain ⟨wt, sz, dp⟩ := dt
  have sz4 : t.size ≤ 16105 := Nat.le_trans sz (by rw [← most4]; exact Most.mono (by omega))
  have dp4 : Deep 4 t := dp.mono (by omega)
  -- other
  refine ⟨_, rfl, v, t, rfl, tv4, wt, dp4, by omega, fun v1 H5 tv1 k5 => ?_⟩
  have hd5 := hd4.keep0 k5
  have tv5 := tv4.keep k5
  refine ⟨_, rfl, _, rfl, h, d, 5, rfl, hd5, by decide, fun i2 H6 i20 i21 k6 hd6 => ?_⟩
  obtain ⟨n2, n25, rfl⟩ := nat_of (m := 5) i20 i21
  refine ⟨n2, by omega, h, d, rfl, hd6, fun v2 t2 H7 tv2 dt2 k7 hd7 => ?_⟩
  have sz24 : t2.size ≤ 16105 := Nat.le_trans dt2.2.1 (by rw [← most4]; exact Most.mono (by omega))
  have k57 := k6.trans k7
  have tv7 := tv5.keep k57
  refine ⟨_, rfl, _, rfl, h, d, v, t, rfl, hd7, tv7, wt, dp4, by omega, fun v3 t3 H8 tv3 sz3 k8 hd8 => ?_⟩
  have tv8 := tv7.keep k8
  refine ⟨_, rfl, _, rfl, h, d, v, t, rfl, hd8, tv8, wt, dp4, by omega, fun v4 t4 H9 tvb sz4b k9 hd9 => ?_⟩
  have tv9 := tv8.keep k9
  refine ⟨by show (4 : Nat) ≤ sizeLine; decide, fun p np => ?_⟩
  have ph : p ≠ h := (hd9.neH np).symm
  have k10 : Keep [] H9 (upd H9 p (.lst [v1, v2, v3, v4])) := Keep.new np
  have ep : (upd H9 p (.lst [v1, v2, v3, v4])) p = some (.lst [v1, v2, v3, v4]) := upd_same
  have hd10 := hd9.keep0 k10
  generalize upd H9 p (.lst [v1, v2, v3, v4]) = H10 at k10 ep hd10
  -- second
  refine ⟨_, rfl, _, rfl, h, d, 4, rfl, hd10, by decide, fun j H11 j0 j1 k11 hd11 => ?_⟩
  have ep11 := k11.get ep (by simpa using ph)
  have kA : Keep [h] H9 H11 := (k10.mono (by simp)).trans k11
  have tv11 := tv9.keep kA
  have hz : ∃ z t', atI [v1, v2, v3, v4] j = some z ∧ Tr K H11 z t' ∧ t'.size ≤ 16107 := by
    rcases four j0 j1 with rfl | rfl | rfl | rfl
    · exact ⟨_, t, rfl, (((tv1.keep k57).keep k8).keep k9).keep kA, by omega⟩
    · exact ⟨_, t2, rfl, ((tv2.keep k8).keep k9).keep kA, by omega⟩
    · exact ⟨_, t3, rfl, (tv3.keep k9).keep kA, by omega⟩
    · exact ⟨_, t4, rfl, tvb.keep kA, by omega⟩
  obtain ⟨z, t', hz1, tz11, szz⟩ := hz
  refine ⟨p, _, _, z, rfl, rfl, SqL.of ep11, hz1, ?_⟩
  -- due
  refine ⟨_, rfl, _, rfl, z, v, t', t, rfl, tz11, tv11, by omega, fun b H12 hb k12 => ?_⟩
  have tz12 := tz11.keep k12
  have tv12 := tv11.keep k12
  have hd12 := hd11.keep0 k12
  have hb' : b = true ↔ t = t' := by rw [hb]; exact eq_comm
  refine ⟨_, rfl, _, rfl, _, rfl, v, z, t, t', b, rfl, tv12, tz12, by omega, by omega, hb', fun H13 k13 => ?_⟩
  refine ⟨_, rfl, iteF ?_⟩
  have tz13 := tz12.keep k13
  have tv13 := tv12.keep k13
  have hd13 := hd12.keep0 k13
  -- many
  refine ⟨_, rfl, h, d, 30, rfl, hd13, by decide, fun m1 H14 m10 m11 k14 hd14 => ?_⟩
  refine ⟨_, rfl, h, d, 190, rfl, hd14, by decide, fun m2 H15 m20 m21 k15 hd15 => ?_⟩
  refine ⟨by show (2 : Nat) ≤ sizeLine; decide, fun p2 np2 => ?_⟩
  have p2h : p2 ≠ h := (hd15.neH np2).symm
  have k16 : Keep [] H15 (upd H15 p2 (.lst [.int m1, .int m2])) := Keep.new np2
  have ep2 : (upd H15 p2 (.lst [.int m1, .int m2])) p2 = some (.lst [.int m1, .int m2]) := upd_same
  have hd16 := hd15.keep0 k16
  generalize upd H15 p2 (.lst [.int m1, .int m2]) = H16 at k16 ep2 hd16
  refine ⟨_, rfl, h, d, 2, rfl, hd16, by decide, fun j2 H17 j20 j21 k17 hd17 => ?_⟩
  have hm : ∃ m : Nat, m ≤ 189 ∧ atI [V.int m1, V.int m2] j2 = some (.int m) := by
    have : j2 = 0 ∨ j2 = 1 := by omega
    rcases this with rfl | rfl
    · obtain ⟨x, hx, rfl⟩ := nat_of (m := 30) m10 m11
      exact ⟨x, by omega, rfl⟩
    · obtain ⟨x, hx, rfl⟩ := nat_of (m := 190) m20 m21
      exact ⟨x, by omega, rfl⟩
  obtain ⟨m, hm1, hm2⟩ := hm
  refine ⟨p2, _, _, _, rfl, rfl, SqL.of (k17.get ep2 (by simpa using p2h)), hm2, ?_⟩
  -- kind
  refine ⟨_, rfl, h, d, 4, rfl, hd17, by decide, fun kd H18 kd0 kd1 k18 hd18 => ?_⟩
  have kB : Keep [h] H13 H18 := (((k14.trans k15).trans (k16.mono (by simp))).trans k17).trans k18
  have tz18 := tz13.keep kB
  have tv18 := tv13.keep kB
  -- first
  refine ⟨_, rfl, _, rfl, _, rfl, _, rfl, v, t, m, kd, -1, rfl, tv18, by omega, fun f H19 tf19 k19 => ?_⟩
  have tz19 := tz18.keep k19
  have tv19 := tv18.keep k19
  have hd19 := hd18.keep0 k19
  have nsz := nest_size kd (-1) t m
  have nsz2 := nest_size kd (-1) t' m
  refine ⟨_, rfl, _, rfl, _, rfl, _, rfl, _, rfl, z, t', m, kd, -1, rfl, tz19, by omega, fun g H20 tg20 k20 => ?_⟩
  refine ⟨_, rfl, f, g, nest m kd (-1) t, nest m kd (-1) t', b, rfl, tf19.keep k20, tg20, by omega, by omega, by rw [hb', nest_eq], fun H21 k21 => ?_⟩
  refine ⟨_, rfl, iteF ?_⟩
  have k1921 := k20.trans k21
  have tf21 := tf19.keep k1921
  have tv21 := tv19.keep k1921
  have hd21 := hd19.keep0 k1921
  -- made anew
  refine ⟨_, rfl, _, rfl, v, t, rfl, tv21, wt, dp4, by omega, fun v5 H22 tv5' k22 => ?_⟩
  refine ⟨_, rfl, _, rfl, _, rfl, v5, t, m, kd, -1, rfl, tv5', by omega, fun g2 H23 tg23 k23 => ?_⟩
  have k2123 := k22.trans k23
  refine ⟨f, g2, nest m kd (-1) t, nest m kd (-1) t, true, rfl, tf21.keep k2123, tg23, by omega, by omega, by simp, fun H24 k24 => ?_⟩
  refine ⟨_, rfl, iteF ?_⟩
  have k2124 := k2123.trans k24
  have tf24 := tf21.keep k2124
  have tv24 := tv21.keep k2124
  have hd24 := hd21.keep0 k2124
  -- one list deeper
  refine ⟨_, rfl, _, rfl, by show (1 : Nat) ≤ sizeLine; decide, fun t1 nt1 => ?_⟩
  obtain ⟨tm1, km1⟩ := mk_tr (K := K) (H := H24) nt1 (Trs.one tf24)
  refine ⟨f, .ref t1, nest m kd (-1) t, .l [nest m kd (-1) t], false, rfl, tf24.keep km1, tm1, by omega, by rw [size_l, sizes_cons, sizes_nil]; omega, ?_, fun H25 k25 => ?_⟩
  · constructor
    · intro z; cases z
    · intro z
      have := congrArg Tree.size z
      rw [size_l, sizes_cons, sizes_nil] at this
      omega
  refine ⟨_, rfl, iteF ?_⟩
  have k2425 := km1.trans k25
  have tf25 := tf24.keep k2425
  have tv25 := tv24.keep k2425
  have hd25 := hd24.keep0 k2425
  refine ⟨_, rfl, _, rfl, by show (2 : Nat) ≤ sizeLine; decide, fun t2' nt2 => ?_⟩
  obtain ⟨tm2, km2⟩ := mk_tr (K := K) (H := H25) (vs := [.str "a", f]) (ts := [.w [97], nest m kd (-1) t]) nt2 (by rw [nl_a]; exact trs_cons tr_w (Trs.one tf25))
  refine ⟨f, .ref t2', nest m kd (-1) t, .l [.w [97], nest m kd (-1) t], false, rfl, tf25.keep km2, tm2, by omega, by rw [size_l, sizes_cons, sizes_cons, sizes_nil, size_w]; omega, ?_, fun H26 k26 => ?_⟩
  · constructor
    · intro z; cases z
    · intro z
      have := congrArg Tree.size z
      rw [size_l, sizes_cons, sizes_cons, sizes_nil, size_w] at this
      omega
  refine ⟨_, rfl, iteF ?_⟩
  have k2526 := km2.trans k26
  have tf26 := tf25.keep k2526
  have tv26 := tv25.keep k2526
  have hd26 := hd25.keep0 k2526
  -- place
  refine ⟨_, rfl, _, rfl, _, _, rfl, rfl, h, d, _, rfl, hd26, by omega, fun pl H27 pl0 pl1 k27 hd27 => ?_⟩
  obtain ⟨pn, pn1, rfl⟩ := nat_of (m := m + 1) pl0 (by omega)
  have tf27 := tf26.keep k27
  have tv27 := tv26.keep k27
  -- has_word
  refine ⟨fun σ' H' => ∃ hw : Bool, σ' = [some (.ref a), some (.ref h), some v, some (.ref p), some z, some (.bl b), some (.int m), some (.int kd), some f, some (.int pn), some (.bl hw)] ∧ Keep [] H27 H' ∧ (hw = true ↔ pn < m ∧ nplace pn kd > 0), ?_, ?_⟩
  · refine ⟨_, rfl, _, rfl, _, _, rfl, rfl, _, rfl, ite2 (fun c => ?_) (fun c => ?_)⟩
    · have lt : (pn : Int) < (m : Int) := of_decide_eq_true c
      refine ⟨by show (4 : Nat) ≤ sizeLine; decide, fun p3 np3 => ?_⟩
      refine ⟨_, rfl, _, rfl, _, _, rfl, rfl, .inl ⟨_, rfl, _, _, rfl, rfl, by show (0 : Int) < 4; decide, ?_⟩⟩
      refine ⟨p3, _, _, _, rfl, rfl, SqL.of upd_same, nplace_at pn kd, ?_⟩
      refine ⟨_, _, rfl, rfl, ?_⟩
      exact ⟨_, rfl, Keep.new np3, by rw [decide_eq_true_eq]; exact ⟨fun h => ⟨by omega, h⟩, fun h => h.2⟩⟩
    · have nlt : ¬ (pn : Int) < (m : Int) := of_decide_eq_false (Bool.eq_false_iff.mpr c)
      exact ⟨false, rfl, Keep.refl, ⟨fun h => (by cases h), fun h => absurd h.1 (by omega)⟩⟩
  rintro σ' H28 ⟨hw, rfl, k28, hw1⟩
  have tf28 := tf27.keep k28
  have tv28 := tv27.keep k28
  have nsz3 := nest_size kd (pn : Int) t m
  refine ⟨_, rfl, _, rfl, _, rfl, _, rfl, _, rfl, v, t, m, kd, (pn : Int), rfl, tv28, by omega, fun g3 H29 tg29 k29 => ?_⟩
  refine ⟨_, rfl, _, rfl, f, g3, nest m kd (-1) t, nest m kd (pn : Int) t, !hw, rfl, tf28.keep k29, tg29, by omega, by omega, ?_, fun H30 _ => q H30⟩
  rw [nest_ne, ← hw1]
  cases hw <;> simp
theorem all_mk {l : PySem.W.OpenLaw} {w : World} {K : PySem.W.Frag} {h : Heap} {mg : Str → Option Value} {fa f0 f1 f2 f3 f4 f5 f6 f7 f8 f9 f10 : Addr} (X : K.In h) (G : h.Ns mainGlobals mg) (hfa : mg "law" = some (.ref fa))
    {od0 an0 od1 an1 od2 an2 od3 an3 od4 an4 od5 an5 od6 an6 od7 an7 od8 an8 od9 an9 od10 an10 : Option Addr} {sl0 sl1 sl2 sl3 sl4 sl5 sl6 sl7 sl8 sl9 sl10 : Array (Option Value)} {oc0 kV0 dc0 pm0 cd0 ct0 oc1 kV1 dc1 pm1 cd1 ct1 oc2 kV2 dc2 pm2 cd2 ct2 oc3 kV3 dc3 pm3 cd3 ct3 oc4 kV4 dc4 pm4 cd4 ct4 oc5 kV5 dc5 pm5 cd5 ct5 oc6 kV6 dc6 pm6 cd6 ct6 oc7 kV7 dc7 pm7 cd7 ct7 oc8 kV8 dc8 pm8 cd8 ct8 oc9 kV9 dc9 pm9 cd9 ct9 oc10 kV10 dc10 pm10 cd10 ct10 : Value}
    (a0 : PySem.W.nsIn K mainGlobals "same_values" = some (some (.ref f0))) (l0 : K.lookup f0 = some ⟨oc0, od0, .func (PySem.W.fnOf "same_values" "same_values" (defArgs s_same_values) (defBody s_same_values) (defScope s_same_values) .none kV0 dc0 pm0 an0 cd0 ct0), sl0⟩) (c0 : PySem.W.codeIn K cd0 "same_values" = true) (k0 : PySem.W.keepIn K (.ref f0) = true)
    (a1 : PySem.W.nsIn K mainGlobals "_law_draws" = some (some (.ref f1))) (l1 : K.lookup f1 = some ⟨oc1, od1, .func (PySem.W.fnOf "_law_draws" "_law_draws" (defArgs s_law_draws) (defBody s_law_draws) (defScope s_law_draws) .none kV1 dc1 pm1 an1 cd1 ct1), sl1⟩) (c1 : PySem.W.codeIn K cd1 "_law_draws" = true) (k1 : PySem.W.keepIn K (.ref f1) = true)
    (a2 : PySem.W.nsIn K mainGlobals "_law_take" = some (some (.ref f2))) (l2 : K.lookup f2 = some ⟨oc2, od2, .func (PySem.W.fnOf "_law_take" "_law_take" (defArgs s_law_take) (defBody s_law_take) (defScope s_law_take) .none kV2 dc2 pm2 an2 cd2 ct2), sl2⟩) (c2 : PySem.W.codeIn K cd2 "_law_take" = true) (k2 : PySem.W.keepIn K (.ref f2) = true)
    (a3 : PySem.W.nsIn K mainGlobals "_law_word" = some (some (.ref f3))) (l3 : K.lookup f3 = some ⟨oc3, od3, .func (PySem.W.fnOf "_law_word" "_law_word" (defArgs s_law_word) (defBody s_law_word) (defScope s_law_word) .none kV3 dc3 pm3 an3 cd3 ct3), sl3⟩) (c3 : PySem.W.codeIn K cd3 "_law_word" = true) (k3 : PySem.W.keepIn K (.ref f3) = true)
    (a4 : PySem.W.nsIn K mainGlobals "_law_value" = some (some (.ref f4))) (l4 : K.lookup f4 = some ⟨oc4, od4, .func (PySem.W.fnOf "_law_value" "_law_value" (defArgs s_law_value) (defBody s_law_value) (defScope s_law_value) .none kV4 dc4 pm4 an4 cd4 ct4), sl4⟩) (c4 : PySem.W.codeIn K cd4 "_law_value" = true) (k4 : PySem.W.keepIn K (.ref f4) = true)
    (a5 : PySem.W.nsIn K mainGlobals "_law_like" = some (some (.ref f5))) (l5 : K.lookup f5 = some ⟨oc5, od5, .func (PySem.W.fnOf "_law_like" "_law_like" (defArgs s_law_like) (defBody s_law_like) (defScope s_law_like) .none kV5 dc5 pm5 an5 cd5 ct5), sl5⟩) (c5 : PySem.W.codeIn K cd5 "_law_like" = true) (k5 : PySem.W.keepIn K (.ref f5) = true)
    (a6 : PySem.W.nsIn K mainGlobals "_law_again" = some (some (.ref f6))) (l6 : K.lookup f6 = some ⟨oc6, od6, .func (PySem.W.fnOf "_law_again" "_law_again" (defArgs s_law_again) (defBody s_law_again) (defScope s_law_again) .none kV6 dc6 pm6 an6 cd6 ct6), sl6⟩) (c6 : PySem.W.codeIn K cd6 "_law_again" = true) (k6 : PySem.W.keepIn K (.ref f6) = true)
    (a7 : PySem.W.nsIn K mainGlobals "_law_bent" = some (some (.ref f7))) (l7 : K.lookup f7 = some ⟨oc7, od7, .func (PySem.W.fnOf "_law_bent" "_law_bent" (defArgs s_law_bent) (defBody s_law_bent) (defScope s_law_bent) .none kV7 dc7 pm7 an7 cd7 ct7), sl7⟩) (c7 : PySem.W.codeIn K cd7 "_law_bent" = true) (k7 : PySem.W.keepIn K (.ref f7) = true)
    (a8 : PySem.W.nsIn K mainGlobals "_law_nested" = some (some (.ref f8))) (l8 : K.lookup f8 = some ⟨oc8, od8, .func (PySem.W.fnOf "_law_nested" "_law_nested" (defArgs s_law_nested) (defBody s_law_nested) (defScope s_law_nested) .none kV8 dc8 pm8 an8 cd8 ct8), sl8⟩) (c8 : PySem.W.codeIn K cd8 "_law_nested" = true) (k8 : PySem.W.keepIn K (.ref f8) = true)
    (a9 : PySem.W.nsIn K mainGlobals "_law_tells" = some (some (.ref f9))) (l9 : K.lookup f9 = some ⟨oc9, od9, .func (PySem.W.fnOf "_law_tells" "_law_tells" (defArgs s_law_tells) (defBody s_law_tells) (defScope s_law_tells) .none kV9 dc9 pm9 an9 cd9 ct9), sl9⟩) (c9 : PySem.W.codeIn K cd9 "_law_tells" = true) (k9 : PySem.W.keepIn K (.ref f9) = true)
    (a10 : PySem.W.nsIn K mainGlobals "law" = some (some (.ref f10))) (l10 : K.lookup f10 = some ⟨oc10, od10, .func (PySem.W.fnOf "law" "law" (defArgs s_law) (defBody s_law) (defScope s_law) .none kV10 dc10 pm10 an10 cd10 ct10), sl10⟩) (c10 : PySem.W.codeIn K cd10 "law" = true) (k10 : PySem.W.keepIn K (.ref f10) = true)
    (zlen : PySem.W.nsIn K mainGlobals "len" = some none)
    (zrange : PySem.W.nsIn K mainGlobals "range" = some none)
    (zint : PySem.W.nsIn K mainGlobals "int" = some none)
    (zabs : PySem.W.nsIn K mainGlobals "abs" = some none)
    (zstr : PySem.W.nsIn K mainGlobals "str" = some none)
    (ztuple : PySem.W.nsIn K mainGlobals "tuple" = some none)
    (zlist : PySem.W.nsIn K mainGlobals "list" = some none)
    (zbool : PySem.W.nsIn K mainGlobals "bool" = some none)
    (zisinstance : PySem.W.nsIn K mainGlobals "isinstance" = some none)
    (zValueError : PySem.W.nsIn K mainGlobals "ValueError" = some none)
    (zzip : PySem.W.nsIn K mainGlobals "zip" = some none)
    : ∃ fd : FuncData, (∀ (s : Shared) (v : Value), BindsTo s fd ⟨[v], []⟩ [("script", v)]) ∧ ∀ base : Heap, K.In base → base.Ns mainGlobals mg → FnOk l.prog w K mg base CX0 30 fa fd ["script"] (spLaw K) := by
  have e := hfa.symm.trans (PySem.W.mg_of X G a10)
  cases e
  have B : Bn mg := ⟨PySem.W.mg_none_of X G zlen, PySem.W.mg_none_of X G zrange, PySem.W.mg_none_of X G zint, PySem.W.mg_none_of X G zabs, PySem.W.mg_none_of X G zstr, PySem.W.mg_none_of X G ztuple, PySem.W.mg_none_of X G zlist, PySem.W.mg_none_of X G zbool, PySem.W.mg_none_of X G zisinstance, PySem.W.mg_none_of X G zValueError, PySem.W.mg_none_of X G zzip⟩
  have M : Mc mg := ⟨trivial⟩
  have F0 := fun_mk (st := s_same_values) l0 c0 k0
  have b0 := F0.binds (ps := p_same_values) fun _ _ _ _ _ _ us hl => match us, hl with | [_, _], _ => rfl
  have D_same_values : DefAt K mg "same_values" s_same_values p_same_values := ⟨⟨f0, _, F0, PySem.W.mg_of X G a0, b0⟩⟩
  have F1 := fun_mk (st := s_law_draws) l1 c1 k1
  have b1 := F1.binds (ps := p_law_draws) fun _ _ _ _ _ _ us hl => match us, hl with | [_, _], _ => rfl
  have D_law_draws : DefAt K mg "_law_draws" s_law_draws p_law_draws := ⟨⟨f1, _, F1, PySem.W.mg_of X G a1, b1⟩⟩
  have F2 := fun_mk (st := s_law_take) l2 c2 k2
  have b2 := F2.binds (ps := p_law_take) fun _ _ _ _ _ _ us hl => match us, hl with | [_, _], _ => rfl
  have D_law_take : DefAt K mg "_law_take" s_law_take p_law_take := ⟨⟨f2, _, F2, PySem.W.mg_of X G a2, b2⟩⟩
  have F3 := fun_mk (st := s_law_word) l3 c3 k3
  have b3 := F3.binds (ps := p_law_word) fun _ _ _ _ _ _ us hl => match us, hl with | [_], _ => rfl
  have D_law_word : DefAt K mg "_law_word" s_law_word p_law_word := ⟨⟨f3, _, F3, PySem.W.mg_of X G a3, b3⟩⟩
  have F4 := fun_mk (st := s_law_value) l4 c4 k4
  have b4 := F4.binds (ps := p_law_value) fun _ _ _ _ _ _ us hl => match us, hl with | [_, _], _ => rfl
  have D_law_value : DefAt K mg "_law_value" s_law_value p_law_value := ⟨⟨f4, _, F4, PySem.W.mg_of X G a4, b4⟩⟩
  have F5 := fun_mk (st := s_law_like) l5 c5 k5
  have b5 := F5.binds (ps := p_law_like) fun _ _ _ _ _ _ us hl => match us, hl with | [_, _], _ => rfl
  have D_law_like : DefAt K mg "_law_like" s_law_like p_law_like := ⟨⟨f5, _, F5, PySem.W.mg_of X G a5, b5⟩⟩
  have F6 := fun_mk (st := s_law_again) l6 c6 k6
  have b6 := F6.binds (ps := p_law_again) fun _ _ _ _ _ _ us hl => match us, hl with | [_], _ => rfl
  have D_law_again : DefAt K mg "_law_again" s_law_again p_law_again := ⟨⟨f6, _, F6, PySem.W.mg_of X G a6, b6⟩⟩
  have F7 := fun_mk (st := s_law_bent) l7 c7 k7
  have b7 := F7.binds (ps := p_law_bent) fun _ _ _ _ _ _ us hl => match us, hl with | [_, _], _ => rfl
  have D_law_bent : DefAt K mg "_law_bent" s_law_bent p_law_bent := ⟨⟨f7, _, F7, PySem.W.mg_of X G a7, b7⟩⟩
  have F8 := fun_mk (st := s_law_nested) l8 c8 k8
  have b8 := F8.binds (ps := p_law_nested) fun _ _ _ _ _ _ us hl => match us, hl with | [_, _, _, _], _ => rfl
  have D_law_nested : DefAt K mg "_law_nested" s_law_nested p_law_nested := ⟨⟨f8, _, F8, PySem.W.mg_of X G a8, b8⟩⟩
  have F9 := fun_mk (st := s_law_tells) l9 c9 k9
  have b9 := F9.binds (ps := p_law_tells) fun _ _ _ _ _ _ us hl => match us, hl with | [_, _, _], _ => rfl
  have D_law_tells : DefAt K mg "_law_tells" s_law_tells p_law_tells := ⟨⟨f9, _, F9, PySem.W.mg_of X G a9, b9⟩⟩
  have F10 := fun_mk (st := s_law) l10 c10 k10
  have b10 := F10.binds (ps := p_law) fun _ _ _ _ _ _ us hl => match us, hl with | [_], _ => rfl
  refine ⟨PySem.W.fnOf "law" "law" (defArgs s_law) (defBody s_law) (defScope s_law) .none kV10 dc10 pm10 an10 cd10 ct10, fun s v => .of_eq rfl, fun base _ _ => ?_⟩
  exact ok_law F10 B M D_same_values D_law_draws D_law_take D_law_word D_law_value D_law_like D_law_again D_law_bent D_law_nested D_law_tells
theorem walk {l : PySem.W.OpenLaw} {q : Program} {loose : List Str} {XP : (Str → Option Value) → Heap → Prop} {YP : World → Heap → Prop} {d : DefRec} {K : Params → PySem.W.Frag} (hn : l.most = some 63) (hdf : d.params.defaults = [])
    (hY : ∀ (w : World) (h : Heap), YP w h → (K w.params).In h)
    (F : ∀ (w : World) (mg : Str → Option Value) (fa : Addr) (h : Heap), (K w.params).In h → h.Ns mainGlobals mg → mg d.name = some (.ref fa) →
      ∃ fd : FuncData, (∀ (s : Shared) (u : Value), BindsTo s fd ⟨[u], []⟩ [("script", u)]) ∧ ∀ base : Heap, (K w.params).In base → base.Ns mainGlobals mg → FnOk l.prog w (K w.params) mg base CX0 30 fa fd ["script"] (spLaw (K w.params))) :
    PySem.W.WalkO q loose XP YP l.row.toRowW d [] (fun f vs => PySem.call f vs) :=
  L2.walk_of (n := 63) (k := 30) (x := "script") (CX := fun _ => CX0) (sp := fun w => spLaw (K w.params)) hn (by decide) hdf ⟨rfl, by decide, by decide⟩ hY F (fun _ _ a ns hl _ hS => ⟨a, ns, rfl, hS, hl, fun _ => rfl⟩) fun _ _ _ _ _ z => z
end Og
open PySem PySem.W PyProof.Rows
set_option maxRecDepth 100000 in
set_option maxHeartbeats 0 in
theorem PySem.Challenge.cw_ownglass_k03_same_values_holds : PySem.Challenge.rw_ownglass_k03_same_values.Holds := by
  w_on; o_law; k_head; (case hw => w_witness2)
  k_fill
  refine Og.walk (l := PySem.Challenge.rw_ownglass_k03_same_values) rfl rfl (fun w h Y => PySem.W.kIn_of Y) ?F
  case F =>
    intro w mg fa h KX G hmg
    refine' Og.all_mk KX G hmg ?a0 ?l0 ?c0 ?k0 ?a1 ?l1 ?c1 ?k1 ?a2 ?l2 ?c2 ?k2 ?a3 ?l3 ?c3 ?k3 ?a4 ?l4 ?c4 ?k4 ?a5 ?l5 ?c5 ?k5 ?a6 ?l6 ?c6 ?k6 ?a7 ?l7 ?c7 ?k7 ?a8 ?l8 ?c8 ?k8 ?a9 ?l9 ?c9 ?k9 ?a10 ?l10 ?c10 ?k10 ?zlen ?zrange ?zint ?zabs ?zstr ?ztuple ?zlist ?zbool ?zisinstance ?zValueError ?zzip
    (case a0 => first | k_is | rfl | decide +kernel)
    (case l0 => first | k_is | rfl | decide +kernel)
    (case c0 => first | k_is | rfl | decide +kernel)
    (case k0 => first | k_is | rfl | decide +kernel)
    (case a1 => first | k_is | rfl | decide +kernel)
    (case l1 => first | k_is | rfl | decide +kernel)
    (case c1 => first | k_is | rfl | decide +kernel)
    (case k1 => first | k_is | rfl | decide +kernel)
    (case a2 => first | k_is | rfl | decide +kernel)
    (case l2 => first | k_is | rfl | decide +kernel)
    (case c2 => first | k_is | rfl | decide +kernel)
    (case k2 => first | k_is | rfl | decide +kernel)
    (case a3 => first | k_is | rfl | decide +kernel)
    (case l3 => first | k_is | rfl | decide +kernel)
    (case c3 => first | k_is | rfl | decide +kernel)
    (case k3 => first | k_is | rfl | decide +kernel)
    (case a4 => first | k_is | rfl | decide +kernel)
    (case l4 => first | k_is | rfl | decide +kernel)
    (case c4 => first | k_is | rfl | decide +kernel)
    (case k4 => first | k_is | rfl | decide +kernel)
    (case a5 => first | k_is | rfl | decide +kernel)
    (case l5 => first | k_is | rfl | decide +kernel)
    (case c5 => first | k_is | rfl | decide +kernel)
    (case k5 => first | k_is | rfl | decide +kernel)
    (case a6 => first | k_is | rfl | decide +kernel)
    (case l6 => first | k_is | rfl | decide +kernel)
    (case c6 => first | k_is | rfl | decide +kernel)
    (case k6 => first | k_is | rfl | decide +kernel)
    (case a7 => first | k_is | rfl | decide +kernel)
    (case l7 => first | k_is | rfl | decide +kernel)
    (case c7 => first | k_is | rfl | decide +kernel)
    (case k7 => first | k_is | rfl | decide +kernel)
    (case a8 => first | k_is | rfl | decide +kernel)
    (case l8 => first | k_is | rfl | decide +kernel)
    (case c8 => first | k_is | rfl | decide +kernel)
    (case k8 => first | k_is | rfl | decide +kernel)
    (case a9 => first | k_is | rfl | decide +kernel)
    (case l9 => first | k_is | rfl | decide +kernel)
    (case c9 => first | k_is | rfl | decide +kernel)
    (case k9 => first | k_is | rfl | decide +kernel)
    (case a10 => first | k_is | rfl | decide +kernel)
    (case l10 => first | k_is | rfl | decide +kernel)
    (case c10 => first | k_is | rfl | decide +kernel)
    (case k10 => first | k_is | rfl | decide +kernel)
    (case zlen => first | k_is | rfl | decide +kernel)
    (case zrange => first | k_is | rfl | decide +kernel)
    (case zint => first | k_is | rfl | decide +kernel)
    (case zabs => first | k_is | rfl | decide +kernel)
    (case zstr => first | k_is | rfl | decide +kernel)
    (case ztuple => first | k_is | rfl | decide +kernel)
    (case zlist => first | k_is | rfl | decide +kernel)
    (case zbool => first | k_is | rfl | decide +kernel)
    (case zisinstance => first | k_is | rfl | decide +kernel)
    (case zValueError => first | k_is | rfl | decide +kernel)
    (case zzip => first | k_is | rfl | decide +kernel)
